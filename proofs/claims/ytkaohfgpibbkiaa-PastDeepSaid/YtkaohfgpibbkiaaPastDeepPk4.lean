/- Plain mathematics of what follows from pairs: hulls, as the least closed ones. Nothing of the program is named. Plain mathematics of layer 16: what is ahead of an operation. Nothing of the program is named. Plain mathematics of layer 10: writes of values, differentiated facts. Nothing of the program is named. Plain mathematics of layer 11: what reads read from. Nothing of the program is named. Facts in a variable (FBox), as the document's answers of layers 10 and on box them. The contracts of the document's own answers of layer 10: Write, Check. The contracts of the document's own answers of layer 6: Name, Flat, Count, Right, Spot, Small. The contracts of the document's own answers of layer 6: Spot, Number, Same. The contracts of the document's own answers of layer 9, first half: find, texts, items, Ints, Same, Small. The contract of the document's own answer of layer 9: Of. The contracts of the document's own answers of layer 9: Same, Small. The contracts of the document's own answers of layer 11: From, Fill, Whole, Readers. The contracts of the document's own answers of layer 12: Ahead, Past, Po. Contracts of package hull: place, below, Closed, Loop. Contracts of the document's own answers of layer 4: Closed, Loop. The contracts of the document's own answers of layer 16: Of, With, Writes, Kept. Plain mathematics of layer 12: the past of an operation of a history. Nothing of the program is named. Plain mathematics of layer 12: the matrix of a history's sessions is closed, doesn't go round, and has n (n - 1) / 2 pairs of each session. Nothing of the program is named. Plain mathematics of layer 12: items of a session are neighbours; what follows for their order and the rows of the matrix. Nothing of the program is named. A region that draws its order, by a plan (XPlan), in which one block of the caller's may change (an append in place): what reads must not read it. No function of the program is named here. A region that draws its order, walked by a tree of orders: what only reads (in every world that meets S) is taken as soon as it may come up; what changes memory, and stays in S, comes up alone, or as one of two: then both ways are walked. S is the prover's: as a rule 'the blocks that were there at the region's start are as they were': so an alloc beside calls, and stores into what the region made, are steps too. No function of the program is named here. The code's own contracts of layer 12: known, first, fill, Ahead, Past, Po. The code's own contracts of layer 16: column, chosen (by a function), Of, With, Writes, Kept. Plain mathematics of layer 13: writes and their reads, the edges, causal order. Nothing of the program is named. The contract of the document's own answer of layer 11: Of (whole facts of a history). Layer 16's example, and its law PastTells, walked (where what comes in is of no more than 2^40 operations). A queue of numbers of a call's own: 'q = q[1:]', 'q = append(q, x)'. No function of the program is named here. And the search over a matrix's pairs, as plain mathematics. -/
import Derived.Test.YtkaohfgpibbkiaaPastDeepPk3
import Derived.Test.YtkaohfgpibbkiaaPastDeepPk2
import Derived.Test.YtkaohfgpibbkiaaPastDeepPk1
import Derived.Test.YtkaohfgpibbkiaaProg
import Derived.BigQuiet
import Derived.ArgAppend
namespace Go.Proofs.Ytkaohfgpibbkiaa
open Go.RowKit
set_option linter.unusedVariables false

/-- what follows from r -/
inductive Conn (r : Nat → Nat → Prop) : Nat → Nat → Prop where
  | one {i j : Nat} (h : r i j) : Conn r i j
  | step {i j k : Nat} (h : Conn r i j) (h2 : r j k) : Conn r i k
def Trans2 (s : Nat → Nat → Prop) : Prop := ∀ i j k, s i j → s j k → s i k
theorem Conn.trans {r : Nat → Nat → Prop} {i j k : Nat} (h1 : Conn r i j) (h2 : Conn r j k) : Conn r i k := by
  induction h2 with
  | one h => exact .step h1 h
  | step _ h ih => exact .step ih h

/-- Warshall: what follows over numbers below k -/
def Wk (r : Nat → Nat → Prop) : Nat → Nat → Nat → Prop
  | 0, i, j => r i j
  | k + 1, i, j => Wk r k i j ∨ (Wk r k i k ∧ Wk r k k j)
theorem Wk.conn {r : Nat → Nat → Prop} : ∀ (k i j : Nat), Wk r k i j → Conn r i j
  | 0, _, _, h => .one h
  | k + 1, i, j, .inl h => Wk.conn k i j h
  | k + 1, i, j, .inr h => (Wk.conn k i k h.1).trans (Wk.conn k k j h.2)
theorem Wk.mono {r : Nat → Nat → Prop} {i j : Nat} (h : r i j) : ∀ k, Wk r k i j
  | 0 => h
  | k + 1 => .inl (Wk.mono h k)
theorem Wk.join {r : Nat → Nat → Prop} : ∀ (k m i j : Nat), m < k → Wk r k i m → Wk r k m j → Wk r k i j
  | 0, m, _, _, hm, _, _ => absurd hm (by omega)
  | k + 1, m, i, j, hm, h1, h2 => by
    have e1 : Wk r k i m ∨ (Wk r k i k ∧ Wk r k k m) := h1
    have e2 : Wk r k m j ∨ (Wk r k m k ∧ Wk r k k j) := h2
    show Wk r k i j ∨ (Wk r k i k ∧ Wk r k k j)
    rcases Nat.lt_succ_iff_lt_or_eq.1 hm with hlt | rfl
    · rcases e1 with a | ⟨a, b⟩ <;> rcases e2 with c | ⟨c, d⟩
      · exact .inl (Wk.join k m i j hlt a c)
      · exact .inr ⟨Wk.join k m i k hlt a c, d⟩
      · exact .inr ⟨a, Wk.join k m k j hlt b c⟩
      · exact .inr ⟨a, d⟩
    · have a : Wk r m i m := e1.elim (fun h => h) (fun h => h.1)
      have b : Wk r m m j := e2.elim (fun h => h) (fun h => h.2)
      exact .inr ⟨a, b⟩
theorem Wk.all {r : Nat → Nat → Prop} {n : Nat} (hr : ∀ i j, r i j → i < n ∧ j < n) (i j : Nat) : Wk r n i j ↔ Conn r i j := by
  refine ⟨Wk.conn n i j, fun h => ?_⟩
  induction h with
  | one h => exact Wk.mono h n
  | step h1 h2 ih => exact Wk.join n _ _ _ (hr _ _ h2).1 ih (Wk.mono h2 n)

/-- the relation of a matrix -/
def Rel (a : List (List Nat)) (i j : Nat) : Prop := hasM a (i : Int) (j : Int) = true
theorem Good.rel_lt {n : Nat} {a : List (List Nat)} (h : Good n a) : ∀ i j, Rel a i j → i < n ∧ j < n := fun _ _ h1 => h.has_lt h1
/-- h is the hull of r among n numbers -/
def IsHull (n : Nat) (r : Nat → Nat → Prop) (h : List (List Nat)) : Prop := Good n h ∧ ∀ i j : Nat, Rel h i j ↔ Conn r i j
def ClosedM (a : List (List Nat)) : Prop := Trans2 (Rel a)
theorem rel_ext {n : Nat} {a b : List (List Nat)} (ha : Good n a) (hb : Good n b) (h : ∀ i j : Nat, Rel a i j ↔ Rel b i j) : a = b :=
  good_ext ha hb fun i j _ _ => by
    have := h i j
    unfold Rel at this
    cases h1 : hasM a (i : Int) (j : Int) with
    | true => rw [this.1 h1]
    | false =>
      cases h2 : hasM b (i : Int) (j : Int) with
      | true => rw [this.2 h2] at h1; cases h1
      | false => rfl
theorem IsHull.unique {n : Nat} {r s : Nat → Nat → Prop} {h k : List (List Nat)} (h1 : IsHull n r h) (h2 : IsHull n s k) (he : ∀ i j, Conn r i j ↔ Conn s i j) : h = k :=
  rel_ext h1.1 h2.1 fun i j => by rw [h1.2, h2.2, he]
theorem IsHull.closed {n : Nat} {r : Nat → Nat → Prop} {h : List (List Nat)} (h1 : IsHull n r h) : ClosedM h := fun i j k a b => by
  rw [h1.2] at a b ⊢
  exact a.trans b
theorem rel_set {n : Nat} {a : List (List Nat)} (ha : Good n a) {i j : Nat} (hi : i < n) (hj : j < n) (x y : Nat) : Rel (setM a (i : Int) (j : Int)) x y ↔ Rel a x y ∨ (x = i ∧ y = j) := by
  unfold Rel
  rw [hasM_setM ha hi hj]
  simp

/-- the row i of step k: joined with row k, if it has k -/
def stepR (a : List (List Nat)) (k : Nat) (r : List Nat) : List Nat := if hasR r (k : Int) = true then orR r (a.getD k []) else r
def stepM (a : List (List Nat)) (k q : Nat) : List (List Nat) := (List.range a.length).map fun i => if i < q then stepR a k (a.getD i []) else a.getD i []
theorem stepM_len (a : List (List Nat)) (k q : Nat) : (stepM a k q).length = a.length := by simp [stepM]
theorem stepM_get {a : List (List Nat)} {k q i : Nat} {r : List Nat} (h : a[i]? = some r) : (stepM a k q)[i]? = some (if i < q then stepR a k r else r) := by
  unfold stepM
  have hi := (List.getElem?_eq_some_iff.1 h).1
  rw [List.getElem?_map, List.getElem?_range hi, Option.map_some, getD_at h]
theorem stepR_good {n : Nat} {a : List (List Nat)} (ha : Good n a) {k : Nat} (hk : k < n) {r : List Nat} (hr : r ∈ a) : W64 (stepR a k r) ∧ (stepR a k r).length = r.length ∧ ∀ j : Nat, hasR (stepR a k r) (j : Int) = (hasR r (j : Int) || (hasR r (k : Int) && hasM a (k : Int) (j : Int))) := by
  obtain ⟨s, hs, hws, _⟩ := ha.at_ hk
  have h1 := ha.row r hr
  have h2 := ha.row s (List.mem_of_getElem? hs)
  unfold stepR
  rw [getD_at hs]
  by_cases h : hasR r (k : Int) = true
  · rw [if_pos h]
    refine ⟨orR_w64 h1.1 hws, by rw [orR_len, h1.2.2.1, h2.2.2.1, Nat.max_self], fun j => ?_⟩
    rw [hasR_orR, h, hasM_in hs, Bool.true_and]
  · rw [if_neg h]
    refine ⟨h1.1, rfl, fun j => ?_⟩
    rw [Bool.not_eq_true] at h
    rw [h, Bool.false_and, Bool.or_false]
theorem stepM_good {n : Nat} {a : List (List Nat)} (ha : Good n a) {k : Nat} (hk : k < n) (q : Nat) : Good n (stepM a k q) := by
  refine ⟨ha.le, by rw [stepM_len, ha.len], fun r hr => ?_⟩
  obtain ⟨i, hi⟩ := List.getElem?_of_mem hr
  have hil : i < a.length := by
    have := (List.getElem?_eq_some_iff.1 hi).1
    rwa [stepM_len] at this
  have hx : a[i]? = some a[i] := List.getElem?_eq_getElem hil
  rw [stepM_get hx] at hi
  injection hi with hi
  have h0 := ha.row _ (List.mem_of_getElem? hx)
  by_cases hq : i < q
  · rw [if_pos hq] at hi
    obtain ⟨h1, h2, h3⟩ := stepR_good ha hk (List.mem_of_getElem? hx)
    subst hi
    refine ⟨h1, by rw [h2]; exact h0.2.1, by rw [h2]; exact h0.2.2.1, fun j hj => ?_⟩
    rw [h3 j, h0.2.2.2 j hj]
    cases hh : hasM a (k : Int) (j : Int) with
    | false => simp
    | true => exact absurd (ha.has_lt hh).2 (by omega)
  · rw [if_neg hq] at hi
    subst hi
    exact h0
theorem stepM_rel {n : Nat} {a : List (List Nat)} (ha : Good n a) {k : Nat} (hk : k < n) (i j : Nat) : Rel (stepM a k n) i j ↔ Rel a i j ∨ (Rel a i k ∧ Rel a k j) := by
  unfold Rel
  by_cases hi : i < n
  · obtain ⟨r, hr, _, _⟩ := ha.at_ hi
    have h1 := stepM_get (k := k) (q := n) hr
    rw [if_pos hi] at h1
    obtain ⟨_, _, h3⟩ := stepR_good ha hk (List.mem_of_getElem? hr)
    rw [hasM_in h1, h3 j, hasM_in hr, hasM_in hr, Bool.or_eq_true, Bool.and_eq_true]
  · rw [hasM_out (xss := stepM a k n) (.inr (by rw [stepM_len, ha.len]; omega)), hasM_out (xss := a) (i := (i : Int)) (.inr (by rw [ha.len]; omega)), hasM_out (xss := a) (i := (i : Int)) (.inr (by rw [ha.len]; omega))]
    simp
/-- the hull, step by step -/
def closeK (a : List (List Nat)) : Nat → List (List Nat)
  | 0 => a
  | k + 1 => stepM (closeK a k) k a.length
theorem closeK_facts {n : Nat} {a : List (List Nat)} (ha : Good n a) : ∀ k, k ≤ n → Good n (closeK a k) ∧ ∀ i j, Rel (closeK a k) i j ↔ Wk (Rel a) k i j
  | 0, _ => ⟨ha, fun i j => Iff.rfl⟩
  | k + 1, hk => by
    obtain ⟨h1, h2⟩ := closeK_facts ha k (by omega)
    show Good n (stepM (closeK a k) k a.length) ∧ ∀ i j, Rel (stepM (closeK a k) k a.length) i j ↔ _
    rw [ha.len]
    refine ⟨stepM_good h1 (by omega) n, fun i j => ?_⟩
    rw [stepM_rel h1 (by omega)]
    show _ ↔ Wk (Rel a) k i j ∨ (Wk (Rel a) k i k ∧ Wk (Rel a) k k j)
    rw [h2, h2, h2]
theorem closeK_hull {n : Nat} {a : List (List Nat)} (ha : Good n a) : IsHull n (Rel a) (closeK a n) := by
  obtain ⟨h1, h2⟩ := closeK_facts ha n (Nat.le_refl _)
  exact ⟨h1, fun i j => by rw [h2, Wk.all ha.rel_lt]⟩

end Go.Proofs.Ytkaohfgpibbkiaa

namespace Go.Proofs.Ytkaohfgpibbkiaa
set_option linter.unusedVariables false

/-- the past of o in a matrix, up to number n -/
def colN (a : List (List Nat)) (o : Int) (n : Nat) : List Nat := (List.range n).filter fun i => hasM a (i : Int) o
def colF (a : List (List Nat)) (o : Int) (n : Nat) : List Int := (colN a o n).map fun (i : Nat) => (i : Int)
/-- .. and o -/
def wihN (a : List (List Nat)) (o : Int) (n : Nat) : List Nat := (List.range n).filter fun i => decide ((i : Int) = o) || hasM a (i : Int) o
def wihF (a : List (List Nat)) (o : Int) (n : Nat) : List Int := (wihN a o n).map fun (i : Nat) => (i : Int)
def wihO (a : List (List Nat)) (o : Int) (n : Nat) : List Int := if 0 ≤ o ∧ o < (n : Int) then wihF a o n else []
theorem colF_succ (a : List (List Nat)) (o : Int) (n : Nat) : colF a o (n + 1) = if hasM a (n : Int) o = true then colF a o n ++ [(n : Int)] else colF a o n := by
  unfold colF colN
  rw [List.range_succ, List.filter_append]
  split
  · rename_i h; rw [List.filter_cons_of_pos (by exact h)]; simp
  · rename_i h; rw [List.filter_cons_of_neg (by exact h)]; simp
theorem wihF_succ (a : List (List Nat)) (o : Int) (n : Nat) : wihF a o (n + 1) = if (decide ((n : Int) = o) || hasM a (n : Int) o) = true then wihF a o n ++ [(n : Int)] else wihF a o n := by
  unfold wihF wihN
  rw [List.range_succ, List.filter_append]
  split
  · rename_i h; rw [List.filter_cons_of_pos (by exact h)]; simp
  · rename_i h; rw [List.filter_cons_of_neg (by exact h)]; simp
theorem colF_len (a : List (List Nat)) (o : Int) (n : Nat) : (colF a o n).length ≤ n := by
  unfold colF colN; rw [List.length_map]; exact Nat.le_trans (List.length_filter_le _ _) (by simp)

theorem colF_at {a : List (List Nat)} {o : Int} {n q : Nat} {z : Int} (h : (colF a o n)[q]? = some z) : 0 ≤ z ∧ z < (n : Int) ∧ hasM a z o = true := by
  have hm := List.mem_of_getElem? h
  unfold colF colN at hm
  obtain ⟨i, hi, rfl⟩ := List.mem_map.1 hm
  obtain ⟨h1, h2⟩ := List.mem_filter.1 hi
  have := List.mem_range.1 h1
  exact ⟨by omega, by omega, h2⟩
theorem colF_lt {a : List (List Nat)} {o : Int} {n q : Nat} {y z : Int} (h1 : (colF a o n)[q]? = some y) (h2 : (colF a o n)[q + 1]? = some z) : y < z := by
  have hp : (colN a o n).Pairwise (· < ·) := by unfold colN; exact List.pairwise_lt_range.filter _
  unfold colF at h1 h2
  rw [List.getElem?_map] at h1 h2
  cases ha : (colN a o n)[q]? with
  | none => rw [ha] at h1; cases h1
  | some a' =>
    cases hb : (colN a o n)[q + 1]? with
    | none => rw [hb] at h2; cases h2
    | some b =>
      rw [ha] at h1
      rw [hb] at h2
      have h1 : some (a' : Int) = some y := h1
      have h2 : some (b : Int) = some z := h2
      injection h1 with h1
      injection h2 with h2
      obtain ⟨la, ea⟩ := List.getElem?_eq_some_iff.1 ha
      obtain ⟨lb, eb⟩ := List.getElem?_eq_some_iff.1 hb
      have := List.pairwise_iff_getElem.1 hp q (q + 1) la lb (by omega)
      rw [ea, eb] at this
      omega
theorem wihF_count {a : List (List Nat)} {k : Nat} (h : hasM a (k : Int) (k : Int) = false) (n : Nat) : (wihF a (k : Int) n).length = (colF a (k : Int) n).length + if k < n then 1 else 0 := by
  induction n with
  | zero => rfl
  | succ n ih =>
    rw [wihF_succ, colF_succ]
    by_cases hk : n = k
    · subst hk
      rw [if_pos (by simp), if_neg (by simp [h]), List.length_append, ih, if_neg (by omega), if_pos (by omega)]; rfl
    · have e : decide ((n : Int) = (k : Int)) = false := decide_eq_false (by omega)
      rw [e, Bool.false_or]
      have h2 : (if k < n + 1 then 1 else 0) = if k < n then 1 else (0 : Nat) := by
        by_cases h3 : k < n
        · rw [if_pos (by omega), if_pos h3]
        · rw [if_neg (by omega), if_neg h3]
      rw [h2]
      split
      · rw [List.length_append, List.length_append, ih]; simp; omega
      · exact ih
theorem wihO_count {a : List (List Nat)} {k n : Nat} (hk : k < n) (h : hasM a (k : Int) (k : Int) = false) : (wihO a (k : Int) n).length = (colF a (k : Int) n).length + 1 := by
  unfold wihO
  rw [if_pos (by omega), wihF_count h, if_pos hk]
/-- in a closed matrix what is ahead of what is ahead is ahead -/
theorem colF_deep {a : List (List Nat)} (hc : ∀ i j k : Nat, Rel a i j → Rel a j k → Rel a i k) {k n p q : Nat} {z y : Int} (h1 : (colF a (k : Int) n)[p]? = some z) (h2 : (colF a z n)[q]? = some y) : hasM a y (k : Int) = true := by
  obtain ⟨z0, z1, hz⟩ := colF_at h1
  obtain ⟨y0, y1, hy⟩ := colF_at h2
  obtain ⟨zn, rfl⟩ := Int.eq_ofNat_of_zero_le z0
  obtain ⟨yn, rfl⟩ := Int.eq_ofNat_of_zero_le y0
  exact hc yn zn k hy hz

end Go.Proofs.Ytkaohfgpibbkiaa

namespace Go.Proofs.Ytkaohfgpibbkiaa
set_option linter.unusedVariables false

end Go.Proofs.Ytkaohfgpibbkiaa

namespace Go.Proofs.Ytkaohfgpibbkiaa
set_option linter.unusedVariables false

/-! ### how many reads read from a write -/
end Go.Proofs.Ytkaohfgpibbkiaa

namespace Go.Proofs.Ytkaohfgpibbkiaa
open Go.RowKit
set_option linter.unusedVariables false

/-- facts f, told by the slices v, lie in the variable g; of what was there in w nothing has turned -/
structure FBox (w : World) (g : Nat) (v : FV) (f : Fac) (wr : World) : Prop where
  f : FactsAt wr v f
  k : Blk wr g 27 [.slice v.A v.n v.c, .slice v.B v.m v.d, .slice v.C v.k v.e]
  o : Below w.heap.size w wr
section
variable {w wr w' : World} {g : Nat} {v : FV} {f : Fac}
end

/-! ### facts stored into a variable of facts -/
section
variable {w w0 : World} {g k : Nat} {t : TypeId} {cs : List Value} {v u : FV} {f : Fac}
end

/-! ### an item in a variable -/
end Go.Proofs.Ytkaohfgpibbkiaa

namespace Go.Proofs.Ytkaohfgpibbkiaa
open Go.RowKit
set_option linter.unusedVariables false
end Go.Proofs.Ytkaohfgpibbkiaa

namespace Go.Proofs.Ytkaohfgpibbkiaa
open Go.RowKit
set_option linter.unusedVariables false

end Go.Proofs.Ytkaohfgpibbkiaa

namespace Go.Proofs.Ytkaohfgpibbkiaa
open Go.RowKit
set_option linter.unusedVariables false

section
variable {w w' : World} {g : Nat} {t : TypeId} {x y : Int}
end

end Go.Proofs.Ytkaohfgpibbkiaa

namespace Go.Proofs.Ytkaohfgpibbkiaa
open Go.RowKit
set_option linter.unusedVariables false

theorem list_eq {α : Type} {s t : List α} (hl : s.length = t.length) (h : ∀ k, k < s.length → s[k]? = t[k]?) : s = t :=
  List.ext_getElem? (fun k => by
    by_cases hk : k < s.length
    · exact h k hk
    · rw [List.getElem?_eq_none (by omega), List.getElem?_eq_none (by omega)])
set_option maxRecDepth 100000 in
set_option maxHeartbeats 1000000 in
theorem ref2_IntsL (A B : Option Addr) (n c m d : Nat) (s t : List Int) (w : World) (hX : LAt encI w A n s) (hY : LAt encI w B m t) (hn : n ≤ 9223372036854775807) (hm : m ≤ 9223372036854775807) :
    Calls Try.prog 13 #[.slice A n c, .slice B m d] w fun e w' => e = .returned (.bool (decide (s = t))) ∧ ∃ q, w' = w.drewN q := by
  -- two slices that read as s, t; $at gives a cell; eyewitnessref02.Ints the function; $T the type's name
  have hXl := hX.len
  have hYl := hY.len
  by_cases hnm : n = m
  · subst hnm
    have hee : ((n : Int) != (n : Int)) = false := by simp
    replace hX := Lib.hid hX
    replace hY := Lib.hid hY
    replace hXl := Lib.hid hXl
    replace hYl := Lib.hid hYl
    go_enter Try.func13, Try.ntmps13
    go_wp2_with fail
    go_loopw [5] (fun t' wr => ∃ j q : Nat, j ≤ n ∧ t' = .int .i64 j ∧ Hid (∀ i, i < j → s[i]? = t[i]?) ∧ wr = w.drewN q) (fun t' _ => n - (intOf t').toNat)
    case atStart => exact ⟨0, 0, Nat.zero_le _, rfl, Lib.hid (fun i hi => absurd hi (by omega)), rfl⟩
    case round =>
      obtain ⟨j, q2, hj, rfl, hin, rfl⟩ := hrel
      by_cases hjl : j < n
      · have hjl' : (j : Int) < (n : Int) := by omega
        obtain ⟨b3, off3, x, rfl, hb3, hx, hok3, x0⟩ := hX.out.int hjl
        obtain ⟨b4, off4, y, rfl, hb4, hy, hok4, y0⟩ := hY.out.int hjl
        by_cases hxy : x = y
        · have e1 : (x == y) = true := by rw [hxy]; simp
          have e1' : (x != y) = false := by rw [hxy]; simp
          have hin' : Hid (∀ i, i < j + 1 → s[i]? = t[i]?) := Lib.hid (fun i hi => by
            rcases Nat.lt_succ_iff_lt_or_eq.1 hi with h1 | h1
            · exact hin.out i h1
            · subst h1; rw [hx, hy, hxy])
          clear hx hy hjl hxy
          go_wp2_with fail
          go_quiet (fail)
          go_wp2_with fail
          exact ⟨⟨j + 1, _, by omega, by go_num, hin', rfl⟩, by simp [intOf]; omega⟩
        · have hno : Hid (decide (s = t) = false) := Lib.hid (decide_eq_false (fun e => by subst e; rw [hx] at hy; injection hy with hy; exact hxy hy))
          have e1 : (x == y) = false := by rw [beq_eq_false_iff_ne]; exact hxy
          have e1' : (x != y) = true := by rw [bne_iff_ne]; exact hxy
          clear hx hy hjl hxy
          go_wp2_with fail
          go_quiet (fail)
          go_wp2_with fail
          go_ret
          exact ⟨by rw [hno.out]; rfl, _, by rw [World.drewN_drewN]⟩
      · have hjn : j = n := by omega
        have hres := Lib.hid (decide_eq_true (list_eq (s := s) (t := t) (by rw [hXl.out, hYl.out]) (by rw [hXl.out, ← hjn]; exact hin.out)))
        have hlt' : ¬ (j : Int) < (n : Int) := by omega
        clear hin hjl hjn
        go_wp2_with fail
        go_ret
        exact ⟨by rw [hres.out]; rfl, _, rfl⟩
  · have hee : ((n : Int) != (m : Int)) = true := by simp; omega
    have hres : Hid (decide (s = t) = false) := Lib.hid (decide_eq_false (fun e => by subst e; omega))
    clear hnm hX hY
    replace hXl := Lib.hid hXl
    replace hYl := Lib.hid hYl
    go_enter Try.func13, Try.ntmps13
    go_wp2_with fail
    go_ret
    exact ⟨by rw [hres.out]; rfl, 0, rfl⟩

end Go.Proofs.Ytkaohfgpibbkiaa

namespace Go.Proofs.Ytkaohfgpibbkiaa
open Go.RowKit
set_option linter.unusedVariables false

end Go.Proofs.Ytkaohfgpibbkiaa

namespace Go.Proofs.Ytkaohfgpibbkiaa
open Go.RowKit
set_option linter.unusedVariables false

end Go.Proofs.Ytkaohfgpibbkiaa

namespace Go.Proofs.Ytkaohfgpibbkiaa
open Go.RowKit
set_option linter.unusedVariables false
/-- a call's answer: numbers -/
def RetIL (xs : List Int) (w : World) (e : Ending) (w' : World) : Prop := ∃ A n c, e = .returned (.slice A n c) ∧ LAt encI w' A n xs ∧ n ≤ c ∧ c ≤ 9223372036854775807 ∧ Below w.heap.size w w'
end Go.Proofs.Ytkaohfgpibbkiaa

namespace Go.Proofs.Ytkaohfgpibbkiaa
open Go.RowKit
set_option linter.unusedVariables false
end Go.Proofs.Ytkaohfgpibbkiaa

namespace Go.Proofs.Ytkaohfgpibbkiaa
open Go.RowKit
set_option linter.unusedVariables false

/-- the least number that goes round -/
def LoopIs (n : Nat) (a : List (List Nat)) (r : Int) (b : Bool) : Prop := (b = true ∧ ∃ i : Nat, r = (i : Int) ∧ i < n ∧ Rel a i i ∧ ∀ j, j < i → ¬ Rel a j j) ∨ (b = false ∧ r = 0 ∧ ∀ i, i < n → ¬ Rel a i i)
def RetLoop (n : Nat) (a : List (List Nat)) (w : World) (e : Ending) (w' : World) : Prop := ∃ r b, e = .returned (.tuple #[.int .i64 r, .bool b]) ∧ LoopIs n a r b ∧ Below w.heap.size w w'

end Go.Proofs.Ytkaohfgpibbkiaa

namespace Go.Proofs.Ytkaohfgpibbkiaa
open Go.RowKit
set_option linter.unusedVariables false

theorem ref3_HasG (A : Option Addr) (n c : Nat) (a : List (List Nat)) (hG : Good n a) (i j : Int) (w : World) (hr : RowsAt w A n a) :
    Calls Try.prog 31 #[.agg #[.int .i64 (n : Int), .slice A n c], .int .i64 i, .int .i64 j] w (RetB (hasM a i j) w) := by
  have h := ref3_Has A n c a i j w hr hG.le (fun k xs hx => by have := hG.small xs (List.mem_of_getElem? hx); omega)
  rwa [hG.in_has] at h
set_option maxHeartbeats 1000000 in
theorem ref4_Loop (A : Option Addr) (n c : Nat) (a : List (List Nat)) (w : World) (hr : RowsAt w A n a) (hG : Good n a) :
    Calls Try.prog 30 #[.agg #[.int .i64 (n : Int), .slice A n c]] w (RetLoop n a w) := by
  have hnn : n ≤ 4096 := hG.le
  have hl : True := trivial
  obtain ⟨W0, hW0⟩ : ∃ W0, W0 = w.alloc (.cells #[.int .i64 n, .slice A n c] 39) := ⟨_, rfl⟩
  have ha : Below w.heap.size w W0 := by rw [hW0]; exact below_alloc _ _
  have hB : MatB W0 w.heap.size 39 n A n c := by rw [hW0]; exact MatB.new w _
  have l0 := hB.c0
  have l1 := hB.c1
  have hr' := Lib.hid (hr.below ha)
  have hC := Lib.hid (fun (k : Nat) (hk : k < n) W (hW : RowsAt W A n a) => ref3_HasG A n c a hG (k: Int) (k: Int) W hW)
  replace ha := Lib.hid ha
  replace hB := Lib.hid hB
  clear hr hl
  go_enter Try.func30, Try.ntmps30
  go_wp2_with fail
  rw [← hW0]
  clear hW0
  go_wp2_with fail
  clear l0 l1
  go_loopw [4] (fun i wr => ∃ k : Nat, k ≤ n ∧ i = .int .i64 k ∧ Hid (∀ j, j < k → ¬ Rel a j j) ∧ Hid (Below W0.heap.size W0 wr)) (fun i _ => n - (intOf i).toNat)
  case atStart => exact ⟨0, Nat.zero_le _, rfl, Lib.hid (fun j hj => absurd hj (by omega)), Lib.hid (Below.refl _ _)⟩
  case round =>
    obtain ⟨k, hk, rfl, hall, hbr⟩ := hrel
    have l0 := (hB.out.below_ hbr.out).c0
    have l1 := (hB.out.below_ hbr.out).c1
    by_cases hlt : k < n
    · have hCk := Lib.hid (hC.out k hlt wr (hr'.out.below hbr.out))
      go_wp2_with fail
      refine hCk.out.mono ?_; rintro e w1 ⟨rfl, hb1⟩
      have hb01 := Lib.hid (below_trans2 hbr.out hb1)
      clear hb1 l0 l1 hCk
      cases hh : hasM a (k : Int) (k : Int) with
      | true =>
        have hres : Hid (LoopIs n a (k : Int) true) := Lib.hid (.inl ⟨rfl, k, rfl, hlt, hh, hall.out⟩)
        go_wp2_with fail
        exact bodyPost_ret (v := .tuple #[.int .i64 (k : Int), .bool true]) (by simp [results, Try.results30, go_sem]) rfl ⟨_, _, rfl, hres.out, below_trans2 ha.out hb01.out⟩
      | false =>
        have hall' : Hid (∀ j, j < k + 1 → ¬ Rel a j j) := Lib.hid (fun j hj => by
          rcases Nat.lt_succ_iff_lt_or_eq.1 hj with h1 | h1
          · exact hall.out j h1
          · subst h1
            unfold Rel
            rw [hh]; simp)
        clear hall
        go_wp2_with fail
        go_roundw
        case rel => exact ⟨k + 1, by omega, by go_num, hall', hb01⟩
        case measure => simp [intOf]; omega
    · have hres : Hid (LoopIs n a 0 false) := Lib.hid (.inr ⟨rfl, rfl, fun i hi => hall.out i (by omega)⟩)
      go_wp2_with fail
      exact bodyPost_ret (v := .tuple #[.int .i64 0, .bool false]) (by simp [results, Try.results30, go_sem]) rfl ⟨_, _, rfl, hres.out, below_trans2 ha.out hbr.out⟩

end Go.Proofs.Ytkaohfgpibbkiaa

namespace Go.Proofs.Ytkaohfgpibbkiaa
open Go.RowKit
set_option linter.unusedVariables false
/-- a list in a block of the call's own -/
def RetILF (xs : List Int) (w : World) (e : Ending) (w' : World) : Prop := ∃ A n c, e = .returned (.slice A n c) ∧ LAt encI w' A n xs ∧ n ≤ c ∧ c ≤ 9223372036854775807 ∧ Below w.heap.size w w' ∧ ∀ ad, A = some ad → w.heap.size ≤ ad.block
end Go.Proofs.Ytkaohfgpibbkiaa

namespace Go.Proofs.Ytkaohfgpibbkiaa
set_option linter.unusedVariables false

end Go.Proofs.Ytkaohfgpibbkiaa

namespace Go.Proofs.Ytkaohfgpibbkiaa
set_option linter.unusedVariables false

end Go.Proofs.Ytkaohfgpibbkiaa

namespace Go.Proofs.Ytkaohfgpibbkiaa
set_option linter.unusedVariables false

end Go.Proofs.Ytkaohfgpibbkiaa

namespace Go.Proofs.Ytkaohfgpibbkiaa
open Go.RowKit

section
variable {gb : Nat} {P : Program} {ops : Array Oper} {md : Region.Mode} {Q : Exit → Act → World → Prop}

/-! ### the steps -/
section
variable {tail : List Oper} {rest : List (Bool × Nat)} {a : Act} {w : World} {i : Nat} {o : Oper}
end
end
end Go.Proofs.Ytkaohfgpibbkiaa

namespace Go.Proofs.Ytkaohfgpibbkiaa
open Go.RowKit
set_option linter.unusedVariables false

section
variable {P : Program} {ops : Array Oper} {md : Region.Mode} {Q : Exit → Act → World → Prop} {S : World → Prop}

/-- a tree of orders -/
inductive PT where
  | done
  | flt (i : Nat) (t : PT)
  | one (i : Nat) (t : PT)
  | two (i j : Nat) (ti tj : PT)
  | three (i j k : Nat) (ti tj tk : PT)

/-! ### the steps -/
section
variable {W : World} {t u : PT} {a : Act} {w : World} {i j : Nat} {o : Oper}
end
end
end Go.Proofs.Ytkaohfgpibbkiaa

namespace Go.Proofs.Ytkaohfgpibbkiaa
open Go.RowKit
set_option linter.unusedVariables false
end Go.Proofs.Ytkaohfgpibbkiaa

namespace Go.Proofs.Ytkaohfgpibbkiaa
open Go.RowKit
set_option linter.unusedVariables false
theorem filter_range_ext {p q : Nat → Bool} {n N : Nat} (hn : n ≤ N) (h1 : ∀ i, i < n → q i = p i) (h2 : ∀ i, n ≤ i → q i = false) : (List.range N).filter q = (List.range n).filter p := by
  obtain ⟨d, rfl⟩ : ∃ d, N = n + d := ⟨N - n, by omega⟩
  clear hn
  induction d with
  | zero => exact List.filter_congr fun i hi => h1 i (List.mem_range.1 hi)
  | succ d ih => rw [← Nat.add_assoc, List.range_succ, List.filter_append, ih, List.filter_cons_of_neg (by rw [h2 _ (by omega)]; decide)]; simp
theorem colN_mem {a : List (List Nat)} {o : Int} {n i : Nat} : i ∈ colN a o n ↔ i < n ∧ hasM a (i : Int) o = true := by
  unfold colN; rw [List.mem_filter, List.mem_range]
theorem colN_succ (a : List (List Nat)) (o : Int) (n : Nat) : colN a o (n + 1) = if hasM a (n : Int) o = true then colN a o n ++ [n] else colN a o n := by
  unfold colN
  rw [List.range_succ, List.filter_append]
  split
  · rename_i h; rw [List.filter_cons_of_pos (by exact h)]; simp
  · rename_i h; rw [List.filter_cons_of_neg (by exact h)]; simp
/-- the column o as a row of words; no word where there is no such column -/
def colW (a : List (List Nat)) (o : Int) (n : Nat) : List Nat := if 0 ≤ o ∧ o < (n : Int) then setAll (wordsN (n : Int)) (colN a o n) else []
theorem words_all16 (n : Nat) : n ≤ 64 * wordsN (n : Int) := by unfold wordsN wordsZ; split <;> omega
theorem words_small16 {n : Nat} (h : n ≤ 4096) : wordsN (n : Int) ≤ 64 := by unfold wordsN wordsZ; split <;> omega
theorem col_facts (a : List (List Nat)) (o : Int) {n k : Nat} (hk : k ≤ n) : (setAll (wordsN (n : Int)) (colN a o k)).length = wordsN (n : Int) ∧ W64 (setAll (wordsN (n : Int)) (colN a o k)) ∧ ∀ j : Nat, hasR (setAll (wordsN (n : Int)) (colN a o k)) (j : Int) = decide (j ∈ colN a o k) :=
  setAll_facts _ _ fun i hi => by have := (colN_mem.1 hi).1; have := words_all16 n; omega
theorem col_list (a : List (List Nat)) (o : Int) (n : Nat) : listR (setAll (wordsN (n : Int)) (colN a o n)) = colF a o n := by
  obtain ⟨h1, -, h3⟩ := col_facts a o (Nat.le_refl n)
  unfold listR listN colF
  rw [h1, filter_range_ext (p := fun i : Nat => hasM a (i : Int) o) (words_all16 n)]
  · rfl
  · intro i hi
    rw [h3 i, Bool.eq_iff_iff, decide_eq_true_iff, colN_mem]
    exact ⟨fun h => h.2, fun h => ⟨hi, h⟩⟩
  · intro i hi
    rw [h3 i, decide_eq_false_iff_not, colN_mem]
    omega
theorem col_list_with (a : List (List Nat)) (k n : Nat) (hk : k < n) : listR (setR (setAll (wordsN (n : Int)) (colN a (k : Int) n)) (k : Int)) = wihF a (k : Int) n := by
  obtain ⟨h1, -, h3⟩ := col_facts a (k : Int) (Nat.le_refl n)
  have hw := words_all16 n
  unfold listR listN wihF
  rw [setR_len, h1, filter_range_ext (p := fun i : Nat => decide ((i : Int) = (k : Int)) || hasM a (i : Int) (k : Int)) hw]
  · rfl
  · intro i hi
    rw [hasR_setR _ k i (by rw [h1]; omega), h3 i, Bool.eq_iff_iff, Bool.or_eq_true, Bool.or_eq_true, decide_eq_true_iff, decide_eq_true_iff, decide_eq_true_iff, colN_mem]
    exact ⟨fun h => h.elim (fun h => .inr h.2) (fun h => .inl (by omega)), fun h => h.elim (fun h => .inr (by omega)) (fun h => .inl ⟨hi, h⟩)⟩
  · intro i hi
    rw [hasR_setR _ k i (by rw [h1]; omega), h3 i, Bool.or_eq_false_iff, decide_eq_false_iff_not, decide_eq_false_iff_not, colN_mem]
    omega
theorem col_none {a : List (List Nat)} {n : Nat} (hG : Good n a) {o : Int} (h : ¬ (0 ≤ o ∧ o < (n : Int))) : colF a o n = [] := by
  unfold colF colN
  rw [List.filter_eq_nil_iff.2 (fun i hi hh => ?_)]; · rfl
  have hh : hasM a (i : Int) o = true := hh
  have := hG.in_has (i : Int) o
  rw [hh, Bool.and_true] at this
  unfold inM at this
  simp only [Bool.and_eq_true, decide_eq_true_eq] at this
  omega
theorem all_i64v (zs : List Int) : encI.all zs = zs.map i64v := by
  unfold Enc.all encI
  induction zs with
  | nil => rfl
  | cons z zs ih => rw [List.flatMap_cons, ih]; rfl
theorem RetIntsO.il {t : TypeId} {zs : List Int} {w w' : World} {e : Ending} (h : RetIntsO t zs w e w') : RetILF zs w e w' := by
  obtain ⟨A, n, c, rfl, ho, hx, hb⟩ := h
  rw [← all_i64v] at ho
  have hl : zs.length = n := by have := ho.1; rw [Enc.all_len] at this; simpa [encI] using this
  obtain ⟨A2, c2, e, hnc, hcm, hL⟩ := LAt.of_own (E := encI) ho hx hl
  injection e with e1 e2 e3
  subst e1; subst e3
  exact ⟨A, n, c, rfl, hL, hnc, hcm, hb, fun ad e => by subst e; exact own_lt_block ho _ rfl⟩
theorem RetILF.il {zs : List Int} {w w' : World} {e : Ending} (h : RetILF zs w e w') : RetIL zs w e w' := by
  obtain ⟨A, n, c, h1, h2, h3, h4, h5, -⟩ := h
  exact ⟨A, n, c, h1, h2, h3, h4, h5⟩
theorem RetILF.past {zs : List Int} {w0 w w' : World} {e : Ending} (h : RetILF zs w e w') (hb : Below w0.heap.size w0 w) : RetILF zs w0 e w' := by
  obtain ⟨A, n, c, h1, h2, h3, h4, h5, h6⟩ := h
  exact ⟨A, n, c, h1, h2, h3, h4, below_trans2 hb h5, fun ad e => Nat.le_trans hb.size (h6 ad e)⟩
theorem wrap_nat16 {q : Nat} (h : q ≤ 4096) : IntKind.i64.wrap (q : Int) = (q : Int) := by rw [IntKind.wrap_i64]; omega
set_option maxRecDepth 100000 in
set_option maxHeartbeats 1000000 in
theorem past_column (A : Option Addr) (n c : Nat) (a : List (List Nat)) (o : Int) (w : World) (hr : RowsAt w A n a) (hG : Good n a) :
    Calls Try.prog 48 #[.agg #[.int .i64 (n : Int), .slice A n c], .int .i64 o] w (RetRow (colW a o n) w) := by
  have hnn := hG.le
  have hsm := Lib.hid hG.small
  -- a call with the matrix (A n c a): it is boxed at g, the world is W0 then
  have hM0 := Lib.hid (MatK.new (N := (n : Int)) (c := c) w 39 hr)
  obtain ⟨g, hg⟩ : ∃ g, g = w.heap.size := ⟨_, rfl⟩
  obtain ⟨W0, hW0⟩ : ∃ W, W = w.alloc (.cells #[.int .i64 (n : Int), .slice A n c] 39) := ⟨_, rfl⟩
  rw [← hW0, ← hg] at hM0
  have hbo := Lib.hid (show Below w.heap.size w W0 from by rw [hW0]; exact below_alloc _ _)
  by_cases hin : 0 ≤ o ∧ o < (n : Int)
  · have hcw := Lib.hid (show colW a o n = setAll (wordsN (n : Int)) (colN a o n) from if_pos hin)
    obtain ⟨h0, h1⟩ := hin
    have d1 : decide (o < 0) = false := decide_eq_false (by omega)
    have d2 : decide ((n : Int) ≤ o) = false := decide_eq_false (by omega)
    have cN := Lib.hid (row_NewO (n : Int) (by omega) (by omega) W0)
    have m0 := hM0.out.1.c0
    have m1 := hM0.out.1.c1
    go_enter Try.func48, Try.ntmps48
    go_wp2_with (rw [← hW0, ← hg]; clear hW0 hg)
    refine cN.out.mono ?_; rintro e w1 ⟨A1, n1, c1, rfl, hown, hx64, b1⟩
    have hn1 : n1 = wordsN (n : Int) := by have := hown.1; simpa using this.symm
    have hwa := words_all16 n
    have hws := words_small16 hnn
    obtain ⟨nw, hnw⟩ : ∃ nw, nw = wordsN (n : Int) := ⟨_, rfl⟩
    rw [← hnw] at hn1 hwa hws
    subst hn1
    obtain ⟨G, cap, hv, -⟩ := hown.form (by omega)
    injection hv with hv1 hv2 hv3
    subst hv1; subst hv3
    have hfa := Lib.hid (fun k (hk : k ≤ n) => col_facts a o (n := n) (k := k) hk)
    rw [← hnw] at hown hfa hcw
    replace hnw := Lib.hid hnw
    have hown0 := Lib.hid (show w1.ownsRow W0.heap.size 94 1 (.slice (some ⟨G, 0, none⟩) n1 c1) n1 ((setAll n1 (colN a o 0)).map u64v) from hown)
    have hM1 := Lib.hid (hM0.out.below b1)
    have hb1 := Lib.hid b1
    clear hown hx64 b1 m0 m1
    have m0 := hM1.out.1.c0
    have m1 := hM1.out.1.c1
    go_wp2_with fail
    clear m0 m1
    go_loopw [20] (fun t wr => ∃ k : Nat, k ≤ n ∧ t = .int .i64 (k : Int) ∧ Hid (Below W0.heap.size W0 wr) ∧ Hid (wr.ownsRow W0.heap.size 94 1 (.slice (some ⟨G, 0, none⟩) n1 c1) n1 ((setAll n1 (colN a o k)).map u64v))) (fun t _ => n - (intOf t).toNat)
    case atStart => exact ⟨0, Nat.zero_le _, rfl, hb1, hown0⟩
    case round =>
      clear hb1 hown0
      obtain ⟨k, hk, rfl, hb, hown⟩ := hrel
      have hM := Lib.hid (hM0.out.below hb.out)
      have m0 := hM.out.1.c0
      have m1 := hM.out.1.c1
      by_cases hlt : k < n
      · have hlt' : (k : Int) < (n : Int) := by omega
        have hrs := colN_succ a o k
        have cH := mat_Has (n : Int) A n c a (k : Int) o wr hM.out.2 (by omega) (fun r hr => by have := hsm.out r hr; omega) (by omega) (by omega) (by omega) (by omega)
        cases ha : hasM a (k : Int) o with
        | true =>
          rw [ha] at cH
          rw [if_pos ha] at hrs
          replace cH := Lib.hid cH
          obtain ⟨q, hq⟩ : ∃ q, q = k / 64 := ⟨_, rfl⟩
          obtain ⟨r, hre⟩ : ∃ r, r = k % 64 := ⟨_, rfl⟩
          have hql : q < n1 := by omega
          have hr64 : r < 64 := by omega
          obtain ⟨hl1, hl2, -⟩ := hfa.out k (by omega)
          obtain ⟨x, hx⟩ : ∃ x, (setAll n1 (colN a o k))[q]? = some x := ⟨_, List.getElem?_eq_getElem (by omega)⟩
          have hx64 : x < 18446744073709551616 := hl2 x (List.mem_of_getElem? hx)
          have hS := setR_in (m := k) (xs := setAll n1 (colN a o k)) (by rw [hl1]; omega) (by rw [← hq]; exact hx)
          rw [← hq, ← hre, ← setAll_snoc, ← hrs] at hS
          have hE := Lib.hid (u64_or_nat x (p2 r) hx64 (by have := p2_lt r hr64; omega))
          replace hS := Lib.hid hS
          replace hx := Lib.hid hx
          clear hlt ha hrs
          go_wp2_with fail
          refine cH.out.mono ?_; rintro e w3 ⟨rfl, b3⟩
          have hown3 := own_below hown.out b3
          have hb3 := below_trans2 hb.out b3
          have hc : w3.cell? ⟨G, q, none⟩ = some (.int .u64 (x : Int)) := by
            rw [hown3.cellAt _ (by omega), List.getElem?_map, hx.out]; rfl
          have hf := hown3.frozenAt q
          have hGl := Lib.hid (hown3.lt G rfl).1
          clear b3 cH m0 m1
          go_wp2_with fail
          have hq1 : (k : Int).tdiv 64 = (q : Int) := by rw [Int.tdiv_eq_ediv_of_nonneg (by omega)]; omega
          have hr1 : (k : Int).tmod 64 = (r : Int) := by rw [Int.tmod_eq_emod_of_nonneg (by omega)]; omega
          have hwq : IntKind.i64.wrap (q : Int) = (q : Int) := wrap_nat16 (by omega)
          have hwr : IntKind.i64.wrap (r : Int) = (r : Int) := wrap_nat16 (by omega)
          have hA1 : (0 : Int) ≤ (q : Int) := by omega
          have hA2 : (q : Int) < (n1 : Int) := by omega
          refine still_tail 10 (by kernel_rfl) (by kernel_rfl) (fun W hW => ?_)
          have hc' : W.cell? ⟨G, q, none⟩ = some (.int .u64 (x : Int)) := by rw [hW.out]; exact hc
          have hf' : W.frozen? ⟨G, q, none⟩ = false := by rw [hW.out]; exact hf
          have hown' := Lib.hid (show W.ownsRow W0.heap.size 94 1 (.slice (some ⟨G, 0, none⟩) n1 c1) n1 ((setAll n1 (colN a o k)).map u64v) from by rw [hW.out]; exact hown3.drew)
          have hb' := Lib.hid (show Below W0.heap.size W0 W from by rw [hW.out]; exact hb3.drew)
          replace hq := Lib.hid hq
          replace hre := Lib.hid hre
          clear hc hf hb3 hown3 hW
          simp only [List.take_succ_cons, List.take_zero, List.drop_succ_cons, List.drop_zero]
          repeat
            refine @wpStill_step _ _ _ _ _ _ _ ?_
            intro K hK
            go_simp
            refine hK _ ?_
            clear hK K
          refine wpStill_step (fun K hK => ?_)
          go_simp
          refine ⟨_, still_call (word_BitN _ hr64 _), hK _ ?_⟩
          clear hK K
          repeat
            refine @wpStill_step _ _ _ _ _ _ _ ?_
            intro K hK
            go_simp
            refine hK _ ?_
            clear hK K
          refine wpStill_nil ?_
          go_wp2
          go_roundw
          case rel =>
            refine ⟨k + 1, by omega, by go_num, Lib.hid (hb'.out.setCell hGl.out _), Lib.hid ?_⟩
            rw [hE.out, hS.out, List.map_set]
            exact (hown'.out.stored _ _).1
          case measure => simp [intOf]; omega
        | false =>
          rw [ha] at cH
          rw [if_neg (by simp [ha])] at hrs
          replace hrs := Lib.hid hrs
          replace cH := Lib.hid cH
          clear hlt ha
          go_wp2_with fail
          refine cH.out.mono ?_; rintro e w3 ⟨rfl, b3⟩
          have hown3 := Lib.hid (own_below hown.out b3)
          have hb3 := Lib.hid (below_trans2 hb.out b3)
          clear b3 cH m0 m1
          go_wp2_with fail
          exact ⟨⟨k + 1, by omega, by go_num, hb3, Lib.hid (by rw [hrs.out]; exact hown3.out)⟩, by simp [intOf]; omega⟩
      · have hlt' : ¬ (k : Int) < (n : Int) := by omega
        obtain rfl : k = n := by omega
        obtain ⟨hl1, hl2, -⟩ := hfa.out k (by omega)
        have hR := Row.of_own hown.out hl2
        clear hlt hl1 hl2
        go_wp2_with fail
        go_ret
        exact ⟨_, _, _, rfl, by rw [hcw.out]; exact hR, below_trans2 hbo.out hb.out⟩
  · have hcw := Lib.hid (show colW a o n = [] from if_neg hin)
    have m0 := hM0.out.1.c0
    by_cases h0 : o < 0
    · have d1 : decide (o < 0) = true := decide_eq_true h0
      go_enter Try.func48, Try.ntmps48
      go_wp2_with (rw [← hW0, ← hg]; clear hW0 hg)
      go_ret
      exact ⟨none, 0, 0, rfl, by rw [hcw.out]; exact Row.nil _ _, hbo.out⟩
    · have d1 : decide (o < 0) = false := decide_eq_false h0
      have d2 : decide ((n : Int) ≤ o) = true := decide_eq_true (by omega)
      go_enter Try.func48, Try.ntmps48
      go_wp2_with (rw [← hW0, ← hg]; clear hW0 hg)
      go_ret
      exact ⟨none, 0, 0, rfl, by rw [hcw.out]; exact Row.nil _ _, hbo.out⟩
theorem colW_len {a : List (List Nat)} {o : Int} {n : Nat} (h : n ≤ 4096) : (colW a o n).length ≤ 64 := by
  unfold colW
  split
  · rw [(col_facts a o (Nat.le_refl n)).1]; exact words_small16 h
  · exact Nat.zero_le _
theorem past_OfF (A : Option Addr) (n c : Nat) (a : List (List Nat)) (o : Int) (w : World) (hr : RowsAt w A n a) (hG : Good n a) :
    Calls Try.prog 21 #[.agg #[.int .i64 (n : Int), .slice A n c], .int .i64 o] w (RetILF (colF a o n) w) := by
  -- a call with the matrix (A n c a): it is boxed at g, the world is W0 then
  have hM0 := Lib.hid (MatK.new (N := (n : Int)) (c := c) w 39 hr)
  obtain ⟨g, hg⟩ : ∃ g, g = w.heap.size := ⟨_, rfl⟩
  obtain ⟨W0, hW0⟩ : ∃ W, W = w.alloc (.cells #[.int .i64 (n : Int), .slice A n c] 39) := ⟨_, rfl⟩
  rw [← hW0, ← hg] at hM0
  have hbo := Lib.hid (show Below w.heap.size w W0 from by rw [hW0]; exact below_alloc _ _)
  have m0 := hM0.out.1.c0
  have m1 := hM0.out.1.c1
  have cC := Lib.hid (past_column A n c a o W0 hM0.out.2 hG)
  have hl : Hid (listR (colW a o n) = colF a o n) := Lib.hid (by
    unfold colW
    split
    · exact col_list a o n
    · rename_i h; rw [col_none hG h]; rfl)
  have hwl := colW_len (a := a) (o := o) hG.le
  go_enter Try.func21, Try.ntmps21
  go_wp2_with (rw [← hW0, ← hg]; clear hW0 hg)
  refine cC.out.mono ?_; rintro e w1 ⟨A1, n1, c1, rfl, hR, b1⟩
  have hn1 : n1 ≤ 64 := by rw [← hR.len]; exact hwl
  have cL := Lib.hid (row_ListO A1 n1 c1 _ w1 hR (by omega))
  have hb1 := Lib.hid (below_trans2 hbo.out b1)
  clear b1 hR hwl m0 m1
  go_wp2_with fail
  refine cL.out.mono ?_; intro e w2 h2
  have h3 := h2.il
  rw [hl.out] at h3
  obtain ⟨A2, n2, c2, rfl, h4, h5, h6, h7, h8⟩ := h3.past hb1.out
  clear h2
  go_wp2_with fail
  go_ret
  exact ⟨A2, n2, c2, rfl, h4, h5, h6, h7, h8⟩
theorem past_Of (A : Option Addr) (n c : Nat) (a : List (List Nat)) (o : Int) (w : World) (hr : RowsAt w A n a) (hG : Good n a) :
    Calls Try.prog 21 #[.agg #[.int .i64 (n : Int), .slice A n c], .int .i64 o] w (RetIL (colF a o n) w) :=
  (past_OfF A n c a o w hr hG).mono fun _ _ h => h.il
theorem within_none (i : Int) : decide (IntKind.u64.wrap i / 64 < 0) = false := by
  rw [decide_eq_false_iff_not, IntKind.wrap_u64]; omega
theorem row_within0 (A : Option Addr) (c : Nat) (i : Int) (w : World) :
    Calls Try.prog 71 #[.slice A 0 c, .int .i64 i] w fun e w' => e = .returned (.bool false) ∧ w = w' := by
  have H := Lib.hid (within_none i)
  go_enter Try.func71, Try.ntmps71
  go_wp2
  go_ret
  exact ⟨ret_bool H.out, rfl⟩
/-- no bit of a row without words is set -/
theorem row_Set0 (A : Option Addr) (c : Nat) (i : Int) (w : World) :
    Calls Try.prog 49 #[.slice A 0 c, .int .i64 i] w (RetRow [] w) := by
  have hcl := Lib.hid (row_clone A 0 c [] w (Row.nil _ _) (by omega))
  go_enter Try.func49, Try.ntmps49
  go_wp2_with fail
  refine hcl.out.mono ?_; rintro e w1 ⟨g, rfl, hown, hb⟩
  go_wp2_with fail
  refine (row_within0 _ _ i _).mono ?_; rintro e w' ⟨rfl, rfl⟩
  go_wp2
  go_ret
  exact ⟨_, _, _, rfl, Row.nil _ _, hb⟩
theorem past_WithF (A : Option Addr) (n c : Nat) (a : List (List Nat)) (o : Int) (w : World) (hr : RowsAt w A n a) (hG : Good n a) :
    Calls Try.prog 23 #[.agg #[.int .i64 (n : Int), .slice A n c], .int .i64 o] w (RetILF (wihO a o n) w) := by
  -- a call with the matrix (A n c a): it is boxed at g, the world is W0 then
  have hM0 := Lib.hid (MatK.new (N := (n : Int)) (c := c) w 39 hr)
  obtain ⟨g, hg⟩ : ∃ g, g = w.heap.size := ⟨_, rfl⟩
  obtain ⟨W0, hW0⟩ : ∃ W, W = w.alloc (.cells #[.int .i64 (n : Int), .slice A n c] 39) := ⟨_, rfl⟩
  rw [← hW0, ← hg] at hM0
  have hbo := Lib.hid (show Below w.heap.size w W0 from by rw [hW0]; exact below_alloc _ _)
  have m0 := hM0.out.1.c0
  have m1 := hM0.out.1.c1
  have cC := Lib.hid (past_column A n c a o W0 hM0.out.2 hG)
  have hl : Hid (listR (setR (colW a o n) o) = wihO a o n) := Lib.hid (by
    unfold colW wihO
    split
    · rename_i h
      obtain ⟨k, rfl⟩ := Int.eq_ofNat_of_zero_le h.1
      exact col_list_with a k n (by omega)
    · rw [setR_out (by simp; omega)]; rfl)
  have hwl := colW_len (a := a) (o := o) hG.le
  go_enter Try.func23, Try.ntmps23
  go_wp2_with (rw [← hW0, ← hg]; clear hW0 hg)
  refine cC.out.mono ?_; rintro e w1 ⟨A1, n1, c1, rfl, hR, b1⟩
  have hn1 : n1 ≤ 64 := by rw [← hR.len]; exact hwl
  have hle := hG.le
  have cS : Hid (Calls Try.prog 49 #[.slice A1 n1 c1, .int .i64 o] w1 (RetRow (setR (colW a o n) o) w1)) := by
    by_cases hin : 0 ≤ o ∧ o < (n : Int)
    · exact Lib.hid (row_Set A1 n1 c1 _ o w1 hR (by omega) (by omega) (by omega))
    · have he : colW a o n = [] := if_neg hin
      rw [he] at hR
      rw [he, setR_out (by simp; omega)]
      obtain rfl : n1 = 0 := hR.len.symm
      exact Lib.hid (row_Set0 A1 c1 o w1)
  have hb1 := Lib.hid (below_trans2 hbo.out b1)
  clear b1 m0 m1
  go_wp2_with fail
  refine cS.out.mono ?_; rintro e w2 ⟨A2, n2, c2, rfl, hR2, b2⟩
  have hn2 : n2 ≤ 64 := by rw [← hR2.len, setR_len]; exact hwl
  have cL := Lib.hid (row_ListO A2 n2 c2 _ w2 hR2 (by omega))
  have hb2 := Lib.hid (below_trans2 hb1.out b2)
  clear b2 hR hR2 hwl cS hn1
  go_wp2_with fail
  refine cL.out.mono ?_; intro e w3 h2
  have h3 := h2.il
  rw [hl.out] at h3
  obtain ⟨A3, n3, c3, rfl, h4, h5, h6, h7, h8⟩ := h3.past hb2.out
  clear h2
  go_wp2_with fail
  go_ret
  exact ⟨A3, n3, c3, rfl, h4, h5, h6, h7, h8⟩
theorem past_With (A : Option Addr) (n c : Nat) (a : List (List Nat)) (o : Int) (w : World) (hr : RowsAt w A n a) (hG : Good n a) :
    Calls Try.prog 23 #[.agg #[.int .i64 (n : Int), .slice A n c], .int .i64 o] w (RetIL (wihO a o n) w) :=
  (past_WithF A n c a o w hr hG).mono fun _ _ h => h.il
end Go.Proofs.Ytkaohfgpibbkiaa

namespace Go.Proofs.Ytkaohfgpibbkiaa
set_option linter.unusedVariables false

end Go.Proofs.Ytkaohfgpibbkiaa

namespace Go.Proofs.Ytkaohfgpibbkiaa
open Go.RowKit
set_option linter.unusedVariables false
end Go.Proofs.Ytkaohfgpibbkiaa

namespace Go.Proofs.Ytkaohfgpibbkiaa
open Go.RowKit
set_option linter.unusedVariables false
theorem ints_same {A B : Option Addr} {n m c d c' d' : Nat} {s : List Int} {w : World} (h1 : LAt encI w A n s) (h2 : LAt encI w B m s) (hn : n ≤ c) (hc : c ≤ 9223372036854775807) (hm : m ≤ d) (hd : d ≤ 9223372036854775807) :
    Calls Try.prog 13 #[.slice A n c', .slice B m d'] w (RetB true w) := by
  refine (ref2_IntsL A B n c' m d' s s w h1 h2 (by omega) (by omega)).mono ?_
  rintro e w' ⟨rfl, q, rfl⟩
  exact ⟨by simp, below_drewN (Below.refl _ _) q⟩
theorem awake16_of : ofN 3 [(0, 2), (1, 2)] = 3 ∧ ofM 3 [(0, 2), (1, 2)] = [[4], [4], [0]] ∧ ofE 3 [(0, 2), (1, 2)] = 0 := by decide
theorem awake16_right : rightM 3 [[4], [4], [0]] = true := by decide
theorem awake16_good : Good 3 [[4], [4], [0]] := by
  obtain ⟨n, h1, h2⟩ := Good.of awake16_right (by intro r hr; simp at hr; rcases hr with rfl | rfl <;> (intro x hx; simp at hx; omega))
  obtain rfl : n = 3 := by omega
  exact h2
theorem awake16_lists : colF [[4], [4], [0]] 2 3 = [0, 1] ∧ wihO [[4], [4], [0]] 0 3 = [0] ∧ colF [[4], [4], [0]] 3 3 = [] := by decide
set_option maxRecDepth 100000 in
set_option maxHeartbeats 2000000 in
theorem law16_awake (w : World) : Calls Try.prog 19 #[] w (RetBool true w) := by
  obtain ⟨W0, hW0⟩ : ∃ W0, W0 = w.alloc (.cells #[.int .i64 0, .int .i64 2, .int .i64 1, .int .i64 2] 77) := ⟨_, rfl⟩
  have bb := Lib.hid (show Below w.heap.size w W0 by rw [hW0]; exact below_alloc _ _)
  have hP : PairsAt W0 (some ⟨w.heap.size, 0, none⟩) 2 [(0, 2), (1, 2)] := by
    refine ⟨rfl, by simp, fun _ => ⟨_, _, rfl, by rw [hW0]; simp, fun j p hj => ?_⟩⟩
    have hB : Blk W0 w.heap.size 77 [.int .i64 0, .int .i64 2, .int .i64 1, .int .i64 2] := by rw [hW0]; exact Blk.new w _ _
    match j, hj with
    | 0, hj => simp at hj; subst hj; exact ⟨hB.cell 0, hB.cell 1⟩
    | 1, hj => simp at hj; subst hj; exact ⟨hB.cell 2, hB.cell 3⟩
    | j + 2, hj => simp at hj
  have hO := ref3_Of 3 _ 2 2 _ W0 hP (by omega)
  rw [awake16_of.1, awake16_of.2.1, awake16_of.2.2] at hO
  replace hO := Lib.hid hO
  clear hP
  have cA := Lib.hid (fun A c W hW => by
    have h := past_Of A 3 c _ 2 W hW awake16_good
    rw [awake16_lists.1] at h
    exact h)
  have cB := Lib.hid (fun A c W hW => by
    have h := past_With A 3 c _ 0 W hW awake16_good
    rw [awake16_lists.2.1] at h
    exact h)
  have cC := Lib.hid (fun A c W hW => by
    have h := past_Of A 3 c _ 3 W hW awake16_good
    rw [awake16_lists.2.2] at h
    exact h)
  go_enter Try.func19, Try.ntmps19
  go_wp2_with fail
  rw [← hW0]
  clear hW0
  refine hO.out.mono ?_; rintro e w1 ⟨A1, n1, c1, rfl, r1, _, b⟩
  obtain rfl : n1 = 3 := by have := r1.len; simpa using this.symm
  clear hO
  obtain ⟨W1, hW1⟩ : ∃ W, W = w1.alloc (.cells #[.int .i64 3, .slice A1 3 c1] 39) := ⟨_, rfl⟩
  obtain ⟨G1, hG1⟩ : ∃ G, G = w1.heap.size := ⟨_, rfl⟩
  have ba : Below w1.heap.size w1 W1 := by rw [hW1]; exact below_alloc _ _
  have k1 := Lib.hid (show MatK W1 G1 39 3 A1 3 c1 [[4],[4],[0]] from ⟨by rw [hW1, hG1]; exact MatB.new _ _, r1.below ba⟩)
  replace b := below_trans2 b ba
  clear ba r1
  replace bb := Lib.hid (below_trans2 bb.out b)
  clear b
  go_wp2_with fail
  rw [← hW1, ← hG1]
  clear hW1 hG1
  have qk10 := k1.out.1.c0
  have qk11 := k1.out.1.c1
  refine (cA.out A1 c1 W1 k1.out.2).mono ?_; rintro e w2 ⟨D, m, d, rfl, hL, hmd, hdm, b⟩
  replace hL := Lib.hid hL
  replace k1 := Lib.hid (k1.out.below b)
  replace qk10 := k1.out.1.c0
  replace qk11 := k1.out.1.c1
  replace bb := Lib.hid (below_trans2 bb.out b)
  clear b
  obtain ⟨V2, hV2⟩ : ∃ V, V = w2.alloc (.cells #[.int .i64 0, .int .i64 1] 3) := ⟨_, rfl⟩
  have bV : Below w2.heap.size w2 V2 := by rw [hV2]; exact below_alloc _ _
  have l2 := Lib.hid (show LAt encI V2 (some ⟨w2.heap.size, 0, none⟩) 2 [0, 1] from by rw [hV2]; exact LAt.of_blk (t := 3) (Blk.new w2 _ (encI.all [0, 1])) (fun x hx => by simp only [List.mem_cons, List.not_mem_nil, or_false] at hx; rcases hx with rfl | rfl <;> exact ⟨by decide, by decide⟩) rfl)
  replace hL := Lib.hid (hL.out.below bV)
  replace k1 := Lib.hid (k1.out.below bV)
  replace qk10 := k1.out.1.c0
  replace qk11 := k1.out.1.c1
  replace bb := Lib.hid (below_trans2 bb.out bV)
  clear bV
  have cI := Lib.hid (ints_same (c' := d) (d' := 2) hL.out l2.out hmd hdm (Nat.le_refl 2) (by omega))
  go_wp2_with (rw [← hV2]; clear hV2)
  refine cI.out.mono ?_; rintro e w3 ⟨rfl, b⟩
  replace k1 := Lib.hid (k1.out.below b)
  replace qk10 := k1.out.1.c0
  replace qk11 := k1.out.1.c1
  replace bb := Lib.hid (below_trans2 bb.out b)
  clear b
  clear hL l2 cI
  go_wp2_with fail
  refine (cB.out A1 c1 w3 k1.out.2).mono ?_; rintro e w4 ⟨D2, m2, d2, rfl, hL, hmd2, hdm2, b⟩
  replace hL := Lib.hid hL
  replace k1 := Lib.hid (k1.out.below b)
  replace qk10 := k1.out.1.c0
  replace qk11 := k1.out.1.c1
  replace bb := Lib.hid (below_trans2 bb.out b)
  clear b
  obtain ⟨V4, hV4⟩ : ∃ V, V = w4.alloc (.cells #[.int .i64 0] 3) := ⟨_, rfl⟩
  have bV : Below w4.heap.size w4 V4 := by rw [hV4]; exact below_alloc _ _
  have l2 := Lib.hid (show LAt encI V4 (some ⟨w4.heap.size, 0, none⟩) 1 [0] from by rw [hV4]; exact LAt.lit1 (E := encI) _ _ 0 ⟨by decide, by decide⟩)
  replace hL := Lib.hid (hL.out.below bV)
  replace k1 := Lib.hid (k1.out.below bV)
  replace qk10 := k1.out.1.c0
  replace qk11 := k1.out.1.c1
  replace bb := Lib.hid (below_trans2 bb.out bV)
  clear bV
  have cI := Lib.hid (ints_same (c' := d2) (d' := 1) hL.out l2.out hmd2 hdm2 (Nat.le_refl 1) (by omega))
  go_wp2_with (rw [← hV4]; clear hV4)
  refine cI.out.mono ?_; rintro e w5 ⟨rfl, b⟩
  replace k1 := Lib.hid (k1.out.below b)
  replace qk10 := k1.out.1.c0
  replace qk11 := k1.out.1.c1
  replace bb := Lib.hid (below_trans2 bb.out b)
  clear b
  clear hL l2 cI
  go_wp2_with fail
  refine (cC.out A1 c1 w5 k1.out.2).mono ?_; rintro e w6 ⟨D3, m3, d3, rfl, hL, hmd3, hdm3, b⟩
  obtain rfl : m3 = 0 := by have := hL.len; simpa using this.symm
  clear hL
  replace k1 := Lib.hid (k1.out.below b)
  replace qk10 := k1.out.1.c0
  replace qk11 := k1.out.1.c1
  replace bb := Lib.hid (below_trans2 bb.out b)
  clear b
  go_wp2_with fail
  go_ret
  exact ⟨rfl, bb.out⟩
end Go.Proofs.Ytkaohfgpibbkiaa

namespace Go.Proofs.Ytkaohfgpibbkiaa
open Go.RowKit
set_option linter.unusedVariables false

/-- a slice somewhere in a block of the call's own, that reads as the numbers zs -/
def QN (w : World) (base : Nat) (t : TypeId) (v : Value) (zs : List Nat) : Prop :=
  ∃ g off cap cs, v = .slice (some ⟨g, off, none⟩) zs.length cap ∧ base ≤ g ∧ w.heap[g]? = some (.cells cs t (0, 0)) ∧ zs.length ≤ cap ∧ cap ≤ maxLen ∧ off + cap ≤ cs.size ∧ ∀ (j z : Nat), zs[j]? = some z → cs[off + j]? = some (.int .i64 (z : Int))
def qlen : Value → Nat
  | .slice _ n _ => n
  | _ => 0
section
variable {w w' : World} {base : Nat} {t : TypeId} {v : Value} {zs : List Nat}
theorem cell_cells {w : World} {g : Nat} {cs : Array Value} {t : TypeId} {fr : Nat × Nat} (h : w.heap[g]? = some (.cells cs t fr)) (i : Nat) : w.cell? ⟨g, i, none⟩ = cs[i]? := cell_of_row w g i cs t fr h
theorem frozen_cells {w : World} {g : Nat} {cs : Array Value} {t : TypeId} (h : w.heap[g]? = some (.cells cs t (0, 0))) (i : Nat) : w.frozen? ⟨g, i, none⟩ = false := by simp [World.frozen?, h]
theorem QN.qlen_ (h : QN w base t v zs) : qlen v = zs.length := by obtain ⟨g, off, cap, cs, rfl, _⟩ := h; rfl
theorem QN.of_own {n : Nat} (h : w.ownsRow base t 1 v n (zs.map natv)) (h0 : 0 < n) : QN w base t v zs := by
  have hl : zs.length = n := by have := h.1; simpa using this
  rcases h.2 with ⟨h1, h2⟩ | ⟨g, cap, cur, rfl, hbg, hg, hnc, hcm, hcs, htake⟩
  · omega
  · refine ⟨g, 0, cap, cur, by rw [hl], hbg, hg, by omega, hcm, by omega, fun j z hj => ?_⟩
    have hjl := (List.getElem?_eq_some_iff.1 hj).1
    have : (zs.map natv)[j]? = some (natv z) := by rw [List.getElem?_map, hj]; rfl
    rw [← htake, List.getElem?_take_of_lt (by omega)] at this
    rw [Nat.zero_add]
    simpa [natv] using this
theorem QN.lt (h : QN w base t v zs) : ∀ g, v.ownBlock = some g → base ≤ g ∧ g < w.heap.size := by
  obtain ⟨g, off, cap, cs, rfl, hb, hg, _⟩ := h
  intro k hk
  have : g = k := by simpa [Value.ownBlock] using hk
  subst this
  exact ⟨hb, (Array.getElem?_eq_some_iff.1 hg).1⟩
theorem QN.below (h : QN w base t v zs) (hb : Below w.heap.size w w') : QN w' base t v zs := by
  obtain ⟨g, off, cap, cs, hv, h1, hg, r⟩ := h
  exact ⟨g, off, cap, cs, hv, h1, (hb.block g (Array.getElem?_eq_some_iff.1 hg).1).trans hg, r⟩
theorem QN.far (h : QN w base t v zs) {p : Addr} (hp : v.ownBlock ≠ some p.block) (u : Value) : QN (w.setCell p u) base t v zs := by
  obtain ⟨g, off, cap, cs, rfl, h1, hg, r⟩ := h
  refine ⟨g, off, cap, cs, rfl, h1, ?_, r⟩
  rw [Below.heap_setCell w p u g (fun e => hp (by rw [← e]; rfl))]; exact hg
/-- 'q[0]', 'q[1:]' -/
theorem QN.pop {z : Nat} (h : QN w base t v (z :: zs)) : ∃ g off cap, v = .slice (some ⟨g, off, none⟩) (zs.length + 1) cap ∧ w.cell? ⟨g, off, none⟩ = some (.int .i64 (z : Int)) ∧ zs.length + 1 ≤ cap ∧
    (cap = 1 → QN w base t (.slice (some ⟨g, off, none⟩) zs.length 0) zs) ∧ (cap ≠ 1 → QN w base t (.slice (some ⟨g, off + 1, none⟩) zs.length (cap - 1)) zs) := by
  obtain ⟨g, off, cap, cs, hv, h1, hg, hl, hm, hs, hc⟩ := h
  have hl' : zs.length + 1 ≤ cap := by simpa using hl
  refine ⟨g, off, cap, by rw [hv]; simp, ?_, hl', fun hc1 => ?_, fun hc1 => ?_⟩
  · rw [cell_cells hg]
    have := hc 0 z rfl
    simpa using this
  · have : zs = [] := List.eq_nil_of_length_eq_zero (by omega)
    subst this
    exact ⟨g, off, 0, cs, rfl, h1, hg, Nat.le_refl _, by omega, by omega, fun j z h => by simp at h⟩
  · refine ⟨g, off + 1, cap - 1, cs, rfl, h1, hg, by omega, by omega, by omega, fun j z' hj => ?_⟩
    have := hc (j + 1) z' (by simpa using hj)
    rw [show off + 1 + j = off + (j + 1) by omega]; exact this
theorem QN.nil (h : QN w base t v []) : ∃ g off cap, v = .slice (some ⟨g, off, none⟩) 0 cap := by
  obtain ⟨g, off, cap, cs, hv, _⟩ := h
  exact ⟨g, off, cap, by simpa using hv⟩
end
section
variable {P : Program}
/-- 'q = append(q, x)' -/
theorem run_append_q (w : World) (base : Nat) (t ty e : TypeId) (i : TypeInfo) (z : Value) (ht : P.underlying t = some (.slice e)) (hi : P.info? e = some i) (hz : i.zero = some z) (hsize : i.size = 1) (hby : i.bytes = 8) (hzs : z.cells.size = 1)
    {v : Value} {zs : List Nat} (hq : QN w base e v zs) (ad : Addr) (c x : Nat) (hx : w.cell? ad = some (.int .i64 (x : Int))) (hn : zs.length ≤ 1073741824) (hbase : base ≤ w.heap.size) :
    ∃ v' w', (Builtin.append_ #[t, t] ty #[v, .slice (some ad) 1 c]).run P w = .ok v' w' ∧ QN w' base e v' (zs ++ [x]) ∧ w.grownBy w' v.ownBlock := by
  obtain ⟨g, off, cap, cs, rfl, hb, hg, hl, hm, hs, hc⟩ := hq
  have hnews : ∀ j u, [Value.int .i64 (x : Int)][j]? = some u → w.cell? (ad.add j) = some u := fun j u hj => by
    match j, hj with
    | 0, hj =>
      have ha : ad.add 0 = ad := by obtain ⟨b, o, s⟩ := ad; unfold Addr.add; split <;> simp_all
      rw [ha, hx]
      simpa using hj
    | j + 1, hj => simp at hj
  by_cases hr : zs.length + 1 ≤ cap
  · have hcell : (w.cell? ⟨g, off + zs.length, none⟩).isSome = true := by
      rw [cell_cells hg, Array.getElem?_eq_getElem (by omega)]; rfl
    have hrun := run_append_room_cells (P := P) w t ty e i ht hi g off zs.length cap ad 1 c [.int .i64 (x : Int)] (by rw [hsize]; rfl) hnews (by simp [Value.oneCell']) hr
      (fun j hj => by
        have : j = 0 := by simpa using hj
        subst this
        rw [hsize]; simpa using hcell)
      (fun j hj => frozen_cells hg _)
    rw [hsize, Nat.mul_one] at hrun
    have hset : w.setCells g (off + zs.length) [.int .i64 (x : Int)] = w.setCell ⟨g, off + zs.length, none⟩ (.int .i64 (x : Int)) := rfl
    rw [hset] at hrun
    refine ⟨_, _, hrun, ⟨g, off, cap, cs.set! (off + zs.length) (.int .i64 (x : Int)), by simp, hb, ?_, by simpa using hr, hm, by simpa using hs, fun j z' hj => ?_⟩, ?_⟩
    · simp [World.setCell, Array.getElem?_modify, hg]
    · simp only [Array.set!_eq_setIfInBounds, Array.getElem?_setIfInBounds]
      rcases Nat.lt_or_ge j zs.length with hj' | hj'
      · rw [List.getElem?_append_left hj'] at hj
        rw [if_neg (by omega)]
        exact hc j z' hj
      · rw [List.getElem?_append_right hj'] at hj
        have hj0 : j - zs.length = 0 := by
          have := (List.getElem?_eq_some_iff.1 hj).1
          simpa using this
        rw [hj0] at hj
        simp at hj
        rw [if_pos (by omega), if_pos (by omega), hj]
    · exact ⟨rfl, rfl, rfl, by simp, fun k hk hne => Below.heap_setCell w _ _ k (by
        intro e'
        apply hne
        have e2 : k = g := e'
        rw [e2]; rfl)⟩
  · obtain ⟨v', w', hrun, hown, hgrow⟩ := run_append_arg_grows (P := P) w t ty e i z 1 8 ht hi hz hsize hby hzs (by omega) ⟨g, off, none⟩ zs.length cap (zs.map natv) (by simp)
      (fun j u hj => by
        rw [List.getElem?_map] at hj
        cases hh : zs[j]? with
        | none => rw [hh] at hj; cases hj
        | some y =>
          rw [hh] at hj
          have ha : (⟨g, off, none⟩ : Addr).add j = ⟨g, off + j, none⟩ := by unfold Addr.add; split <;> simp_all
          rw [ha, cell_cells hg, hc j y hh]
          simpa [natv] using hj)
      ad 1 c [.int .i64 (x : Int)] rfl hnews (by omega) (by unfold maxLen; omega) (by omega)
    refine ⟨v', w', hrun, ?_, ⟨hgrow.os, hgrow.tape, hgrow.output, hgrow.size, fun k hk _ => hgrow.block k hk (by simp)⟩⟩
    have h2 : w'.ownsRow base e 1 v' (zs.length + 1) ((zs ++ [x]).map natv) := by
      rw [List.map_append]
      exact own_base hown hbase
    exact QN.of_own h2 (by omega)
theorem wpList_append_q (w : World) {ops : Array Oper} {rest : List Oper} {o : Oper} {a : Act} {Q : Exit → Act → World → Prop} (hgd : o.guard = none) (s x : Operand) (t : TypeId)
    (ho : o.op = .call { callee := .builtin .append, args := #[s, x], argTypes := #[t, t] })
    (base : Nat) (e : TypeId) (i : TypeInfo) (z : Value) (ht : P.underlying t = some (.slice e)) (hi : P.info? e = some i) (hz : i.zero = some z) (hsize : i.size = 1) (hby : i.bytes = 8) (hzs : z.cells.size = 1)
    {v : Value} {zs : List Nat} (hs : a.eval s = v) (hq : QN w base e v zs) (ad : Addr) (c y : Nat) (hx : a.eval x = .slice (some ad) 1 c) (hy : w.cell? ad = some (.int .i64 (y : Int))) (hn : zs.length ≤ 1073741824) (hbase : base ≤ w.heap.size)
    (hK : ∀ v' w', QN w' base e v' (zs ++ [y]) → w.grownBy w' v.ownBlock → wpList P ops Q rest (a.put o.dst v') w') : wpList P ops Q (o :: rest) a w := by
  refine wpList_plain hgd fun K hK' => ?_
  obtain ⟨v', w', hrun, h1, h2⟩ := run_append_q (P := P) w base t o.type e i z ht hi hz hsize hby hzs hq ad c y hy hn hbase
  unfold Oper.wp
  simp [execOp, ho, resolve, invoke, builtin, hs, hx, hrun, Result.andThen]
  exact hK' _ _ (hK v' w' h1 h2)
end

/-! ### how many are not seen yet -/
def zeroOf : Bool → Nat
  | true => 0
  | false => 1
def unseen (bs : List Bool) : Nat := (bs.map zeroOf).sum
theorem unseen_set {bs : List Bool} {j : Nat} (h : bs[j]? = some false) : unseen (bs.set j true) + 1 = unseen bs := by
  unfold unseen
  rw [List.map_set]
  have := sum_set (bs.map zeroOf) j (zeroOf true) (zeroOf false) (by rw [List.getElem?_map, h]; rfl)
  simpa [zeroOf] using this
theorem unseen_all (n : Nat) : unseen (List.replicate n false) = n := by
  unfold unseen
  induction n with
  | zero => rfl
  | succ n ih => rw [List.replicate_succ, List.map_cons, List.sum_cons, ih]; simp [zeroOf]; omega
def zeroV : Value → Nat
  | .bool false => 1
  | _ => 0
/-- .. as memory has it -/
def unseenW (w : World) (g : Nat) : Nat := match w.heap[g]? with
  | some (.cells cs _ _) => (cs.toList.map zeroV).sum
  | _ => 0
theorem unseenW_blk {w : World} {g : Nat} {t : TypeId} {bs : List Bool} (h : Blk w g t (bs.map .bool)) : unseenW w g = unseen bs := by
  unfold Blk at h
  unfold unseenW unseen
  rw [h]
  simp only [List.map_map]
  congr 1
  apply List.map_congr_left
  intro b _
  cases b <;> rfl

/-! ### the search -/
structure ReachI (n : Nat) (a : List (List Nat)) (i : Nat) (E : Nat → Nat → Prop) (bs : List Bool) (zs : List Nat) : Prop where
  len : bs.length = n
  seen : ∀ x : Nat, bs[x]? = some true → Conn (Rel a) i x
  todo : ∀ z ∈ zs, z < n ∧ (z = i ∨ Conn (Rel a) i z)
  done : ∀ x y : Nat, (x = i ∨ bs[x]? = some true) → Rel a x y → bs[y]? = some true ∨ x ∈ zs ∨ E x y
section
variable {n : Nat} {a : List (List Nat)} {i : Nat} {bs : List Bool} {zs : List Nat}
theorem ReachI.start (hi : i < n) : ReachI n a i (fun _ _ => False) (List.replicate n false) [i] :=
  ⟨by simp, fun x h => by rw [List.getElem?_replicate] at h; split at h <;> simp at h, fun z hz => by rw [List.mem_singleton.1 hz]; exact ⟨hi, .inl rfl⟩, fun x y h _ => by
    rcases h with rfl | h
    · exact .inr (.inl (List.mem_singleton.2 rfl))
    · rw [List.getElem?_replicate] at h; split at h <;> simp at h⟩
theorem ReachI.pop {z : Nat} (h : ReachI n a i (fun _ _ => False) bs (z :: zs)) : ReachI n a i (fun x y => x = z ∧ 0 ≤ y) bs zs :=
  ⟨h.len, h.seen, fun y hy => h.todo y (List.mem_cons_of_mem _ hy), fun x y h1 h2 => by
    rcases h.done x y h1 h2 with h3 | h3 | h3
    · exact .inl h3
    · rcases List.mem_cons.1 h3 with rfl | h4
      · exact .inr (.inr ⟨rfl, Nat.zero_le _⟩)
      · exact .inr (.inl h4)
    · exact h3.elim⟩
theorem ReachI.skip {z j : Nat} (h : ReachI n a i (fun x y => x = z ∧ j ≤ y) bs zs) (hj : ¬ Rel a z j ∨ bs[j]? = some true) : ReachI n a i (fun x y => x = z ∧ j + 1 ≤ y) bs zs :=
  ⟨h.len, h.seen, h.todo, fun x y h1 h2 => by
    rcases h.done x y h1 h2 with h3 | h3 | ⟨rfl, h4⟩
    · exact .inl h3
    · exact .inr (.inl h3)
    · rcases Nat.lt_or_ge j y with h5 | h5
      · exact .inr (.inr ⟨rfl, h5⟩)
      · obtain rfl : j = y := by omega
        rcases hj with hj | hj
        · exact absurd h2 hj
        · exact .inl hj⟩
theorem ReachI.push {z j : Nat} (h : ReachI n a i (fun x y => x = z ∧ j ≤ y) bs zs) (hz : z = i ∨ Conn (Rel a) i z) (hj : Rel a z j) (hjn : j < n) : ReachI n a i (fun x y => x = z ∧ j + 1 ≤ y) (bs.set j true) (zs ++ [j]) := by
  have hc : Conn (Rel a) i j := by
    rcases hz with rfl | hz
    · exact .one hj
    · exact .step hz hj
  have hjs : (bs.set j true)[j]? = some true := by rw [List.getElem?_set, if_pos rfl, if_pos (by rw [h.len]; exact hjn)]
  have old : ∀ x : Nat, (bs.set j true)[x]? = some true → x = j ∨ bs[x]? = some true := fun x hx => by
    rw [List.getElem?_set] at hx
    by_cases e : j = x
    · exact .inl e.symm
    · rw [if_neg e] at hx; exact .inr hx
  have new : ∀ x : Nat, bs[x]? = some true → (bs.set j true)[x]? = some true := fun x hx => by
    by_cases e : j = x
    · subst e; exact hjs
    · rw [List.getElem?_set, if_neg e]; exact hx
  refine ⟨by rw [List.length_set]; exact h.len, fun x hx => ?_, fun y hy => ?_, fun x y h1 h2 => ?_⟩
  · rcases old x hx with rfl | hx
    · exact hc
    · exact h.seen x hx
  · rcases List.mem_append.1 hy with hy | hy
    · exact h.todo y hy
    · rw [List.mem_singleton.1 hy]; exact ⟨hjn, .inr hc⟩
  · have h1' : x = j ∨ (x = i ∨ bs[x]? = some true) := by
      rcases h1 with h1 | h1
      · exact .inr (.inl h1)
      · rcases old x h1 with h3 | h3
        · exact .inl h3
        · exact .inr (.inr h3)
    rcases h1' with rfl | h1'
    · exact .inr (.inl (List.mem_append.2 (.inr (List.mem_singleton.2 rfl))))
    · rcases h.done x y h1' h2 with h3 | h3 | ⟨rfl, h4⟩
      · exact .inl (new y h3)
      · exact .inr (.inl (List.mem_append.2 (.inl h3)))
      · rcases Nat.lt_or_ge j y with h5 | h5
        · exact .inr (.inr ⟨rfl, h5⟩)
        · obtain rfl : j = y := by omega
          exact .inl hjs
theorem ReachI.next {z : Nat} (hG : Good n a) (h : ReachI n a i (fun x y => x = z ∧ n ≤ y) bs zs) : ReachI n a i (fun _ _ => False) bs zs :=
  ⟨h.len, h.seen, h.todo, fun x y h1 h2 => by
    rcases h.done x y h1 h2 with h3 | h3 | ⟨rfl, h4⟩
    · exact .inl h3
    · exact .inr (.inl h3)
    · exact absurd (hG.has_lt h2).2 (by omega)⟩
theorem ReachI.all (h : ReachI n a i (fun _ _ => False) bs []) (x : Nat) : bs[x]? = some true ↔ Conn (Rel a) i x := by
  refine ⟨h.seen x, fun hc => ?_⟩
  induction hc with
  | one h1 =>
    rcases h.done i _ (.inl rfl) h1 with h2 | h2 | h2
    · exact h2
    · cases h2
    · exact h2.elim
  | step _ h1 ih =>
    rcases h.done _ _ (.inr ih) h1 with h2 | h2 | h2
    · exact h2
    · cases h2
    · exact h2.elim
end

end Go.Proofs.Ytkaohfgpibbkiaa
