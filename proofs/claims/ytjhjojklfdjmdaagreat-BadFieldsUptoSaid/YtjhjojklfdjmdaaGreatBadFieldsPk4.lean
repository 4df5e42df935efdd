/- Plain facts of matrices that may be: parts of one another, together, whether a pair is there. Words for memory: a variable that holds a matrix, with its rows. No function of the program is named here. Plain mathematics of what follows from pairs: hulls, as the least closed ones. Nothing of the program is named. Plain mathematics of layer 12: the matrix of a history's sessions is closed, doesn't go round, and has n (n - 1) / 2 pairs of each session. Nothing of the program is named. Plain mathematics of layer 10: writes of values, differentiated facts. Nothing of the program is named. Plain mathematics of layer 11: what reads read from. Nothing of the program is named. Plain mathematics of layer 13: writes and their reads, the edges, causal order. Nothing of the program is named. Plain mathematics of layer 17: conflicts, in order, and the hull of a matrix with them. Nothing of the program is named. Plain mathematics of layer 18: what an operation has seen, round by round. Nothing of the program is named. Plain mathematics of layer 16: what is ahead of an operation. Nothing of the program is named. A queue of numbers of a call's own: 'q = q[1:]', 'q = append(q, x)'. No function of the program is named here. And the search over a matrix's pairs, as plain mathematics. Contracts of package hull: place, below, Closed, Loop. Contracts of the document's own answers of layer 4: Closed, Loop. Contract of the document's own answer: Reach (a search with a queue). Contracts of the document's own answers of layer 4: Close, Add. Contracts of the document's own answers for matrices: Pairs. Contracts of the document's own answers for matrices: Turn. Contract of the document's own answer: Within. Plain mathematics of layer 19: the patterns, each kind's first one. Nothing of the program is named. Facts in a variable (FBox), as the document's answers of layers 10 and on box them. The contracts of the document's own answers of layer 10: Write, Check. -/
import Derived.Test.YtjhjojklfdjmdaaGreatBadFieldsPk3
import Derived.Test.YtjhjojklfdjmdaaGreatBadFieldsPk2
import Derived.Test.YtjhjojklfdjmdaaGreatBadFieldsPk1
import Derived.ArgAppend
import Derived.Test.YtjhjojklfdjmdaaGreatProg
namespace Go.Proofs.YtjhjojklfdjmdaaGreat
open Go.RowKit
set_option linter.unusedVariables false

theorem Good.in_has {n : Nat} {a : List (List Nat)} (h : Good n a) (i j : Int) : (inM (n : Int) i j && hasM a i j) = hasM a i j := by
  cases hh : hasM a i j with
  | false => rw [Bool.and_false]
  | true =>
    have h0 : 0 ≤ i := by
      refine Decidable.byContradiction fun hc => ?_
      rw [hasM_out (.inl (by omega))] at hh; cases hh
    obtain ⟨k, rfl⟩ := Int.eq_ofNat_of_zero_le h0
    have h1 : 0 ≤ j := by
      refine Decidable.byContradiction fun hc => ?_
      by_cases hk : k < a.length
      · rw [hasM_in (List.getElem?_eq_getElem hk), hasR_out _ _ (.inl (by omega))] at hh; cases hh
      · rw [hasM_out (.inr (by omega))] at hh; cases hh
    obtain ⟨q, rfl⟩ := Int.eq_ofNat_of_zero_le h1
    obtain ⟨h2, h3⟩ := h.has_lt hh
    rw [Bool.and_true]
    unfold inM; simp; omega
theorem orM_len (a b : List (List Nat)) : (orM a b).length = a.length := by simp [orM]
theorem Good.same_len {n : Nat} {a b : List (List Nat)} (ha : Good n a) (hb : Good n b) : ∀ (i : Nat) (xs ys : List Nat), a[i]? = some xs → b[i]? = some ys → xs.length = ys.length ∧ xs.length ≤ 1024 := fun i xs ys h1 h2 => by
  have k1 := ha.row xs (List.mem_of_getElem? h1)
  have k2 := hb.row ys (List.mem_of_getElem? h2)
  have k3 := ha.small xs (List.mem_of_getElem? h1)
  exact ⟨by rw [k1.2.2.1, k2.2.2.1], by omega⟩

end Go.Proofs.YtjhjojklfdjmdaaGreat

namespace Go.Proofs.YtjhjojklfdjmdaaGreat
open Go.RowKit
set_option linter.unusedVariables false

/-- block g is a variable that holds the matrix of N and xss -/
def MatK (w : World) (g : Nat) (t : TypeId) (N : Int) (A : Option Addr) (n c : Nat) (xss : List (List Nat)) : Prop := MatB w g t N A n c ∧ RowsAt w A n xss
section
variable {w w' : World} {g : Nat} {t : TypeId} {N : Int} {A : Option Addr} {n c : Nat} {xss : List (List Nat)}
theorem MatB.below (h : MatB w g t N A n c) (hb : Below w.heap.size w w') : MatB w' g t N A n c := h.below_ hb
theorem MatK.below (h : MatK w g t N A n c xss) (hb : Below w.heap.size w w') : MatK w' g t N A n c xss := ⟨h.1.below_ hb, h.2.below hb⟩
theorem MatK.new (w : World) (t : TypeId) (hr : RowsAt w A n xss) : MatK (w.alloc (.cells #[.int .i64 N, .slice A n c] t)) w.heap.size t N A n c xss := ⟨MatB.new w t, hr.below ((Below.refl _ _).alloc (Nat.le_refl _) _)⟩
theorem below_alloc (w : World) (o : Obj) : Below w.heap.size w (w.alloc o) := (Below.refl _ _).alloc (Nat.le_refl _) _
end

/-- what comes behind several orders, walked once: 'apply cut_three (F := ..)'; the orders first, each ends in 'key'; then the rest -/
theorem cut_three {Goal F : Nat → Nat → World → Prop} {R : Prop} (h1 : (∀ a b c, F a b c → Goal a b c) → R) (h2 : ∀ a b c, F a b c → Goal a b c) : R := h1 h2

end Go.Proofs.YtjhjojklfdjmdaaGreat

namespace Go.Proofs.YtjhjojklfdjmdaaGreat
open Go.RowKit
set_option linter.unusedVariables false

/-- what follows from r -/
inductive Conn (r : Nat → Nat → Prop) : Nat → Nat → Prop where
  | one {i j : Nat} (h : r i j) : Conn r i j
  | step {i j k : Nat} (h : Conn r i j) (h2 : r j k) : Conn r i k
def Trans2 (s : Nat → Nat → Prop) : Prop := ∀ i j k, s i j → s j k → s i k
theorem Conn.trans {r : Nat → Nat → Prop} {i j k : Nat} (h1 : Conn r i j) (h2 : Conn r j k) : Conn r i k := by
  induction h2 with
  | one h => exact .step h1 h
  | step _ h ih => exact .step ih h
theorem Conn.least {r s : Nat → Nat → Prop} (hs : Trans2 s) (h : ∀ i j, r i j → s i j) {i j : Nat} (hc : Conn r i j) : s i j := by
  induction hc with
  | one h1 => exact h _ _ h1
  | step _ h2 ih => exact hs _ _ _ ih (h _ _ h2)
theorem Conn.mono {r s : Nat → Nat → Prop} (h : ∀ i j, r i j → s i j) {i j : Nat} (hc : Conn r i j) : Conn s i j :=
  Conn.least (s := Conn s) (fun a b c h1 h2 => Conn.trans h1 h2) (fun a b h1 => .one (h a b h1)) hc
theorem Conn.same {r s : Nat → Nat → Prop} (h : ∀ i j, r i j ↔ s i j) (i j : Nat) : Conn r i j ↔ Conn s i j := ⟨Conn.mono fun _ _ h1 => (h _ _).1 h1, Conn.mono fun _ _ h1 => (h _ _).2 h1⟩
theorem Conn.of_trans {r : Nat → Nat → Prop} (hr : Trans2 r) {i j : Nat} : Conn r i j ↔ r i j := ⟨Conn.least hr fun _ _ h => h, .one⟩

/-- Warshall: what follows over numbers below k -/
def Wk (r : Nat → Nat → Prop) : Nat → Nat → Nat → Prop
  | 0, i, j => r i j
  | k + 1, i, j => Wk r k i j ∨ (Wk r k i k ∧ Wk r k k j)
theorem Wk.conn {r : Nat → Nat → Prop} : ∀ (k i j : Nat), Wk r k i j → Conn r i j
  | 0, _, _, h => .one h
  | k + 1, i, j, .inl h => Wk.conn k i j h
  | k + 1, i, j, .inr h => (Wk.conn k i k h.1).trans (Wk.conn k k j h.2)
theorem Wk.mono {r : Nat → Nat → Prop} {i j : Nat} (h : r i j) : ∀ k, Wk r k i j
  | 0 => h
  | k + 1 => .inl (Wk.mono h k)
theorem Wk.join {r : Nat → Nat → Prop} : ∀ (k m i j : Nat), m < k → Wk r k i m → Wk r k m j → Wk r k i j
  | 0, m, _, _, hm, _, _ => absurd hm (by omega)
  | k + 1, m, i, j, hm, h1, h2 => by
    have e1 : Wk r k i m ∨ (Wk r k i k ∧ Wk r k k m) := h1
    have e2 : Wk r k m j ∨ (Wk r k m k ∧ Wk r k k j) := h2
    show Wk r k i j ∨ (Wk r k i k ∧ Wk r k k j)
    rcases Nat.lt_succ_iff_lt_or_eq.1 hm with hlt | rfl
    · rcases e1 with a | ⟨a, b⟩ <;> rcases e2 with c | ⟨c, d⟩
      · exact .inl (Wk.join k m i j hlt a c)
      · exact .inr ⟨Wk.join k m i k hlt a c, d⟩
      · exact .inr ⟨a, Wk.join k m k j hlt b c⟩
      · exact .inr ⟨a, d⟩
    · have a : Wk r m i m := e1.elim (fun h => h) (fun h => h.1)
      have b : Wk r m m j := e2.elim (fun h => h) (fun h => h.2)
      exact .inr ⟨a, b⟩
theorem Wk.all {r : Nat → Nat → Prop} {n : Nat} (hr : ∀ i j, r i j → i < n ∧ j < n) (i j : Nat) : Wk r n i j ↔ Conn r i j := by
  refine ⟨Wk.conn n i j, fun h => ?_⟩
  induction h with
  | one h => exact Wk.mono h n
  | step h1 h2 ih => exact Wk.join n _ _ _ (hr _ _ h2).1 ih (Wk.mono h2 n)

/-- the relation of a matrix -/
def Rel (a : List (List Nat)) (i j : Nat) : Prop := hasM a (i : Int) (j : Int) = true
theorem Good.rel_lt {n : Nat} {a : List (List Nat)} (h : Good n a) : ∀ i j, Rel a i j → i < n ∧ j < n := fun _ _ h1 => h.has_lt h1
/-- h is the hull of r among n numbers -/
def IsHull (n : Nat) (r : Nat → Nat → Prop) (h : List (List Nat)) : Prop := Good n h ∧ ∀ i j : Nat, Rel h i j ↔ Conn r i j
def ClosedM (a : List (List Nat)) : Prop := Trans2 (Rel a)
theorem rel_ext {n : Nat} {a b : List (List Nat)} (ha : Good n a) (hb : Good n b) (h : ∀ i j : Nat, Rel a i j ↔ Rel b i j) : a = b :=
  good_ext ha hb fun i j _ _ => by
    have := h i j
    unfold Rel at this
    cases h1 : hasM a (i : Int) (j : Int) with
    | true => rw [this.1 h1]
    | false =>
      cases h2 : hasM b (i : Int) (j : Int) with
      | true => rw [this.2 h2] at h1; cases h1
      | false => rfl
theorem IsHull.unique {n : Nat} {r s : Nat → Nat → Prop} {h k : List (List Nat)} (h1 : IsHull n r h) (h2 : IsHull n s k) (he : ∀ i j, Conn r i j ↔ Conn s i j) : h = k :=
  rel_ext h1.1 h2.1 fun i j => by rw [h1.2, h2.2, he]
theorem IsHull.closed {n : Nat} {r : Nat → Nat → Prop} {h : List (List Nat)} (h1 : IsHull n r h) : ClosedM h := fun i j k a b => by
  rw [h1.2] at a b ⊢
  exact a.trans b

/-- the row i of step k: joined with row k, if it has k -/
def stepR (a : List (List Nat)) (k : Nat) (r : List Nat) : List Nat := if hasR r (k : Int) = true then orR r (a.getD k []) else r
def stepM (a : List (List Nat)) (k q : Nat) : List (List Nat) := (List.range a.length).map fun i => if i < q then stepR a k (a.getD i []) else a.getD i []
theorem stepM_len (a : List (List Nat)) (k q : Nat) : (stepM a k q).length = a.length := by simp [stepM]
theorem stepM_get {a : List (List Nat)} {k q i : Nat} {r : List Nat} (h : a[i]? = some r) : (stepM a k q)[i]? = some (if i < q then stepR a k r else r) := by
  unfold stepM
  have hi := (List.getElem?_eq_some_iff.1 h).1
  rw [List.getElem?_map, List.getElem?_range hi, Option.map_some, getD_at h]
theorem stepM_zero (a : List (List Nat)) (k : Nat) : stepM a k 0 = a := by
  unfold stepM
  simp only [Nat.not_lt_zero, if_false]
  rw [map_range_getD a [] (fun x => x)]; simp
theorem stepM_succ {a : List (List Nat)} {k q : Nat} {r : List Nat} (h : a[q]? = some r) : stepM a k (q + 1) = (stepM a k q).set q (stepR a k r) := by
  apply List.ext_getElem?
  intro i
  rw [List.getElem?_set]
  by_cases hi : i < a.length
  · have hx : a[i]? = some a[i] := List.getElem?_eq_getElem hi
    rw [stepM_get hx, stepM_len]
    by_cases hq : q = i
    · subst hq
      rw [h] at hx
      injection hx with hx
      rw [if_pos (by omega), if_pos rfl, if_pos hi, hx]
    · rw [if_neg hq, stepM_get hx]
      by_cases h1 : i < q
      · rw [if_pos h1, if_pos (by omega)]
      · rw [if_neg h1, if_neg (by omega)]
  · rw [List.getElem?_eq_none (by rw [stepM_len]; omega)]
    split
    · rename_i h1
      subst h1
      exact absurd (List.getElem?_eq_some_iff.1 h).1 hi
    · rw [List.getElem?_eq_none (by rw [stepM_len]; omega)]
theorem stepR_self {a : List (List Nat)} {k : Nat} {r : List Nat} (h : a[k]? = some r) : stepR a k r = r := by
  unfold stepR
  split
  · rw [getD_at h]
    unfold orR
    apply List.ext_getElem?
    intro j
    rw [Nat.max_self, List.getElem?_map]
    by_cases hj : j < r.length
    · rw [List.getElem?_range hj, Option.map_some, Nat.or_self, List.getD_eq_getElem?_getD, List.getElem?_eq_getElem hj]; rfl
    · rw [List.getElem?_eq_none (by simpa using hj), List.getElem?_eq_none (by omega)]; rfl
  · rfl
theorem stepM_through {a : List (List Nat)} {k q : Nat} {r : List Nat} (h : a[k]? = some r) : (stepM a k q)[k]? = some r := by
  rw [stepM_get h, stepR_self h]; simp
theorem stepR_good {n : Nat} {a : List (List Nat)} (ha : Good n a) {k : Nat} (hk : k < n) {r : List Nat} (hr : r ∈ a) : W64 (stepR a k r) ∧ (stepR a k r).length = r.length ∧ ∀ j : Nat, hasR (stepR a k r) (j : Int) = (hasR r (j : Int) || (hasR r (k : Int) && hasM a (k : Int) (j : Int))) := by
  obtain ⟨s, hs, hws, _⟩ := ha.at_ hk
  have h1 := ha.row r hr
  have h2 := ha.row s (List.mem_of_getElem? hs)
  unfold stepR
  rw [getD_at hs]
  by_cases h : hasR r (k : Int) = true
  · rw [if_pos h]
    refine ⟨orR_w64 h1.1 hws, by rw [orR_len, h1.2.2.1, h2.2.2.1, Nat.max_self], fun j => ?_⟩
    rw [hasR_orR, h, hasM_in hs, Bool.true_and]
  · rw [if_neg h]
    refine ⟨h1.1, rfl, fun j => ?_⟩
    rw [Bool.not_eq_true] at h
    rw [h, Bool.false_and, Bool.or_false]
theorem stepM_good {n : Nat} {a : List (List Nat)} (ha : Good n a) {k : Nat} (hk : k < n) (q : Nat) : Good n (stepM a k q) := by
  refine ⟨ha.le, by rw [stepM_len, ha.len], fun r hr => ?_⟩
  obtain ⟨i, hi⟩ := List.getElem?_of_mem hr
  have hil : i < a.length := by
    have := (List.getElem?_eq_some_iff.1 hi).1
    rwa [stepM_len] at this
  have hx : a[i]? = some a[i] := List.getElem?_eq_getElem hil
  rw [stepM_get hx] at hi
  injection hi with hi
  have h0 := ha.row _ (List.mem_of_getElem? hx)
  by_cases hq : i < q
  · rw [if_pos hq] at hi
    obtain ⟨h1, h2, h3⟩ := stepR_good ha hk (List.mem_of_getElem? hx)
    subst hi
    refine ⟨h1, by rw [h2]; exact h0.2.1, by rw [h2]; exact h0.2.2.1, fun j hj => ?_⟩
    rw [h3 j, h0.2.2.2 j hj]
    cases hh : hasM a (k : Int) (j : Int) with
    | false => simp
    | true => exact absurd (ha.has_lt hh).2 (by omega)
  · rw [if_neg hq] at hi
    subst hi
    exact h0
theorem stepM_rel {n : Nat} {a : List (List Nat)} (ha : Good n a) {k : Nat} (hk : k < n) (i j : Nat) : Rel (stepM a k n) i j ↔ Rel a i j ∨ (Rel a i k ∧ Rel a k j) := by
  unfold Rel
  by_cases hi : i < n
  · obtain ⟨r, hr, _, _⟩ := ha.at_ hi
    have h1 := stepM_get (k := k) (q := n) hr
    rw [if_pos hi] at h1
    obtain ⟨_, _, h3⟩ := stepR_good ha hk (List.mem_of_getElem? hr)
    rw [hasM_in h1, h3 j, hasM_in hr, hasM_in hr, Bool.or_eq_true, Bool.and_eq_true]
  · rw [hasM_out (xss := stepM a k n) (.inr (by rw [stepM_len, ha.len]; omega)), hasM_out (xss := a) (i := (i : Int)) (.inr (by rw [ha.len]; omega)), hasM_out (xss := a) (i := (i : Int)) (.inr (by rw [ha.len]; omega))]
    simp
/-- the hull, step by step -/
def closeK (a : List (List Nat)) : Nat → List (List Nat)
  | 0 => a
  | k + 1 => stepM (closeK a k) k a.length
theorem closeK_facts {n : Nat} {a : List (List Nat)} (ha : Good n a) : ∀ k, k ≤ n → Good n (closeK a k) ∧ ∀ i j, Rel (closeK a k) i j ↔ Wk (Rel a) k i j
  | 0, _ => ⟨ha, fun i j => Iff.rfl⟩
  | k + 1, hk => by
    obtain ⟨h1, h2⟩ := closeK_facts ha k (by omega)
    show Good n (stepM (closeK a k) k a.length) ∧ ∀ i j, Rel (stepM (closeK a k) k a.length) i j ↔ _
    rw [ha.len]
    refine ⟨stepM_good h1 (by omega) n, fun i j => ?_⟩
    rw [stepM_rel h1 (by omega)]
    show _ ↔ Wk (Rel a) k i j ∨ (Wk (Rel a) k i k ∧ Wk (Rel a) k k j)
    rw [h2, h2, h2]
theorem closeK_hull {n : Nat} {a : List (List Nat)} (ha : Good n a) : IsHull n (Rel a) (closeK a n) := by
  obtain ⟨h1, h2⟩ := closeK_facts ha n (Nat.le_refl _)
  exact ⟨h1, fun i j => by rw [h2, Wk.all ha.rel_lt]⟩

end Go.Proofs.YtjhjojklfdjmdaaGreat

namespace Go.Proofs.YtjhjojklfdjmdaaGreat
set_option linter.unusedVariables false

theorem mem_rowPo {is : List It} {a n : Nat} {i j : Nat} : ((i : Int), (j : Int)) ∈ rowPo is a n ↔ i = a ∧ j < n ∧ aheadF is a j = true := by
  unfold rowPo
  rw [List.mem_map]
  constructor
  · rintro ⟨k, hk, he⟩
    obtain ⟨h1, h2⟩ := List.mem_filter.1 hk
    have h1 := List.mem_range.1 h1
    injection he with e1 e2
    have e1 : a = i := by omega
    have e2 : k = j := by omega
    subst e1; subst e2
    exact ⟨rfl, h1, h2⟩
  · rintro ⟨rfl, h1, h2⟩
    exact ⟨j, List.mem_filter.2 ⟨List.mem_range.2 h1, h2⟩, rfl⟩
theorem mem_uptoPo {is : List It} {n m : Nat} {i j : Nat} : ((i : Int), (j : Int)) ∈ uptoPo is n m ↔ i < m ∧ j < n ∧ aheadF is i j = true := by
  unfold uptoPo
  rw [List.mem_flatMap]
  constructor
  · rintro ⟨a, ha, h⟩
    obtain ⟨rfl, h1, h2⟩ := mem_rowPo.1 h
    exact ⟨List.mem_range.1 ha, h1, h2⟩
  · rintro ⟨h0, h1, h2⟩
    exact ⟨i, List.mem_range.2 h0, mem_rowPo.2 ⟨rfl, h1, h2⟩⟩
theorem uptoPo_ok (is : List It) (n m : Nat) (h : m ≤ n) : ∀ x ∈ uptoPo is n m, okP (n : Int) x = true := fun x hx => by
  unfold uptoPo at hx
  obtain ⟨a, ha, h1⟩ := List.mem_flatMap.1 hx
  have ha := List.mem_range.1 ha
  unfold rowPo at h1
  obtain ⟨k, hk, rfl⟩ := List.mem_map.1 h1
  have hk := List.mem_range.1 (List.mem_filter.1 hk).1
  unfold okP inM
  simp; omega
theorem poM_good {is : List It} (h : is.length ≤ 4096) : Good is.length (poM is) ∧ ∀ i j : Nat, hasM (poM is) (i : Int) (j : Int) = aheadF is i j := by
  obtain ⟨h1, h2⟩ := foldP_facts h (uptoPo is is.length is.length) (uptoPo_ok is _ _ (Nat.le_refl _))
  refine ⟨h1, fun i j => ?_⟩
  unfold poM
  rw [h2 i j, Bool.eq_iff_iff, decide_eq_true_eq, mem_uptoPo]
  constructor
  · exact fun h => h.2.2
  · intro h
    have := aheadF_in h
    exact ⟨by omega, by omega, h⟩
end Go.Proofs.YtjhjojklfdjmdaaGreat

namespace Go.Proofs.YtjhjojklfdjmdaaGreat
set_option linter.unusedVariables false

/-- is it a write of this value to this variable? -/
def hitW (v val : Int) (x : It) : Bool := x.wr && (decide (x.va = v) && decide (x.vl = val))
/-- the first write of a value to a variable -/
def writeF (is : List It) (v val : Int) : Option Nat := is.findIdx? (hitW v val)
theorem writeF_at {is : List It} {v val : Int} {k : Nat} {x : It} (hx : is[k]? = some x) (h : hitW v val x = true) (hn : ∀ j, j < k → ∀ y, is[j]? = some y → hitW v val y = false) : writeF is v val = some k := by
  obtain ⟨hk, he⟩ := List.getElem?_eq_some_iff.1 hx
  unfold writeF
  rw [List.findIdx?_eq_some_iff_getElem]
  exact ⟨hk, by rw [he]; exact h, fun j hj => by rw [hn j hj _ (List.getElem?_eq_getElem (by omega))]; simp⟩
theorem writeF_none {is : List It} {v val : Int} (hn : ∀ (j : Nat) (y : It), is[j]? = some y → hitW v val y = false) : writeF is v val = none := by
  unfold writeF
  rw [List.findIdx?_eq_none_iff]
  intro x hx
  obtain ⟨j, hj, e⟩ := List.mem_iff_getElem.1 hx
  exact hn j x (by rw [← e]; exact List.getElem?_eq_getElem hj)
theorem writeF_some {is : List It} {v val : Int} {k : Nat} (h : writeF is v val = some k) : ∃ x, is[k]? = some x ∧ hitW v val x = true ∧ ∀ (j : Nat) (y : It), j < k → is[j]? = some y → hitW v val y = false := by
  unfold writeF at h
  rw [List.findIdx?_eq_some_iff_getElem] at h
  obtain ⟨hk, h1, h2⟩ := h
  refine ⟨is[k], List.getElem?_eq_getElem hk, h1, fun j y hj hy => ?_⟩
  obtain ⟨hjl, e⟩ := List.getElem?_eq_some_iff.1 hy
  have := h2 j hj
  rw [e] at this
  simpa using this
/-- what item j says of it -/
def stepC (is : List It) (j : Nat) : Option (Int × Int × Int) :=
  match is[j]? with
  | none => none
  | some x => if x.wr = false then none else if x.vl = 0 then some (j, j, 5) else if (writeF is x.va x.vl).getD 0 < j then some (((writeF is x.va x.vl).getD 0 : Nat), j, 4) else none
/-- is a history differentiated? -/
def checkF (is : List It) : Int × Int × Int := ((List.range is.length).findSome? (stepC is)).getD (0, 0, 0)
theorem range_first {n j : Nat} {α : Type} {f : Nat → Option α} {a : α} (hj : j < n) (h : f j = some a) (hn : ∀ i, i < j → f i = none) : (List.range n).findSome? f = some a := by
  rw [List.findSome?_eq_some_iff]
  refine ⟨List.range j, j, List.range' (j + 1) (n - j - 1), ?_, h, fun x hx => hn x (by simpa using hx)⟩
  rw [List.range_eq_range', List.range_eq_range', show n = j + (n - j) by omega, ← List.range'_append_1, show j + (n - j) - j - 1 = n - j - 1 by omega]
  congr 1
  rw [show n - j = (n - j - 1) + 1 by omega, List.range'_succ]
  simp
theorem checkF_at {is : List It} {j : Nat} {r : Int × Int × Int} (h : stepC is j = some r) (hn : ∀ i, i < j → stepC is i = none) : checkF is = r := by
  have hj : j < is.length := by
    rcases Nat.lt_or_ge j is.length with h1 | h1
    · exact h1
    · unfold stepC at h; rw [List.getElem?_eq_none h1] at h; cases h
  unfold checkF
  rw [range_first hj h hn]; rfl
theorem checkF_none {is : List It} (hn : ∀ i, i < is.length → stepC is i = none) : checkF is = (0, 0, 0) := by
  unfold checkF
  have : (List.range is.length).findSome? (stepC is) = none := by
    rw [List.findSome?_eq_none_iff]
    exact fun x hx => hn x (by simpa using hx)
  rw [this]; rfl
end Go.Proofs.YtjhjojklfdjmdaaGreat

namespace Go.Proofs.YtjhjojklfdjmdaaGreat
set_option linter.unusedVariables false

/-- what an item reads from -/
def fromOne (is : List It) (x : It) : Int := if x.wr = true then -3 else if x.vl = 0 then -1 else match writeF is x.va x.vl with | some w => (w : Int) | none => -2
def fromF (is : List It) : List Int := is.map (fromOne is)
def fillF (f : Fac) : Fac := ⟨f.vars, f.items, fromF f.items⟩
/-- the reads of a write -/
def readN (frm : List Int) (w : Int) (n : Nat) : List Nat := (List.range n).filter fun i => decide (0 ≤ w) && decide (frm.getD i 0 = w)
def readF (frm : List Int) (w : Int) (n : Nat) : List Int := (readN frm w n).map fun (i : Nat) => (i : Int)
theorem fromF_len (is : List It) : (fromF is).length = is.length := List.length_map _
theorem fromF_at {is : List It} {k : Nat} {x : It} (h : is[k]? = some x) : (fromF is)[k]? = some (fromOne is x) := by unfold fromF; rw [List.getElem?_map, h]; rfl
theorem fromF_take {is : List It} {k : Nat} {x : It} (h : is[k]? = some x) : (fromF is).take (k + 1) = (fromF is).take k ++ [fromOne is x] := by
  rw [List.take_add_one, fromF_at h]; rfl
theorem fromOne_range (is : List It) (x : It) : -3 ≤ fromOne is x ∧ fromOne is x < (is.length : Int) := by
  unfold fromOne
  split
  · omega
  · split
    · omega
    · cases h : writeF is x.va x.vl with
      | none => simp only; omega
      | some w =>
        obtain ⟨y, hy, _⟩ := writeF_some h
        have := (List.getElem?_eq_some_iff.1 hy).1
        simp only; omega
theorem readN_succ (frm : List Int) (w : Int) (n : Nat) : readN frm w (n + 1) = if (decide (0 ≤ w) && decide (frm.getD n 0 = w)) = true then readN frm w n ++ [n] else readN frm w n := by
  unfold readN
  rw [List.range_succ, List.filter_append]
  split
  · rename_i h; rw [List.filter_cons_of_pos (by exact h)]; rfl
  · rename_i h; rw [List.filter_cons_of_neg (by exact h)]; simp
theorem readF_succ (frm : List Int) (w : Int) (n : Nat) : readF frm w (n + 1) = if (decide (0 ≤ w) && decide (frm.getD n 0 = w)) = true then readF frm w n ++ [(n : Int)] else readF frm w n := by
  unfold readF
  rw [readN_succ]
  split
  · simp
  · rfl
theorem readF_len (frm : List Int) (w : Int) (n : Nat) : (readF frm w n).length ≤ n := by
  unfold readF readN
  rw [List.length_map]
  exact Nat.le_trans (List.length_filter_le _ _) (by simp)
theorem readF_ok (frm : List Int) (w : Int) (n : Nat) : ∀ z ∈ readF frm w n, 0 ≤ z ∧ z < (n : Int) := fun z hz => by
  unfold readF at hz
  obtain ⟨i, hi, rfl⟩ := List.mem_map.1 hz
  unfold readN at hi
  have := List.mem_range.1 (List.mem_filter.1 hi).1
  omega

/-! ### how many reads read from a write -/
theorem readF_at {frm : List Int} {w : Int} {n q : Nat} {z : Int} (h : (readF frm w n)[q]? = some z) : 0 ≤ w ∧ 0 ≤ z ∧ z < (n : Int) ∧ frm.getD z.toNat 0 = w := by
  unfold readF at h
  rw [List.getElem?_map] at h
  cases ha : (readN frm w n)[q]? with
  | none => rw [ha] at h; cases h
  | some a =>
    rw [ha] at h
    have h : some (a : Int) = some z := h
    injection h with h
    have hm := List.mem_of_getElem? ha
    unfold readN at hm
    obtain ⟨h1, h2⟩ := List.mem_filter.1 hm
    rw [Bool.and_eq_true, decide_eq_true_eq, decide_eq_true_eq] at h2
    have := List.mem_range.1 h1
    subst h
    exact ⟨h2.1, by omega, by omega, by rw [Int.toNat_natCast]; exact h2.2⟩
end Go.Proofs.YtjhjojklfdjmdaaGreat

namespace Go.Proofs.YtjhjojklfdjmdaaGreat
set_option linter.unusedVariables false

/-- the pairs of writes and their reads, of the first i reads -/
def rfPs (frm : List Int) (i : Nat) : List (Int × Int) := ((List.range i).filter fun k => decide (0 ≤ frm.getD k 0)).map fun (k : Nat) => (frm.getD k 0, (k : Int))
def rfM (n : Nat) (frm : List Int) : List (List Nat) := foldP n (rfPs frm frm.length)
def edgeM (f : Fac) : List (List Nat) := orM (poM f.items) (rfM f.items.length f.frm)
def coM (f : Fac) : List (List Nat) := closeK (edgeM f) f.items.length
theorem rfPs_succ (frm : List Int) (i : Nat) : rfPs frm (i + 1) = if 0 ≤ frm.getD i 0 then rfPs frm i ++ [(frm.getD i 0, (i : Int))] else rfPs frm i := by
  unfold rfPs
  rw [List.range_succ, List.filter_append]
  split
  · rename_i h; rw [List.filter_cons_of_pos (by exact decide_eq_true h)]; simp
  · rename_i h; rw [List.filter_cons_of_neg (by simpa using h)]; simp
theorem mem_rfPs {frm : List Int} {n i j : Nat} : ((i : Int), (j : Int)) ∈ rfPs frm n ↔ j < n ∧ frm.getD j 0 = (i : Int) := by
  unfold rfPs
  rw [List.mem_map]
  constructor
  · rintro ⟨k, hk, he⟩
    obtain ⟨h1, h2⟩ := List.mem_filter.1 hk
    have h1 := List.mem_range.1 h1
    injection he with e1 e2
    have e2 : k = j := by omega
    subst e2
    exact ⟨h1, e1⟩
  · rintro ⟨h1, h2⟩
    exact ⟨j, List.mem_filter.2 ⟨List.mem_range.2 h1, by rw [h2]; exact decide_eq_true (by omega)⟩, by rw [h2]⟩
/-- of whole facts: each read's write is an item -/
structure WholeF (f : Fac) : Prop where
  len : f.frm.length = f.items.length
  lt : ∀ z ∈ f.frm, z < (f.items.length : Int)
theorem fillF_whole (f : Fac) : WholeF (fillF f) := ⟨fromF_len _, fun z hz => by
  have hz : z ∈ f.items.map (fromOne f.items) := hz
  obtain ⟨x, -, rfl⟩ := List.mem_map.1 hz
  exact (fromOne_range _ _).2⟩
theorem rfPs_ok {f : Fac} (hw : WholeF f) : ∀ x ∈ rfPs f.frm f.frm.length, okP (f.items.length : Int) x = true := fun x hx => by
  unfold rfPs at hx
  obtain ⟨k, hk, rfl⟩ := List.mem_map.1 hx
  obtain ⟨h1, h2⟩ := List.mem_filter.1 hk
  have h1 := List.mem_range.1 h1
  have h2 := of_decide_eq_true h2
  have h3 := hw.len
  have h4 : f.frm.getD k 0 < (f.items.length : Int) := hw.lt _ (by rw [List.getD_eq_getElem?_getD, List.getElem?_eq_getElem h1]; exact List.getElem_mem h1)
  unfold okP inM
  simp only [Bool.and_eq_true, decide_eq_true_eq]
  omega
theorem rfM_good {f : Fac} (hw : WholeF f) (h : f.items.length ≤ 4096) : Good f.items.length (rfM f.items.length f.frm) ∧ ∀ i j : Nat, Rel (rfM f.items.length f.frm) i j ↔ j < f.items.length ∧ f.frm.getD j 0 = (i : Int) := by
  obtain ⟨h1, h2⟩ := foldP_facts h (rfPs f.frm f.frm.length) (rfPs_ok hw)
  refine ⟨h1, fun i j => ?_⟩
  unfold Rel rfM
  rw [h2 i j, decide_eq_true_eq, mem_rfPs, hw.len]
theorem orM_at {a b : List (List Nat)} {i : Nat} {r s : List Nat} (hr : a[i]? = some r) (hs : b[i]? = some s) : (orM a b)[i]? = some (orR r s) := by
  have hi := (List.getElem?_eq_some_iff.1 hr).1
  unfold orM
  rw [List.getElem?_map, List.getElem?_range hi, Option.map_some, getD_at hr, getD_at hs]
theorem orM_good {n : Nat} {a b : List (List Nat)} (ha : Good n a) (hb : Good n b) : Good n (orM a b) ∧ ∀ i j : Nat, Rel (orM a b) i j ↔ Rel a i j ∨ Rel b i j := by
  have hat : ∀ i, i < n → ∃ r s, a[i]? = some r ∧ b[i]? = some s ∧ (orM a b)[i]? = some (orR r s) := fun i hi => by
    obtain ⟨r, hr, -, -⟩ := ha.at_ hi
    obtain ⟨s, hs, -, -⟩ := hb.at_ hi
    exact ⟨r, s, hr, hs, orM_at hr hs⟩
  have hG : Good n (orM a b) := by
    refine ⟨ha.le, by rw [orM_len, ha.len], fun x hx => ?_⟩
    obtain ⟨i, hi⟩ := List.getElem?_of_mem hx
    have hil : i < n := by
      have := (List.getElem?_eq_some_iff.1 hi).1
      rwa [orM_len, ha.len] at this
    obtain ⟨r, s, hr, hs, ho⟩ := hat i hil
    rw [ho] at hi
    injection hi with hi
    subst hi
    have h1 := ha.row r (List.mem_of_getElem? hr)
    have h2 := hb.row s (List.mem_of_getElem? hs)
    have hl : (orR r s).length = r.length := by rw [orR_len, h1.2.2.1, h2.2.2.1]; omega
    refine ⟨orR_w64 h1.1 h2.1, by rw [hl]; exact h1.2.1, by rw [hl]; exact h1.2.2.1, fun j hj => ?_⟩
    rw [hasR_orR, h1.2.2.2 j hj, h2.2.2.2 j hj]; rfl
  refine ⟨hG, fun i j => ?_⟩
  unfold Rel
  by_cases hi : i < n
  · obtain ⟨r, s, hr, hs, ho⟩ := hat i hi
    rw [hasM_in ho, hasM_in hr, hasM_in hs, hasR_orR, Bool.or_eq_true]
  · rw [hasM_out (.inr (by rw [orM_len, ha.len]; omega)), hasM_out (.inr (by rw [ha.len]; omega)), hasM_out (.inr (by rw [hb.len]; omega))]; simp
/-- the edges of whole facts -/
theorem edgeM_good {f : Fac} (hw : WholeF f) (h : f.items.length ≤ 4096) : Good f.items.length (edgeM f) ∧ ∀ i j : Nat, Rel (edgeM f) i j ↔ aheadF f.items i j = true ∨ (j < f.items.length ∧ f.frm.getD j 0 = (i : Int)) := by
  have hp := poM_good h
  have hr := rfM_good hw h
  have ho := orM_good hp.1 hr.1
  refine ⟨ho.1, fun i j => ?_⟩
  rw [show edgeM f = orM (poM f.items) (rfM f.items.length f.frm) from rfl, ho.2, hr.2]
  unfold Rel
  rw [hp.2]
theorem coM_hull {f : Fac} (hw : WholeF f) (h : f.items.length ≤ 4096) : IsHull f.items.length (Rel (edgeM f)) (coM f) := closeK_hull (edgeM_good hw h).1
end Go.Proofs.YtjhjojklfdjmdaaGreat

namespace Go.Proofs.YtjhjojklfdjmdaaGreat
open Go.RowKit
set_option linter.unusedVariables false

/-- a conflict: two writes and a read -/
structure Ed where
  w1 : Int
  w2 : Int
  rd : Int
deriving DecidableEq
structure Ed.Ok (e : Ed) : Prop where
  a0 : -9223372036854775808 ≤ e.w1
  a1 : e.w1 < 9223372036854775808
  b0 : -9223372036854775808 ≤ e.w2
  b1 : e.w2 < 9223372036854775808
  r0 : -9223372036854775808 ≤ e.rd
  r1 : e.rd < 9223372036854775808
def encE : Enc Ed := { cells := fun e => [.int .i64 e.w1, .int .i64 e.w2, .int .i64 e.rd], sz := 3, pos := by decide, len := fun _ => rfl, one := fun x u h => by simp only [List.mem_cons, List.not_mem_nil, or_false] at h; rcases h with rfl | rfl | rfl <;> rfl, ok := Ed.Ok }
theorem LAt.edge {w : World} {A : Option Addr} {n k : Nat} {xs : List Ed} (h : LAt encE w A n xs) (hk : k < n) : ∃ b off x, A = some ⟨b, off, none⟩ ∧ b < w.heap.size ∧ xs[k]? = some x ∧ Ed.Ok x ∧
    w.cell? ⟨b, off + k * 3, none⟩ = some (.int .i64 x.w1) ∧ w.cell? ⟨b, off + k * 3 + 1, none⟩ = some (.int .i64 x.w2) ∧ w.cell? ⟨b, off + k * 3 + 2, none⟩ = some (.int .i64 x.rd) := by
  obtain ⟨b, off, x, e, hb, hx, hok, hc⟩ := h.at_ hk
  exact ⟨b, off, x, e, hb, hx, hok, hc 0 _ rfl, hc 1 _ rfl, hc 2 _ rfl⟩
/-- a call's answer: a list of conflicts -/
def RetEL (xs : List Ed) (w : World) (e : Ending) (w' : World) : Prop := ∃ A n c, e = .returned (.slice A n c) ∧ LAt encE w' A n xs ∧ n ≤ c ∧ c ≤ 9223372036854775807 ∧ Below w.heap.size w w'

/-- both are writes, to one variable -/
def bothW (is : List It) (a b : Nat) : Bool := match is[a]?, is[b]? with | some x, some y => x.wr && y.wr && decide (x.va = y.va) | _, _ => false
theorem bothW_at {is : List It} {a b : Nat} {x y : It} (hx : is[a]? = some x) (hy : is[b]? = some y) : bothW is a b = (x.wr && y.wr && decide (x.va = y.va)) := by unfold bothW; rw [hx, hy]
def clB (f : Fac) (M : List (List Nat)) (a b r : Nat) : Bool := (decide (a ≠ b) && bothW f.items a b) && decide (f.frm.getD r 0 = (b : Int)) && hasM M (a : Int) (r : Int)
def eR (f : Fac) (M : List (List Nat)) (a b n : Nat) : List Ed := ((List.range n).filter (clB f M a b)).map fun (r : Nat) => (⟨(a : Int), (b : Int), (r : Int)⟩ : Ed)
def eB (f : Fac) (M : List (List Nat)) (a n k : Nat) : List Ed := (List.range k).flatMap fun b => eR f M a b n
def eA (f : Fac) (M : List (List Nat)) (n k : Nat) : List Ed := (List.range k).flatMap fun a => eB f M a n n
/-- all conflicts, in order -/
def edgesF (f : Fac) (M : List (List Nat)) : List Ed := eA f M f.items.length f.items.length
theorem eB_zero (f : Fac) (M : List (List Nat)) (a n : Nat) : eB f M a n 0 = [] := rfl
theorem eA_zero (f : Fac) (M : List (List Nat)) (n : Nat) : eA f M n 0 = [] := rfl
theorem eB_succ (f : Fac) (M : List (List Nat)) (a n k : Nat) : eB f M a n (k + 1) = eB f M a n k ++ eR f M a k n := by
  unfold eB; rw [List.range_succ, List.flatMap_append]; simp
theorem eA_succ (f : Fac) (M : List (List Nat)) (n k : Nat) : eA f M n (k + 1) = eA f M n k ++ eB f M k n n := by
  unfold eA; rw [List.range_succ, List.flatMap_append]; simp
theorem eR_len (f : Fac) (M : List (List Nat)) (a b n : Nat) : (eR f M a b n).length ≤ n := by
  unfold eR; rw [List.length_map]; exact Nat.le_trans (List.length_filter_le _ _) (by rw [List.length_range]; exact Nat.le_refl _)
theorem eB_len (f : Fac) (M : List (List Nat)) (a n : Nat) : ∀ k, (eB f M a n k).length ≤ k * n
  | 0 => by simp [eB_zero]
  | k + 1 => by rw [eB_succ, List.length_append, Nat.succ_mul]; have := eB_len f M a n k; have := eR_len f M a k n; omega
theorem eA_len (f : Fac) (M : List (List Nat)) (n : Nat) : ∀ k, (eA f M n k).length ≤ k * (n * n)
  | 0 => by simp [eA_zero]
  | k + 1 => by rw [eA_succ, List.length_append, Nat.succ_mul]; have := eA_len f M n k; have := eB_len f M k n n; omega
theorem mem_eR {f : Fac} {M : List (List Nat)} {a b n : Nat} {x : Ed} : x ∈ eR f M a b n ↔ ∃ r : Nat, r < n ∧ x = ⟨(a : Int), (b : Int), (r : Int)⟩ ∧ clB f M a b r = true := by
  unfold eR
  rw [List.mem_map]
  constructor
  · rintro ⟨r, hr, rfl⟩
    obtain ⟨h1, h2⟩ := List.mem_filter.1 hr
    exact ⟨r, List.mem_range.1 h1, rfl, h2⟩
  · rintro ⟨r, h1, rfl, h2⟩
    exact ⟨r, List.mem_filter.2 ⟨List.mem_range.2 h1, h2⟩, rfl⟩
theorem mem_eB {f : Fac} {M : List (List Nat)} {a n k : Nat} {x : Ed} : x ∈ eB f M a n k ↔ ∃ b r : Nat, b < k ∧ r < n ∧ x = ⟨(a : Int), (b : Int), (r : Int)⟩ ∧ clB f M a b r = true := by
  unfold eB
  rw [List.mem_flatMap]
  constructor
  · rintro ⟨b, hb, hx⟩
    obtain ⟨r, h1, h2, h3⟩ := mem_eR.1 hx
    exact ⟨b, r, List.mem_range.1 hb, h1, h2, h3⟩
  · rintro ⟨b, r, hb, h1, h2, h3⟩
    exact ⟨b, List.mem_range.2 hb, mem_eR.2 ⟨r, h1, h2, h3⟩⟩
theorem mem_eA {f : Fac} {M : List (List Nat)} {n k : Nat} {x : Ed} : x ∈ eA f M n k ↔ ∃ a b r : Nat, a < k ∧ b < n ∧ r < n ∧ x = ⟨(a : Int), (b : Int), (r : Int)⟩ ∧ clB f M a b r = true := by
  unfold eA
  rw [List.mem_flatMap]
  constructor
  · rintro ⟨a, ha, hx⟩
    obtain ⟨b, r, h0, h1, h2, h3⟩ := mem_eB.1 hx
    exact ⟨a, b, r, List.mem_range.1 ha, h0, h1, h2, h3⟩
  · rintro ⟨a, b, r, ha, h0, h1, h2, h3⟩
    exact ⟨a, List.mem_range.2 ha, mem_eB.2 ⟨b, r, h0, h1, h2, h3⟩⟩
theorem mem_edgesF {f : Fac} {M : List (List Nat)} {x : Ed} : x ∈ edgesF f M ↔ ∃ a b r : Nat, a < f.items.length ∧ b < f.items.length ∧ r < f.items.length ∧ x = ⟨(a : Int), (b : Int), (r : Int)⟩ ∧ clB f M a b r = true := mem_eA
/-- the pairs of conflicts -/
def edP (l : List Ed) : List (Int × Int) := l.map fun e => (e.w1, e.w2)
theorem edP_ok {f : Fac} {M : List (List Nat)} : ∀ p ∈ edP (edgesF f M), okP (f.items.length : Int) p = true := fun p hp => by
  unfold edP at hp
  obtain ⟨x, hx, rfl⟩ := List.mem_map.1 hp
  obtain ⟨a, b, r, h1, h2, h3, rfl, -⟩ := mem_edgesF.1 hx
  unfold okP inM
  simp only [Bool.and_eq_true, decide_eq_true_eq]
  omega
/-- a matrix with its conflicts, and the hull of that -/
def cfX (f : Fac) (M : List (List Nat)) : List (List Nat) := (edP (edgesF f M)).foldl setP M
def cfM (f : Fac) (M : List (List Nat)) : List (List Nat) := closeK (cfX f M) f.items.length
theorem cfX_good {f : Fac} {M : List (List Nat)} (hG : Good f.items.length M) : Good f.items.length (cfX f M) := (fold_facts _ M hG edP_ok).1
theorem cfX_rel {f : Fac} {M : List (List Nat)} (hG : Good f.items.length M) (i j : Nat) : Rel (cfX f M) i j ↔ Rel M i j ∨ ((i : Int), (j : Int)) ∈ edP (edgesF f M) := by
  unfold Rel cfX
  rw [(fold_facts _ M hG edP_ok).2, Bool.or_eq_true, decide_eq_true_eq]
theorem cfM_hull {f : Fac} {M : List (List Nat)} (hG : Good f.items.length M) : IsHull f.items.length (Rel (cfX f M)) (cfM f M) := closeK_hull (cfX_good hG)
/-- does it go round? -/
def loopB (n : Nat) (X : List (List Nat)) : Bool := (List.range n).any fun i => hasM X (i : Int) (i : Int)
theorem loopB_iff {n : Nat} {X : List (List Nat)} : loopB n X = true ↔ ∃ i, i < n ∧ Rel X i i := by
  unfold loopB Rel
  rw [List.any_eq_true]
  constructor
  · rintro ⟨i, h1, h2⟩; exact ⟨i, List.mem_range.1 h1, h2⟩
  · rintro ⟨i, h1, h2⟩; exact ⟨i, List.mem_range.2 h1, h2⟩
end Go.Proofs.YtjhjojklfdjmdaaGreat

namespace Go.Proofs.YtjhjojklfdjmdaaGreat
open Go.RowKit
set_option linter.unusedVariables false

/-! ### what a round finds -/
def nwG (f : Fac) (X : List (List Nat)) (a b : Nat) : Bool := decide (a ≠ b) && bothW f.items a b && !(hasM X (a : Int) (b : Int))
def nwK (f : Fac) (X : List (List Nat)) (a b : Nat) (r : Int) : Bool := decide (f.frm.getD r.toNat 0 = (b : Int)) && hasM X (a : Int) r
def nwO (f : Fac) (X : List (List Nat)) (kept : List Int) (a b : Nat) : Option Ed := if nwG f X a b = true then (kept.find? (nwK f X a b)).map (fun r => ⟨(a : Int), (b : Int), r⟩) else none
def nwB (f : Fac) (X : List (List Nat)) (kept : List Int) (a k : Nat) : List Ed := (List.range k).flatMap fun b => (nwO f X kept a b).toList
def nwA (f : Fac) (X : List (List Nat)) (kept : List Int) (n k : Nat) : List Ed := (List.range k).flatMap fun a => nwB f X kept a n
def newF (f : Fac) (X : List (List Nat)) (kept : List Int) : List Ed := nwA f X kept f.items.length f.items.length
section
variable {f : Fac} {X : List (List Nat)} {kept : List Int}
theorem nwB_zero (a : Nat) : nwB f X kept a 0 = [] := rfl
theorem nwA_zero (n : Nat) : nwA f X kept n 0 = [] := rfl
theorem nwB_succ (a k : Nat) : nwB f X kept a (k + 1) = nwB f X kept a k ++ (nwO f X kept a k).toList := by
  unfold nwB; rw [List.range_succ, List.flatMap_append]; simp
theorem nwA_succ (n k : Nat) : nwA f X kept n (k + 1) = nwA f X kept n k ++ nwB f X kept k n := by
  unfold nwA; rw [List.range_succ, List.flatMap_append]; simp
theorem nwO_len (a b : Nat) : (nwO f X kept a b).toList.length ≤ 1 := by cases nwO f X kept a b <;> simp
theorem nwB_len (a : Nat) : ∀ k, (nwB f X kept a k).length ≤ k
  | 0 => by simp [nwB_zero]
  | k + 1 => by rw [nwB_succ, List.length_append]; have := nwB_len a k; have := nwO_len (f := f) (X := X) (kept := kept) a k; omega
theorem nwA_len (n : Nat) : ∀ k, (nwA f X kept n k).length ≤ k * n
  | 0 => by simp [nwA_zero]
  | k + 1 => by rw [nwA_succ, List.length_append, Nat.succ_mul]; have := nwA_len n k; have := nwB_len (f := f) (X := X) (kept := kept) k n; omega
theorem nwO_some {a b : Nat} {x : Ed} (h : nwO f X kept a b = some x) : nwG f X a b = true ∧ x.w1 = (a : Int) ∧ x.w2 = (b : Int) ∧ x.rd ∈ kept ∧ nwK f X a b x.rd = true := by
  unfold nwO at h
  split at h
  · rename_i hg
    cases hr : kept.find? (nwK f X a b) with
    | none => rw [hr] at h; cases h
    | some r =>
      rw [hr] at h
      simp only [Option.map_some, Option.some.injEq] at h
      subst h
      exact ⟨hg, rfl, rfl, List.mem_of_find?_eq_some hr, List.find?_some hr⟩
  · cases h
theorem mem_nwB {a k : Nat} {x : Ed} : x ∈ nwB f X kept a k ↔ ∃ b, b < k ∧ nwO f X kept a b = some x := by
  unfold nwB
  rw [List.mem_flatMap]
  constructor
  · rintro ⟨b, hb, hx⟩; exact ⟨b, List.mem_range.1 hb, by rwa [Option.mem_toList] at hx⟩
  · rintro ⟨b, hb, hx⟩; exact ⟨b, List.mem_range.2 hb, by rwa [Option.mem_toList]⟩
theorem mem_nwA {n k : Nat} {x : Ed} : x ∈ nwA f X kept n k ↔ ∃ a b, a < k ∧ b < n ∧ nwO f X kept a b = some x := by
  unfold nwA
  rw [List.mem_flatMap]
  constructor
  · rintro ⟨a, ha, hx⟩
    obtain ⟨b, hb, h⟩ := mem_nwB.1 hx
    exact ⟨a, b, List.mem_range.1 ha, hb, h⟩
  · rintro ⟨a, b, ha, hb, h⟩; exact ⟨a, List.mem_range.2 ha, mem_nwB.2 ⟨b, hb, h⟩⟩
theorem mem_newF {x : Ed} : x ∈ newF f X kept ↔ ∃ a b, a < f.items.length ∧ b < f.items.length ∧ nwO f X kept a b = some x := mem_nwA
/-- what a round finds, in words -/
theorem newF_some {x : Ed} (h : x ∈ newF f X kept) : ∃ a b : Nat, a < f.items.length ∧ b < f.items.length ∧ x.w1 = (a : Int) ∧ x.w2 = (b : Int) ∧ a ≠ b ∧ bothW f.items a b = true ∧ ¬ Rel X a b ∧ x.rd ∈ kept ∧ f.frm.getD x.rd.toNat 0 = (b : Int) ∧ hasM X (a : Int) x.rd = true := by
  obtain ⟨a, b, ha, hb, h⟩ := mem_newF.1 h
  obtain ⟨h1, h2, h3, h4, h5⟩ := nwO_some h
  unfold nwG at h1
  unfold nwK at h5
  simp only [Bool.and_eq_true, Bool.not_eq_true', decide_eq_true_eq] at h1 h5
  exact ⟨a, b, ha, hb, h2, h3, h1.1.1, h1.1.2, by unfold Rel; rw [h1.2]; simp, h4, h5.1, h5.2⟩
theorem newF_nil : newF f X kept = [] ↔ ∀ a b, a < f.items.length → b < f.items.length → a ≠ b → bothW f.items a b = true → ∀ r ∈ kept, f.frm.getD r.toNat 0 = (b : Int) → hasM X (a : Int) r = true → Rel X a b := by
  constructor
  · intro h a b ha hb hne hbo r hr h1 h2
    cases hx : hasM X (a : Int) (b : Int) with
    | true => exact hx
    | false =>
      exfalso
      have hg : nwG f X a b = true := by unfold nwG; rw [decide_eq_true hne, hbo, hx]; rfl
      cases hf : kept.find? (nwK f X a b) with
      | none =>
        have := List.find?_eq_none.1 hf r hr
        unfold nwK at this
        rw [decide_eq_true h1, h2] at this
        simp at this
      | some q =>
        have : (⟨(a : Int), (b : Int), q⟩ : Ed) ∈ newF f X kept := mem_newF.2 ⟨a, b, ha, hb, by unfold nwO; rw [if_pos hg, hf]; rfl⟩
        rw [h] at this
        cases this
  · intro h
    refine List.eq_nil_iff_forall_not_mem.2 (fun x hx => ?_)
    obtain ⟨a, b, ha, hb, -, -, hne, hbo, hn, hr, h1, h2⟩ := newF_some hx
    exact hn (h a b ha hb hne hbo x.rd hr h1 h2)
/-- each pair is found once -/
theorem nwB_nodup (a : Nat) : ∀ k, (edP (nwB f X kept a k)).Nodup
  | 0 => by simp [nwB_zero, edP]
  | k + 1 => by
    unfold edP
    rw [nwB_succ, List.map_append]
    refine List.nodup_append.2 ⟨nwB_nodup a k, ?_, fun p hp q hq e => ?_⟩
    · cases nwO f X kept a k <;> simp
    · obtain ⟨x, hx, rfl⟩ := List.mem_map.1 hp
      obtain ⟨y, hy, rfl⟩ := List.mem_map.1 hq
      rw [Option.mem_toList] at hy
      obtain ⟨b, hb, hx⟩ := mem_nwB.1 hx
      obtain ⟨-, -, h1, -, -⟩ := nwO_some hx
      obtain ⟨-, -, h2, -, -⟩ := nwO_some hy
      injection e with e1 e2
      omega
theorem nwA_nodup (n : Nat) : ∀ k, (edP (nwA f X kept n k)).Nodup
  | 0 => by simp [nwA_zero, edP]
  | k + 1 => by
    unfold edP
    rw [nwA_succ, List.map_append]
    refine List.nodup_append.2 ⟨nwA_nodup n k, nwB_nodup k n, fun p hp q hq e => ?_⟩
    obtain ⟨x, hx, rfl⟩ := List.mem_map.1 hp
    obtain ⟨y, hy, rfl⟩ := List.mem_map.1 hq
    obtain ⟨a, b, ha, -, hx⟩ := mem_nwA.1 hx
    obtain ⟨b', -, hy⟩ := mem_nwB.1 hy
    obtain ⟨-, h1, -, -, -⟩ := nwO_some hx
    obtain ⟨-, h2, -, -, -⟩ := nwO_some hy
    injection e with e1 e2
    omega
theorem newF_ok : ∀ p ∈ edP (newF f X kept), okP (f.items.length : Int) p = true := fun p hp => by
  obtain ⟨x, hx, rfl⟩ := List.mem_map.1 hp
  obtain ⟨a, b, ha, hb, h1, h2, -⟩ := newF_some hx
  unfold okP inM
  simp only [h1, h2, Bool.and_eq_true, decide_eq_true_eq]
  omega
end
/-! ### the rounds -/
def seX (f : Fac) (kept : List Int) (B : List (List Nat)) : Nat → List (List Nat)
  | 0 => B
  | k + 1 => closeK ((edP (newF f (seX f kept B k) kept)).foldl setP (seX f kept B k)) f.items.length
def seL (f : Fac) (kept : List Int) (B : List (List Nat)) : Nat → List Ed
  | 0 => []
  | k + 1 => seL f kept B k ++ newF f (seX f kept B k) kept
/-- the rounds that find something are the first k ones -/
def SeenIs (f : Fac) (kept : List Int) (B : List (List Nat)) (k : Nat) : Prop := (∀ j, j < k → newF f (seX f kept B j) kept ≠ []) ∧ newF f (seX f kept B k) kept = []
section
variable {f : Fac} {kept : List Int} {B : List (List Nat)}
theorem SeenIs.unique {j k : Nat} (h : SeenIs f kept B j) (h' : SeenIs f kept B k) : j = k := by
  rcases Nat.lt_trichotomy j k with h1 | h1 | h1
  · exact absurd h.2 (h'.1 j h1)
  · exact h1
  · exact absurd h'.2 (h.1 k h1)
theorem seX_good (hB : Good f.items.length B) : ∀ k, Good f.items.length (seX f kept B k)
  | 0 => hB
  | k + 1 => (closeK_hull (fold_facts _ _ (seX_good hB k) newF_ok).1).1
theorem seX_hull (hB : Good f.items.length B) (k : Nat) : IsHull f.items.length (Rel ((edP (newF f (seX f kept B k) kept)).foldl setP (seX f kept B k))) (seX f kept B (k + 1)) := closeK_hull (fold_facts _ _ (seX_good hB k) newF_ok).1
theorem seX_rel (hB : Good f.items.length B) (k i j : Nat) : Rel ((edP (newF f (seX f kept B k) kept)).foldl setP (seX f kept B k)) i j ↔ Rel (seX f kept B k) i j ∨ ((i : Int), (j : Int)) ∈ edP (newF f (seX f kept B k) kept) := by
  unfold Rel
  rw [(fold_facts _ _ (seX_good hB k) newF_ok).2, Bool.or_eq_true, decide_eq_true_eq]
theorem seX_step (hB : Good f.items.length B) (k i j : Nat) (h : Rel (seX f kept B k) i j) : Rel (seX f kept B (k + 1)) i j :=
  ((seX_hull hB k).2 i j).2 (.one ((seX_rel hB k i j).2 (.inl h)))
theorem seX_new (hB : Good f.items.length B) (k i j : Nat) (h : ((i : Int), (j : Int)) ∈ edP (newF f (seX f kept B k) kept)) : Rel (seX f kept B (k + 1)) i j :=
  ((seX_hull hB k).2 i j).2 (.one ((seX_rel hB k i j).2 (.inr h)))
theorem seX_base (hB : Good f.items.length B) (i j : Nat) (h : Rel B i j) : ∀ k, Rel (seX f kept B k) i j
  | 0 => h
  | k + 1 => seX_step hB k i j (seX_base hB i j h k)
theorem seX_closed (hB : Good f.items.length B) (hc : ClosedM B) : ∀ k, ClosedM (seX f kept B k)
  | 0 => hc
  | k + 1 => (seX_hull hB k).closed
theorem seL_pairs (hB : Good f.items.length B) : ∀ k, ∀ x ∈ seL f kept B k, ∃ a b : Nat, a < f.items.length ∧ b < f.items.length ∧ x.w1 = (a : Int) ∧ x.w2 = (b : Int) ∧ bothW f.items a b = true ∧ Rel (seX f kept B k) a b
  | 0, x, h => by cases h
  | k + 1, x, h => by
    rcases List.mem_append.1 h with h | h
    · obtain ⟨a, b, ha, hb, e1, e2, hbo, hr⟩ := seL_pairs hB k x h
      exact ⟨a, b, ha, hb, e1, e2, hbo, seX_step hB k a b hr⟩
    · obtain ⟨a, b, ha, hb, e1, e2, hne, hbo, -⟩ := newF_some h
      exact ⟨a, b, ha, hb, e1, e2, hbo, seX_new hB k a b (List.mem_map.2 ⟨x, h, by rw [e1, e2]⟩)⟩
theorem seL_nodup (hB : Good f.items.length B) : ∀ k, (edP (seL f kept B k)).Nodup
  | 0 => by simp [seL, edP]
  | k + 1 => by
    unfold edP
    rw [seL, List.map_append]
    refine List.nodup_append.2 ⟨seL_nodup hB k, nwA_nodup _ _, fun p hp q hq e => ?_⟩
    obtain ⟨x, hx, rfl⟩ := List.mem_map.1 hp
    obtain ⟨y, hy, rfl⟩ := List.mem_map.1 hq
    obtain ⟨a, b, ha, hb, e1, e2, hbo, hr⟩ := seL_pairs hB k x hx
    obtain ⟨a', b', ha', hb', e1', e2', -, -, hno, -⟩ := newF_some hy
    injection e with e3 e4
    obtain rfl : a = a' := by omega
    obtain rfl : b = b' := by omega
    exact hno hr
theorem seL_ge : ∀ k, (∀ j, j < k → newF f (seX f kept B j) kept ≠ []) → k ≤ (seL f kept B k).length
  | 0, _ => Nat.zero_le _
  | k + 1, h => by
    have h1 := seL_ge k (fun j hj => h j (by omega))
    have h2 := List.length_pos_iff.2 (h k (by omega))
    rw [seL, List.length_append]
    omega
end
/-- how many of the first i items are writes -/
def wrB (is : List It) (i : Nat) : Bool := match is[i]? with | some x => x.wr | none => false
def cntW (is : List It) (i : Nat) : Nat := (List.range i).countP (wrB is)
theorem cntW_le (is : List It) (i : Nat) : cntW is i ≤ i := by
  unfold cntW
  exact Nat.le_trans List.countP_le_length (by rw [List.length_range]; exact Nat.le_refl _)
theorem bothW_wr {is : List It} {a b : Nat} (h : bothW is a b = true) : wrB is a = true ∧ wrB is b = true := by
  unfold bothW at h
  unfold wrB
  cases hx : is[a]? with
  | none => rw [hx] at h; simp at h
  | some x =>
    cases hy : is[b]? with
    | none => rw [hx, hy] at h; simp at h
    | some y =>
      rw [hx, hy] at h
      simp only [Bool.and_eq_true] at h
      exact ⟨h.1.1, h.1.2⟩
theorem prod_len {α β γ : Type} (g : α → β → γ) (m : List β) : ∀ l : List α, (l.flatMap fun a => m.map (g a)).length = l.length * m.length
  | [] => by simp
  | a :: l => by rw [List.flatMap_cons, List.length_append, prod_len g m l, List.length_map, List.length_cons, Nat.succ_mul]; omega
theorem seL_len {f : Fac} {kept : List Int} {B : List (List Nat)} (hB : Good f.items.length B) (k : Nat) : (seL f kept B k).length ≤ cntW f.items f.items.length * cntW f.items f.items.length := by
  have h := (seL_nodup (kept := kept) hB k).length_le_of_subset (l₂ := ((List.range f.items.length).filter (wrB f.items)).flatMap fun (a : Nat) => ((List.range f.items.length).filter (wrB f.items)).map ((fun (a b : Nat) => ((a : Int), (b : Int))) a)) (fun p hp => by
    obtain ⟨x, hx, rfl⟩ := List.mem_map.1 hp
    obtain ⟨a, b, ha, hb, e1, e2, hbo, -⟩ := seL_pairs hB k x hx
    obtain ⟨w1, w2⟩ := bothW_wr hbo
    exact List.mem_flatMap.2 ⟨a, List.mem_filter.2 ⟨List.mem_range.2 ha, w1⟩, List.mem_map.2 ⟨b, List.mem_filter.2 ⟨List.mem_range.2 hb, w2⟩, by rw [e1, e2]⟩⟩)
  rw [prod_len, ← List.countP_eq_length_filter] at h
  unfold edP at h
  rw [List.length_map] at h
  exact h
theorem seL_okE {f : Fac} {kept : List Int} {B : List (List Nat)} (hB : Good f.items.length B) (hk : ∀ r ∈ kept, 0 ≤ r ∧ r < (f.items.length : Int)) (hl : f.items.length ≤ 1048576) : ∀ k, ∀ x ∈ seL f kept B k, Ed.Ok x
  | 0, x, h => by cases h
  | k + 1, x, h => by
    rcases List.mem_append.1 h with h | h
    · exact seL_okE hB hk hl k x h
    · obtain ⟨a, b, ha, hb, e1, e2, -, -, -, hr, -⟩ := newF_some h
      have := hk _ hr
      exact ⟨by omega, by omega, by omega, by omega, by omega, by omega⟩
theorem newF_okE {f : Fac} {kept : List Int} {X : List (List Nat)} (hk : ∀ r ∈ kept, 0 ≤ r ∧ r < (f.items.length : Int)) (hl : f.items.length ≤ 1048576) : ∀ x ∈ newF f X kept, Ed.Ok x := fun x h => by
  obtain ⟨a, b, ha, hb, e1, e2, -, -, -, hr, -⟩ := newF_some h
  have := hk _ hr
  exact ⟨by omega, by omega, by omega, by omega, by omega, by omega⟩
end Go.Proofs.YtjhjojklfdjmdaaGreat

namespace Go.Proofs.YtjhjojklfdjmdaaGreat
set_option linter.unusedVariables false

/-- the past of o in a matrix, up to number n -/
def colN (a : List (List Nat)) (o : Int) (n : Nat) : List Nat := (List.range n).filter fun i => hasM a (i : Int) o
def colF (a : List (List Nat)) (o : Int) (n : Nat) : List Int := (colN a o n).map fun (i : Nat) => (i : Int)
/-- .. and o -/
def wihN (a : List (List Nat)) (o : Int) (n : Nat) : List Nat := (List.range n).filter fun i => decide ((i : Int) = o) || hasM a (i : Int) o
def wihF (a : List (List Nat)) (o : Int) (n : Nat) : List Int := (wihN a o n).map fun (i : Nat) => (i : Int)
def wihO (a : List (List Nat)) (o : Int) (n : Nat) : List Int := if 0 ≤ o ∧ o < (n : Int) then wihF a o n else []
/-- is a number a write's to a variable? -/
def wrOK (is : List It) (v z : Int) : Bool := decide (0 ≤ z) && (match is[z.toNat]? with | some x => x.wr && decide (x.va = v) | none => false)
def wrsF (is : List It) (v : Int) (l : List Int) : List Int := l.filter (wrOK is v)
/-- is a number a read's? -/
def rdOK (is : List It) (z : Int) : Bool := match is[z.toNat]? with | some x => !x.wr | none => false
def keptF (is : List It) (l : List Int) : List Int := l.filter (rdOK is)
theorem colF_len (a : List (List Nat)) (o : Int) (n : Nat) : (colF a o n).length ≤ n := by
  unfold colF colN; rw [List.length_map]; exact Nat.le_trans (List.length_filter_le _ _) (by simp)
theorem wihF_len (a : List (List Nat)) (o : Int) (n : Nat) : (wihF a o n).length ≤ n := by
  unfold wihF wihN; rw [List.length_map]; exact Nat.le_trans (List.length_filter_le _ _) (by simp)
theorem wihF_ok (a : List (List Nat)) (o : Int) (n : Nat) : ∀ z ∈ wihF a o n, 0 ≤ z ∧ z < (n : Int) := fun z hz => by
  unfold wihF wihN at hz
  obtain ⟨i, hi, rfl⟩ := List.mem_map.1 hz
  have := List.mem_range.1 (List.mem_filter.1 hi).1
  omega
theorem wihO_ok (a : List (List Nat)) (o : Int) (n : Nat) : ∀ z ∈ wihO a o n, 0 ≤ z ∧ z < (n : Int) := fun z hz => by
  unfold wihO at hz
  split at hz
  · exact wihF_ok a o n z hz
  · cases hz
theorem filter_take {p : Int → Bool} {l : List Int} {k : Nat} {z : Int} (h : l[k]? = some z) : (l.take (k + 1)).filter p = if p z = true then (l.take k).filter p ++ [z] else (l.take k).filter p := by
  have h1 := List.take_succ_eq_append_getElem (List.getElem?_eq_some_iff.1 h).1
  rw [(List.getElem?_eq_some_iff.1 h).2] at h1
  rw [h1, List.filter_append]
  split
  · rename_i h; rw [List.filter_cons_of_pos (by exact h)]; simp
  · rename_i h; rw [List.filter_cons_of_neg (by exact h)]; simp
theorem wrOK_at {is : List It} {v z : Int} {x : It} (h0 : 0 ≤ z) (h : is[z.toNat]? = some x) : wrOK is v z = (x.wr && decide (x.va = v)) := by
  unfold wrOK; rw [decide_eq_true h0, h]; rfl
theorem rdOK_at {is : List It} {z : Int} {x : It} (h : is[z.toNat]? = some x) : rdOK is z = !x.wr := by unfold rdOK; rw [h]

end Go.Proofs.YtjhjojklfdjmdaaGreat

namespace Go.Proofs.YtjhjojklfdjmdaaGreat
open Go.RowKit
set_option linter.unusedVariables false

section
variable {w w' : World} {base : Nat} {t : TypeId} {v : Value} {zs : List Nat}
end
section
variable {P : Program}
end

/-! ### how many are not seen yet -/

/-! ### the search -/
section
variable {n : Nat} {a : List (List Nat)} {i : Nat} {bs : List Bool} {zs : List Nat}
end

end Go.Proofs.YtjhjojklfdjmdaaGreat

namespace Go.Proofs.YtjhjojklfdjmdaaGreat
open Go.RowKit
set_option linter.unusedVariables false

set_option maxHeartbeats 400000 in
theorem hull_place (m : Nat) (hm : m ≤ 1073741824) (w : World) :
    Calls Tryz.prog 48 #[.int .i64 (m : Int)] w fun e w' => e = .returned (.tuple #[.int .i64 ((m / 64 : Nat) : Int), .int .u64 ((p2 (m % 64) : Nat) : Int)]) ∧ w = w' := by
  have hA := Lib.hid (i64_and_63 m (by omega))
  have hB := Lib.hid (word_BitN (m % 64) (by omega) w)
  go_enter Tryz.func48, Tryz.ntmps48
  go_wp2_with fail
  rw [hA.out]
  refine hB.out.mono ?_; rintro e w' ⟨rfl, rfl⟩
  go_wp2_with fail
  exact bodyPost_ret (v := .tuple #[.int .i64 ((m / 64 : Nat) : Int), .int .u64 ((p2 (m % 64) : Nat) : Int)]) (by simp [results, Tryz.results48, go_sem]) rfl ⟨rfl, rfl⟩
theorem below_u64 (i n : Int) (h1 : -9223372036854775808 ≤ i) (h2 : i < 9223372036854775808) (h0 : 0 ≤ n) (hn : n ≤ 4611686018427387904) : decide (IntKind.u64.wrap i < n) = belowZ i n := by
  by_cases h : 0 ≤ i
  · have e1 : IntKind.u64.wrap i = i := by rw [IntKind.wrap_u64]; omega
    rw [e1]
    unfold belowZ
    rw [decide_eq_true h, Bool.true_and]
  · rw [belowZ_no (.inl (by omega))]
    refine decide_eq_false ?_
    rw [IntKind.wrap_u64]; omega
set_option maxHeartbeats 400000 in
theorem hull_below (i n : Int) (h1 : -9223372036854775808 ≤ i) (h2 : i < 9223372036854775808) (h0 : 0 ≤ n) (hn : n ≤ 4611686018427387904) (w : World) :
    Calls Tryz.prog 146 #[.int .i64 i, .int .i64 n] w fun e w' => e = .returned (.bool (belowZ i n)) ∧ w = w' := by
  have H := Lib.hid (below_u64 i n h1 h2 h0 hn)
  go_enter Tryz.func146, Tryz.ntmps146
  go_wp2
  go_ret
  rw [← H.out]; exact ⟨rfl, rfl⟩

/-- the least number that goes round -/
def LoopIs (n : Nat) (a : List (List Nat)) (r : Int) (b : Bool) : Prop := (b = true ∧ ∃ i : Nat, r = (i : Int) ∧ i < n ∧ Rel a i i ∧ ∀ j, j < i → ¬ Rel a j j) ∨ (b = false ∧ r = 0 ∧ ∀ i, i < n → ¬ Rel a i i)
def RetLoop (n : Nat) (a : List (List Nat)) (w : World) (e : Ending) (w' : World) : Prop := ∃ r b, e = .returned (.tuple #[.int .i64 r, .bool b]) ∧ LoopIs n a r b ∧ Below w.heap.size w w'
set_option maxHeartbeats 1000000 in
theorem hull_Loop (A : Option Addr) (n c : Nat) (a : List (List Nat)) (w : World) (hr : RowsAt w A n a) (hn : n ≤ 4096) (hl : ∀ xs ∈ a, xs.length ≤ 1024) :
    Calls Tryz.prog 53 #[.agg #[.int .i64 (n : Int), .slice A n c]] w (RetLoop n a w) := by
  obtain ⟨W0, hW0⟩ : ∃ W0, W0 = w.alloc (.cells #[.int .i64 n, .slice A n c] 57) := ⟨_, rfl⟩
  have ha : Below w.heap.size w W0 := by rw [hW0]; exact below_alloc _ _
  have hB : MatB W0 w.heap.size 57 n A n c := by rw [hW0]; exact MatB.new w _
  have l0 := hB.c0
  have l1 := hB.c1
  have hr' := Lib.hid (hr.below ha)
  have hC := Lib.hid (fun (k : Nat) (hk : k < n) W (hW : RowsAt W A n a) => mat_Has (n: Int) A n c a (k: Int) (k: Int) W hW (by omega) (fun xs hx => by have := hl xs hx; omega) (by omega) (by omega) (by omega) (by omega))
  replace ha := Lib.hid ha
  replace hB := Lib.hid hB
  clear hr hl
  go_enter Tryz.func53, Tryz.ntmps53
  go_wp2_with fail
  rw [← hW0]
  clear hW0
  go_wp2_with fail
  clear l0 l1
  go_loopw [7] (fun i wr => ∃ k : Nat, k ≤ n ∧ i = .int .i64 k ∧ Hid (∀ j, j < k → ¬ Rel a j j) ∧ Hid (Below W0.heap.size W0 wr)) (fun i _ => n - (intOf i).toNat)
  case atStart => exact ⟨0, Nat.zero_le _, rfl, Lib.hid (fun j hj => absurd hj (by omega)), Lib.hid (Below.refl _ _)⟩
  case round =>
    obtain ⟨k, hk, rfl, hall, hbr⟩ := hrel
    have l0 := (hB.out.below_ hbr.out).c0
    have l1 := (hB.out.below_ hbr.out).c1
    by_cases hlt : k < n
    · have hCk := Lib.hid (hC.out k hlt wr (hr'.out.below hbr.out))
      go_wp2_with fail
      refine hCk.out.mono ?_; rintro e w1 ⟨rfl, hb1⟩
      have hb01 := Lib.hid (below_trans2 hbr.out hb1)
      clear hb1 l0 l1 hCk
      cases hh : hasM a (k : Int) (k : Int) with
      | true =>
        have hres : Hid (LoopIs n a (k : Int) true) := Lib.hid (.inl ⟨rfl, k, rfl, hlt, hh, hall.out⟩)
        go_wp2_with fail
        exact bodyPost_ret (v := .tuple #[.int .i64 (k : Int), .bool true]) (by simp [results, Tryz.results53, go_sem]) rfl ⟨_, _, rfl, hres.out, below_trans2 ha.out hb01.out⟩
      | false =>
        have hall' : Hid (∀ j, j < k + 1 → ¬ Rel a j j) := Lib.hid (fun j hj => by
          rcases Nat.lt_succ_iff_lt_or_eq.1 hj with h1 | h1
          · exact hall.out j h1
          · subst h1
            unfold Rel
            rw [hh]; simp)
        clear hall
        go_wp2_with fail
        go_roundw
        case rel => exact ⟨k + 1, by omega, by go_num, hall', hb01⟩
        case measure => simp [intOf]; omega
    · have hres : Hid (LoopIs n a 0 false) := Lib.hid (.inr ⟨rfl, rfl, fun i hi => hall.out i (by omega)⟩)
      go_wp2_with fail
      exact bodyPost_ret (v := .tuple #[.int .i64 0, .bool false]) (by simp [results, Tryz.results53, go_sem]) rfl ⟨_, _, rfl, hres.out, below_trans2 ha.out hbr.out⟩

end Go.Proofs.YtjhjojklfdjmdaaGreat

namespace Go.Proofs.YtjhjojklfdjmdaaGreat
open Go.RowKit
set_option linter.unusedVariables false

end Go.Proofs.YtjhjojklfdjmdaaGreat

namespace Go.Proofs.YtjhjojklfdjmdaaGreat
open Go.RowKit
set_option linter.unusedVariables false

end Go.Proofs.YtjhjojklfdjmdaaGreat

namespace Go.Proofs.YtjhjojklfdjmdaaGreat
open Go.RowKit
set_option linter.unusedVariables false

section
variable {n : Nat} {a X : List (List Nat)} {i : Nat} {l : List Nat}
end

end Go.Proofs.YtjhjojklfdjmdaaGreat

namespace Go.Proofs.YtjhjojklfdjmdaaGreat
open Go.RowKit
set_option linter.unusedVariables false

end Go.Proofs.YtjhjojklfdjmdaaGreat

namespace Go.Proofs.YtjhjojklfdjmdaaGreat
open Go.RowKit
set_option linter.unusedVariables false

def turned (ps : List (Int × Int)) : List (Int × Int) := ps.map fun x => (x.2, x.1)

end Go.Proofs.YtjhjojklfdjmdaaGreat

namespace Go.Proofs.YtjhjojklfdjmdaaGreat
open Go.RowKit
set_option linter.unusedVariables false

/-- both numbers are among l -/
def bothIn (l : List Int) (p : Int × Int) : Bool := decide (p.1 ∈ l) && decide (p.2 ∈ l)
def withinM (n : Nat) (a : List (List Nat)) (l : List Int) : List (List Nat) := foldP n ((pairsM a).filter (bothIn l))
theorem within_facts {n : Nat} {a : List (List Nat)} (hG : Good n a) (l : List Int) : Good n (withinM n a l) ∧ ∀ x y : Nat, Rel (withinM n a l) x y ↔ Rel a x y ∧ (x : Int) ∈ l ∧ (y : Int) ∈ l := by
  have h := foldP_facts hG.le ((pairsM a).filter (bothIn l)) (fun x hx => hG.ok x (List.mem_filter.1 hx).1)
  refine ⟨h.1, fun x y => ?_⟩
  unfold Rel withinM
  rw [h.2 x y, decide_eq_true_eq, List.mem_filter, mem_pairsM]
  unfold bothIn
  simp

end Go.Proofs.YtjhjojklfdjmdaaGreat

namespace Go.Proofs.YtjhjojklfdjmdaaGreat
open Go.RowKit
set_option linter.unusedVariables false

/-- a pattern: its kind, its operations, its first and second step (of no steps) -/
structure Wit where
  ki : Int
  r : Int
  w1 : Int
  w2 : Int
  o : Int
  fi : Int
  se : Int
deriving DecidableEq
def noneW (k : Int) : Wit := ⟨k, -1, -1, -1, -1, -1, -1⟩
def zeroW : Wit := ⟨0, 0, 0, 0, 0, 0, 0⟩
def kindsF (l : Int) : List Int := if l = 1 then [1, 2, 3, 4] else if l = 2 then [1, 2, 3, 4, 5] else if l = 3 then [1, 2, 3, 4, 6, 7] else []
def vaF (f : Fac) (r : Int) : Int := match f.items[r.toNat]? with | some x => x.va | none => 0
/-- the first read out of thin air -/
def thinF (f : Fac) : Option Wit := ((List.range f.frm.length).find? fun r => decide (f.frm.getD r 0 = -2)).map fun (r : Nat) => ⟨1, (r : Int), -1, -1, -1, -1, -1⟩
/-- the first operation ahead of itself -/
def roundF (k : Int) (n : Nat) (X : List (List Nat)) : Option Wit := ((List.range n).find? fun (i : Nat) => hasM X (i : Int) (i : Int)).map fun (i : Nat) => ⟨k, -1, -1, -1, (i : Int), -1, -1⟩
/-- the writes to a read's variable that are ahead of it -/
def aheadW (f : Fac) (X : List (List Nat)) (r : Int) : List Int := wrsF f.items (vaF f r) (colF X r f.items.length)
/-- the first write ahead of a read from the beginning -/
def earlyF (f : Fac) (X : List (List Nat)) (k : Int) (reads : List Int) : Option Wit :=
  reads.findSome? fun r => if f.frm.getD r.toNat 0 = -1 then (aheadW f X r).head?.map fun z => ⟨k, r, z, -1, -1, -1, -1⟩ else none
/-- the first write between a read and what it reads from -/
def betwF (f : Fac) (X : List (List Nat)) : Option Wit :=
  ((List.range f.frm.length).map fun (r : Nat) => (r : Int)).findSome? fun r => if f.frm.getD r.toNat 0 < 0 then none else
    ((aheadW f X r).find? fun z => decide (z ≠ f.frm.getD r.toNat 0) && hasM X (f.frm.getD r.toNat 0) z).map fun z => ⟨4, r, f.frm.getD r.toNat 0, z, -1, -1, -1⟩
/-- how many rounds find something -/
def seenK (f : Fac) (kept : List Int) (B : List (List Nat)) : Nat := ((List.range (f.items.length * f.items.length + 1)).find? fun j => (newF f (seX f kept B j) kept).isEmpty).getD 0
theorem seenK_is {f : Fac} {kept : List Int} {B : List (List Nat)} (hB : Good f.items.length B) : SeenIs f kept B (seenK f kept B) := by
  unfold seenK
  cases h : (List.range (f.items.length * f.items.length + 1)).find? fun j => (newF f (seX f kept B j) kept).isEmpty with
  | none =>
    exfalso
    have h1 := List.find?_eq_none.1 h
    have h2 := seL_ge (f := f) (kept := kept) (B := B) (f.items.length * f.items.length + 1) (fun j hj => by
      have := h1 j (List.mem_range.2 hj)
      intro he
      rw [he] at this
      simp at this)
    have h3 := seL_len (kept := kept) hB (f.items.length * f.items.length + 1)
    have h4 : cntW f.items f.items.length * cntW f.items f.items.length ≤ f.items.length * f.items.length := Nat.mul_le_mul (cntW_le _ _) (cntW_le _ _)
    omega
  | some j =>
    obtain ⟨h1, i, hi, h2, h3⟩ := List.find?_eq_some_iff_getElem.1 h
    rw [List.getElem_range] at h2
    subst h2
    refine ⟨fun q hq he => ?_, by simpa using h1⟩
    have := h3 q hq
    rw [List.getElem_range, he] at this
    simp at this
/-- what operation o has seen -/
def keptO (f : Fac) (o : Nat) : List Int := keptF f.items (pastF f.items (o : Int) f.items.length)
def baseM (f : Fac) (co : List (List Nat)) (o : Nat) : List (List Nat) := withinM f.items.length co (wihO co (o : Int) f.items.length)
def seenM (f : Fac) (co : List (List Nat)) (o : Nat) : List (List Nat) := seX f (keptO f o) (baseM f co o) (seenK f (keptO f o) (baseM f co o))
def seesF (f : Fac) (co : List (List Nat)) (k : Int) : Option Wit :=
  (List.range f.items.length).findSome? fun (o : Nat) => if k = 6 then (earlyF f (seenM f co o) k (keptO f o)).map fun x => { x with o := (o : Int) }
    else ((List.range f.items.length).find? fun (i : Nat) => hasM (seenM f co o) (i : Int) (i : Int)).map fun (i : Nat) => ⟨k, -1, (i : Int), -1, (o : Int), -1, -1⟩
/-- the first one of a kind -/
def kindF (f : Fac) (k : Int) : Option Wit :=
  if k = 1 then thinF f else if k = 2 then roundF k f.items.length (coM f) else if k = 3 then earlyF f (coM f) k ((List.range f.items.length).map fun (r : Nat) => (r : Int))
  else if k = 4 then betwF f (coM f) else if k = 5 then roundF k f.items.length (cfM f (coM f)) else seesF f (coM f) k
/-- .. of a level, and the error -/
def findF (f : Fac) (l : Int) : Option Wit := (kindsF l).findSome? (kindF f)
def findE (f : Fac) (l : Int) : Int := if (kindsF l).isEmpty = true then 1 else if (findF f l).isSome = true then 0 else 8
end Go.Proofs.YtjhjojklfdjmdaaGreat

namespace Go.Proofs.YtjhjojklfdjmdaaGreat
open Go.RowKit
set_option linter.unusedVariables false

/-- facts f, told by the slices v, lie in the variable g; of what was there in w nothing has turned -/
structure FBox (w : World) (g : Nat) (v : FV) (f : Fac) (wr : World) : Prop where
  f : FactsAt wr v f
  k : Blk wr g 29 [.slice v.A v.n v.c, .slice v.B v.m v.d, .slice v.C v.k v.e]
  o : Below w.heap.size w wr
section
variable {w wr w' : World} {g : Nat} {v : FV} {f : Fac}
theorem FBox.later (h : FBox w g v f wr) (hb : Below wr.heap.size wr w') : FBox w g v f w' := ⟨h.f.below hb, h.k.below hb h.k.lt, below_trans2 h.o hb⟩
theorem FBox.new (h : FactsAt w v f) : FBox w w.heap.size v f (w.alloc (.cells #[.slice v.A v.n v.c, .slice v.B v.m v.d, .slice v.C v.k v.e] 29)) :=
  ⟨h.below ((Below.refl _ _).alloc (Nat.le_refl _) _), Blk.new w _ _, (Below.refl _ _).alloc (Nat.le_refl _) _⟩
theorem FBox.c0 (h : FBox w g v f wr) : wr.cell? ⟨g, 0, none⟩ = some (.slice v.A v.n v.c) := h.k.cell 0
theorem FBox.c1 (h : FBox w g v f wr) : wr.cell? ⟨g, 1, none⟩ = some (.slice v.B v.m v.d) := h.k.cell 1
theorem FBox.c2 (h : FBox w g v f wr) : wr.cell? ⟨g, 2, none⟩ = some (.slice v.C v.k v.e) := h.k.cell 2
/-- .. and all that was told from an earlier world on -/
theorem FBox.from_ {w0 : World} (h : FBox w g v f wr) (hb : Below w0.heap.size w0 w) : FBox w0 g v f wr := ⟨h.f, h.k, below_trans2 hb h.o⟩
end

/-! ### facts stored into a variable of facts -/
section
variable {w w0 : World} {g k : Nat} {t : TypeId} {cs : List Value} {v u : FV} {f : Fac}
end

/-! ### an item in a variable -/
end Go.Proofs.YtjhjojklfdjmdaaGreat

namespace Go.Proofs.YtjhjojklfdjmdaaGreat
open Go.RowKit
set_option linter.unusedVariables false
def RetWrite (o : Option Nat) (w : World) (e : Ending) (w' : World) : Prop := e = .returned (.tuple #[.int .i64 ((o.getD 0 : Nat) : Int), .bool o.isSome]) ∧ Below w.heap.size w w'
def RetCheck (r : Int × Int × Int) (w : World) (e : Ending) (w' : World) : Prop := e = .returned (.tuple #[.int .i64 r.1, .int .i64 r.2.1, .int .i64 r.2.2]) ∧ Below w.heap.size w w'
set_option maxRecDepth 100000 in
set_option maxHeartbeats 1000000 in
theorem ref10_Write (v : FV) (f : Fac) (va vl : Int) (w : World) (hF : FactsAt w v f) :
    Calls Tryz.prog 26 #[.agg #[.slice v.A v.n v.c, .slice v.B v.m v.d, .slice v.C v.k v.e], .int .i64 va, .int .i64 vl] w (RetWrite (writeF f.items va vl) w) := by
  have hil := hF.is.len
  have him : v.m ≤ 9223372036854775807 := by have := hF.ic; have := hF.im; omega
  -- a call with facts v: they are boxed at g, the world is W0 then
  have hB0 := Lib.hid (FBox.new hF)
  obtain ⟨g, hg⟩ : ∃ g, g = w.heap.size := ⟨_, rfl⟩
  obtain ⟨W0, hW0⟩ : ∃ W, W = w.alloc (.cells #[.slice v.A v.n v.c, .slice v.B v.m v.d, .slice v.C v.k v.e] 29) := ⟨_, rfl⟩
  rw [← hW0, ← hg] at hB0
  clear hF
  have p0 := hB0.out.c0
  have p1 := hB0.out.c1
  have p2 := hB0.out.c2
  go_enter Tryz.func26, Tryz.ntmps26
  go_wp2_with (rw [← hW0, ← hg]; clear hW0 hg)
  go_loopw [8] (fun t wr => ∃ k : Nat, k ≤ v.m ∧ t = .int .i64 k ∧ wr = W0 ∧ Hid (∀ j, j < k → ∀ y, f.items[j]? = some y → hitW va vl y = false)) (fun t _ => v.m - (intOf t).toNat)
  case atStart => exact ⟨0, Nat.zero_le _, rfl, rfl, Lib.hid (fun j hj => absurd hj (by omega))⟩
  case round =>
    obtain ⟨k, hk, rfl, rfl, hall⟩ := hrel
    by_cases hlt : k < v.m
    · have hlt' : (k : Int) < (v.m : Int) := by omega
      obtain ⟨ib, io, x, hxB, hib, hx, hxo, i0, i1, i2, i3, i4⟩ := hB0.out.f.is.item hlt
      rw [hxB] at p1
      have hno := fun (h : hitW va vl x = false) => Lib.hid (show ∀ j, j < k + 1 → ∀ y, f.items[j]? = some y → hitW va vl y = false from fun j hj y hy => by
        rcases Nat.lt_succ_iff_lt_or_eq.1 hj with h1 | h1
        · exact hall.out j h1 y hy
        · subst h1; rw [hx] at hy; injection hy with hy; subst hy; exact h)
      have hyes := fun (h : hitW va vl x = true) => writeF_at hx h hall.out
      obtain ⟨xs, xp, xw, xa, xl⟩ := x
      simp only at i0 i1 i2 i3 i4
      have hh : hitW va vl ⟨xs, xp, xw, xa, xl⟩ = (xw && (decide (xa = va) && decide (xl = vl))) := rfl
      rw [hh] at hno hyes
      clear hh hxo hx hall hlt hxB
      have hkw : (k : Int) + 1 < 9223372036854775808 := by omega
      cases xw with
      | false =>
        have hn := hno rfl
        clear hno hyes
        go_wp2_with fail
        go_round
        case rel => exact ⟨k + 1, by omega, by go_num, trivial, hn⟩
        case measure => simp [intOf]; omega
      | true =>
        by_cases ha : xa = va
        · by_cases hl : xl = vl
          · have hy := hyes (by simp [ha, hl])
            clear hno hyes
            have e1 : (xa == va) = true := by simp [ha]
            have e2 : (xl == vl) = true := by simp [hl]
            replace ha := Lib.hid ha
            replace hl := Lib.hid hl
            replace hy := Lib.hid hy
            go_wp2_with fail
            exact bodyPost_ret (v := .tuple #[.int .i64 (k : Int), .bool true]) (by simp [results, go_sem]) rfl ⟨by rw [hy.out]; rfl, hB0.out.o⟩
          · have hn := hno (by simp [hl])
            clear hno hyes
            have e1 : (xa == va) = true := by simp [ha]
            have e2 : (xl == vl) = false := by simp [hl]
            replace ha := Lib.hid ha
            replace hl := Lib.hid hl
            go_wp2_with fail
            go_round
            case rel => exact ⟨k + 1, by omega, by go_num, trivial, hn⟩
            case measure => simp [intOf]; omega
        · have hn := hno (by simp [ha])
          clear hno hyes
          have e1 : (xa == va) = false := by simp [ha]
          replace ha := Lib.hid ha
          go_wp2_with fail
          go_round
          case rel => exact ⟨k + 1, by omega, by go_num, trivial, hn⟩
          case measure => simp [intOf]; omega
    · have hlt' : ¬ (k : Int) < (v.m : Int) := by omega
      have hn := Lib.hid (writeF_none (is := f.items) (v := va) (val := vl) (fun j y hy => hall.out j (by have := (List.getElem?_eq_some_iff.1 hy).1; omega) y hy))
      clear hall hlt
      go_wp2_with fail
      exact bodyPost_ret (v := .tuple #[.int .i64 0, .bool false]) (by simp [results, go_sem]) rfl ⟨by rw [hn.out]; rfl, hB0.out.o⟩
set_option maxRecDepth 100000 in
set_option maxHeartbeats 1000000 in
theorem ref10_Check (v : FV) (f : Fac) (w : World) (hF : FactsAt w v f) :
    Calls Tryz.prog 18 #[.agg #[.slice v.A v.n v.c, .slice v.B v.m v.d, .slice v.C v.k v.e]] w (RetCheck (checkF f.items) w) := by
  have hil := hF.is.len
  have him : v.m ≤ 9223372036854775807 := by have := hF.ic; have := hF.im; omega
  -- a call with facts v: they are boxed at g, the world is W0 then
  have hB0 := Lib.hid (FBox.new hF)
  obtain ⟨g, hg⟩ : ∃ g, g = w.heap.size := ⟨_, rfl⟩
  obtain ⟨W0, hW0⟩ : ∃ W, W = w.alloc (.cells #[.slice v.A v.n v.c, .slice v.B v.m v.d, .slice v.C v.k v.e] 29) := ⟨_, rfl⟩
  rw [← hW0, ← hg] at hB0
  clear hF
  have p0 := hB0.out.c0
  have p1 := hB0.out.c1
  have p2 := hB0.out.c2
  go_enter Tryz.func18, Tryz.ntmps18
  go_wp2_with (rw [← hW0, ← hg]; clear hW0 hg)
  clear p0 p1 p2
  go_loopw [5] (fun t wr => ∃ k : Nat, k ≤ v.m ∧ t = .int .i64 k ∧ Hid (FBox w g v f wr) ∧ Hid (∀ j, j < k → stepC f.items j = none)) (fun t _ => v.m - (intOf t).toNat)
  case atStart => exact ⟨0, Nat.zero_le _, rfl, hB0, Lib.hid (fun j hj => absurd hj (by omega))⟩
  case round =>
    clear hB0
    obtain ⟨k, hk, rfl, hB, hall⟩ := hrel
    have p0 := hB.out.c0
    have p1 := hB.out.c1
    have p2 := hB.out.c2
    by_cases hlt : k < v.m
    · have hlt' : (k : Int) < (v.m : Int) := by omega
      obtain ⟨ib, io, x, hxB, hib, hx, hxo, i0, i1, i2, i3, i4⟩ := hB.out.f.is.item hlt
      rw [hxB] at p1
      have hkw : (k : Int) + 1 < 9223372036854775808 := by omega
      have hno := fun (h : stepC f.items k = none) => Lib.hid (show ∀ j, j < k + 1 → stepC f.items j = none from fun j hj => by
        rcases Nat.lt_succ_iff_lt_or_eq.1 hj with h1 | h1
        · exact hall.out j h1
        · subst h1; exact h)
      have hyes := fun r (h : stepC f.items k = some r) => checkF_at h hall.out
      have hst : stepC f.items k = if x.wr = false then none else if x.vl = 0 then some ((k : Int), (k : Int), 5) else if (writeF f.items x.va x.vl).getD 0 < k then some (((writeF f.items x.va x.vl).getD 0 : Nat), (k : Int), 4) else none := by
        unfold stepC; rw [hx]
      obtain ⟨xs, xp, xw, xa, xl⟩ := x
      simp only at i0 i1 i2 i3 i4 hst
      obtain ⟨V, hV⟩ : ∃ W, W = wr.alloc (.cells #[.int .i64 xs, .int .i64 xp, .bool xw, .int .i64 xa, .int .i64 xl] 43) := ⟨_, rfl⟩
      obtain ⟨gx, hgx⟩ : ∃ g, g = wr.heap.size := ⟨_, rfl⟩
      have bV : Below wr.heap.size wr V := by rw [hV]; exact (Below.refl _ _).alloc (Nat.le_refl _) _
      have kIt : Blk V gx 43 [.int .i64 xs, .int .i64 xp, .bool xw, .int .i64 xa, .int .i64 xl] := by rw [hV, hgx]; exact Blk.new wr _ _
      have hBV := Lib.hid (hB.out.later bV)
      have j2 := kIt.cell 2
      have j3 := kIt.cell 3
      have j4 := kIt.cell 4
      simp only [List.getElem?_cons_zero, List.getElem?_cons_succ] at j2 j3 j4
      have w0 := hBV.out.c0
      have w1 := hBV.out.c1
      have w2 := hBV.out.c2
      clear bV kIt hx hxo hxB hlt
      cases xw with
      | false =>
        have hn := hno (by rw [hst]; rfl)
        clear hno hyes hst hall
        go_wp2_with (rw [← hV, ← hgx]; clear hV hgx)
        go_round
        case rel => exact ⟨k + 1, by omega, by go_num, hBV, hn⟩
        case measure => simp [intOf]; omega
      | true =>
        by_cases h0 : xl = 0
        · have hy := Lib.hid (hyes _ (by rw [hst, if_neg (by simp), if_pos h0]))
          have e0 : (xl == 0) = true := by simp [h0]
          clear hno hyes hst hall
          replace h0 := Lib.hid h0
          go_wp2_with (rw [← hV, ← hgx]; clear hV hgx)
          exact bodyPost_ret (v := .tuple #[.int .i64 (k : Int), .int .i64 (k : Int), .int .i64 5]) (by simp [results, go_sem]) rfl ⟨by rw [hy.out], hBV.out.o⟩
        · have e0 : (xl == 0) = false := by simp [h0]
          have cW := ref10_Write v f xa xl V hBV.out.f
          obtain ⟨o, ho⟩ : ∃ o, o = writeF f.items xa xl := ⟨_, rfl⟩
          rw [← ho] at cW hst
          rw [if_neg (by simp), if_neg h0] at hst
          unfold RetWrite at cW
          obtain ⟨i, hi⟩ : ∃ i, i = o.getD 0 := ⟨_, rfl⟩
          rw [← hi] at cW hst
          obtain ⟨ii, hii⟩ : ∃ ii : Int, ii = (i : Int) := ⟨_, rfl⟩
          rw [← hii] at cW
          replace cW := Lib.hid cW
          replace h0 := Lib.hid h0
          replace ho := Lib.hid ho
          replace hi := Lib.hid hi
          by_cases hik : i < k
          · have hy := Lib.hid (hyes _ (by rw [hst, if_pos hik]))
            have hik' : ii < (k : Int) := by omega
            replace hii := Lib.hid hii
            clear hno hyes hst hall hik
            go_wp2_with (rw [← hV, ← hgx]; clear hV hgx)
            refine cW.out.mono ?_; rintro e w3 ⟨rfl, b3⟩
            go_wp2_with fail
            exact bodyPost_ret (v := .tuple #[.int .i64 ii, .int .i64 (k : Int), .int .i64 4]) (by simp [results, go_sem]) rfl ⟨by rw [hy.out, hii.out], below_trans2 hBV.out.o b3⟩
          · have hn := hno (by rw [hst, if_neg hik])
            have dk : decide (ii < (k : Int)) = false := decide_eq_false (by omega)
            replace hii := Lib.hid hii
            clear hno hyes hst hall hik
            go_wp2_with (rw [← hV, ← hgx]; clear hV hgx)
            refine cW.out.mono ?_; rintro e w3 ⟨rfl, b3⟩
            have hB3 := Lib.hid (hBV.out.later b3)
            clear w0 w1 w2 j2 j3 j4 p0 p1 p2 i0 i1 i2 i3 i4 b3 e0
            go_wp2_with fail
            go_round
            case rel => exact ⟨k + 1, by omega, by go_num, hB3, hn⟩
            case measure => simp [intOf]; omega
    · have hlt' : ¬ (k : Int) < (v.m : Int) := by omega
      have hn := Lib.hid (checkF_none (is := f.items) (fun j hj => hall.out j (by omega)))
      clear hall hlt
      go_wp2_with fail
      exact bodyPost_ret (v := .tuple #[.int .i64 0, .int .i64 0, .int .i64 0]) (by simp [results, go_sem]) rfl ⟨by rw [hn.out], hB.out.o⟩
end Go.Proofs.YtjhjojklfdjmdaaGreat
