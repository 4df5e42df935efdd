/- A region that draws its order: walked in an order of one's own ('plan'): what only reads (copies, addresses, arithmetic, loads) is taken as soon as it may come up; a call comes up alone; behind the plan a tail, one operation behind the other. What a call makes of memory may be anything that leaves the blocks that were there as they were ('Below'). No function of the program is named here. Contracts of package mat: join, Or. Contracts of package mat: fits, Right. Contracts of package mat: Sub, Same (by slices.EqualFunc). Contracts of package mat: Pairs. Plain facts of matrices that may be: a pair that is set. Plain mathematics of a block of 64 words whose bits are turned about, size by size. Nothing of the program is imported. Contracts of package mat: flip. A whole array of words, loaded and stored: at a plain region's list. No function of the program is named here. Contracts of package mat: take, lay, Turn. Contracts of package mat: lay. Contracts of package mat: Turn. Plain facts of matrices that may be: made of pairs, turned about. Contracts of the document's own answers for matrices (eyewitnessref03): in, Has, Small, Equal. Contracts of the document's own answers for matrices: Equal, Sub, Same. Contracts of the document's own answers for matrices: Sub, Same. Contracts of the document's own answers for matrices: Right. Contracts of the document's own answers for matrices: New. Contracts of the document's own answers for matrices: New (refused), Or. Contracts of the document's own answers for matrices: Set. -/
import Derived.OrdersHeld
import Derived.StillTail
import Derived.Below
import Derived.WalkKit
import Derived.Deep.RegionHeld3
import Derived.Lib.Hide
import Derived.Test.YtbeigdbljepfkaaGreatSeenTellsPk3
import Derived.Deep.MidRow
namespace Go.Proofs.YtbeigdbljepfkaaGreat
open Go.RowKit

section
variable {P : Program} {ops : Array Oper} {md : Region.Mode} {Q : Exit → Act → World → Prop}

/-- Whatever order is picked from here on, till the first n operations are done; each leaves what was there. -/
def wpAnyR (P : Program) (md : Region.Mode) (ops : Array Oper) (Q : Exit → Act → World → Prop) (n : Nat) (F : Array Bool → Act → World → Prop) : Nat → Array Bool → Act → World → Prop
  | 0, listed, a, w => F listed a w
  | f + 1, listed, a, w => Region.ready md ops listed ≠ [] ∧ ∀ i ∈ Region.ready md ops listed, i < n ∧ wpOp P ops Q i (fun a' w' => Below w.heap.size w w' ∧ wpAnyR P md ops Q n F f (listed.setIfInBounds i true) a' w') a w

theorem wpAny_of_R {n g : Nat} {F : Array Bool → Act → World → Prop} (hF : ∀ listed a w, F listed a w → wpAny P md ops Q g listed a w) :
    ∀ (f : Nat) (listed : Array Bool) (a : Act) (w : World), wpAnyR P md ops Q n F f listed a w → wpAny P md ops Q (f + g) listed a w
  | 0, _, _, _, h => by rw [Nat.zero_add]; exact hF _ _ _ h
  | f + 1, listed, a, w, h => by
    rw [show f + 1 + g = (f + g) + 1 by omega]
    exact ⟨fun h0 => absurd h0 h.1, fun i hi => wpOp_mono (fun a' w' h' => wpAny_of_R hF f _ a' w' h'.2) (h.2 i hi).2⟩

theorem below_of {w w' w'' : World} (h : Below w.heap.size w w') (h' : Below w'.heap.size w' w'') : Below w.heap.size w w'' := h.trans (h'.mono h.size)
theorem yields_later {w w' : World} {o : Oper} {v : Value} {a : Act} (hb : Below w.heap.size w w') (h : YieldsIf P ops (fun x => Below w.heap.size w x) o v a) : YieldsIf P ops (fun x => Below w'.heap.size w' x) o v a :=
  h.imp (fun ⟨h1, h2⟩ => ⟨h1, fun x hx => h2 x (below_of hb hx)⟩) id

theorem wpAnyR_first {n i : Nat} {oi : Oper} {v : Value} {F : Array Bool → Act → World → Prop} (hi : ops[i]? = some oi) (hsel : ∀ (j : Nat) (o : Oper) cs b, ops[j]? = some o → o.op ≠ .select cs b)
    (hQ : ∀ c a w, Q (.panic c) (a.put oi.dst v) w → Q (.panic c) a w)
    (hlate : ∀ listed, HeadInv md ops n listed → listed.getD i true = false → ∀ t, n ≤ t → t ∉ Region.ready md ops listed) (hin : i < n)
    (hdone : ∀ listed a w, F listed a w → ∀ j ∈ Region.ready md ops listed, n ≤ j) :
    ∀ (f : Nat) (listed : Array Bool) (a : Act) (w : World), HeadInv md ops n listed →
      (∀ j oj, ops[j]? = some oj → j ≠ i → listed.getD j true = false → (∀ e ∈ oj.after, Region.binds md e = true → e.on ≠ i) → oi.apart ops oj = true) →
      i ∈ Region.ready md ops listed → YieldsIf P ops (fun x => Below w.heap.size w x) oi v a →
      wpAnyR P md ops Q n F f (listed.setIfInBounds i true) (a.put oi.dst v) w → wpAnyR P md ops Q n F (f + 1) listed a w := by
  intro f
  induction f with
  | zero =>
    intro listed a w inv _ hr hy H
    have hun := (mem_ready.1 hr).1
    refine ⟨fun h => (by rw [h] at hr; cases hr), fun j hj => ?_⟩
    have hjn : j < n := by
      rcases Nat.lt_or_ge j n with h | h
      · exact h
      · exact absurd hj (hlate listed inv hun j h)
    refine ⟨hjn, ?_⟩
    by_cases hji : j = i
    · subst hji; exact hy.wpOp hi (Below.refl _ _) ⟨Below.refl _ _, H⟩
    · have := hdone _ _ _ H j (ready_mono hj hji)
      omega
  | succ f ih =>
    intro listed a w inv hfree hr hy H
    have hun := (mem_ready.1 hr).1
    refine ⟨fun h => (by rw [h] at hr; cases hr), fun j hj => ?_⟩
    have hjn : j < n := by
      rcases Nat.lt_or_ge j n with h | h
      · exact h
      · exact absurd hj (hlate listed inv hun j h)
    refine ⟨hjn, ?_⟩
    by_cases hji : j = i
    · subst hji; exact hy.wpOp hi (Below.refl _ _) ⟨Below.refl _ _, H⟩
    · have h1 := (H.2 j (ready_mono hj hji)).2
      obtain ⟨hjun, oj, hoj, hall⟩ := mem_ready.1 hj
      have hnot : ∀ e ∈ oj.after, Region.binds md e = true → e.on ≠ i := fun e he hb heq => by
        have h1 := hall e he hb
        rw [heq, getD_both hun] at h1
        cases h1
      have h2 := wpOp_putIf hoj (hfree j oj hoj hji hjun hnot) (fun cs b => hsel i oi cs b hi) (fun cs b => hsel j oj cs b hoj) hQ hy h1
      have hfree' : ∀ k ok, ops[k]? = some ok → k ≠ i → (listed.setIfInBounds j true).getD k true = false →
          (∀ e ∈ ok.after, Region.binds md e = true → e.on ≠ i) → oi.apart ops ok = true := fun k ok hk hki hun hno => by
        refine hfree k ok hk hki ?_ hno
        by_cases hjk : j = k
        · subst hjk; exact hjun
        · rw [getD_set_ne true hjk] at hun; exact hun
      refine wpOp_mono (fun a' w' h3 => ⟨h3.2.1, ih (listed.setIfInBounds j true) a' w' (inv.set hj hjn) hfree' (ready_mono hr (Ne.symm hji)) (yields_later h3.2.1 h3.1) ?_⟩) h2
      rw [Array.setIfInBounds_comm _ _ hji]
      exact h3.2.2

/-- the plan's check: b: it may come up, and no other that may come up looks at its slot; not b: it alone may come up -/
def planB (md : Region.Mode) (ops : Array Oper) (n : Nat) : List (Bool × Nat) → Array Bool → Bool
  | [], listed => Region.seqB md ops (ops.size - n) n listed
  | (b, i) :: rest, listed => decide (i < n) && (if b then (Region.ready md ops listed).contains i && Region.free md ops listed i else decide (Region.ready md ops listed = [i])) && planB md ops n rest (listed.setIfInBounds i true)
def planAll (md : Region.Mode) (ops : Array Oper) (n : Nat) (pl : List (Bool × Nat)) : Bool :=
  Region.noSelect ops && decide (pl.length = n) && decide (n ≤ ops.size) && (decide (n = ops.size) || (Region.sinkB md ops n && Region.chainB md ops n)) && planB md ops n pl (Array.replicate ops.size false)

/-- the walk of the plan -/
def wpPlan (P : Program) (ops : Array Oper) (Q : Exit → Act → World → Prop) (tail : List Oper) : List (Bool × Nat) → Act → World → Prop
  | [], a, w => wpList P ops Q tail a w
  | (true, i) :: rest, a, w => ∃ o v, ops[i]? = some o ∧ YieldsIf P ops (fun x => Below w.heap.size w x) o v a ∧ wpPlan P ops Q tail rest (a.put o.dst v) w
  | (false, i) :: rest, a, w => wpOp P ops Q i (fun a' w' => Below w.heap.size w w' ∧ wpPlan P ops Q tail rest a' w') a w

theorem wpAnyR_plan {n : Nat} {tail : List Oper} (hsel : Region.noSelect ops = true) (hQ : ∀ c a d v w, Q (.panic c) (a.put d v) w → Q (.panic c) a w)
    (hlate : ∀ listed, HeadInv md ops n listed → ∀ i, i < n → listed.getD i true = false → ∀ t, n ≤ t → t ∉ Region.ready md ops listed) :
    ∀ (pl : List (Bool × Nat)) (listed : Array Bool) (a : Act) (w : World), HeadInv md ops n listed → planB md ops n pl listed = true → wpPlan P ops Q tail pl a w →
    wpAnyR P md ops Q n (fun listed' a' w' => Region.seqB md ops (ops.size - n) n listed' = true ∧ wpList P ops Q tail a' w') pl.length listed a w
  | [], listed, a, w, _, hB, h => ⟨hB, h⟩
  | (true, i) :: rest, listed, a, w, inv, hB, h => by
    simp only [planB, if_true, Bool.and_eq_true, decide_eq_true_eq] at hB
    obtain ⟨⟨hin, hr, hf⟩, hB'⟩ := hB
    obtain ⟨o, v, ho, hy, h'⟩ := h
    have hr' : i ∈ Region.ready md ops listed := by simpa using hr
    exact wpAnyR_first ho (Region.noSelect_spec hsel) (fun c a w => hQ c a o.dst v w) (fun l hl hu => hlate l hl i hin hu) hin (fun listed' a' w' hL => seqB_ready hL.1) rest.length listed a w inv (Region.free_spec ho hf) hr' hy
      (wpAnyR_plan hsel hQ hlate rest _ _ _ (inv.set hr' hin) hB' h')
  | (false, i) :: rest, listed, a, w, inv, hB, h => by
    simp only [planB, Bool.false_eq_true, if_false, Bool.and_eq_true, decide_eq_true_eq] at hB
    obtain ⟨⟨hin, hr⟩, hB'⟩ := hB
    have hr' : i ∈ Region.ready md ops listed := by rw [hr]; simp
    refine ⟨by rw [hr]; simp, fun j hj => ?_⟩
    rw [hr] at hj
    have hji : j = i := by simpa using hj
    subst hji
    exact ⟨hin, wpOp_mono (fun a' w' h3 => ⟨h3.1, wpAnyR_plan hsel hQ hlate rest _ a' w' (inv.set hr' hin) hB' h3.2⟩) h⟩

theorem wpAny_plan {a : Act} {w : World} {l : List Oper} (n : Nat) (pl : List (Bool × Nat)) (hB : planAll .any l.toArray n pl = true)
    (h : ∀ W : World, Hid (W = w.drew) → wpPlan P l.toArray (NoPanic Q) (l.drop n) pl a W) : wpAny P .any l.toArray (NoPanic Q) l.toArray.size (Array.replicate l.toArray.size false) a { w with drawn := w.drawn + 1 } := by
  have hQ : ∀ c a d v w, NoPanic Q (.panic c) (a.put d v) w → NoPanic Q (.panic c) a w := fun _ _ _ _ _ h => h
  simp only [planAll, Bool.and_eq_true, decide_eq_true_eq] at hB
  obtain ⟨⟨⟨⟨hsel, hlen⟩, hn⟩, hsc⟩, hpl⟩ := hB
  have hn' : n ≤ l.length := by simpa using hn
  have hdl : (l.drop n).length = l.toArray.size - n := by simp
  have inv0 : HeadInv .any l.toArray n (Array.replicate l.toArray.size false) :=
    ⟨by simp, fun j oj _ hl => (by rw [getD_replicate_false] at hl; cases hl), fun t _ ht => getD_in (by simpa using ht) (getD_replicate_false _ _)⟩
  have hlate : ∀ listed, HeadInv .any l.toArray n listed → ∀ i, i < n → listed.getD i true = false → ∀ t, n ≤ t → t ∉ Region.ready .any l.toArray listed := by
    intro listed inv i hin hun t ht hr
    rw [Bool.or_eq_true, decide_eq_true_eq, Bool.and_eq_true] at hsc
    obtain ⟨_, ot, hot, _⟩ := mem_ready.1 hr
    have htl := (Array.getElem?_eq_some_iff.1 hot).1
    rcases hsc with h0 | ⟨hs, hc⟩
    · omega
    · exact tail_waits hs hc (by omega) inv _ i rfl hin hun t ht hr
  have H := wpAnyR_plan (md := .any) hsel hQ hlate pl _ a w.drew inv0 hpl (h w.drew (Lib.hid rfl))
  have := wpAny_of_R (Q := NoPanic Q) (g := l.toArray.size - n) (fun listed a' w' hL => by
    have := wpAny_of_seq (md := .any) (Q' := NoPanic Q) (l.drop n) n listed a' w' (fun j => by simp [List.getElem?_drop]) (by rw [hdl]; exact hL.1) hL.2
    rwa [hdl] at this) _ _ _ _ H
  rw [hlen, show n + (l.toArray.size - n) = l.toArray.size by omega] at this
  exact this
theorem wp_region_plan {id : Nat} {a : Act} {w : World} {l : List Oper} (n : Nat) (pl : List (Bool × Nat)) (hm : P.follows .mixedOrders = true) (hB : planAll .any l.toArray n pl = true)
    (h : ∀ W : World, Hid (W = w.drew) → wpPlan P l.toArray (NoPanic Q) (l.drop n) pl a W) : (Code.region id l.toArray true).wp P Q a w :=
  wp_region_noPanic (wp_region_any hm (wpAny_plan n pl hB h))

/-! ### the steps -/
section
variable {tail : List Oper} {rest : List (Bool × Nat)} {a : Act} {w : World} {i : Nat} {o : Oper}
/-- what only reads: its value, in every world whose cells are those of w, where w has any -/
theorem wpPlan_float {v : Value} (hi : ops[i]? = some o) (hw : Region.wanted o (yielded ops a.tmps) = true)
    (hy : ∀ w' : World, (∀ p, (w.cell? p).isSome = true → w'.cell? p = w.cell? p) → (execOp a.eval o).run P w' = .ok (.value v) w') (h : ∀ K : Act → Prop, (∀ a', wpPlan P ops Q tail rest a' w → K a') → K (a.put o.dst v)) : wpPlan P ops Q tail ((true, i) :: rest) a w :=
  ⟨o, v, hi, .inl ⟨hw, fun w' hb => hy w' (fun p hp => by
    have hlt : p.block < w.heap.size := by
      cases hc : w.cell? p with
      | none => rw [hc] at hp; cases hp
      | some u => exact block_lt_of_cell hc
    exact hb.cell hlt)⟩, h _ (fun _ h => h)⟩
/-- what comes up alone: a call -/
theorem wpPlan_only (hi : ops[i]? = some o) (hw : Region.wanted o (yielded ops a.tmps) = true)
    (h : ∀ K : Act → World → Prop, (∀ a' w', Below w.heap.size w w' → wpPlan P ops Q tail rest a' w' → K a' w') → o.wp P a w K Q) : wpPlan P ops Q tail ((false, i) :: rest) a w := by
  show wpOp P ops Q i _ a w
  unfold wpOp
  simp only [hi, hw, if_true]
  exact .inl (h _ (fun a' w' hb hp => ⟨hb, hp⟩))
theorem wpPlan_nil (h : wpList P ops Q tail a w) : wpPlan P ops Q tail [] a w := h
end
end
end Go.Proofs.YtbeigdbljepfkaaGreat

namespace Go.Proofs.YtbeigdbljepfkaaGreat
open Go.RowKit
set_option linter.unusedVariables false

end Go.Proofs.YtbeigdbljepfkaaGreat

namespace Go.Proofs.YtbeigdbljepfkaaGreat
open Go.RowKit
set_option linter.unusedVariables false

end Go.Proofs.YtbeigdbljepfkaaGreat

namespace Go.Proofs.YtbeigdbljepfkaaGreat
open Go.RowKit
set_option linter.unusedVariables false

def allF (f : List Nat → List Nat → Bool) (xss yss : List (List Nat)) : Bool := (List.range xss.length).all fun i => f (xss.getD i []) (yss.getD i [])
theorem allF_yes {f : List Nat → List Nat → Bool} {xss yss : List (List Nat)} (hl : xss.length = yss.length) (h : ∀ (k : Nat) (xs ys : List Nat), k < xss.length → xss[k]? = some xs → yss[k]? = some ys → f xs ys = true) : allF f xss yss = true := by
  unfold allF
  rw [List.all_eq_true]
  intro k hk
  have hk' := List.mem_range.1 hk
  have hx := List.getElem?_eq_getElem hk'
  have hy := List.getElem?_eq_getElem (l := yss) (i := k) (by omega)
  rw [getD_at hx, getD_at hy]
  exact h k _ _ hk' hx hy
theorem allF_same {xss yss : List (List Nat)} (hl : xss.length = yss.length) : allF sameR xss yss = sameM xss yss := by
  rw [Bool.eq_iff_iff]
  unfold sameM
  rw [beq_iff_eq]
  constructor
  · intro h
    unfold allF at h
    rw [List.all_eq_true] at h
    apply List.ext_getElem hl
    intro i h1 h2
    have := h i (List.mem_range.2 h1)
    rw [getD_at (List.getElem?_eq_getElem h1), getD_at (List.getElem?_eq_getElem h2)] at this
    unfold sameR at this
    simpa using this
  · intro h
    subst h
    exact allF_yes rfl (fun k xs ys _ hx hy => by rw [hx] at hy; injection hy with hy; subst hy; exact sameR_refl xs)

end Go.Proofs.YtbeigdbljepfkaaGreat

namespace Go.Proofs.YtbeigdbljepfkaaGreat
open Go.RowKit
set_option linter.unusedVariables false

def cellsP (ps : List (Int × Int)) : List Value := ps.flatMap fun p => [.int .i64 p.1, .int .i64 p.2]
theorem cellsP_len (ps : List (Int × Int)) : (cellsP ps).length = ps.length * 2 := by
  induction ps with
  | nil => rfl
  | cons p ps ih =>
    unfold cellsP at ih ⊢
    rw [List.flatMap_cons, List.length_append, ih]
    simp; omega
theorem cellsP_snoc (ps : List (Int × Int)) (p : Int × Int) : cellsP (ps ++ [p]) = cellsP ps ++ [.int .i64 p.1, .int .i64 p.2] := by
  unfold cellsP; rw [List.flatMap_append]; simp
theorem cellsP_get : ∀ (ps : List (Int × Int)) (j : Nat) (p : Int × Int), ps[j]? = some p → (cellsP ps)[j * 2]? = some (.int .i64 p.1) ∧ (cellsP ps)[j * 2 + 1]? = some (.int .i64 p.2)
  | [], j, p, h => by simp at h
  | q :: ps, 0, p, h => by
    simp at h
    subst h
    unfold cellsP
    simp
  | q :: ps, j + 1, p, h => by
    have ih := cellsP_get ps j p (by simpa using h)
    unfold cellsP at ih ⊢
    rw [List.flatMap_cons]
    rw [show (j + 1) * 2 = j * 2 + 2 from by omega]
    exact ⟨by simpa using ih.1, by simpa using ih.2⟩
def OkI (ps : List (Int × Int)) : Prop := ∀ p ∈ ps, (-9223372036854775808 ≤ p.1 ∧ p.1 < 9223372036854775808) ∧ (-9223372036854775808 ≤ p.2 ∧ p.2 < 9223372036854775808)
theorem PairsAt.of_own {w : World} {base n : Nat} {e : TypeId} {v : Value} {ps : List (Int × Int)} (h : w.ownsRow base e 2 v n (cellsP ps)) (hp : OkI ps) : ∃ A c, v = .slice A n c ∧ PairsAt w A n ps := by
  have hlen : ps.length = n := by have := h.1; rw [cellsP_len] at this; omega
  rcases h.2 with ⟨rfl, h0⟩ | ⟨g, cap, cur, rfl, hbg, hg, hnc, hcm, hcs, htake⟩
  · obtain rfl : n = 0 := h0
    exact ⟨none, 0, rfl, hlen, hp, fun hh => by omega⟩
  · refine ⟨_, _, rfl, hlen, hp, fun hn => ⟨g, 0, rfl, (Array.getElem?_eq_some_iff.1 hg).1, fun j p hj => ?_⟩⟩
    have hjl : j < ps.length := (List.getElem?_eq_some_iff.1 hj).1
    obtain ⟨h1, h2⟩ := cellsP_get ps j p hj
    have key : ∀ q u, q < n * 2 → (cellsP ps)[q]? = some u → w.cell? ⟨g, 0 + q, none⟩ = some u := fun q u hq hu => by
      rw [Nat.zero_add, cell_of_row w g q cur e (0, 0) hg]
      rw [← htake, List.getElem?_take_of_lt hq] at hu
      simpa using hu
    refine ⟨key _ _ (by omega) h1, ?_⟩
    have := key (j * 2 + 1) _ (by omega) h2
    rwa [show 0 + (j * 2 + 1) = 0 + j * 2 + 1 from by omega] at this

/-! ### the pairs of a matrix -/
def pairsK (xss : List (List Nat)) (k : Nat) : List (Int × Int) := (List.range k).flatMap fun i => (listR (xss.getD i [])).map fun j => ((i : Int), j)
def pairsM (xss : List (List Nat)) : List (Int × Int) := pairsK xss xss.length
theorem pairsK_succ {xss : List (List Nat)} {k : Nat} {xs : List Nat} (h : xss[k]? = some xs) : pairsK xss (k + 1) = pairsK xss k ++ (listR xs).map fun j => ((k : Int), j) := by
  unfold pairsK
  rw [List.range_succ, List.flatMap_append, List.flatMap_singleton, getD_at h]
def sumK (xss : List (List Nat)) (k : Nat) : Nat := ((List.range k).map fun i => countR (xss.getD i [])).sum
theorem sumK_le {xss : List (List Nat)} (B : Nat) (hl : ∀ (i : Nat) (xs : List Nat), xss[i]? = some xs → xs.length ≤ B) : ∀ k, sumK xss k ≤ k * (64 * B)
  | 0 => by simp [sumK]
  | k + 1 => by
    have ih := sumK_le B hl k
    unfold sumK at ih ⊢
    rw [List.range_succ, List.map_append, List.sum_append, List.map_singleton, List.sum_singleton]
    have : countR (xss.getD k []) ≤ 64 * B := by
      rcases Nat.lt_or_ge k xss.length with hk | hk
      · have hx := List.getElem?_eq_getElem hk
        rw [getD_at hx]
        exact Nat.le_trans (countR_le _) (Nat.mul_le_mul_left _ (hl k _ hx))
      · rw [List.getD_eq_getElem?_getD, List.getElem?_eq_none hk]; simp [countR]
    rw [Nat.succ_mul]
    omega
theorem pairsK_len (xss : List (List Nat)) (k : Nat) : (pairsK xss k).length = sumK xss k := by
  unfold pairsK sumK
  rw [List.length_flatMap]
  congr 1
  apply List.map_congr_left
  intro i _
  rw [List.length_map, listR_len]
theorem pairsM_ok (xss : List (List Nat)) (h1 : xss.length ≤ 1073741824) (h : ∀ (i : Nat) (xs : List Nat), xss[i]? = some xs → xs.length ≤ 1073741824) : OkI (pairsM xss) := by
  intro p hp
  unfold pairsM pairsK at hp
  rw [List.mem_flatMap] at hp
  obtain ⟨i, hi, hp⟩ := hp
  have hil := List.mem_range.1 hi
  have hx := List.getElem?_eq_getElem hil
  rw [getD_at hx, List.mem_map] at hp
  obtain ⟨j, hj, rfl⟩ := hp
  unfold listR at hj
  obtain ⟨q, hq, rfl⟩ := List.mem_map.1 hj
  have := ((listN_mem _ q).1 hq).1
  have := h i _ hx
  show (-9223372036854775808 ≤ (i : Int) ∧ (i : Int) < 9223372036854775808) ∧ (-9223372036854775808 ≤ (q : Int) ∧ (q : Int) < 9223372036854775808)
  omega

theorem info_pair : (Tryz.prog.info? 80).map (fun i => (i.zero, i.size, i.bytes)) = some (some (.agg #[.int .i64 0, .int .i64 0]), 2, 16) := by kernel_rfl
theorem cell_two_new (w : World) (t : TypeId) (x y : Value) : ∀ (j : Nat) (u : Value), [x, y][j]? = some u → (w.alloc (.cells #[x, y] t)).cell? ((⟨w.heap.size, 0, none⟩ : Addr).add j) = some u := by
  intro j u hu
  have hB := Blk.new w t [x, y]
  have h := hB.cell j
  have e : (⟨w.heap.size, 0, none⟩ : Addr).add j = ⟨w.heap.size, j, none⟩ := by unfold Addr.add; split <;> simp_all
  rw [e]
  exact h.trans hu

/-- what a call that answers pairs ends in -/
def RetPairs (ps : List (Int × Int)) (w : World) (e : Ending) (w' : World) : Prop := ∃ A n c, e = .returned (.slice A n c) ∧ PairsAt w' A n ps ∧ Below w.heap.size w w'

end Go.Proofs.YtbeigdbljepfkaaGreat

namespace Go.Proofs.YtbeigdbljepfkaaGreat
open Go.RowKit
set_option linter.unusedVariables false

/-- the rows of a matrix that may be: each of as many words as the number wants, and no bit behind it -/
structure Good (n : Nat) (xss : List (List Nat)) : Prop where
  le : n ≤ 4096
  len : xss.length = n
  row : ∀ r ∈ xss, W64 r ∧ n ≤ 64 * r.length ∧ r.length = (wordsZ (n : Int)).toNat ∧ ∀ j : Nat, n ≤ j → hasR r (j : Int) = false
theorem Good.at_ {n : Nat} {xss : List (List Nat)} (h : Good n xss) {a : Nat} (ha : a < n) : ∃ r, xss[a]? = some r ∧ W64 r ∧ n ≤ 64 * r.length := by
  have hl : a < xss.length := by rw [h.len]; exact ha
  exact ⟨xss[a], List.getElem?_eq_getElem hl, (h.row _ (List.getElem_mem hl)).1, (h.row _ (List.getElem_mem hl)).2.1⟩
theorem Good.small {n : Nat} {xss : List (List Nat)} (h : Good n xss) : ∀ r ∈ xss, r.length ≤ 64 := fun r hr => by
  have := (h.row r hr).2.2.1
  have := words_le h.le
  omega
theorem Good.set {n : Nat} {xss : List (List Nat)} (h : Good n xss) {a b : Nat} (ha : a < n) (hb : b < n) : Good n (setM xss (a : Int) (b : Int)) := by
  obtain ⟨r, hr, hw, hl⟩ := h.at_ ha
  rw [setM_nat hr]
  have hrow := h.row r (List.mem_of_getElem? hr)
  refine ⟨h.le, by rw [List.length_set]; exact h.len, fun r' hr' => ?_⟩
  rcases List.mem_or_eq_of_mem_set hr' with h1 | rfl
  · exact h.row r' h1
  · refine ⟨setR_w64 hw b, by rw [setR_len]; exact hl, by rw [setR_len]; exact hrow.2.2.1, fun j hj => ?_⟩
    rw [hasR_setR r b j (by omega), hrow.2.2.2 j hj, decide_eq_false (by omega)]; rfl

theorem set_at {α : Type} {xss : List α} {a : Nat} {r r' : α} (h : xss[a]? = some r) : (xss.set a r')[a]? = some r' := by
  rw [List.getElem?_set, if_pos rfl, if_pos (List.getElem?_eq_some_iff.1 h).1]
theorem map_range_getD {α β : Type} (l : List α) (d : α) (f : α → β) : (List.range l.length).map (fun i => f (l.getD i d)) = l.map f := by
  apply List.ext_getElem?
  intro i
  by_cases hi : i < l.length
  · rw [List.getElem?_map, List.getElem?_range hi, List.getElem?_map, List.getElem?_eq_getElem hi, Option.map_some, Option.map_some, getD_at (List.getElem?_eq_getElem hi)]
  · rw [List.getElem?_eq_none (by simpa using hi), List.getElem?_eq_none (by simpa using hi)]
theorem pairsM_len (xss : List (List Nat)) : (pairsM xss).length = (xss.map countR).sum := by
  unfold pairsM pairsK
  rw [List.length_flatMap, ← map_range_getD xss [] countR]
  congr 1
  apply List.map_congr_left
  intro i _
  rw [List.length_map, listR_len]
theorem sum_set : ∀ (l : List Nat) (i x y : Nat), l[i]? = some y → (l.set i x).sum + y = l.sum + x
  | [], i, x, y, h => by simp at h
  | z :: l, 0, x, y, h => by
    simp at h; subst h
    simp only [List.set_cons_zero, List.sum_cons]; omega
  | z :: l, i + 1, x, y, h => by
    have := sum_set l i x y (by simpa using h)
    simp only [List.set_cons_succ, List.sum_cons]; omega

end Go.Proofs.YtbeigdbljepfkaaGreat

namespace Go.Proofs.YtbeigdbljepfkaaGreat

/-! ### one size: the rows, one by one -/

/-! ### the bits -/

end Go.Proofs.YtbeigdbljepfkaaGreat

namespace Go.Proofs.YtbeigdbljepfkaaGreat
open Go.RowKit
set_option linter.unusedVariables false

/-- all but block g is as it was; how often the order was drawn is not said -/
structure OnlyAt (g : Nat) (w w' : World) : Prop where
  os : w'.os = w.os
  tape : w'.tape = w.tape
  output : w'.output = w.output
  size : w'.heap.size = w.heap.size
  block : ∀ k, k ≠ g → w'.heap[k]? = w.heap[k]?
theorem OnlyAt.refl (g : Nat) (w : World) : OnlyAt g w w := ⟨rfl, rfl, rfl, rfl, fun _ _ => rfl⟩
theorem OnlyAt.drewN {g : Nat} {w w' : World} (h : OnlyAt g w w') (n : Nat) : OnlyAt g w (w'.drewN n) := ⟨h.os, h.tape, h.output, h.size, h.block⟩
theorem OnlyAt.set {g : Nat} {w w' : World} (h : OnlyAt g w w') (o : Nat) (u : Value) : OnlyAt g w (w'.setCell ⟨g, o, none⟩ u) :=
  ⟨h.os, h.tape, h.output, by simpa using h.size, fun k hk => (Below.heap_setCell w' ⟨g, o, none⟩ u k (by simpa using hk)).trans (h.block k hk)⟩
theorem OnlyAt.below {g : Nat} {w w' : World} (h : OnlyAt g w w') : Below g w w' := ⟨h.os, h.tape, h.output, by rw [h.size]; exact Nat.le_refl _, fun k hk => h.block k (by omega)⟩
theorem OnlyAt.cell {g : Nat} {w w' : World} (h : OnlyAt g w w') {p : Addr} (hp : p.block ≠ g) : w'.cell? p = w.cell? p := World.cell?_of_block (h.block _ hp)

end Go.Proofs.YtbeigdbljepfkaaGreat

namespace Go.Proofs.YtbeigdbljepfkaaGreat
open Go.RowKit

section
variable {P : Program} {ops : Array Oper} {rest : List Oper} {op : Oper} {a : Act} {w : World} {Q : Exit → Act → World → Prop}
end

end Go.Proofs.YtbeigdbljepfkaaGreat

namespace Go.Proofs.YtbeigdbljepfkaaGreat
open Go.RowKit
set_option linter.unusedVariables false

end Go.Proofs.YtbeigdbljepfkaaGreat

namespace Go.Proofs.YtbeigdbljepfkaaGreat
open Go.RowKit
set_option linter.unusedVariables false

end Go.Proofs.YtbeigdbljepfkaaGreat

namespace Go.Proofs.YtbeigdbljepfkaaGreat
open Go.RowKit
set_option linter.unusedVariables false

end Go.Proofs.YtbeigdbljepfkaaGreat

namespace Go.Proofs.YtbeigdbljepfkaaGreat
open Go.RowKit
set_option linter.unusedVariables false

theorem hasM_setM {n : Nat} {xss : List (List Nat)} (h : Good n xss) {a b : Nat} (ha : a < n) (hb : b < n) (i j : Nat) : hasM (setM xss (a : Int) (b : Int)) (i : Int) (j : Int) = (hasM xss (i : Int) (j : Int) || decide (i = a ∧ j = b)) := by
  obtain ⟨r, hr, hw, hl⟩ := h.at_ ha
  rw [setM_nat hr]
  by_cases hia : i = a
  · subst hia
    rw [hasM_in (set_at hr), hasM_in hr, hasR_setR r b j (by omega)]
    congr 1
    simp
  · rw [decide_eq_false (by omega), Bool.or_false]
    by_cases hi : i < xss.length
    · have hx : xss[i]? = some xss[i] := List.getElem?_eq_getElem hi
      rw [hasM_in hx, hasM_in (xs := xss[i]) (by rw [List.getElem?_set, if_neg (Ne.symm hia)]; exact hx)]
    · rw [hasM_out (xss := xss) (.inr (by omega)), hasM_out (xss := xss.set a (setR r (b : Int))) (.inr (by rw [List.length_set]; omega))]
theorem Good.new {n : Nat} (hn : n ≤ 4096) : Good n (newM n) := by
  refine ⟨hn, by simp [newM], fun r hr => ?_⟩
  have hp : 0 < n := by
    rcases Nat.eq_zero_or_pos n with rfl | hp
    · simp [newM] at hr
    · exact hp
  have he : r = List.replicate (wordsZ (n : Int)).toNat 0 := by unfold newM at hr; exact (List.mem_replicate.1 hr).2
  subst he
  refine ⟨fun x hx => by rw [(List.mem_replicate.1 hx).2]; omega, by rw [List.length_replicate]; exact (words_pos hp).2, by rw [List.length_replicate], fun j _ => hasR_zeros _ _⟩
theorem newM_has (n i j : Nat) : hasM (newM n) (i : Int) (j : Int) = false := by
  by_cases hi : i < n
  · rw [hasM_in (xs := List.replicate (wordsZ (n : Int)).toNat 0) (by unfold newM; rw [List.getElem?_replicate, if_pos hi])]; exact hasR_zeros _ _
  · exact hasM_out (.inr (by simp [newM]; omega))
theorem okP_nat {n : Nat} {x : Int × Int} (h : okP (n : Int) x = true) : ∃ a b : Nat, x = ((a : Int), (b : Int)) ∧ a < n ∧ b < n := by
  obtain ⟨i, j⟩ := x
  have h' : (((0 ≤ i) ∧ i < (n : Int)) ∧ 0 ≤ j) ∧ j < (n : Int) := by simpa [okP, inM] using h
  obtain ⟨⟨⟨i0, i1⟩, j0⟩, j1⟩ := h'
  obtain ⟨a, rfl⟩ := Int.eq_ofNat_of_zero_le i0
  obtain ⟨b, rfl⟩ := Int.eq_ofNat_of_zero_le j0
  exact ⟨a, b, rfl, by omega, by omega⟩
theorem fold_facts {n : Nat} : ∀ (ps : List (Int × Int)) (m : List (List Nat)), Good n m → (∀ x ∈ ps, okP (n : Int) x = true) →
    Good n (ps.foldl setP m) ∧ ∀ i j : Nat, hasM (ps.foldl setP m) (i : Int) (j : Int) = (hasM m (i : Int) (j : Int) || decide (((i : Int), (j : Int)) ∈ ps))
  | [], m, hG, _ => ⟨hG, fun i j => by simp⟩
  | p :: ps, m, hG, hok => by
    obtain ⟨a, b, rfl, ha, hb⟩ := okP_nat (hok p (List.mem_cons_self ..))
    have h := fold_facts ps (setP m ((a : Int), (b : Int))) (hG.set ha hb) (fun x hx => hok x (List.mem_cons_of_mem _ hx))
    refine ⟨h.1, fun i j => ?_⟩
    rw [List.foldl_cons, h.2 i j]
    unfold setP
    rw [hasM_setM hG ha hb, Bool.or_assoc]
    congr 1
    simp only [List.mem_cons, Prod.mk.injEq, Int.natCast_inj, Bool.decide_or]
theorem foldP_facts {n : Nat} (hn : n ≤ 4096) (ps : List (Int × Int)) (hok : ∀ x ∈ ps, okP (n : Int) x = true) :
    Good n (foldP n ps) ∧ ∀ i j : Nat, hasM (foldP n ps) (i : Int) (j : Int) = decide (((i : Int), (j : Int)) ∈ ps) := by
  have h := fold_facts ps (newM n) (Good.new hn) hok
  refine ⟨h.1, fun i j => ?_⟩
  have := h.2 i j
  rw [newM_has, Bool.false_or] at this
  exact this
theorem good_ext {n : Nat} {a b : List (List Nat)} (ha : Good n a) (hb : Good n b) (h : ∀ i j : Nat, i < n → j < n → hasM a (i : Int) (j : Int) = hasM b (i : Int) (j : Int)) : a = b := by
  apply List.ext_getElem?
  intro i
  by_cases hi : i < n
  · obtain ⟨r, hr, hw, hl⟩ := ha.at_ hi
    obtain ⟨s, hs, hw2, hl2⟩ := hb.at_ hi
    rw [hr, hs]
    have h1 := ha.row r (List.mem_of_getElem? hr)
    have h2 := hb.row s (List.mem_of_getElem? hs)
    congr 1
    refine row_ext hw hw2 (by rw [h1.2.2.1, h2.2.2.1]) (fun j _ => ?_)
    by_cases hj : j < n
    · have := h i j hi hj
      rw [hasM_in hr, hasM_in hs] at this; exact this
    · rw [h1.2.2.2 j (by omega), h2.2.2.2 j (by omega)]
  · rw [List.getElem?_eq_none (by rw [ha.len]; omega), List.getElem?_eq_none (by rw [hb.len]; omega)]
theorem mem_pairsM (xss : List (List Nat)) (i j : Nat) : ((i : Int), (j : Int)) ∈ pairsM xss ↔ hasM xss (i : Int) (j : Int) = true := by
  unfold pairsM pairsK
  rw [List.mem_flatMap]
  constructor
  · rintro ⟨k, hk, hm⟩
    obtain ⟨z, hz, he⟩ := List.mem_map.1 hm
    simp only [Prod.mk.injEq, Int.natCast_inj] at he
    obtain ⟨rfl, rfl⟩ := he
    have hk' : k < xss.length := List.mem_range.1 hk
    have hx : xss[k]? = some xss[k] := List.getElem?_eq_getElem hk'
    rw [getD_at hx] at hz
    obtain ⟨u, hu, he⟩ := List.mem_map.1 hz
    rw [hasM_in hx]
    have hju : u = j := Int.ofNat.inj he
    subst hju
    exact ((listN_mem _ _).1 hu).2
  · intro h
    by_cases hi : i < xss.length
    · have hx : xss[i]? = some xss[i] := List.getElem?_eq_getElem hi
      rw [hasM_in hx] at h
      refine ⟨i, List.mem_range.2 hi, List.mem_map.2 ⟨(j : Int), ?_, rfl⟩⟩
      rw [getD_at hx]
      refine List.mem_map.2 ⟨j, (listN_mem _ _).2 ⟨?_, h⟩, rfl⟩
      by_cases hj : j < 64 * (xss[i]).length
      · exact hj
      · rw [hasR_out _ _ (.inr (by omega))] at h; cases h
    · rw [hasM_out (.inr (by omega))] at h; cases h
theorem pairsM_nat {xss : List (List Nat)} {x : Int × Int} (h : x ∈ pairsM xss) : ∃ i j : Nat, x = ((i : Int), (j : Int)) ∧ hasM xss (i : Int) (j : Int) = true := by
  have h0 := h
  unfold pairsM pairsK at h
  rw [List.mem_flatMap] at h
  obtain ⟨k, hk, hm⟩ := h
  obtain ⟨z, hz, he⟩ := List.mem_map.1 hm
  obtain ⟨u, hu, he2⟩ := List.mem_map.1 hz
  subst he he2
  exact ⟨k, u, rfl, (mem_pairsM _ _ _).1 h0⟩
theorem Good.has_lt {n : Nat} {xss : List (List Nat)} (h : Good n xss) {i j : Nat} (hh : hasM xss (i : Int) (j : Int) = true) : i < n ∧ j < n := by
  by_cases hi : i < n
  · obtain ⟨r, hr, hw, hl⟩ := h.at_ hi
    refine ⟨hi, ?_⟩
    by_cases hj : j < n
    · exact hj
    · rw [hasM_in hr, (h.row r (List.mem_of_getElem? hr)).2.2.2 j (by omega)] at hh; cases hh
  · rw [hasM_out (.inr (by rw [h.len]; omega))] at hh; cases hh
theorem Good.ok {n : Nat} {xss : List (List Nat)} (h : Good n xss) : ∀ x ∈ pairsM xss, okP (n : Int) x = true := fun x hx => by
  obtain ⟨i, j, rfl, hh⟩ := pairsM_nat hx
  obtain ⟨h1, h2⟩ := h.has_lt hh
  unfold okP inM; simp; omega

theorem words_one {n : Nat} (h0 : 0 < n) (h : n < 64) : (wordsZ (n : Int)).toNat = 1 := by
  unfold wordsZ; rw [if_neg (by omega)]; omega
theorem Good.one {n : Nat} {xss : List (List Nat)} (h : Good n xss) (hn : n < 64) : ∀ r ∈ xss, r.length = 1 := fun r hr => by
  have hp : 0 < n := by
    rcases Nat.eq_zero_or_pos n with rfl | hp
    · have : xss = [] := List.eq_nil_of_length_eq_zero h.len
      rw [this] at hr; cases hr
    · exact hp
  rw [(h.row r hr).2.2.1, words_one hp hn]
def sumF (n : Nat) (f : Nat → Nat) : Nat := ((List.range n).map f).sum
theorem sumF_succ (n : Nat) (f : Nat → Nat) : sumF (n + 1) f = sumF n f + f n := by
  unfold sumF; rw [List.range_succ, List.map_append, List.sum_append]; simp
theorem sumF_congr {n : Nat} {f g : Nat → Nat} (h : ∀ i, i < n → f i = g i) : sumF n f = sumF n g := by
  unfold sumF; congr 1; exact List.map_congr_left fun i hi => h i (List.mem_range.1 hi)
theorem count_sum (n : Nat) (p : Nat → Bool) : ∀ N, n ≤ N → (∀ j, n ≤ j → p j = false) → ((List.range N).filter p).length = sumF n fun j => (p j).toNat := by
  have h0 : ∀ k, ((List.range k).filter p).length = sumF k fun j => (p j).toNat := by
    intro k
    induction k with
    | zero => rfl
    | succ k ih =>
      rw [List.range_succ, List.filter_append, List.length_append, ih, sumF_succ]
      cases h : p k <;> simp [h]
  intro N hN hz
  rw [h0 N]
  obtain ⟨d, rfl⟩ := Nat.exists_eq_add_of_le hN
  clear hN h0
  induction d with
  | zero => rfl
  | succ d ih => rw [← Nat.add_assoc, sumF_succ, ih, hz (n + d) (by omega)]; rfl
theorem pairs_sum {n : Nat} {xss : List (List Nat)} (h : Good n xss) : (pairsM xss).length = sumF n fun i => sumF n fun j => (hasM xss (i : Int) (j : Int)).toNat := by
  rw [pairsM_len, ← map_range_getD xss [] countR, h.len]
  refine sumF_congr fun i hi => ?_
  obtain ⟨r, hr, hw, hl⟩ := h.at_ hi
  show countR (xss.getD i []) = _
  rw [getD_at hr, ← count_far r (64 * r.length) (Nat.le_refl _), count_sum n _ _ hl (fun j hj => (h.row r (List.mem_of_getElem? hr)).2.2.2 j hj)]
  exact sumF_congr fun j _ => by rw [hasM_in hr]

end Go.Proofs.YtbeigdbljepfkaaGreat

namespace Go.Proofs.YtbeigdbljepfkaaGreat
open Go.RowKit
set_option linter.unusedVariables false

set_option maxHeartbeats 1000000 in
theorem ref3_in (N : Int) (A : Option Addr) (n c : Nat) (i j : Int) (w : World) :
    Calls Tryz.prog 43 #[.agg #[.int .i64 N, .slice A n c], .int .i64 i, .int .i64 j] w (RetB (inM N i j) w) := by
  have ha : Below w.heap.size w (w.alloc (.cells #[.int .i64 N, .slice A n c] 34)) := (Below.refl _ _).alloc (Nat.le_refl _) _
  replace ha := Lib.hid ha
  by_cases h1 : 0 ≤ i
  · by_cases h2 : i < N
    · by_cases h3 : 0 ≤ j
      · by_cases h4 : j < N
        · have H := Lib.hid (show inM N i j = true by unfold inM; simp [h1, h2, h3, h4])
          go_enter Tryz.func43, Tryz.ntmps43
          go_wp2
          go_ret
          rw [H.out]; exact ⟨rfl, ha.out⟩
        · have H := Lib.hid (show inM N i j = false by unfold inM; simp [h4])
          go_enter Tryz.func43, Tryz.ntmps43
          go_wp2
          go_ret
          rw [H.out]; exact ⟨rfl, ha.out⟩
      · have H := Lib.hid (show inM N i j = false by unfold inM; simp [h3])
        go_enter Tryz.func43, Tryz.ntmps43
        go_wp2
        go_ret
        rw [H.out]; exact ⟨rfl, ha.out⟩
    · have H := Lib.hid (show inM N i j = false by unfold inM; simp [h2])
      go_enter Tryz.func43, Tryz.ntmps43
      go_wp2
      go_ret
      rw [H.out]; exact ⟨rfl, ha.out⟩
  · have H := Lib.hid (show inM N i j = false by unfold inM; simp [h1])
    go_enter Tryz.func43, Tryz.ntmps43
    go_wp2
    go_ret
    rw [H.out]; exact ⟨rfl, ha.out⟩

theorem inM_yes {N i j : Int} (h : inM N i j = true) : 0 ≤ i ∧ i < N ∧ 0 ≤ j ∧ j < N := by
  unfold inM at h
  simp only [Bool.and_eq_true, decide_eq_true_eq] at h
  obtain ⟨⟨⟨a, b⟩, c⟩, d⟩ := h
  exact ⟨a, b, c, d⟩
set_option maxHeartbeats 400000 in
theorem ref3_Has (A : Option Addr) (n c : Nat) (xss : List (List Nat)) (i j : Int) (w : World) (hr : RowsAt w A n xss) (hn : n ≤ 4096) (hl : ∀ (k : Nat) (xs : List Nat), xss[k]? = some xs → xs.length ≤ 1024) :
    Calls Tryz.prog 25 #[.agg #[.int .i64 (n : Int), .slice A n c], .int .i64 i, .int .i64 j] w (RetB (inM (n : Int) i j && hasM xss i j) w) := by
  obtain ⟨W0, hW0⟩ : ∃ W0, W0 = w.alloc (.cells #[.int .i64 n, .slice A n c] 34) := ⟨_, rfl⟩
  have ha : Below w.heap.size w W0 := by rw [hW0]; exact (Below.refl _ _).alloc (Nat.le_refl _) _
  have hB : MatB W0 w.heap.size 34 n A n c := by rw [hW0]; exact MatB.new w _
  have hin := Lib.hid (ref3_in (n : Int) A n c i j W0)
  rcases Bool.eq_false_or_eq_true (inM (n : Int) i j) with h | h
  · obtain ⟨i0, i1, j0, j1⟩ := inM_yes h
    obtain ⟨k, rfl⟩ := Int.eq_ofNat_of_zero_le i0
    have hk : k < n := by omega
    obtain ⟨b, off, B, m, d, xs, rfl, hbl, hx, hc, hxr⟩ := hr.at_ hk
    have hm : m ≤ 1024 := by have := hxr.len; have := hl k xs hx; omega
    have H := Lib.hid (show (inM (n : Int) k j && hasM xss k j) = hasR xs j by rw [h, hasM_in hx, Bool.true_and])
    have hk0 : (0 : Int) ≤ (k : Int) := by omega
    have hkn : (k : Int) < (n : Int) := by omega
    replace h := Lib.hid h
    replace hB := Lib.hid hB
    replace hxr := Lib.hid hxr
    replace ha := Lib.hid ha
    clear hx hr
    go_enter Tryz.func25, Tryz.ntmps25
    go_wp2_with fail
    rw [← hW0]
    clear hW0
    refine hin.out.mono ?_; rintro e w1 ⟨rfl, hb1⟩
    rw [h.out]
    have l1 := (hB.out.below_ hb1).c1
    have hbb := below_trans2 ha.out hb1
    have hcr := (hbb.cell (p := ⟨b, off + k, none⟩) hbl).trans hc
    have hC := Lib.hid (ref2_Has B m d xs j w1 (hxr.out.below hbb) (by omega) (by omega) (by omega))
    replace hbb := Lib.hid hbb
    clear hb1 hc
    go_wp2_with fail
    refine hC.out.mono ?_; rintro e w' ⟨rfl, rfl⟩
    go_wp2
    go_ret
    rw [H.out]; exact ⟨rfl, hbb.out⟩
  · have H := Lib.hid (show (inM (n : Int) i j && hasM xss i j) = false by rw [h]; rfl)
    replace h := Lib.hid h
    replace ha := Lib.hid ha
    clear hB hr
    go_enter Tryz.func25, Tryz.ntmps25
    go_wp2_with fail
    rw [← hW0]
    clear hW0
    refine hin.out.mono ?_; rintro e w1 ⟨rfl, hb1⟩
    rw [h.out]
    have hbb := Lib.hid (below_trans2 ha.out hb1)
    clear hb1
    go_wp2
    go_ret
    rw [H.out]; exact ⟨rfl, hbb.out⟩

end Go.Proofs.YtbeigdbljepfkaaGreat

namespace Go.Proofs.YtbeigdbljepfkaaGreat
open Go.RowKit
set_option linter.unusedVariables false

def equalM (N M : Int) (xss yss : List (List Nat)) : Bool := decide (N = M) && sameM xss yss
theorem equalM_N {N M : Int} {xss yss : List (List Nat)} (h : N ≠ M) : equalM N M xss yss = false := by unfold equalM; rw [decide_eq_false h]; rfl
theorem equalM_len {N : Int} {xss yss : List (List Nat)} (h : xss.length ≠ yss.length) : equalM N N xss yss = false := by
  unfold equalM sameM
  rw [decide_eq_true rfl, Bool.true_and, beq_eq_false_iff_ne]; intro e; exact h (by rw [e])
theorem equalM_row {N : Int} {xss yss : List (List Nat)} {k : Nat} {xs ys : List Nat} (hx : xss[k]? = some xs) (hy : yss[k]? = some ys) (h : sameR xs ys = false) : equalM N N xss yss = false := by
  unfold equalM sameM
  rw [decide_eq_true rfl, Bool.true_and, beq_eq_false_iff_ne]
  intro e
  rw [e, hy] at hx
  injection hx with hx
  unfold sameR at h
  rw [hx] at h
  simp at h
theorem equalM_yes {N : Int} {xss yss : List (List Nat)} (hl : xss.length = yss.length) (h : ∀ (k : Nat) (xs ys : List Nat), k < xss.length → xss[k]? = some xs → yss[k]? = some ys → sameR xs ys = true) : equalM N N xss yss = true := by
  unfold equalM
  rw [decide_eq_true rfl, Bool.true_and, ← allF_same hl]
  exact allF_yes hl h

set_option maxRecDepth 100000 in
set_option maxHeartbeats 2000000 in
theorem ref3_Equal (N M : Int) (A B : Option Addr) (n m c d : Nat) (xss yss : List (List Nat)) (w : World) (hr : RowsAt w A n xss) (hs : RowsAt w B m yss) (hn : n ≤ 1073741824) (hm : m ≤ 1073741824) (hl : ∀ (i : Nat) (xs : List Nat), xss[i]? = some xs → xs.length ≤ 1073741824) (hl2 : ∀ (i : Nat) (xs : List Nat), yss[i]? = some xs → xs.length ≤ 1073741824) :
    Calls Tryz.prog 11 #[.agg #[.int .i64 N, .slice A n c], .agg #[.int .i64 M, .slice B m d]] w (RetB (equalM N M xss yss) w) := by
  have hxl := hr.len
  have hyl := hs.len
  obtain ⟨W0, hW0⟩ : ∃ W0, W0 = ((w.alloc (.cells #[.int .i64 N, .slice A n c] 34)).alloc (.cells #[.int .i64 M, .slice B m d] 34)) := ⟨_, rfl⟩
  have ha : Below w.heap.size w W0 := by rw [hW0]; exact (((Below.refl _ _).alloc (Nat.le_refl _) _).alloc (by simp) _)
  have hBa : MatB W0 w.heap.size 34 N A n c := by rw [hW0]; exact ((MatB.new w _).below_ ((Below.refl _ _).alloc (Nat.le_refl _) _))
  have hBb : MatB W0 (w.heap.size + 1) 34 M B m d := by rw [hW0]; exact (MatB.new1 w _ _)
  have l0 := hBa.c0
  have l1 := hBa.c1
  have m0 := hBb.c0
  have m1 := hBb.c1
  have ha' := Lib.hid ha
  by_cases h1 : N = M
  · subst h1
    have hne : (N != N) = false := by simp
    by_cases h2 : n = m
    · subst h2
      have hne2 : ((n : Int) != (n : Int)) = false := by simp
      have hyes := Lib.hid (fun h => equalM_yes (N := N) (xss := xss) (yss := yss) (by omega) h)
      have hr' := Lib.hid (hr.below ha)
      have hs' := Lib.hid (hs.below ha)
      replace hBa := Lib.hid hBa
      replace hBb := Lib.hid hBb
      replace hl := Lib.hid hl
      replace hl2 := Lib.hid hl2
      replace hxl := Lib.hid hxl
      clear hr hs hyl ha hm
      go_enter Tryz.func11, Tryz.ntmps11
      go_wp2_with fail
      rw [← hW0]
      clear hW0
      go_wp2_with fail
      clear l0 l1 m0 m1
      go_loopw [5] (fun i wr => ∃ k : Nat, k ≤ n ∧ i = .int .i64 k ∧ Hid (∀ (j : Nat) (xs ys : List Nat), j < k → xss[j]? = some xs → yss[j]? = some ys → sameR xs ys = true) ∧ Hid (Below W0.heap.size W0 wr)) (fun i _ => n - (intOf i).toNat)
      case atStart => exact ⟨0, Nat.zero_le _, rfl, Lib.hid (fun j xs ys hj => absurd hj (by omega)), Lib.hid (Below.refl _ _)⟩
      case round =>
        obtain ⟨k, hk, rfl, hall, hbr⟩ := hrel
        have l1 := (hBa.out.below_ hbr.out).c1
        have m1 := (hBb.out.below_ hbr.out).c1
        by_cases hlt : k < n
        · obtain ⟨b1, o1, A1, n1, c1, xs, rfl, hbl1, hx, hc1, hrx⟩ := (hr'.out.below hbr.out).at_ hlt
          obtain ⟨b2, o2, B1, n2, c2, ys, rfl, hbl2, hy, hc2, hry⟩ := (hs'.out.below hbr.out).at_ hlt
          have hn1 : n1 ≤ 1073741824 := by have := hrx.len; have := hl.out k xs hx; omega
          have hn2 : n2 ≤ 1073741824 := by have := hry.len; have := hl2.out k ys hy; omega
          have hk0 : (0 : Int) ≤ (k : Int) := by omega
          have hkn : (k : Int) < (n : Int) := by omega
          rcases Bool.eq_false_or_eq_true (sameR xs ys) with hf | hf
          · have hall' : Hid (∀ (j : Nat) (us vs : List Nat), j < k + 1 → xss[j]? = some us → yss[j]? = some vs → sameR us vs = true) := Lib.hid (fun j us vs hj hu hv => by
              rcases Nat.lt_succ_iff_lt_or_eq.1 hj with h | h
              · exact hall.out j us vs h hu hv
              · rw [h, hx] at hu
                rw [h, hy] at hv
                injection hu with hu
                injection hv with hv
                rw [← hu, ← hv]; exact hf)
            replace hf := Lib.hid hf
            clear hx hy
            go_wp2_with fail
            refine wp_region_plan 12 [(true, 0), (true, 1), (true, 2), (true, 3), (true, 4), (true, 5), (true, 6), (true, 7), (true, 8), (true, 9), (false, 10), (true, 11)] (by kernel_rfl) (by kernel_rfl) (fun W hW => ?_)
            have p1 : W.cell? ⟨w.heap.size, 1, none⟩ = some (.slice (some ⟨b1, o1, none⟩) n c) := by rw [hW.out]; exact l1
            have p2 : W.cell? ⟨w.heap.size + 1, 1, none⟩ = some (.slice (some ⟨b2, o2, none⟩) n d) := by rw [hW.out]; exact m1
            have p3 : W.cell? ⟨b1, o1 + k, none⟩ = some (.slice A1 n1 c1) := by rw [hW.out]; exact hc1
            have p4 : W.cell? ⟨b2, o2 + k, none⟩ = some (.slice B1 n2 c2) := by rw [hW.out]; exact hc2
            have hbW := Lib.hid (show Below W0.heap.size W0 W by rw [hW.out]; exact hbr.out.drew)
            have hC := Lib.hid (ref2_Same A1 B1 n1 n2 c1 c2 xs ys W (by rw [hW.out]; exact hrx) (by rw [hW.out]; exact hry) (by omega) (by omega))
            clear l1 m1 hc1 hc2 hrx hry
            simp only [List.drop_succ_cons, List.drop_nil]
            iterate 10
              refine wpPlan_float (v := ?_) rfl (by rfl) (fun w' hw' => ?_) (fun K hK => ?_)
              rotate_left
              · (go_simp; try with_reducible rfl)
              go_simp
              refine hK _ ?_
              clear hK K
            refine wpPlan_only rfl (by rfl) (fun K hK => ?_)
            go_simp
            refine hC.out.mono ?_
            rintro e w' ⟨rfl, z, rfl⟩
            refine hK _ _ (below_drewN (Below.refl _ _) z) ?_
            clear hK K
            rw [hf.out]
            iterate 1
              refine wpPlan_float (v := ?_) rfl (by rfl) (fun w' hw' => ?_) (fun K hK => ?_)
              rotate_left
              · (go_simp; try with_reducible rfl)
              go_simp
              refine hK _ ?_
              clear hK K
            refine wpPlan_nil (NoPanic.normal ?_)
            go_wp2_with fail
            go_roundw
            case rel => exact ⟨k + 1, by omega, by go_num, hall', Lib.hid (below_drewN hbW.out z)⟩
            case measure => simp [intOf]; omega
          · have H := Lib.hid (equalM_row (N := N) hx hy hf)
            replace hf := Lib.hid hf
            clear hx hy
            go_wp2_with fail
            refine wp_region_plan 12 [(true, 0), (true, 1), (true, 2), (true, 3), (true, 4), (true, 5), (true, 6), (true, 7), (true, 8), (true, 9), (false, 10), (true, 11)] (by kernel_rfl) (by kernel_rfl) (fun W hW => ?_)
            have p1 : W.cell? ⟨w.heap.size, 1, none⟩ = some (.slice (some ⟨b1, o1, none⟩) n c) := by rw [hW.out]; exact l1
            have p2 : W.cell? ⟨w.heap.size + 1, 1, none⟩ = some (.slice (some ⟨b2, o2, none⟩) n d) := by rw [hW.out]; exact m1
            have p3 : W.cell? ⟨b1, o1 + k, none⟩ = some (.slice A1 n1 c1) := by rw [hW.out]; exact hc1
            have p4 : W.cell? ⟨b2, o2 + k, none⟩ = some (.slice B1 n2 c2) := by rw [hW.out]; exact hc2
            have hbW := Lib.hid (show Below W0.heap.size W0 W by rw [hW.out]; exact hbr.out.drew)
            have hC := Lib.hid (ref2_Same A1 B1 n1 n2 c1 c2 xs ys W (by rw [hW.out]; exact hrx) (by rw [hW.out]; exact hry) (by omega) (by omega))
            clear l1 m1 hc1 hc2 hrx hry
            simp only [List.drop_succ_cons, List.drop_nil]
            iterate 10
              refine wpPlan_float (v := ?_) rfl (by rfl) (fun w' hw' => ?_) (fun K hK => ?_)
              rotate_left
              · (go_simp; try with_reducible rfl)
              go_simp
              refine hK _ ?_
              clear hK K
            refine wpPlan_only rfl (by rfl) (fun K hK => ?_)
            go_simp
            refine hC.out.mono ?_
            rintro e w' ⟨rfl, z, rfl⟩
            refine hK _ _ (below_drewN (Below.refl _ _) z) ?_
            clear hK K
            rw [hf.out]
            iterate 1
              refine wpPlan_float (v := ?_) rfl (by rfl) (fun w' hw' => ?_) (fun K hK => ?_)
              rotate_left
              · (go_simp; try with_reducible rfl)
              go_simp
              refine hK _ ?_
              clear hK K
            refine wpPlan_nil (NoPanic.normal ?_)
            go_wp2_with fail
            go_ret
            rw [H.out]; exact ⟨rfl, below_trans2 ha'.out (below_drewN hbW.out z)⟩
        · have H := Lib.hid (hyes.out (fun j xs ys hj hx hy => hall.out j xs ys (by have := hxl.out; omega) hx hy))
          go_wp2_with fail
          go_ret
          rw [H.out]; exact ⟨rfl, below_trans2 ha'.out hbr.out⟩
    · have H := Lib.hid (equalM_len (N := N) (xss := xss) (yss := yss) (by omega))
      have hne2 : ((n : Int) != (m : Int)) = true := by rw [bne_iff_ne]; omega
      clear hr hs hxl hyl h2 ha hBa hBb hl hl2
      go_enter Tryz.func11, Tryz.ntmps11
      go_wp2_with fail
      rw [← hW0]
      clear hW0
      go_wp2_with fail
      go_ret
      rw [H.out]; exact ⟨rfl, ha'.out⟩
  · have H := Lib.hid (equalM_N (xss := xss) (yss := yss) h1)
    have hne : (N != M) = true := by rw [bne_iff_ne]; exact h1
    clear hr hs hxl hyl h1 ha hBa hBb hl hl2
    go_enter Tryz.func11, Tryz.ntmps11
    go_wp2_with fail
    rw [← hW0]
    clear hW0
    go_wp2_with fail
    go_ret
    rw [H.out]; exact ⟨rfl, ha'.out⟩

end Go.Proofs.YtbeigdbljepfkaaGreat

namespace Go.Proofs.YtbeigdbljepfkaaGreat
open Go.RowKit
set_option linter.unusedVariables false

end Go.Proofs.YtbeigdbljepfkaaGreat

namespace Go.Proofs.YtbeigdbljepfkaaGreat
open Go.RowKit
set_option linter.unusedVariables false

end Go.Proofs.YtbeigdbljepfkaaGreat

namespace Go.Proofs.YtbeigdbljepfkaaGreat
open Go.RowKit
set_option linter.unusedVariables false

theorem own_ne_blk {w : World} {base s n g : Nat} {e t : TypeId} {v : Value} {xs cs : List Value} (h : w.ownsRow base e s v n xs) (hB : Blk w g t cs) (hne : e ≠ t) : v.ownBlock ≠ some g := by
  intro he
  rcases h.2 with ⟨rfl, _⟩ | ⟨g', cap, cur, rfl, _, hh, _⟩
  · simp [Value.ownBlock] at he
  · have : g' = g := by simpa [Value.ownBlock] using he
    subst this
    unfold Blk at hB
    rw [hh] at hB
    injection hB with hB
    injection hB with _ ht
    exact hne ht
theorem OwnRows.grown {t e : TypeId} {w w' : World} {base b2 s n : Nat} {v : Value} {vs us : List Value} {xss : List (List Nat)} (h : OwnRows t w base vs xss) (ho : w.ownsRow b2 e s v n us) (hne : t ≠ e) (hg : w.grownBy w' v.ownBlock) : OwnRows t w' base vs xss :=
  ⟨h.1, fun i u xs h1 h2 => by
    obtain ⟨A, m, c, e', hown, hx⟩ := h.2.1 i u xs h1 h2
    exact ⟨A, m, c, e', own_grown hown ho hne hg, hx⟩, h.2.2⟩

/-- rows as RowsAt, all of whose blocks are B or later -/
def RowsG (B : Nat) (w : World) (A : Option Addr) (n : Nat) (xss : List (List Nat)) : Prop := ∃ vs, Rd w A n vs ∧ RowsC w vs xss ∧ (∀ ad, A = some ad → B ≤ ad.block) ∧ ∀ v ∈ vs, ∀ g, v.ownBlock = some g → B ≤ g
theorem RowsG.at {B : Nat} {w : World} {A : Option Addr} {n : Nat} {xss : List (List Nat)} (h : RowsG B w A n xss) : RowsAt w A n xss := by
  obtain ⟨vs, h1, h2, -, -⟩ := h; exact ⟨vs, h1, h2⟩
theorem RowsG.of {w : World} {A : Option Addr} {n : Nat} {xss : List (List Nat)} (h : RowsAt w A n xss) : RowsG 0 w A n xss := by
  obtain ⟨vs, h1, h2⟩ := h; exact ⟨vs, h1, h2, fun _ _ => Nat.zero_le _, fun _ _ _ _ => Nat.zero_le _⟩
theorem RowsG.below {B : Nat} {w w' : World} {A : Option Addr} {n : Nat} {xss : List (List Nat)} (h : RowsG B w A n xss) (hb : Below w.heap.size w w') : RowsG B w' A n xss := by
  obtain ⟨vs, h1, h2, h3, h4⟩ := h; exact ⟨vs, h1.below hb, h2.below hb, h3, h4⟩
theorem RowsG.mono {B B' : Nat} {w : World} {A : Option Addr} {n : Nat} {xss : List (List Nat)} (h : RowsG B w A n xss) (hb : B' ≤ B) : RowsG B' w A n xss := by
  obtain ⟨vs, h1, h2, h3, h4⟩ := h; exact ⟨vs, h1, h2, fun ad e => Nat.le_trans hb (h3 ad e), fun v hv g e => Nat.le_trans hb (h4 v hv g e)⟩
def RetMatG (B : Nat) (N : Int) (xss : List (List Nat)) (er : Int) (w : World) : Ending → World → Prop := fun e w' =>
  ∃ A n c, e = .returned (.tuple #[.agg #[.int .i64 N, .slice A n c], .int .i64 er]) ∧ RowsG B w' A n xss ∧ n ≤ c ∧ Below w.heap.size w w' ∧ ∀ ad, A = some ad → w.heap.size ≤ ad.block
/-- as RetMat, and the outer cells are new -/
def RetMatF (N : Int) (xss : List (List Nat)) (er : Int) (w : World) : Ending → World → Prop := fun e w' =>
  ∃ A n c, e = .returned (.tuple #[.agg #[.int .i64 N, .slice A n c], .int .i64 er]) ∧ RowsAt w' A n xss ∧ n ≤ c ∧ Below w.heap.size w w' ∧ ∀ ad, A = some ad → w.heap.size ≤ ad.block
theorem RetMatG.f {B : Nat} {N : Int} {xss : List (List Nat)} {er : Int} {w w' : World} {e : Ending} (h : RetMatG B N xss er w e w') : RetMatF N xss er w e w' := by
  obtain ⟨A, n, c, h1, h2, h3, h4, h5⟩ := h; exact ⟨A, n, c, h1, h2.at, h3, h4, h5⟩
/-- what is known at the heads of the rounds of a matrix that grows row by row -/
structure GrowI (w : World) (hi n : Nat) (M R : Nat) (v : Value) (vs : List Value) (xss : List (List Nat)) (wr : World) : Prop where
  res : MatB wr R 34 0 none 0 0
  loc : Blk wr M 34 [.int .i64 n, v]
  out : wr.ownsRow hi 75 1 v vs.length vs
  rows : OwnRows 105 wr hi vs xss
  below : Below w.heap.size w wr
  high : hi ≤ wr.heap.size
theorem GrowI.keep {w : World} {hi n M R : Nat} {v : Value} {vs : List Value} {xss : List (List Nat)} {wr w' : World} (h : GrowI w hi n M R v vs xss wr) (hb : Below wr.heap.size wr w') : GrowI w hi n M R v vs xss w' :=
  ⟨h.res.below_ hb, Blk.below h.loc hb h.loc.lt, own_below h.out hb, h.rows.below hb, below_trans2 h.below hb, Nat.le_trans h.high hb.size⟩
theorem GrowI.more {w : World} {hi n M R : Nat} {v : Value} {vs : List Value} {xss : List (List Nat)} {wr w1 w2 : World} {A : Option Addr} {m c : Nat} {xs : List Nat} {u : Value} (h : GrowI w hi n M R v vs xss wr) (hb : Below wr.heap.size wr w1)
    (ho : w1.ownsRow wr.heap.size 105 1 (.slice A m c) m (xs.map u64v)) (hx : W64 xs) (hg : w1.grownBy w2 v.ownBlock) (h2 : w2.ownsRow hi 75 1 u (vs.length + 1) (vs ++ [.slice A m c])) (hM : M < hi) (hR : R < hi) (hRM : R ≠ M) (hw : w.heap.size ≤ M) (hw2 : w.heap.size ≤ hi) :
    GrowI w hi n M R u (vs ++ [.slice A m c]) (xss ++ [xs]) (w2.setCell ⟨M, 1, none⟩ u) := by
  have h1 := h.keep hb
  have hsn := h.rows.snoc hb ho hx h.high
  have hne1 := own_ne_blk h1.out h1.res (by decide)
  have hne2 := own_ne_blk h1.out h1.loc (by decide)
  have hu : u.ownBlock ≠ some M := fun e => by have := own_lt_block h2 M e; omega
  have hsz : w1.heap.size ≤ w2.heap.size := hg.size
  refine ⟨(Blk.grown h1.res hg (fun e => hne1 e.symm)).far hRM _, ?_, ?_, (hsn.grown h1.out (by decide) hg).far hM _, ?_, ?_⟩
  · have := (Blk.grown h1.loc hg (fun e => hne2 e.symm)).set_ 1 u
    exact this
  · rw [List.length_append, List.length_singleton]
    exact own_far h2 hu _
  · refine Below.setCell ?_ hw _
    exact h1.below.grown hg (Nat.le_trans hw2 h1.high) (fun g e => Nat.le_trans hw2 (own_lt_block h1.out g e))
  · have := h1.high
    simp
    omega
set_option maxRecDepth 100000 in
set_option maxHeartbeats 2000000 in
theorem ref3_NewG (n : Nat) (hn : n ≤ 4096) (w : World) :
    Calls Tryz.prog 36 #[.int .i64 (n : Int)] w (RetMatG w.heap.size (n : Int) (newM n) 0 w) := by
  obtain ⟨i0, hi, hz0, hz1, hz2⟩ := info_parts info_row
  replace hi := Lib.hid hi
  replace hz0 := Lib.hid hz0
  replace hz1 := Lib.hid hz1
  replace hz2 := Lib.hid hz2
  have hrow := Lib.hid (fun W => ref2_NewO (n : Int) (by omega) (by omega) W)
  obtain ⟨W0, hW0⟩ : ∃ W0, W0 = (w.alloc (.cells #[.int .i64 0, .slice none 0 0] 34)).alloc (.cells #[.int .i64 n, .slice none 0 0] 34) := ⟨_, rfl⟩
  have hI : GrowI w (w.heap.size + 2) n (w.heap.size + 1) w.heap.size (.slice none 0 0) [] (List.replicate 0 (List.replicate (wordsN (n : Int)) 0)) W0 := by
    refine ⟨by rw [hW0]; exact (MatB.new w _).below_ ((Below.refl _ _).alloc (Nat.le_refl _) _), by rw [hW0]; exact MatB.new1 w _ _, World.ownsRow_nil _ _ _ _, OwnRows.nil _ _ _, by rw [hW0]; exact ((Below.refl _ _).alloc (Nat.le_refl _) _).alloc (by simp) _, by rw [hW0]; simp⟩
  replace hI := Lib.hid hI
  have h1 : ¬ (n : Int) < 0 := by omega
  have h2 : ¬ 4096 < (n : Int) := by omega
  go_enter Tryz.func36, Tryz.ntmps36
  go_wp2_with fail
  rw [← hW0]
  clear hW0
  go_loopw [5] (fun i wr => ∃ (v : Value) (vs : List Value), vs.length ≤ n ∧ i = .int .i64 vs.length ∧ Hid (GrowI w (w.heap.size + 2) n (w.heap.size + 1) w.heap.size v vs (List.replicate vs.length (List.replicate (wordsN (n : Int)) 0)) wr)) (fun i _ => n - (intOf i).toNat)
  case atStart => exact ⟨_, [], Nat.zero_le _, rfl, hI⟩
  case round =>
    obtain ⟨v, vs, hk, rfl, hI'⟩ := hrel
    clear hI
    obtain ⟨k, hke⟩ : ∃ k, k = vs.length := ⟨_, rfl⟩
    rw [← hke] at hk
    rw [← hke]
    by_cases hlt : k < n
    · replace hke := Lib.hid hke
      have l1 := Blk.cell hI'.out.loc 1
      simp only [List.getElem?_cons_zero, List.getElem?_cons_succ] at l1
      go_wp2_with fail
      refine wp_region_plan 5 [(true, 0), (true, 1), (true, 2), (false, 3), (false, 4)] (by kernel_rfl) (by kernel_rfl) (fun W hW => ?_)
      have p1 : W.cell? ⟨w.heap.size + 1, 1, none⟩ = some v := by rw [hW.out]; exact l1
      have hIW := Lib.hid (show GrowI w (w.heap.size + 2) n (w.heap.size + 1) w.heap.size v vs (List.replicate vs.length (List.replicate (wordsN (n : Int)) 0)) W by rw [hW.out]; exact hI'.out.keep (Below.refl _ _).drew)
      clear l1 hI'
      simp only [List.drop_succ_cons, List.drop_zero]
      iterate 3
        refine wpPlan_float (v := ?_) rfl (by rfl) (fun w' hw' => ?_) (fun K hK => ?_)
        rotate_left
        · (go_simp; try with_reducible rfl)
        go_simp
        refine hK _ ?_
        clear hK K
      refine wpPlan_only rfl (by rfl) (fun K hK => ?_)
      go_simp
      refine (hrow.out W).mono ?_
      rintro e w1 ⟨C, p, q, rfl, ho, hx64, hb1⟩
      refine hK _ _ hb1 ?_
      clear hK K p1
      refine wpPlan_only rfl (by rfl) (fun K hK => ?_)
      go_simp
      have hba : Below w1.heap.size w1 (w1.alloc (.cells #[.slice C p q] 75)) := (Below.refl _ _).alloc (Nat.le_refl _) _
      refine hK _ _ hba (wpPlan_nil ?_)
      clear hK K
      have hbb := below_trans2 hb1 hba
      have hIa := Lib.hid (hIW.out.keep hbb)
      have hoa := Lib.hid (own_below ho hba)
      replace hbb := Lib.hid hbb
      have hown := hIa.out.out
      rw [← hke.out] at hown
      have hhi := hIa.out.high
      replace hx64 := Lib.hid hx64
      clear hba hb1 ho
      go_wp2_with (at_builtin; refine wpList_append_lies _ rfl (.tmp 21) (.tmp 24) _ rfl (w.heap.size + 2) 75 i0 _ 1 24 Tryz.underlying32 hi.out hz0.out hz1.out hz2.out rfl (by omega) _ _ _ (by rfl) hown ⟨w1.heap.size, 0, none⟩ 1 1 [.slice C p q] rfl rfl (cell_one_new _ _ _) (by simp [Value.oneCell']) (by omega) (by unfold maxLen; omega) (by omega) hhi _ rfl ?_; intro g cap w2 hown2 hgrow hat hlt1; have hB2 := Blk.grown hIa.out.loc hgrow (fun e => own_ne_blk hIa.out.out hIa.out.loc (by decide) e.symm); have q1 := hB2.cell 1; have q2 := hB2.frozen 1; simp only [List.getElem?_cons_zero, List.getElem?_cons_succ] at q1; clear hB2 hat hlt1)
      refine NoPanic.normal ?_
      have hmore := Lib.hid (hIW.out.more hbb.out hoa.out hx64.out hgrow (by rw [← hke.out]; exact hown2) (by omega) (by omega) (by omega) (by omega) (by omega))
      clear q1 q2 hown2 hgrow hown
      go_wp2_with fail
      go_roundw
      case rel =>
        refine ⟨.slice (some ⟨g, 0, none⟩) (k + 1) cap, vs ++ [.slice C p q], by have := hke.out; simp; omega, by rw [List.length_append, ← hke.out]; simp; try omega, ?_⟩
        have h := hmore.out
        rw [← List.replicate_succ'] at h
        rw [List.length_append, List.length_singleton]
        exact Lib.hid h
      case measure => simp [intOf]; omega
    · have hkn : k = n := by omega
      have hvn : vs.length = n := by rw [← hke, hkn]
      clear hlt
      obtain rfl := hkn
      have hout := hI'.out.out
      obtain ⟨A', c', hv, hRd⟩ := Rd.of_own hout
      subst hv
      rw [hvn] at hout hRd
      have f0 := hI'.out.res.c0
      have f1 := hI'.out.res.c1
      have g0 := hI'.out.res.frozen 0
      have g1 := hI'.out.res.frozen 1
      have k0 := hI'.out.loc.cell 0
      have k1 := hI'.out.loc.cell 1
      simp only [List.getElem?_cons_zero, List.getElem?_cons_succ] at k0 k1
      rw [hvn] at k1
      have hcc := hI'.out.res.two (.int .i64 k) (.slice A' k c')
      have hc1 := Lib.hid hcc.1
      have hc2 := Lib.hid hcc.2
      replace hvn := Lib.hid hvn
      replace hke := Lib.hid hke
      clear hcc
      go_wp2_with fail
      refine bodyPost_ret (v := .tuple #[.agg #[.int .i64 k, .slice A' k c'], .int .i64 0]) (by simp [results, Tryz.results36, go_sem, hc1.out, hc2.out]) rfl ⟨_, _, _, rfl, ⟨vs, ?_, ?_, fun ad e => by subst e; have := own_lt_block hout _ rfl; omega, fun v hv g e => by have := (hI'.out.rows.lt v hv g e).1; omega⟩, own_cap hout, (hI'.out.below.setCell (by simp) _).setCell (by simp) _, fun ad e => by subst e; have := own_lt_block hout _ rfl; omega⟩
      · have hne : (Value.slice A' k c').ownBlock ≠ some w.heap.size := fun e => by have := own_lt_block hout _ e; omega
        exact Rd.of_own' (own_far (own_far hout (p := ⟨w.heap.size, 0, none⟩) hne _) (p := ⟨w.heap.size, 1, none⟩) hne _)
      · have h := ((hI'.out.rows.far (p := ⟨w.heap.size, 0, none⟩) (by simp) (.int .i64 k)).far (p := ⟨w.heap.size, 1, none⟩) (by simp) (.slice A' k c')).rows
        rw [hvn.out] at h
        exact h
theorem ref3_NewF (n : Nat) (hn : n ≤ 4096) (w : World) :
    Calls Tryz.prog 36 #[.int .i64 (n : Int)] w (RetMatF (n : Int) (newM n) 0 w) := (ref3_NewG n hn w).mono fun _ _ h => h.f
theorem ref3_New (n : Nat) (hn : n ≤ 4096) (w : World) :
    Calls Tryz.prog 36 #[.int .i64 (n : Int)] w (RetMat (n : Int) (newM n) 0 w) :=
  (ref3_NewF n hn w).mono fun _ _ ⟨A', n', c', h1, h2, h3, h4, _⟩ => ⟨A', n', c', h1, h2, h3, h4⟩

end Go.Proofs.YtbeigdbljepfkaaGreat

namespace Go.Proofs.YtbeigdbljepfkaaGreat
open Go.RowKit
set_option linter.unusedVariables false

set_option maxRecDepth 100000 in
set_option maxHeartbeats 2000000 in
theorem ref3_OrF (A B : Option Addr) (n c d : Nat) (xss yss : List (List Nat)) (w : World) (hr : RowsAt w A n xss) (hs : RowsAt w B n yss) (hn : n ≤ 4096)
    (hl : ∀ (i : Nat) (xs : List Nat), xss[i]? = some xs → xs.length ≤ 1024) (hl2 : ∀ (i : Nat) (xs : List Nat), yss[i]? = some xs → xs.length ≤ 1024) :
    Calls Tryz.prog 50 #[.agg #[.int .i64 (n : Int), .slice A n c], .agg #[.int .i64 (n : Int), .slice B n d]] w (RetMatF (n : Int) (orM xss yss) 0 w) := by
  obtain ⟨i0, hi, hz0, hz1, hz2⟩ := info_parts info_row
  replace hi := Lib.hid hi
  replace hz0 := Lib.hid hz0
  replace hz1 := Lib.hid hz1
  replace hz2 := Lib.hid hz2
  have hxl := hr.len
  obtain ⟨W0, hW0⟩ : ∃ W0, W0 = (((w.alloc (.cells #[.int .i64 n, .slice A n c] 34)).alloc (.cells #[.int .i64 n, .slice B n d] 34)).alloc (.cells #[.int .i64 0, .slice none 0 0] 34)).alloc (.cells #[.int .i64 n, .slice none 0 0] 34) := ⟨_, rfl⟩
  have hBa : MatB W0 w.heap.size 34 n A n c := by rw [hW0]; exact (((MatB.new w _).below_ ((Below.refl _ _).alloc (Nat.le_refl _) _)).below_ ((Below.refl _ _).alloc (Nat.le_refl _) _)).below_ ((Below.refl _ _).alloc (Nat.le_refl _) _)
  have hBb : MatB W0 (w.heap.size + 1) 34 n B n d := by rw [hW0]; exact ((MatB.new1 w _ _).below_ ((Below.refl _ _).alloc (Nat.le_refl _) _)).below_ ((Below.refl _ _).alloc (Nat.le_refl _) _)
  have hI : GrowI w (w.heap.size + 4) n (w.heap.size + 3) (w.heap.size + 2) (.slice none 0 0) [] (orPre xss yss 0) W0 := by
    refine ⟨?_, ?_, World.ownsRow_nil _ _ _ _, OwnRows.nil _ _ _, by rw [hW0]; exact (((((Below.refl _ _).alloc (Nat.le_refl _) _).alloc (by simp) _).alloc (by simp <;> omega) _).alloc (by simp <;> omega) _), by rw [hW0]; simp⟩
    · rw [hW0]
      have h := MatB.new1 (N := 0) (A := none) (n := 0) (c := 0) (w.alloc (.cells #[.int .i64 n, .slice A n c] 34)) (.cells #[.int .i64 n, .slice B n d] 34) 34
      rw [show (w.alloc (.cells #[.int .i64 n, .slice A n c] 34)).heap.size = w.heap.size + 1 from by simp] at h
      exact h.below_ ((Below.refl _ _).alloc (Nat.le_refl _) _)
    · rw [hW0]
      have h := MatB.new1 (N := n) (A := none) (n := 0) (c := 0) ((w.alloc (.cells #[.int .i64 n, .slice A n c] 34)).alloc (.cells #[.int .i64 n, .slice B n d] 34)) (.cells #[.int .i64 0, .slice none 0 0] 34) 34
      rw [show ((w.alloc (.cells #[.int .i64 n, .slice A n c] 34)).alloc (.cells #[.int .i64 n, .slice B n d] 34)).heap.size + 1 = w.heap.size + 3 from by simp] at h
      exact h
  replace hI := Lib.hid hI
  have hne : ((n : Int) != (n : Int)) = false := by simp
  replace hBa := Lib.hid hBa
  replace hBb := Lib.hid hBb
  replace hr := Lib.hid hr
  replace hs := Lib.hid hs
  replace hl := Lib.hid hl
  replace hl2 := Lib.hid hl2
  replace hxl := Lib.hid hxl
  go_enter Tryz.func50, Tryz.ntmps50
  go_wp2_with fail
  rw [← hW0]
  clear hW0
  go_loopw [7] (fun i wr => ∃ (v : Value) (vs : List Value), vs.length ≤ n ∧ i = .int .i64 vs.length ∧ Hid (GrowI w (w.heap.size + 4) n (w.heap.size + 3) (w.heap.size + 2) v vs (orPre xss yss vs.length) wr) ∧ Hid (MatB wr w.heap.size 34 n A n c) ∧ Hid (MatB wr (w.heap.size + 1) 34 n B n d)) (fun i _ => n - (intOf i).toNat)
  case atStart => exact ⟨_, [], Nat.zero_le _, rfl, hI, hBa, hBb⟩
  case round =>
    obtain ⟨v, vs, hk, rfl, hI', hA', hB'⟩ := hrel
    clear hI hBa hBb
    obtain ⟨k, hke⟩ : ∃ k, k = vs.length := ⟨_, rfl⟩
    rw [← hke] at hk
    rw [← hke]
    have la0 := hA'.out.c0
    by_cases hlt : k < n
    · replace hke := Lib.hid hke
      obtain ⟨b1, o1, A1, n1, c1, xs, rfl, hbl1, hx, hc1, hrx⟩ := (hr.out.below hI'.out.below).at_ hlt
      obtain ⟨b2, o2, B1, n2, c2, ys, rfl, hbl2, hy, hc2, hry⟩ := (hs.out.below hI'.out.below).at_ hlt
      have hn1 : n1 ≤ 1024 := by have := hrx.len; have := hl.out k xs hx; omega
      have hn2 : n2 ≤ 1024 := by have := hry.len; have := hl2.out k ys hy; omega
      have hstep : Hid (orPre xss yss (k + 1) = orPre xss yss k ++ [orR xs ys]) := Lib.hid (by rw [orPre_succ, getD_at hx, getD_at hy])
      have l1 := Blk.cell hI'.out.loc 1
      have la1 := hA'.out.c1
      have lb1 := hB'.out.c1
      have hk0 : (0 : Int) ≤ (k : Int) := by omega
      have hkn : (k : Int) < (n : Int) := by omega
      simp only [List.getElem?_cons_zero, List.getElem?_cons_succ] at l1
      clear hx hy
      go_wp2_with fail
      refine wp_region_plan 14 [(true, 0), (true, 1), (true, 2), (true, 3), (true, 4), (true, 5), (true, 6), (true, 7), (true, 8), (true, 9), (true, 10), (true, 11), (false, 12), (false, 13)] (by kernel_rfl) (by kernel_rfl) (fun W hW => ?_)
      have p1 : W.cell? ⟨w.heap.size + 3, 1, none⟩ = some v := by rw [hW.out]; exact l1
      have p2 : W.cell? ⟨w.heap.size, 1, none⟩ = some (.slice (some ⟨b1, o1, none⟩) n c) := by rw [hW.out]; exact la1
      have p3 : W.cell? ⟨w.heap.size + 1, 1, none⟩ = some (.slice (some ⟨b2, o2, none⟩) n d) := by rw [hW.out]; exact lb1
      have p4 : W.cell? ⟨b1, o1 + k, none⟩ = some (.slice A1 n1 c1) := by rw [hW.out]; exact hc1
      have p5 : W.cell? ⟨b2, o2 + k, none⟩ = some (.slice B1 n2 c2) := by rw [hW.out]; exact hc2
      have hIW := Lib.hid (show GrowI w (w.heap.size + 4) n (w.heap.size + 3) (w.heap.size + 2) v vs (orPre xss yss vs.length) W by rw [hW.out]; exact hI'.out.keep (Below.refl _ _).drew)
      have hAW := Lib.hid (show MatB W w.heap.size 34 n (some ⟨b1, o1, none⟩) n c by rw [hW.out]; exact Blk.drew hA'.out)
      have hBW := Lib.hid (show MatB W (w.heap.size + 1) 34 n (some ⟨b2, o2, none⟩) n d by rw [hW.out]; exact Blk.drew hB'.out)
      have hC := Lib.hid (ref2_OrO A1 B1 n1 n2 c1 c2 xs ys W (by rw [hW.out]; exact hrx) (by rw [hW.out]; exact hry) (by omega) (by omega))
      clear l1 la1 lb1 la0 hc1 hc2 hI' hA' hB' hrx hry
      simp only [List.drop_succ_cons, List.drop_zero]
      iterate 12
        refine wpPlan_float (v := ?_) rfl (by rfl) (fun w' hw' => ?_) (fun K hK => ?_)
        rotate_left
        · (go_simp; try with_reducible rfl)
        go_simp
        refine hK _ ?_
        clear hK K
      refine wpPlan_only rfl (by rfl) (fun K hK => ?_)
      go_simp
      refine hC.out.mono ?_
      rintro e w1 ⟨C, p, q, rfl, ho, hx64, hb1⟩
      refine hK _ _ hb1 ?_
      clear hK K p1 p2 p3 p4 p5
      refine wpPlan_only rfl (by rfl) (fun K hK => ?_)
      go_simp
      have hba : Below w1.heap.size w1 (w1.alloc (.cells #[.slice C p q] 75)) := (Below.refl _ _).alloc (Nat.le_refl _) _
      refine hK _ _ hba (wpPlan_nil ?_)
      clear hK K
      have hbb := below_trans2 hb1 hba
      have hIa := Lib.hid (hIW.out.keep hbb)
      have hAa := Lib.hid (hAW.out.below_ hbb)
      have hBa := Lib.hid (hBW.out.below_ hbb)
      have hoa := Lib.hid (own_below ho hba)
      replace hbb := Lib.hid hbb
      have hown := hIa.out.out
      rw [← hke.out] at hown
      have hhi := hIa.out.high
      replace hx64 := Lib.hid hx64
      clear hba hb1 ho
      go_wp2_with (at_builtin; refine wpList_append_lies _ rfl (.tmp 24) (.tmp 36) _ rfl (w.heap.size + 4) 75 i0 _ 1 24 Tryz.underlying32 hi.out hz0.out hz1.out hz2.out rfl (by omega) _ _ _ (by rfl) hown ⟨w1.heap.size, 0, none⟩ 1 1 [.slice C p q] rfl rfl (cell_one_new _ _ _) (by simp [Value.oneCell']) (by omega) (by unfold maxLen; omega) (by omega) hhi _ rfl ?_; intro g cap w2 hown2 hgrow hat hlt1; have hB2 := Blk.grown hIa.out.loc hgrow (fun e => own_ne_blk hIa.out.out hIa.out.loc (by decide) e.symm); have q1 := hB2.cell 1; have q2 := hB2.frozen 1; simp only [List.getElem?_cons_zero, List.getElem?_cons_succ] at q1; clear hB2 hat hlt1)
      refine NoPanic.normal ?_
      have hmore := Lib.hid (hIW.out.more hbb.out hoa.out hx64.out hgrow (by rw [← hke.out]; exact hown2) (by omega) (by omega) (by omega) (by omega) (by omega))
      have hA2 := Lib.hid ((Blk.grown hAa.out hgrow (fun e => own_ne_blk hIa.out.out hAa.out (by decide) e.symm)).far (p := ⟨w.heap.size + 3, 1, none⟩) (by simp <;> omega) (.slice (some ⟨g, 0, none⟩) (k + 1) cap))
      have hB2 := Lib.hid ((Blk.grown hBa.out hgrow (fun e => own_ne_blk hIa.out.out hBa.out (by decide) e.symm)).far (p := ⟨w.heap.size + 3, 1, none⟩) (by simp <;> omega) (.slice (some ⟨g, 0, none⟩) (k + 1) cap))
      clear q1 q2 hown2 hgrow hown
      go_wp2_with fail
      go_roundw
      case rel =>
        refine ⟨.slice (some ⟨g, 0, none⟩) (k + 1) cap, vs ++ [.slice C p q], by have := hke.out; simp; omega, by rw [List.length_append, ← hke.out]; simp; try omega, ?_, hA2, hB2⟩
        have h := hmore.out
        rw [← hke.out, ← hstep.out] at h
        rw [List.length_append, List.length_singleton, ← hke.out]
        exact Lib.hid h
      case measure => simp [intOf]; omega
    · have hkn : k = n := by omega
      have hvn : vs.length = n := by rw [← hke, hkn]
      clear hlt
      obtain rfl := hkn
      have hout := hI'.out.out
      obtain ⟨A', c', hv, hRd⟩ := Rd.of_own hout
      subst hv
      rw [hvn] at hout hRd
      have f0 := hI'.out.res.c0
      have f1 := hI'.out.res.c1
      have g0 := hI'.out.res.frozen 0
      have g1 := hI'.out.res.frozen 1
      have k0 := hI'.out.loc.cell 0
      have k1 := hI'.out.loc.cell 1
      simp only [List.getElem?_cons_zero, List.getElem?_cons_succ] at k0 k1
      rw [hvn] at k1
      have hcc := hI'.out.res.two (.int .i64 k) (.slice A' k c')
      have hc1 := Lib.hid hcc.1
      have hc2 := Lib.hid hcc.2
      replace hvn := Lib.hid hvn
      replace hke := Lib.hid hke
      clear hcc
      go_wp2_with fail
      refine bodyPost_ret (v := .tuple #[.agg #[.int .i64 k, .slice A' k c'], .int .i64 0]) (by simp [results, Tryz.results50, go_sem, hc1.out, hc2.out]) rfl ⟨_, _, _, rfl, ⟨vs, ?_, ?_⟩, own_cap hout, (hI'.out.below.setCell (by simp <;> omega) _).setCell (by simp <;> omega) _, fun ad e => by subst e; have := own_lt_block hout _ rfl; omega⟩
      · have hne : (Value.slice A' k c').ownBlock ≠ some (w.heap.size + 2) := fun e => by have := own_lt_block hout _ e; omega
        exact Rd.of_own' (own_far (own_far hout (p := ⟨w.heap.size + 2, 0, none⟩) hne _) (p := ⟨w.heap.size + 2, 1, none⟩) hne _)
      · have h := ((hI'.out.rows.far (p := ⟨w.heap.size + 2, 0, none⟩) (by simp <;> omega) (.int .i64 k)).far (p := ⟨w.heap.size + 2, 1, none⟩) (by simp <;> omega) (.slice A' k c')).rows
        have he : orPre xss yss vs.length = orM xss yss := by rw [hvn.out, ← orPre_all, hxl.out]
        rw [he] at h
        exact h

end Go.Proofs.YtbeigdbljepfkaaGreat

namespace Go.Proofs.YtbeigdbljepfkaaGreat
open Go.RowKit
set_option linter.unusedVariables false

theorem MatB.belowB {w w' : World} {g : Nat} {t : TypeId} {N : Int} {A : Option Addr} {n c B : Nat} (h : MatB w g t N A n c) (hb : Below B w w') (hg : g < B) : MatB w' g t N A n c := Blk.below h hb hg
theorem MatB.farB {w : World} {g : Nat} {t : TypeId} {N : Int} {A : Option Addr} {n c : Nat} (h : MatB w g t N A n c) {p : Addr} (hp : g ≠ p.block) (u : Value) : MatB (w.setCell p u) g t N A n c := Blk.far h hp u

set_option maxRecDepth 100000 in
set_option maxHeartbeats 1000000 in
theorem ref3_SetG (B0 : Nat) (N : Int) (A : Option Addr) (n c : Nat) (xss : List (List Nat)) (i j : Int) (w : World) (hr : RowsG B0 w A n xss) (hB0 : B0 ≤ w.heap.size) (hN : N = (n : Int)) (hn : n ≤ 4096) (hl : ∀ xs ∈ xss, xs.length ≤ 1024)
    (h3 : inM N i j = true) :
    Calls Tryz.prog 20 #[.agg #[.int .i64 N, .slice A n c], .int .i64 i, .int .i64 j] w (RetMatG B0 N (setM xss i j) 0 w) := by
  subst hN
  obtain ⟨x0, hxi, hxz0, hxz1, hxz2⟩ := info_parts info_row
  replace hxi := Lib.hid hxi
  replace hxz0 := Lib.hid hxz0
  replace hxz1 := Lib.hid hxz1
  replace hxz2 := Lib.hid hxz2
  obtain ⟨i0, i1, j0, j1⟩ := inM_yes h3
  obtain ⟨k, rfl⟩ := Int.eq_ofNat_of_zero_le i0
  have hk : k < n := by omega
  obtain ⟨W0, hW0⟩ : ∃ W0, W0 = (w.alloc (.cells #[.int .i64 n, .slice A n c] 34)).alloc (.cells #[.int .i64 0, .slice none 0 0] 34) := ⟨_, rfl⟩
  have ha : Below w.heap.size w W0 := by rw [hW0]; exact ((Below.refl _ _).alloc (Nat.le_refl _) _).alloc (by simp) _
  have hB1 : MatB W0 w.heap.size 34 n A n c := by rw [hW0]; exact (MatB.new w _).below_ ((Below.refl _ _).alloc (Nat.le_refl _) _)
  have hB2 : MatB W0 (w.heap.size + 1) 34 0 none 0 0 := by rw [hW0]; exact MatB.new1 w _ _
  have hin := Lib.hid (ref3_in (n : Int) A n c k j W0)
  have hsz : W0.heap.size = w.heap.size + 2 := by rw [hW0]; simp
  have hlen := hr.at.len
  have hlt := Lib.hid hr.at.w64
  obtain ⟨vs, hrdw, hrcw, -, hvg⟩ := hr
  replace hvg := Lib.hid hvg
  replace hB0 := Lib.hid hB0
  obtain ⟨b, off, u, rfl, hbl, hu, hc⟩ := hrdw.at_ hk
  obtain ⟨xs, hx⟩ : ∃ xs, xss[k]? = some xs := ⟨_, List.getElem?_eq_getElem (by omega)⟩
  obtain ⟨B, m, d, rfl, hxr⟩ := hrcw.2 k u xs hu hx
  have hm : m ≤ 1024 := by have := hxr.len; have := hl xs (List.mem_of_getElem? hx); omega
  have hst := Lib.hid (ref2_SetO B m d xs j)
  have hx2 := Lib.hid hx
  have hu2 := Lib.hid hu
  have hone := Lib.hid (one_rows hrcw)
  replace hB1 := Lib.hid hB1
  replace hB2 := Lib.hid hB2
  replace hsz := Lib.hid hsz
  replace ha := Lib.hid ha
  replace h3 := Lib.hid h3
  replace hxr := Lib.hid hxr
  replace hrcw := Lib.hid hrcw
  replace hrdw := Lib.hid hrdw
  have hk0 : (0 : Int) ≤ (k : Int) := by omega
  have hkn : (k : Int) < (n : Int) := by omega
  clear hc hu hx hlen hl i0 i1
  go_enter Tryz.func20, Tryz.ntmps20
  go_wp2_with fail
  rw [← hW0]
  clear hW0
  refine hin.out.mono ?_; rintro e w1 ⟨rfl, hb1⟩
  rw [h3.out]
  have hbb := Lib.hid (below_trans2 ha.out hb1)
  have hs1 : w.heap.size + 2 ≤ w1.heap.size := by have := hb1.size; have := hsz.out; omega
  have hA1 := Lib.hid (hB1.out.below_ hb1)
  have hR1 := Lib.hid (hB2.out.below_ hb1)
  have hba : Below w1.heap.size w1 (w1.alloc (.cells #[] 75)) := (Below.refl _ _).alloc (Nat.le_refl _) _
  have hlit : (w1.alloc (.cells #[] 75)).ownsRow w1.heap.size 75 1 (.slice (some ⟨w1.heap.size, 0, none⟩) 0 0) 0 [] := by
    have h := World.ownsRow_lit (size := 1) (base := w1.heap.size) (e := 75) w1 #[] 0 (Nat.le_refl _) (by omega) (by simp)
    simpa using h
  have l1 : (w1.alloc (.cells #[] 75)).cell? ⟨w.heap.size, 1, none⟩ = some (.slice (some ⟨b, off, none⟩) n c) := (hA1.out.below_ hba).c1
  have hrd : Rd (w1.alloc (.cells #[] 75)) (some ⟨b, off, none⟩) n vs := (hrdw.out.below hbb.out).below hba
  have hbba := Lib.hid (below_trans2 hbb.out hba)
  have hRa := Lib.hid (hR1.out.below_ hba)
  have hAa := Lib.hid (hA1.out.below_ hba)
  clear hb1
  go_wp2_with (at_builtin; refine wpList_append_rd rfl (.tmp 15) (.tmp 17) _ rfl w1.heap.size 75 x0 _ 24 Tryz.underlying32 hxi.out hxz0.out hxz1.out hxz2.out rfl _ 0 _ (by rfl) hlit _ n c _ rfl hrd hone.out (by unfold maxLen; omega) (by omega) hba.size ?_; intro v2 w2 hown2 hbc hform; simp only [Nat.zero_add, List.nil_append] at hown2 hform; obtain ⟨g, cap, rfl⟩ := hform (by omega); have hcg := hown2.cellAt k (by omega); rw [hu2.out] at hcg; have hfg := hown2.frozenAt k; clear hform l1)
  have hglt := (hown2.lt g rfl).1
  have hb2 : Below w.heap.size w w2 := hbba.out.trans (hbc.mono (by omega))
  have hR2 := Lib.hid (MatB.belowB hRa.out hbc (by omega))
  have hA2 := Lib.hid (MatB.belowB hAa.out hbc (by omega))
  replace hb2 := Lib.hid hb2
  replace hown2 := Lib.hid hown2
  clear hba hlit hrd hbc hcg hfg
  refine (hst.out w2 (hxr.out.below hb2.out) (by omega) (by omega) (by omega)).mono ?_; rintro e w3 ⟨C, p, q, rfl, hxr2, hx64, hb3⟩
  have hown3 := Lib.hid (own_below hown2.out hb3)
  have hcg := hown3.out.cellAt k (by omega)
  rw [hu2.out] at hcg
  have hfg := hown3.out.frozenAt k
  have hR3 := Lib.hid (hR2.out.below_ hb3)
  have hA3 := Lib.hid (hA2.out.below_ hb3)
  have hbb3 := Lib.hid (below_trans2 hb2.out hb3)
  have hCb : Hid (∀ ad, C = some ad → w2.heap.size ≤ ad.block) := Lib.hid (fun ad e => by subst e; exact own_lt_block hxr2 _ rfl)
  have hgl2 : g < w2.heap.size := (hown2.out.lt g rfl).2
  replace hxr2 := Lib.hid (Row.of_own hxr2 hx64)
  have hA4 := MatB.farB (p := ⟨g, k, none⟩) hA3.out (by simp <;> omega) (.slice C p q)
  have hR4 := hR3.out.farB (p := ⟨g, k, none⟩) (by simp <;> omega) (.slice C p q)
  have f10 := hA4.c0
  have f20 := hR4.c0
  have f21 := hR4.c1
  have g20 := hR4.frozen 0
  have g21 := hR4.frozen 1
  have hcc := MatB.two hR4 (.int .i64 n) (.slice (some ⟨g, 0, none⟩) n cap)
  have hc1 := Lib.hid hcc.1
  have hc2 := Lib.hid hcc.2
  clear hA4 hR4 hcc hb3 hx64
  go_wp2_with fail
  have hfin : Below w.heap.size w ((((w3.setCell ⟨g, k, none⟩ (.slice C p q)).setCell ⟨w.heap.size + 1, 0, none⟩ (.int .i64 n)).setCell ⟨w.heap.size + 1, 1, none⟩ (.slice (some ⟨g, 0, none⟩) n cap))) := ((hbb3.out.setCell (by simp <;> omega) _).setCell (by simp) _).setCell (by simp) _
  refine bodyPost_ret (v := .tuple #[.agg #[.int .i64 n, .slice (some ⟨g, 0, none⟩) n cap], .int .i64 0]) (by simp [results, Tryz.results20, go_sem, hc1.out, hc2.out]) rfl ⟨_, _, _, rfl, ?_, own_cap hown3.out, hfin, fun ad e => by cases e; show w.heap.size ≤ g; omega⟩
  refine ⟨_, Rd.of_own' (own_far (own_far (hown3.out.stored k (.slice C p q)).1 (p := ⟨w.heap.size + 1, 0, none⟩) (by simp [Value.ownBlock]; omega) _) (p := ⟨w.heap.size + 1, 1, none⟩) (by simp [Value.ownBlock]; omega) _), ?_, fun ad e => by cases e; have := hB0.out; show B0 ≤ g; omega, fun v hv g' e => by
    rcases List.mem_or_eq_of_mem_set hv with h | rfl
    · exact hvg.out v h g' e
    · cases C with
      | none => cases e
      | some ad =>
        injection e with e
        have h1 := hCb.out ad rfl
        have h2 := hB0.out
        have h3 := hb2.out.size
        omega⟩
  have h1 := hrcw.out.below hfin
  rw [setM_nat hx2.out]
  refine h1.set ⟨C, p, q, rfl, ?_⟩ k
  exact ((hxr2.out.setCell (fun ad e => by have := hCb.out ad e; simp <;> omega) _).setCell (fun ad e => by have := hCb.out ad e; simp <;> omega) _).setCell (fun ad e => by have := hCb.out ad e; simp <;> omega) _
theorem ref3_SetF (N : Int) (A : Option Addr) (n c : Nat) (xss : List (List Nat)) (i j : Int) (w : World) (hr : RowsAt w A n xss) (hN : N = (n : Int)) (hn : n ≤ 4096) (hl : ∀ xs ∈ xss, xs.length ≤ 1024)
    (h3 : inM N i j = true) :
    Calls Tryz.prog 20 #[.agg #[.int .i64 N, .slice A n c], .int .i64 i, .int .i64 j] w (RetMatF N (setM xss i j) 0 w) :=
  (ref3_SetG 0 N A n c xss i j w (RowsG.of hr) (Nat.zero_le _) hN hn hl h3).mono fun _ _ h => h.f
theorem ref3_Set (N : Int) (A : Option Addr) (n c : Nat) (xss : List (List Nat)) (i j : Int) (w : World) (hr : RowsAt w A n xss) (hN : N = (n : Int)) (hn : n ≤ 4096) (hl : ∀ xs ∈ xss, xs.length ≤ 1024)
    (h3 : inM N i j = true) :
    Calls Tryz.prog 20 #[.agg #[.int .i64 N, .slice A n c], .int .i64 i, .int .i64 j] w (RetMat N (setM xss i j) 0 w) :=
  (ref3_SetF N A n c xss i j w hr hN hn hl h3).mono fun _ _ ⟨A', n', c', h1, h2, h3, h4, _⟩ => ⟨A', n', c', h1, h2, h3, h4⟩

end Go.Proofs.YtbeigdbljepfkaaGreat
