/- A region that draws its order: walked in an order of one's own ('plan'): what only reads (copies, addresses, arithmetic, loads) is taken as soon as it may come up; a call comes up alone; behind the plan a tail, one operation behind the other. What a call makes of memory may be anything that leaves the blocks that were there as they were ('Below'). No function of the program is named here. Contracts of package mat: join, Or. Contracts of package mat: fits, Right. Contracts of package mat: Sub, Same (by slices.EqualFunc). Contracts of package mat: Pairs. Plain facts of matrices that may be: a pair that is set. Plain mathematics of a block of 64 words whose bits are turned about, size by size. Nothing of the program is imported. Contracts of package mat: flip. A whole array of words, loaded and stored: at a plain region's list. No function of the program is named here. Contracts of package mat: take, lay, Turn. Contracts of package mat: lay. Contracts of package mat: Turn. Plain facts of matrices that may be: made of pairs, turned about. Contracts of the document's own answers for matrices (eyewitnessref03): in, Has, Small, Equal. Contracts of the document's own answers for matrices: Equal, Sub, Same. Contracts of the document's own answers for matrices: Sub, Same. Contracts of the document's own answers for matrices: Right. Contracts of the document's own answers for matrices: New. Contracts of the document's own answers for matrices: New (refused), Or. Contracts of the document's own answers for matrices: Set. A region that draws its order, walked by a plan (XPlan), whose last head results stand beside one another: behind the plan's calls come values that hang on no memory ('extract': a call's second result), which may come up between the stores behind; then a tail. What lies ahead of the tail is found by what waits for what. No function of the program is named here. -/
import Derived.OrdersHeld
import Derived.StillTail
import Derived.Below
import Derived.WalkKit
import Derived.Deep.RegionHeld3
import Derived.Lib.Hide
import Derived.Test.YtkaohfgpibbkiaaPastTellsPk2
import Derived.Deep.MidRow
namespace Go.Proofs.Ytkaohfgpibbkiaa
open Go.RowKit

section
variable {P : Program} {ops : Array Oper} {md : Region.Mode} {Q : Exit → Act → World → Prop}

/-- Whatever order is picked from here on, till the first n operations are done; each leaves what was there. -/
def wpAnyR (P : Program) (md : Region.Mode) (ops : Array Oper) (Q : Exit → Act → World → Prop) (n : Nat) (F : Array Bool → Act → World → Prop) : Nat → Array Bool → Act → World → Prop
  | 0, listed, a, w => F listed a w
  | f + 1, listed, a, w => Region.ready md ops listed ≠ [] ∧ ∀ i ∈ Region.ready md ops listed, i < n ∧ wpOp P ops Q i (fun a' w' => Below w.heap.size w w' ∧ wpAnyR P md ops Q n F f (listed.setIfInBounds i true) a' w') a w

theorem wpAny_of_R {n g : Nat} {F : Array Bool → Act → World → Prop} (hF : ∀ listed a w, F listed a w → wpAny P md ops Q g listed a w) :
    ∀ (f : Nat) (listed : Array Bool) (a : Act) (w : World), wpAnyR P md ops Q n F f listed a w → wpAny P md ops Q (f + g) listed a w
  | 0, _, _, _, h => by rw [Nat.zero_add]; exact hF _ _ _ h
  | f + 1, listed, a, w, h => by
    rw [show f + 1 + g = (f + g) + 1 by omega]
    exact ⟨fun h0 => absurd h0 h.1, fun i hi => wpOp_mono (fun a' w' h' => wpAny_of_R hF f _ a' w' h'.2) (h.2 i hi).2⟩

theorem below_of {w w' w'' : World} (h : Below w.heap.size w w') (h' : Below w'.heap.size w' w'') : Below w.heap.size w w'' := h.trans (h'.mono h.size)
theorem yields_later {w w' : World} {o : Oper} {v : Value} {a : Act} (hb : Below w.heap.size w w') (h : YieldsIf P ops (fun x => Below w.heap.size w x) o v a) : YieldsIf P ops (fun x => Below w'.heap.size w' x) o v a :=
  h.imp (fun ⟨h1, h2⟩ => ⟨h1, fun x hx => h2 x (below_of hb hx)⟩) id

theorem wpAnyR_first {n i : Nat} {oi : Oper} {v : Value} {F : Array Bool → Act → World → Prop} (hi : ops[i]? = some oi) (hsel : ∀ (j : Nat) (o : Oper) cs b, ops[j]? = some o → o.op ≠ .select cs b)
    (hQ : ∀ c a w, Q (.panic c) (a.put oi.dst v) w → Q (.panic c) a w)
    (hlate : ∀ listed, HeadInv md ops n listed → listed.getD i true = false → ∀ t, n ≤ t → t ∉ Region.ready md ops listed) (hin : i < n)
    (hdone : ∀ listed a w, F listed a w → ∀ j ∈ Region.ready md ops listed, n ≤ j) :
    ∀ (f : Nat) (listed : Array Bool) (a : Act) (w : World), HeadInv md ops n listed →
      (∀ j oj, ops[j]? = some oj → j ≠ i → listed.getD j true = false → (∀ e ∈ oj.after, Region.binds md e = true → e.on ≠ i) → oi.apart ops oj = true) →
      i ∈ Region.ready md ops listed → YieldsIf P ops (fun x => Below w.heap.size w x) oi v a →
      wpAnyR P md ops Q n F f (listed.setIfInBounds i true) (a.put oi.dst v) w → wpAnyR P md ops Q n F (f + 1) listed a w := by
  intro f
  induction f with
  | zero =>
    intro listed a w inv _ hr hy H
    have hun := (mem_ready.1 hr).1
    refine ⟨fun h => (by rw [h] at hr; cases hr), fun j hj => ?_⟩
    have hjn : j < n := by
      rcases Nat.lt_or_ge j n with h | h
      · exact h
      · exact absurd hj (hlate listed inv hun j h)
    refine ⟨hjn, ?_⟩
    by_cases hji : j = i
    · subst hji; exact hy.wpOp hi (Below.refl _ _) ⟨Below.refl _ _, H⟩
    · have := hdone _ _ _ H j (ready_mono hj hji)
      omega
  | succ f ih =>
    intro listed a w inv hfree hr hy H
    have hun := (mem_ready.1 hr).1
    refine ⟨fun h => (by rw [h] at hr; cases hr), fun j hj => ?_⟩
    have hjn : j < n := by
      rcases Nat.lt_or_ge j n with h | h
      · exact h
      · exact absurd hj (hlate listed inv hun j h)
    refine ⟨hjn, ?_⟩
    by_cases hji : j = i
    · subst hji; exact hy.wpOp hi (Below.refl _ _) ⟨Below.refl _ _, H⟩
    · have h1 := (H.2 j (ready_mono hj hji)).2
      obtain ⟨hjun, oj, hoj, hall⟩ := mem_ready.1 hj
      have hnot : ∀ e ∈ oj.after, Region.binds md e = true → e.on ≠ i := fun e he hb heq => by
        have h1 := hall e he hb
        rw [heq, getD_both hun] at h1
        cases h1
      have h2 := wpOp_putIf hoj (hfree j oj hoj hji hjun hnot) (fun cs b => hsel i oi cs b hi) (fun cs b => hsel j oj cs b hoj) hQ hy h1
      have hfree' : ∀ k ok, ops[k]? = some ok → k ≠ i → (listed.setIfInBounds j true).getD k true = false →
          (∀ e ∈ ok.after, Region.binds md e = true → e.on ≠ i) → oi.apart ops ok = true := fun k ok hk hki hun hno => by
        refine hfree k ok hk hki ?_ hno
        by_cases hjk : j = k
        · subst hjk; exact hjun
        · rw [getD_set_ne true hjk] at hun; exact hun
      refine wpOp_mono (fun a' w' h3 => ⟨h3.2.1, ih (listed.setIfInBounds j true) a' w' (inv.set hj hjn) hfree' (ready_mono hr (Ne.symm hji)) (yields_later h3.2.1 h3.1) ?_⟩) h2
      rw [Array.setIfInBounds_comm _ _ hji]
      exact h3.2.2

/-- the plan's check: b: it may come up, and no other that may come up looks at its slot; not b: it alone may come up -/
def planB (md : Region.Mode) (ops : Array Oper) (n : Nat) : List (Bool × Nat) → Array Bool → Bool
  | [], listed => Region.seqB md ops (ops.size - n) n listed
  | (b, i) :: rest, listed => decide (i < n) && (if b then (Region.ready md ops listed).contains i && Region.free md ops listed i else decide (Region.ready md ops listed = [i])) && planB md ops n rest (listed.setIfInBounds i true)
def planAll (md : Region.Mode) (ops : Array Oper) (n : Nat) (pl : List (Bool × Nat)) : Bool :=
  Region.noSelect ops && decide (pl.length = n) && decide (n ≤ ops.size) && (decide (n = ops.size) || (Region.sinkB md ops n && Region.chainB md ops n)) && planB md ops n pl (Array.replicate ops.size false)

/-- the walk of the plan -/
def wpPlan (P : Program) (ops : Array Oper) (Q : Exit → Act → World → Prop) (tail : List Oper) : List (Bool × Nat) → Act → World → Prop
  | [], a, w => wpList P ops Q tail a w
  | (true, i) :: rest, a, w => ∃ o v, ops[i]? = some o ∧ YieldsIf P ops (fun x => Below w.heap.size w x) o v a ∧ wpPlan P ops Q tail rest (a.put o.dst v) w
  | (false, i) :: rest, a, w => wpOp P ops Q i (fun a' w' => Below w.heap.size w w' ∧ wpPlan P ops Q tail rest a' w') a w

theorem wpAnyR_plan {n : Nat} {tail : List Oper} (hsel : Region.noSelect ops = true) (hQ : ∀ c a d v w, Q (.panic c) (a.put d v) w → Q (.panic c) a w)
    (hlate : ∀ listed, HeadInv md ops n listed → ∀ i, i < n → listed.getD i true = false → ∀ t, n ≤ t → t ∉ Region.ready md ops listed) :
    ∀ (pl : List (Bool × Nat)) (listed : Array Bool) (a : Act) (w : World), HeadInv md ops n listed → planB md ops n pl listed = true → wpPlan P ops Q tail pl a w →
    wpAnyR P md ops Q n (fun listed' a' w' => Region.seqB md ops (ops.size - n) n listed' = true ∧ wpList P ops Q tail a' w') pl.length listed a w
  | [], listed, a, w, _, hB, h => ⟨hB, h⟩
  | (true, i) :: rest, listed, a, w, inv, hB, h => by
    simp only [planB, if_true, Bool.and_eq_true, decide_eq_true_eq] at hB
    obtain ⟨⟨hin, hr, hf⟩, hB'⟩ := hB
    obtain ⟨o, v, ho, hy, h'⟩ := h
    have hr' : i ∈ Region.ready md ops listed := by simpa using hr
    exact wpAnyR_first ho (Region.noSelect_spec hsel) (fun c a w => hQ c a o.dst v w) (fun l hl hu => hlate l hl i hin hu) hin (fun listed' a' w' hL => seqB_ready hL.1) rest.length listed a w inv (Region.free_spec ho hf) hr' hy
      (wpAnyR_plan hsel hQ hlate rest _ _ _ (inv.set hr' hin) hB' h')
  | (false, i) :: rest, listed, a, w, inv, hB, h => by
    simp only [planB, Bool.false_eq_true, if_false, Bool.and_eq_true, decide_eq_true_eq] at hB
    obtain ⟨⟨hin, hr⟩, hB'⟩ := hB
    have hr' : i ∈ Region.ready md ops listed := by rw [hr]; simp
    refine ⟨by rw [hr]; simp, fun j hj => ?_⟩
    rw [hr] at hj
    have hji : j = i := by simpa using hj
    subst hji
    exact ⟨hin, wpOp_mono (fun a' w' h3 => ⟨h3.1, wpAnyR_plan hsel hQ hlate rest _ a' w' (inv.set hr' hin) hB' h3.2⟩) h⟩

theorem wpAny_plan {a : Act} {w : World} {l : List Oper} (n : Nat) (pl : List (Bool × Nat)) (hB : planAll .any l.toArray n pl = true)
    (h : ∀ W : World, Hid (W = w.drew) → wpPlan P l.toArray (NoPanic Q) (l.drop n) pl a W) : wpAny P .any l.toArray (NoPanic Q) l.toArray.size (Array.replicate l.toArray.size false) a { w with drawn := w.drawn + 1 } := by
  have hQ : ∀ c a d v w, NoPanic Q (.panic c) (a.put d v) w → NoPanic Q (.panic c) a w := fun _ _ _ _ _ h => h
  simp only [planAll, Bool.and_eq_true, decide_eq_true_eq] at hB
  obtain ⟨⟨⟨⟨hsel, hlen⟩, hn⟩, hsc⟩, hpl⟩ := hB
  have hn' : n ≤ l.length := by simpa using hn
  have hdl : (l.drop n).length = l.toArray.size - n := by simp
  have inv0 : HeadInv .any l.toArray n (Array.replicate l.toArray.size false) :=
    ⟨by simp, fun j oj _ hl => (by rw [getD_replicate_false] at hl; cases hl), fun t _ ht => getD_in (by simpa using ht) (getD_replicate_false _ _)⟩
  have hlate : ∀ listed, HeadInv .any l.toArray n listed → ∀ i, i < n → listed.getD i true = false → ∀ t, n ≤ t → t ∉ Region.ready .any l.toArray listed := by
    intro listed inv i hin hun t ht hr
    rw [Bool.or_eq_true, decide_eq_true_eq, Bool.and_eq_true] at hsc
    obtain ⟨_, ot, hot, _⟩ := mem_ready.1 hr
    have htl := (Array.getElem?_eq_some_iff.1 hot).1
    rcases hsc with h0 | ⟨hs, hc⟩
    · omega
    · exact tail_waits hs hc (by omega) inv _ i rfl hin hun t ht hr
  have H := wpAnyR_plan (md := .any) hsel hQ hlate pl _ a w.drew inv0 hpl (h w.drew (Lib.hid rfl))
  have := wpAny_of_R (Q := NoPanic Q) (g := l.toArray.size - n) (fun listed a' w' hL => by
    have := wpAny_of_seq (md := .any) (Q' := NoPanic Q) (l.drop n) n listed a' w' (fun j => by simp [List.getElem?_drop]) (by rw [hdl]; exact hL.1) hL.2
    rwa [hdl] at this) _ _ _ _ H
  rw [hlen, show n + (l.toArray.size - n) = l.toArray.size by omega] at this
  exact this
theorem wp_region_plan {id : Nat} {a : Act} {w : World} {l : List Oper} (n : Nat) (pl : List (Bool × Nat)) (hm : P.follows .mixedOrders = true) (hB : planAll .any l.toArray n pl = true)
    (h : ∀ W : World, Hid (W = w.drew) → wpPlan P l.toArray (NoPanic Q) (l.drop n) pl a W) : (Code.region id l.toArray true).wp P Q a w :=
  wp_region_noPanic (wp_region_any hm (wpAny_plan n pl hB h))

/-! ### the steps -/
section
variable {tail : List Oper} {rest : List (Bool × Nat)} {a : Act} {w : World} {i : Nat} {o : Oper}
/-- what only reads: its value, in every world whose cells are those of w, where w has any -/
theorem wpPlan_float {v : Value} (hi : ops[i]? = some o) (hw : Region.wanted o (yielded ops a.tmps) = true)
    (hy : ∀ w' : World, (∀ p, (w.cell? p).isSome = true → w'.cell? p = w.cell? p) → (execOp a.eval o).run P w' = .ok (.value v) w') (h : ∀ K : Act → Prop, (∀ a', wpPlan P ops Q tail rest a' w → K a') → K (a.put o.dst v)) : wpPlan P ops Q tail ((true, i) :: rest) a w :=
  ⟨o, v, hi, .inl ⟨hw, fun w' hb => hy w' (fun p hp => by
    have hlt : p.block < w.heap.size := by
      cases hc : w.cell? p with
      | none => rw [hc] at hp; cases hp
      | some u => exact block_lt_of_cell hc
    exact hb.cell hlt)⟩, h _ (fun _ h => h)⟩
/-- what comes up alone: a call -/
theorem wpPlan_only (hi : ops[i]? = some o) (hw : Region.wanted o (yielded ops a.tmps) = true)
    (h : ∀ K : Act → World → Prop, (∀ a' w', Below w.heap.size w w' → wpPlan P ops Q tail rest a' w' → K a' w') → o.wp P a w K Q) : wpPlan P ops Q tail ((false, i) :: rest) a w := by
  show wpOp P ops Q i _ a w
  unfold wpOp
  simp only [hi, hw, if_true]
  exact .inl (h _ (fun a' w' hb hp => ⟨hb, hp⟩))
theorem wpPlan_nil (h : wpList P ops Q tail a w) : wpPlan P ops Q tail [] a w := h
end
end
end Go.Proofs.Ytkaohfgpibbkiaa

namespace Go.Proofs.Ytkaohfgpibbkiaa
open Go.RowKit
set_option linter.unusedVariables false

end Go.Proofs.Ytkaohfgpibbkiaa

namespace Go.Proofs.Ytkaohfgpibbkiaa
open Go.RowKit
set_option linter.unusedVariables false

theorem fitsR_len {r : List Nat} {n : Int} (h : ((r.length : Int) = wordsZ n) → False) : fitsR r n = false := by
  unfold fitsR; rw [decide_eq_false h]; rfl

theorem rightM_out {N : Int} {xss : List (List Nat)} (h : N < 0 ∨ 4097 ≤ N) : rightM N xss = false := by
  unfold rightM
  rcases h with h | h
  · rw [decide_eq_false (p := 0 ≤ N) (by omega)]; rfl
  · rw [decide_eq_false (p := N ≤ 4096) (by omega)]; simp
theorem rightM_len {N : Int} {xss : List (List Nat)} (h : (xss.length : Int) ≠ N) : rightM N xss = false := by
  unfold rightM; rw [decide_eq_false h]; simp
theorem rightM_row {N : Int} {xss : List (List Nat)} {k : Nat} {xs : List Nat} (hx : xss[k]? = some xs) (h : fitsR xs N = false) : rightM N xss = false := by
  unfold rightM
  rw [List.all_eq_false.2 ⟨xs, List.mem_of_getElem? hx, by rw [h]; simp⟩, Bool.and_false]
theorem rightM_yes {n : Nat} {xss : List (List Nat)} (h1 : n ≤ 4096) (h2 : xss.length = n) (h : ∀ (k : Nat) (xs : List Nat), xss[k]? = some xs → fitsR xs (n : Int) = true) : rightM (n : Int) xss = true := by
  unfold rightM
  rw [decide_eq_true (p := (0 : Int) ≤ n) (by omega), decide_eq_true (p := (n : Int) ≤ 4096) (by omega), decide_eq_true (p := (xss.length : Int) = n) (by omega)]
  simp only [Bool.true_and, List.all_eq_true]
  intro xs hxs
  obtain ⟨k, hk⟩ := List.getElem?_of_mem hxs
  exact h k xs hk

end Go.Proofs.Ytkaohfgpibbkiaa

namespace Go.Proofs.Ytkaohfgpibbkiaa
open Go.RowKit
set_option linter.unusedVariables false

end Go.Proofs.Ytkaohfgpibbkiaa

namespace Go.Proofs.Ytkaohfgpibbkiaa
open Go.RowKit
set_option linter.unusedVariables false

/-! ### the pairs of a matrix -/

end Go.Proofs.Ytkaohfgpibbkiaa

namespace Go.Proofs.Ytkaohfgpibbkiaa
open Go.RowKit
set_option linter.unusedVariables false

theorem right_parts {N : Int} {xss : List (List Nat)} (h : rightM N xss = true) : 0 ≤ N ∧ N ≤ 4096 ∧ (xss.length : Int) = N ∧ ∀ r ∈ xss, fitsR r N = true := by
  unfold rightM at h
  simp only [Bool.and_eq_true, decide_eq_true_eq, List.all_eq_true] at h
  exact ⟨h.1.1.1, h.1.1.2, h.1.2, h.2⟩
theorem fits_parts {r : List Nat} {N : Int} (h : fitsR r N = true) : (r.length : Int) = wordsZ N ∧ ∀ j : Nat, j < 64 * r.length → N ≤ (j : Int) → hasR r (j : Int) = false := by
  unfold fitsR at h
  simp only [Bool.and_eq_true, decide_eq_true_eq, List.all_eq_true, List.mem_range, Bool.or_eq_true, Bool.not_eq_true'] at h
  exact ⟨h.1, fun j hj hN => (h.2 j hj).resolve_left (by omega)⟩
/-- the rows of a matrix that may be: each of as many words as the number wants, and no bit behind it -/
structure Good (n : Nat) (xss : List (List Nat)) : Prop where
  le : n ≤ 4096
  len : xss.length = n
  row : ∀ r ∈ xss, W64 r ∧ n ≤ 64 * r.length ∧ r.length = (wordsZ (n : Int)).toNat ∧ ∀ j : Nat, n ≤ j → hasR r (j : Int) = false
theorem Good.of {N : Int} {xss : List (List Nat)} (h : rightM N xss = true) (hw : ∀ r ∈ xss, W64 r) : ∃ n : Nat, N = (n : Int) ∧ Good n xss := by
  obtain ⟨h0, h1, h2, h3⟩ := right_parts h
  obtain ⟨n, rfl⟩ := Int.eq_ofNat_of_zero_le h0
  refine ⟨n, rfl, by omega, by omega, fun r hr => ?_⟩
  obtain ⟨f1, f2⟩ := fits_parts (h3 r hr)
  have hp : 0 < n := by
    rcases Nat.eq_zero_or_pos n with rfl | hp
    · have : xss = [] := List.eq_nil_of_length_eq_zero (by omega)
      rw [this] at hr; cases hr
    · exact hp
  have hwp := (words_pos hp).2
  refine ⟨hw r hr, by omega, by omega, fun j hj => ?_⟩
  by_cases hj2 : j < 64 * r.length
  · exact f2 j hj2 (by omega)
  · exact hasR_out _ _ (.inr (by omega))
theorem Good.at_ {n : Nat} {xss : List (List Nat)} (h : Good n xss) {a : Nat} (ha : a < n) : ∃ r, xss[a]? = some r ∧ W64 r ∧ n ≤ 64 * r.length := by
  have hl : a < xss.length := by rw [h.len]; exact ha
  exact ⟨xss[a], List.getElem?_eq_getElem hl, (h.row _ (List.getElem_mem hl)).1, (h.row _ (List.getElem_mem hl)).2.1⟩
theorem Good.small {n : Nat} {xss : List (List Nat)} (h : Good n xss) : ∀ r ∈ xss, r.length ≤ 64 := fun r hr => by
  have := (h.row r hr).2.2.1
  have := words_le h.le
  omega

end Go.Proofs.Ytkaohfgpibbkiaa

namespace Go.Proofs.Ytkaohfgpibbkiaa

/-! ### one size: the rows, one by one -/

/-! ### the bits -/

end Go.Proofs.Ytkaohfgpibbkiaa

namespace Go.Proofs.Ytkaohfgpibbkiaa
open Go.RowKit
set_option linter.unusedVariables false

end Go.Proofs.Ytkaohfgpibbkiaa

namespace Go.Proofs.Ytkaohfgpibbkiaa
open Go.RowKit

section
variable {P : Program} {ops : Array Oper} {rest : List Oper} {op : Oper} {a : Act} {w : World} {Q : Exit → Act → World → Prop}
end

end Go.Proofs.Ytkaohfgpibbkiaa

namespace Go.Proofs.Ytkaohfgpibbkiaa
open Go.RowKit
set_option linter.unusedVariables false

end Go.Proofs.Ytkaohfgpibbkiaa

namespace Go.Proofs.Ytkaohfgpibbkiaa
open Go.RowKit
set_option linter.unusedVariables false

end Go.Proofs.Ytkaohfgpibbkiaa

namespace Go.Proofs.Ytkaohfgpibbkiaa
open Go.RowKit
set_option linter.unusedVariables false

end Go.Proofs.Ytkaohfgpibbkiaa

namespace Go.Proofs.Ytkaohfgpibbkiaa
open Go.RowKit
set_option linter.unusedVariables false

theorem Good.has_lt {n : Nat} {xss : List (List Nat)} (h : Good n xss) {i j : Nat} (hh : hasM xss (i : Int) (j : Int) = true) : i < n ∧ j < n := by
  by_cases hi : i < n
  · obtain ⟨r, hr, hw, hl⟩ := h.at_ hi
    refine ⟨hi, ?_⟩
    by_cases hj : j < n
    · exact hj
    · rw [hasM_in hr, (h.row r (List.mem_of_getElem? hr)).2.2.2 j (by omega)] at hh; cases hh
  · rw [hasM_out (.inr (by rw [h.len]; omega))] at hh; cases hh

end Go.Proofs.Ytkaohfgpibbkiaa

namespace Go.Proofs.Ytkaohfgpibbkiaa
open Go.RowKit
set_option linter.unusedVariables false

set_option maxHeartbeats 1000000 in
theorem ref3_in (N : Int) (A : Option Addr) (n c : Nat) (i j : Int) (w : World) :
    Calls Try.prog 58 #[.agg #[.int .i64 N, .slice A n c], .int .i64 i, .int .i64 j] w (RetB (inM N i j) w) := by
  have ha : Below w.heap.size w (w.alloc (.cells #[.int .i64 N, .slice A n c] 39)) := (Below.refl _ _).alloc (Nat.le_refl _) _
  replace ha := Lib.hid ha
  by_cases h1 : 0 ≤ i
  · by_cases h2 : i < N
    · by_cases h3 : 0 ≤ j
      · by_cases h4 : j < N
        · have H := Lib.hid (show inM N i j = true by unfold inM; simp [h1, h2, h3, h4])
          go_enter Try.func58, Try.ntmps58
          go_wp2
          go_ret
          rw [H.out]; exact ⟨rfl, ha.out⟩
        · have H := Lib.hid (show inM N i j = false by unfold inM; simp [h4])
          go_enter Try.func58, Try.ntmps58
          go_wp2
          go_ret
          rw [H.out]; exact ⟨rfl, ha.out⟩
      · have H := Lib.hid (show inM N i j = false by unfold inM; simp [h3])
        go_enter Try.func58, Try.ntmps58
        go_wp2
        go_ret
        rw [H.out]; exact ⟨rfl, ha.out⟩
    · have H := Lib.hid (show inM N i j = false by unfold inM; simp [h2])
      go_enter Try.func58, Try.ntmps58
      go_wp2
      go_ret
      rw [H.out]; exact ⟨rfl, ha.out⟩
  · have H := Lib.hid (show inM N i j = false by unfold inM; simp [h1])
    go_enter Try.func58, Try.ntmps58
    go_wp2
    go_ret
    rw [H.out]; exact ⟨rfl, ha.out⟩

theorem inM_yes {N i j : Int} (h : inM N i j = true) : 0 ≤ i ∧ i < N ∧ 0 ≤ j ∧ j < N := by
  unfold inM at h
  simp only [Bool.and_eq_true, decide_eq_true_eq] at h
  obtain ⟨⟨⟨a, b⟩, c⟩, d⟩ := h
  exact ⟨a, b, c, d⟩
set_option maxHeartbeats 400000 in
theorem ref3_Has (A : Option Addr) (n c : Nat) (xss : List (List Nat)) (i j : Int) (w : World) (hr : RowsAt w A n xss) (hn : n ≤ 4096) (hl : ∀ (k : Nat) (xs : List Nat), xss[k]? = some xs → xs.length ≤ 1024) :
    Calls Try.prog 31 #[.agg #[.int .i64 (n : Int), .slice A n c], .int .i64 i, .int .i64 j] w (RetB (inM (n : Int) i j && hasM xss i j) w) := by
  obtain ⟨W0, hW0⟩ : ∃ W0, W0 = w.alloc (.cells #[.int .i64 n, .slice A n c] 39) := ⟨_, rfl⟩
  have ha : Below w.heap.size w W0 := by rw [hW0]; exact (Below.refl _ _).alloc (Nat.le_refl _) _
  have hB : MatB W0 w.heap.size 39 n A n c := by rw [hW0]; exact MatB.new w _
  have hin := Lib.hid (ref3_in (n : Int) A n c i j W0)
  rcases Bool.eq_false_or_eq_true (inM (n : Int) i j) with h | h
  · obtain ⟨i0, i1, j0, j1⟩ := inM_yes h
    obtain ⟨k, rfl⟩ := Int.eq_ofNat_of_zero_le i0
    have hk : k < n := by omega
    obtain ⟨b, off, B, m, d, xs, rfl, hbl, hx, hc, hxr⟩ := hr.at_ hk
    have hm : m ≤ 1024 := by have := hxr.len; have := hl k xs hx; omega
    have H := Lib.hid (show (inM (n : Int) k j && hasM xss k j) = hasR xs j by rw [h, hasM_in hx, Bool.true_and])
    have hk0 : (0 : Int) ≤ (k : Int) := by omega
    have hkn : (k : Int) < (n : Int) := by omega
    replace h := Lib.hid h
    replace hB := Lib.hid hB
    replace hxr := Lib.hid hxr
    replace ha := Lib.hid ha
    clear hx hr
    go_enter Try.func31, Try.ntmps31
    go_wp2_with fail
    rw [← hW0]
    clear hW0
    refine hin.out.mono ?_; rintro e w1 ⟨rfl, hb1⟩
    rw [h.out]
    have l1 := (hB.out.below_ hb1).c1
    have hbb := below_trans2 ha.out hb1
    have hcr := (hbb.cell (p := ⟨b, off + k, none⟩) hbl).trans hc
    have hC := Lib.hid (ref2_Has B m d xs j w1 (hxr.out.below hbb) (by omega) (by omega) (by omega))
    replace hbb := Lib.hid hbb
    clear hb1 hc
    go_wp2_with fail
    refine hC.out.mono ?_; rintro e w' ⟨rfl, rfl⟩
    go_wp2
    go_ret
    rw [H.out]; exact ⟨rfl, hbb.out⟩
  · have H := Lib.hid (show (inM (n : Int) i j && hasM xss i j) = false by rw [h]; rfl)
    replace h := Lib.hid h
    replace ha := Lib.hid ha
    clear hB hr
    go_enter Try.func31, Try.ntmps31
    go_wp2_with fail
    rw [← hW0]
    clear hW0
    refine hin.out.mono ?_; rintro e w1 ⟨rfl, hb1⟩
    rw [h.out]
    have hbb := Lib.hid (below_trans2 ha.out hb1)
    clear hb1
    go_wp2
    go_ret
    rw [H.out]; exact ⟨rfl, hbb.out⟩

theorem small_row {xss : List (List Nat)} {most : Int} {k : Nat} {xs : List Nat} (hx : xss[k]? = some xs) (h : 4 < xs.length) : smallM xss most = false := by
  unfold smallM
  rw [List.all_eq_false.2 ⟨xs, List.mem_of_getElem? hx, by rw [decide_eq_false (by omega)]; simp⟩, Bool.and_false]
theorem small_yes {xss : List (List Nat)} {most : Int} (h0 : (xss.length : Int) ≤ most) (h : ∀ (k : Nat) (xs : List Nat), xss[k]? = some xs → xs.length ≤ 4) : smallM xss most = true := by
  unfold smallM
  rw [decide_eq_true h0, Bool.true_and, List.all_eq_true]
  intro xs hx
  obtain ⟨k, hk⟩ := List.getElem?_of_mem hx
  exact decide_eq_true (h k xs hk)
set_option maxRecDepth 100000 in
set_option maxHeartbeats 1000000 in
theorem ref3_Small (N : Int) (A : Option Addr) (n c : Nat) (xss : List (List Nat)) (most : Int) (w : World) (hr : RowsAt w A n xss) (hn : n ≤ 9223372036854775807) (hl : ∀ (k : Nat) (xs : List Nat), xss[k]? = some xs → xs.length ≤ 9223372036854775807) (hm : most ≤ 1000) :
    Calls Try.prog 16 #[.agg #[.int .i64 N, .slice A n c], .int .i64 most] w (RetB (smallM xss most) w) := by
  have hlen := hr.len
  obtain ⟨W0, hW0⟩ : ∃ W0, W0 = w.alloc (.cells #[.int .i64 N, .slice A n c] 39) := ⟨_, rfl⟩
  have ha : Below w.heap.size w W0 := by rw [hW0]; exact (Below.refl _ _).alloc (Nat.le_refl _) _
  have hB : MatB W0 w.heap.size 39 N A n c := by rw [hW0]; exact MatB.new w _
  have l1 := hB.c1
  have hrr := Lib.hid (hr.below ha)
  replace ha := Lib.hid ha
  by_cases h : most < (n : Int)
  · have H := Lib.hid (show smallM xss most = false by unfold smallM; rw [decide_eq_false (by omega)]; rfl)
    clear hr hB hlen hl
    go_enter Try.func16, Try.ntmps16
    go_wp2_with fail
    rw [← hW0]
    clear hW0
    go_wp2_with fail
    go_ret
    rw [H.out]; exact ⟨rfl, ha.out⟩
  · have hyes := Lib.hid (small_yes (xss := xss) (most := most) (by omega))
    have hno := Lib.hid (fun k xs h1 h2 => small_row (xss := xss) (most := most) (k := k) (xs := xs) h1 h2)
    have hn1 : n ≤ 1000 := by omega
    replace hl := Lib.hid hl
    replace hlen := Lib.hid hlen
    clear hr hB
    go_enter Try.func16, Try.ntmps16
    go_wp2_with fail
    rw [← hW0]
    clear hW0
    go_loop [5] (fun i => ∃ k : Nat, k ≤ n ∧ i = .int .i64 k ∧ Hid (∀ (j : Nat) (xs : List Nat), j < k → xss[j]? = some xs → xs.length ≤ 4)) (fun i => n - (intOf i).toNat)
    case atStart => exact ⟨0, Nat.zero_le _, rfl, Lib.hid (fun j xs hj => absurd hj (by omega))⟩
    case round =>
      obtain ⟨k, hk, rfl, hall⟩ := hrel
      by_cases hlt : k < n
      · obtain ⟨b, off, B, m, d, xs, rfl, hbl, hx, hc, hxr⟩ := hrr.out.at_ hlt
        have hml : xs.length = m := hxr.len
        have hm64 : m ≤ 9223372036854775807 := by have := hl.out k xs hx; omega
        have hk0 : (0 : Int) ≤ (k : Int) := by omega
        have hkn : (k : Int) < (n : Int) := by omega
        by_cases h4 : 4 < m
        · have H := Lib.hid (hno.out k xs hx (by omega))
          clear hx hxr hml
          go_wp2_with fail
          go_ret
          rw [H.out]; exact ⟨rfl, ha.out⟩
        · have hall' : Hid (∀ (j : Nat) (ys : List Nat), j < k + 1 → xss[j]? = some ys → ys.length ≤ 4) := Lib.hid (fun j ys hj hy => by
            rcases Nat.lt_succ_iff_lt_or_eq.1 hj with h | h
            · exact hall.out j ys h hy
            · rw [h, hx] at hy
              injection hy with hy
              rw [← hy]; omega)
          clear hx hxr hml
          go_wp2_with fail
          go_round
          case rel => exact ⟨k + 1, by omega, by go_num, hall'⟩
          case measure => simp [intOf]; omega
      · have H := Lib.hid (hyes.out (fun j xs hx => hall.out j xs (by have := (List.getElem?_eq_some_iff.1 hx).1; have := hlen.out; omega) hx))
        go_wp2_with fail
        go_ret
        rw [H.out]; exact ⟨rfl, ha.out⟩

end Go.Proofs.Ytkaohfgpibbkiaa

namespace Go.Proofs.Ytkaohfgpibbkiaa
open Go.RowKit
set_option linter.unusedVariables false

end Go.Proofs.Ytkaohfgpibbkiaa

namespace Go.Proofs.Ytkaohfgpibbkiaa
open Go.RowKit
set_option linter.unusedVariables false

end Go.Proofs.Ytkaohfgpibbkiaa

namespace Go.Proofs.Ytkaohfgpibbkiaa
open Go.RowKit
set_option linter.unusedVariables false

theorem fitsR_bit {r : List Nat} {n j : Nat} (hj : j < 64 * r.length) (hn : n ≤ j) (h : hasR r (j : Int) = true) : fitsR r (n : Int) = false := by
  unfold fitsR
  rw [List.all_eq_false.2 ⟨j, List.mem_range.2 hj, by rw [decide_eq_false (by omega), h]; simp⟩, Bool.and_false]
theorem fitsR_yes {r : List Nat} {n : Nat} (hl : (r.length : Int) = wordsZ (n : Int)) (h : ∀ j : Nat, n ≤ j → j < 64 * r.length → hasR r (j : Int) = false) : fitsR r (n : Int) = true := by
  unfold fitsR
  rw [decide_eq_true hl, Bool.true_and, List.all_eq_true]
  intro j hj
  have hj' := List.mem_range.1 hj
  rcases Nat.lt_or_ge j n with h1 | h1
  · rw [decide_eq_true (by omega)]; rfl
  · rw [h j h1 hj']; simp

set_option maxRecDepth 100000 in
set_option maxHeartbeats 2000000 in
theorem ref3_Right (N : Int) (A : Option Addr) (n c : Nat) (xss : List (List Nat)) (w : World) (hr : RowsAt w A n xss) (hn : n ≤ 1073741824) (hl : ∀ (i : Nat) (xs : List Nat), xss[i]? = some xs → xs.length ≤ 1024) :
    Calls Try.prog 17 #[.agg #[.int .i64 N, .slice A n c]] w (RetB (rightM N xss) w) := by
  have hlen := hr.len
  obtain ⟨W0, hW0⟩ : ∃ W0, W0 = w.alloc (.cells #[.int .i64 N, .slice A n c] 39) := ⟨_, rfl⟩
  have ha : Below w.heap.size w W0 := by rw [hW0]; exact (Below.refl _ _).alloc (Nat.le_refl _) _
  have hB : MatB W0 w.heap.size 39 N A n c := by rw [hW0]; exact MatB.new w _
  have l0 := hB.c0
  have l1 := hB.c1
  have ha' := Lib.hid ha
  by_cases h1 : N < 0
  · have H := Lib.hid (rightM_out (xss := xss) (N := N) (by omega))
    clear hr ha hB hl hlen
    go_enter Try.func17, Try.ntmps17
    go_wp2_with fail
    rw [← hW0]
    clear hW0
    go_wp2_with fail
    go_ret
    rw [H.out]; exact ⟨rfl, ha'.out⟩
  by_cases h2 : 4096 < N
  · have H := Lib.hid (rightM_out (xss := xss) (N := N) (by omega))
    clear hr ha hB hl hlen
    go_enter Try.func17, Try.ntmps17
    go_wp2_with fail
    rw [← hW0]
    clear hW0
    go_wp2_with fail
    go_ret
    rw [H.out]; exact ⟨rfl, ha'.out⟩
  by_cases h3 : (n : Int) = N
  · subst h3
    have hne : ((n : Int) != (n : Int)) = false := by simp
    have hyes := Lib.hid (fun h => rightM_yes (n := n) (xss := xss) (by omega) hlen h)
    have hno := Lib.hid (fun k xs hx h => rightM_row (N := (n : Int)) (xss := xss) (k := k) (xs := xs) hx h)
    have hr' := Lib.hid (hr.below ha)
    have hnn : n ≤ 4096 := by omega
    have hwl := words_le hnn
    obtain ⟨wz, hwz⟩ : ∃ wz, wz = (wordsZ (n : Int)).toNat := ⟨_, rfl⟩
    have hwzz : wordsZ (n : Int) = (wz : Int) := by rw [hwz]; exact wordsZ_N (n : Int)
    have hnw : n ≤ 64 * wz := by
      rcases Nat.eq_zero_or_pos n with h0 | h0
      · omega
      · have := (words_pos h0).2; omega
    have hwz64 : wz ≤ 64 := by omega
    replace hwz := Lib.hid hwz
    replace hwzz := Lib.hid hwzz
    replace hB := Lib.hid hB
    replace hlen := Lib.hid hlen
    replace hl := Lib.hid hl
    clear hr h1 h2 ha hwl
    go_enter Try.func17, Try.ntmps17
    go_wp2_with fail
    rw [← hW0]
    clear hW0
    go_wp2_with fail
    clear l0 l1
    go_loopw [3] (fun i wr => ∃ k : Nat, k ≤ n ∧ i = .int .i64 k ∧ Hid (∀ (j : Nat) (xs : List Nat), j < k → xss[j]? = some xs → fitsR xs (n : Int) = true) ∧ Hid (Below W0.heap.size W0 wr)) (fun i _ => n - (intOf i).toNat)
    case atStart => exact ⟨0, Nat.zero_le _, rfl, Lib.hid (fun j xs hj => absurd hj (by omega)), Lib.hid (Below.refl _ _)⟩
    case round =>
      obtain ⟨k, hk, rfl, hall, hbr⟩ := hrel
      have l0 := (hB.out.below_ hbr.out).c0
      have l1 := (hB.out.below_ hbr.out).c1
      by_cases hlt : k < n
      · obtain ⟨b, off, B, m, d, xs, rfl, hbl, hx, hc, hxr⟩ := (hr'.out.below hbr.out).at_ hlt
        have hml : xs.length = m := hxr.len
        have hm : m ≤ 1024 := by have := hl.out k xs hx; omega
        have hk0 : (0 : Int) ≤ (k : Int) := by omega
        have hkn : (k : Int) < (n : Int) := by omega
        have hWd := Lib.hid (fun W => ref2_Words (n : Int) (by omega) (by omega) W)
        by_cases hmw : m = wz
        · have hne2 : ((m : Int) != (wz : Int)) = false := by rw [hmw]; simp
          have hfit := Lib.hid (fun h => fitsR_yes (r := xs) (n := n) (by rw [hwzz.out, hml, hmw]) h)
          have hbad := Lib.hid (fun j a b c => fitsR_bit (r := xs) (n := n) (j := j) a b c)
          have hresn := Lib.hid (hno.out k xs hx)
          have hall' : Hid (fitsR xs (n : Int) = true → ∀ (j : Nat) (ys : List Nat), j < k + 1 → xss[j]? = some ys → fitsR ys (n : Int) = true) := Lib.hid (fun hf j ys hj hy => by
            rcases Nat.lt_succ_iff_lt_or_eq.1 hj with h | h
            · exact hall.out j ys h hy
            · rw [h, hx] at hy
              injection hy with hy
              rw [← hy]; exact hf)
          have hnm : n ≤ 64 * m := by omega
          replace hml := Lib.hid hml
          replace hxr := Lib.hid hxr
          clear hx hmw
          go_wp2_with fail
          refine wp_region_plan 10 [(true, 0), (true, 1), (true, 2), (true, 3), (true, 4), (true, 5), (true, 6), (true, 7), (false, 8), (true, 9)] (by kernel_rfl) (by kernel_rfl) (fun W hW => ?_)
          have p0 : W.cell? ⟨w.heap.size, 0, none⟩ = some (.int .i64 n) := by rw [hW.out]; exact l0
          have p1 : W.cell? ⟨w.heap.size, 1, none⟩ = some (.slice (some ⟨b, off, none⟩) n c) := by rw [hW.out]; exact l1
          have p2 : W.cell? ⟨b, off + k, none⟩ = some (.slice B m d) := by rw [hW.out]; exact hc
          have hbW := Lib.hid (show Below W0.heap.size W0 W by rw [hW.out]; exact hbr.out.drew)
          have hxW := Lib.hid (show Row W B m xs by rw [hW.out]; exact hxr.out)
          clear l0 l1 hc
          simp only [List.drop_succ_cons, List.drop_nil]
          iterate 8
            refine wpPlan_float (v := ?_) rfl (by rfl) (fun w' hw' => ?_) (fun K hK => ?_)
            rotate_left
            · (go_simp; try with_reducible rfl)
            go_simp
            refine hK _ ?_
            clear hK K
          refine wpPlan_only rfl (by rfl) (fun K hK => ?_)
          go_simp
          refine (hWd.out W).mono ?_
          rintro e w' ⟨rfl, rfl⟩
          refine hK _ _ (Below.refl _ _) ?_
          clear hK K
          rw [hwzz.out]
          iterate 1
            refine wpPlan_float (v := ?_) rfl (by rfl) (fun w' hw' => ?_) (fun K hK => ?_)
            rotate_left
            · (go_simp; try with_reducible rfl)
            go_simp
            refine hK _ ?_
            clear hK K
          refine wpPlan_nil (NoPanic.normal ?_)
          go_wp2_with fail
          go_loop [4] (fun t => ∃ j : Nat, n ≤ j ∧ j ≤ 64 * m ∧ t = .int .i64 j ∧ Hid (∀ i : Nat, n ≤ i → i < j → hasR xs (i : Int) = false)) (fun t => 64 * m - (intOf t).toNat)
          case atStart => exact ⟨n, Nat.le_refl _, hnm, rfl, Lib.hid (fun i h1 h2 => by omega)⟩
          case round =>
            obtain ⟨j, hj1, hj2, rfl, hbits⟩ := hrel
            by_cases hlj : j < 64 * m
            · have hH := Lib.hid (ref2_Has B m d xs (j : Int) W hxW.out (by omega) (by omega) (by omega))
              rcases Bool.eq_false_or_eq_true (hasR xs (j : Int)) with ht | ht
              · have H := Lib.hid (hresn.out (hbad.out j (by rw [hml.out]; exact hlj) hj1 ht))
                replace ht := Lib.hid ht
                go_wp2_with fail
                refine hH.out.mono ?_; rintro e w' ⟨rfl, rfl⟩
                rw [ht.out]
                go_wp2_with fail
                go_ret
                rw [H.out]; exact ⟨rfl, below_trans2 ha'.out hbW.out⟩
              · have hbits' : Hid (∀ i : Nat, n ≤ i → i < j + 1 → hasR xs (i : Int) = false) := Lib.hid (fun i h1 h2 => by
                  rcases Nat.lt_succ_iff_lt_or_eq.1 h2 with h | h
                  · exact hbits.out i h1 h
                  · rw [h]; exact ht)
                replace ht := Lib.hid ht
                go_wp2_with fail
                refine hH.out.mono ?_; rintro e w' ⟨rfl, rfl⟩
                rw [ht.out]
                go_wp2_with fail
                go_round
                case rel => exact ⟨j + 1, by omega, by omega, by go_num, hbits'⟩
                case measure => simp [intOf]; omega
            · have hf := Lib.hid (hall'.out (hfit.out (fun i h1 h2 => hbits.out i h1 (by have := hml.out; omega))))
              go_wp2_with fail
              go_roundw
              case rel => exact ⟨k + 1, by omega, by go_num, hf, hbW⟩
              case measure => simp [intOf]; omega
        · have hne2 : ((m : Int) != (wz : Int)) = true := by rw [bne_iff_ne]; omega
          have H := Lib.hid (hno.out k xs hx (fitsR_len (by rw [hwzz.out, hml]; intro h; exact hmw (by omega))))
          clear hx hmw hxr hml
          go_wp2_with fail
          refine wp_region_plan 10 [(true, 0), (true, 1), (true, 2), (true, 3), (true, 4), (true, 5), (true, 6), (true, 7), (false, 8), (true, 9)] (by kernel_rfl) (by kernel_rfl) (fun W hW => ?_)
          have p0 : W.cell? ⟨w.heap.size, 0, none⟩ = some (.int .i64 n) := by rw [hW.out]; exact l0
          have p1 : W.cell? ⟨w.heap.size, 1, none⟩ = some (.slice (some ⟨b, off, none⟩) n c) := by rw [hW.out]; exact l1
          have p2 : W.cell? ⟨b, off + k, none⟩ = some (.slice B m d) := by rw [hW.out]; exact hc
          have hbW := Lib.hid (show Below W0.heap.size W0 W by rw [hW.out]; exact hbr.out.drew)
          clear l0 l1 hc
          simp only [List.drop_succ_cons, List.drop_nil]
          iterate 8
            refine wpPlan_float (v := ?_) rfl (by rfl) (fun w' hw' => ?_) (fun K hK => ?_)
            rotate_left
            · (go_simp; try with_reducible rfl)
            go_simp
            refine hK _ ?_
            clear hK K
          refine wpPlan_only rfl (by rfl) (fun K hK => ?_)
          go_simp
          refine (hWd.out W).mono ?_
          rintro e w' ⟨rfl, rfl⟩
          refine hK _ _ (Below.refl _ _) ?_
          clear hK K
          rw [hwzz.out]
          iterate 1
            refine wpPlan_float (v := ?_) rfl (by rfl) (fun w' hw' => ?_) (fun K hK => ?_)
            rotate_left
            · (go_simp; try with_reducible rfl)
            go_simp
            refine hK _ ?_
            clear hK K
          refine wpPlan_nil (NoPanic.normal ?_)
          go_wp2_with fail
          go_ret
          rw [H.out]; exact ⟨rfl, below_trans2 ha'.out hbW.out⟩
      · have H := Lib.hid (hyes.out (fun j xs hx => hall.out j xs (by have := (List.getElem?_eq_some_iff.1 hx).1; have := hlen.out; omega) hx))
        go_wp2_with fail
        go_ret
        rw [H.out]; exact ⟨rfl, below_trans2 ha'.out hbr.out⟩
  · have H := Lib.hid (rightM_len (xss := xss) (N := N) (by rw [hlen]; exact h3))
    have hne : ((n : Int) != N) = true := by rw [bne_iff_ne]; exact h3
    clear hr ha hB hl hlen h3
    go_enter Try.func17, Try.ntmps17
    go_wp2_with fail
    rw [← hW0]
    clear hW0
    go_wp2_with fail
    go_ret
    rw [H.out]; exact ⟨rfl, ha'.out⟩

end Go.Proofs.Ytkaohfgpibbkiaa

namespace Go.Proofs.Ytkaohfgpibbkiaa
open Go.RowKit
set_option linter.unusedVariables false

theorem own_ne_blk {w : World} {base s n g : Nat} {e t : TypeId} {v : Value} {xs cs : List Value} (h : w.ownsRow base e s v n xs) (hB : Blk w g t cs) (hne : e ≠ t) : v.ownBlock ≠ some g := by
  intro he
  rcases h.2 with ⟨rfl, _⟩ | ⟨g', cap, cur, rfl, _, hh, _⟩
  · simp [Value.ownBlock] at he
  · have : g' = g := by simpa [Value.ownBlock] using he
    subst this
    unfold Blk at hB
    rw [hh] at hB
    injection hB with hB
    injection hB with _ ht
    exact hne ht
theorem OwnRows.grown {t e : TypeId} {w w' : World} {base b2 s n : Nat} {v : Value} {vs us : List Value} {xss : List (List Nat)} (h : OwnRows t w base vs xss) (ho : w.ownsRow b2 e s v n us) (hne : t ≠ e) (hg : w.grownBy w' v.ownBlock) : OwnRows t w' base vs xss :=
  ⟨h.1, fun i u xs h1 h2 => by
    obtain ⟨A, m, c, e', hown, hx⟩ := h.2.1 i u xs h1 h2
    exact ⟨A, m, c, e', own_grown hown ho hne hg, hx⟩, h.2.2⟩

/-- rows as RowsAt, all of whose blocks are B or later -/
def RowsG (B : Nat) (w : World) (A : Option Addr) (n : Nat) (xss : List (List Nat)) : Prop := ∃ vs, Rd w A n vs ∧ RowsC w vs xss ∧ (∀ ad, A = some ad → B ≤ ad.block) ∧ ∀ v ∈ vs, ∀ g, v.ownBlock = some g → B ≤ g
theorem RowsG.at {B : Nat} {w : World} {A : Option Addr} {n : Nat} {xss : List (List Nat)} (h : RowsG B w A n xss) : RowsAt w A n xss := by
  obtain ⟨vs, h1, h2, -, -⟩ := h; exact ⟨vs, h1, h2⟩
theorem RowsG.of {w : World} {A : Option Addr} {n : Nat} {xss : List (List Nat)} (h : RowsAt w A n xss) : RowsG 0 w A n xss := by
  obtain ⟨vs, h1, h2⟩ := h; exact ⟨vs, h1, h2, fun _ _ => Nat.zero_le _, fun _ _ _ _ => Nat.zero_le _⟩
def RetMatG (B : Nat) (N : Int) (xss : List (List Nat)) (er : Int) (w : World) : Ending → World → Prop := fun e w' =>
  ∃ A n c, e = .returned (.tuple #[.agg #[.int .i64 N, .slice A n c], .int .i64 er]) ∧ RowsG B w' A n xss ∧ n ≤ c ∧ Below w.heap.size w w' ∧ ∀ ad, A = some ad → w.heap.size ≤ ad.block
/-- as RetMat, and the outer cells are new -/
def RetMatF (N : Int) (xss : List (List Nat)) (er : Int) (w : World) : Ending → World → Prop := fun e w' =>
  ∃ A n c, e = .returned (.tuple #[.agg #[.int .i64 N, .slice A n c], .int .i64 er]) ∧ RowsAt w' A n xss ∧ n ≤ c ∧ Below w.heap.size w w' ∧ ∀ ad, A = some ad → w.heap.size ≤ ad.block
theorem RetMatG.f {B : Nat} {N : Int} {xss : List (List Nat)} {er : Int} {w w' : World} {e : Ending} (h : RetMatG B N xss er w e w') : RetMatF N xss er w e w' := by
  obtain ⟨A, n, c, h1, h2, h3, h4, h5⟩ := h; exact ⟨A, n, c, h1, h2.at, h3, h4, h5⟩
/-- what is known at the heads of the rounds of a matrix that grows row by row -/
structure GrowI (w : World) (hi n : Nat) (M R : Nat) (v : Value) (vs : List Value) (xss : List (List Nat)) (wr : World) : Prop where
  res : MatB wr R 39 0 none 0 0
  loc : Blk wr M 39 [.int .i64 n, v]
  out : wr.ownsRow hi 70 1 v vs.length vs
  rows : OwnRows 94 wr hi vs xss
  below : Below w.heap.size w wr
  high : hi ≤ wr.heap.size
theorem GrowI.keep {w : World} {hi n M R : Nat} {v : Value} {vs : List Value} {xss : List (List Nat)} {wr w' : World} (h : GrowI w hi n M R v vs xss wr) (hb : Below wr.heap.size wr w') : GrowI w hi n M R v vs xss w' :=
  ⟨h.res.below_ hb, Blk.below h.loc hb h.loc.lt, own_below h.out hb, h.rows.below hb, below_trans2 h.below hb, Nat.le_trans h.high hb.size⟩
theorem GrowI.more {w : World} {hi n M R : Nat} {v : Value} {vs : List Value} {xss : List (List Nat)} {wr w1 w2 : World} {A : Option Addr} {m c : Nat} {xs : List Nat} {u : Value} (h : GrowI w hi n M R v vs xss wr) (hb : Below wr.heap.size wr w1)
    (ho : w1.ownsRow wr.heap.size 94 1 (.slice A m c) m (xs.map u64v)) (hx : W64 xs) (hg : w1.grownBy w2 v.ownBlock) (h2 : w2.ownsRow hi 70 1 u (vs.length + 1) (vs ++ [.slice A m c])) (hM : M < hi) (hR : R < hi) (hRM : R ≠ M) (hw : w.heap.size ≤ M) (hw2 : w.heap.size ≤ hi) :
    GrowI w hi n M R u (vs ++ [.slice A m c]) (xss ++ [xs]) (w2.setCell ⟨M, 1, none⟩ u) := by
  have h1 := h.keep hb
  have hsn := h.rows.snoc hb ho hx h.high
  have hne1 := own_ne_blk h1.out h1.res (by decide)
  have hne2 := own_ne_blk h1.out h1.loc (by decide)
  have hu : u.ownBlock ≠ some M := fun e => by have := own_lt_block h2 M e; omega
  have hsz : w1.heap.size ≤ w2.heap.size := hg.size
  refine ⟨(Blk.grown h1.res hg (fun e => hne1 e.symm)).far hRM _, ?_, ?_, (hsn.grown h1.out (by decide) hg).far hM _, ?_, ?_⟩
  · have := (Blk.grown h1.loc hg (fun e => hne2 e.symm)).set_ 1 u
    exact this
  · rw [List.length_append, List.length_singleton]
    exact own_far h2 hu _
  · refine Below.setCell ?_ hw _
    exact h1.below.grown hg (Nat.le_trans hw2 h1.high) (fun g e => Nat.le_trans hw2 (own_lt_block h1.out g e))
  · have := h1.high
    simp
    omega
set_option maxRecDepth 100000 in
set_option maxHeartbeats 2000000 in
theorem ref3_NewG (n : Nat) (hn : n ≤ 4096) (w : World) :
    Calls Try.prog 55 #[.int .i64 (n : Int)] w (RetMatG w.heap.size (n : Int) (newM n) 0 w) := by
  obtain ⟨i0, hi, hz0, hz1, hz2⟩ := info_parts info_row
  replace hi := Lib.hid hi
  replace hz0 := Lib.hid hz0
  replace hz1 := Lib.hid hz1
  replace hz2 := Lib.hid hz2
  have hrow := Lib.hid (fun W => ref2_NewO (n : Int) (by omega) (by omega) W)
  obtain ⟨W0, hW0⟩ : ∃ W0, W0 = (w.alloc (.cells #[.int .i64 0, .slice none 0 0] 39)).alloc (.cells #[.int .i64 n, .slice none 0 0] 39) := ⟨_, rfl⟩
  have hI : GrowI w (w.heap.size + 2) n (w.heap.size + 1) w.heap.size (.slice none 0 0) [] (List.replicate 0 (List.replicate (wordsN (n : Int)) 0)) W0 := by
    refine ⟨by rw [hW0]; exact (MatB.new w _).below_ ((Below.refl _ _).alloc (Nat.le_refl _) _), by rw [hW0]; exact MatB.new1 w _ _, World.ownsRow_nil _ _ _ _, OwnRows.nil _ _ _, by rw [hW0]; exact ((Below.refl _ _).alloc (Nat.le_refl _) _).alloc (by simp) _, by rw [hW0]; simp⟩
  replace hI := Lib.hid hI
  have h1 : ¬ (n : Int) < 0 := by omega
  have h2 : ¬ 4096 < (n : Int) := by omega
  go_enter Try.func55, Try.ntmps55
  go_wp2_with fail
  rw [← hW0]
  clear hW0
  go_loopw [5] (fun i wr => ∃ (v : Value) (vs : List Value), vs.length ≤ n ∧ i = .int .i64 vs.length ∧ Hid (GrowI w (w.heap.size + 2) n (w.heap.size + 1) w.heap.size v vs (List.replicate vs.length (List.replicate (wordsN (n : Int)) 0)) wr)) (fun i _ => n - (intOf i).toNat)
  case atStart => exact ⟨_, [], Nat.zero_le _, rfl, hI⟩
  case round =>
    obtain ⟨v, vs, hk, rfl, hI'⟩ := hrel
    clear hI
    obtain ⟨k, hke⟩ : ∃ k, k = vs.length := ⟨_, rfl⟩
    rw [← hke] at hk
    rw [← hke]
    by_cases hlt : k < n
    · replace hke := Lib.hid hke
      have l1 := Blk.cell hI'.out.loc 1
      simp only [List.getElem?_cons_zero, List.getElem?_cons_succ] at l1
      go_wp2_with fail
      refine wp_region_plan 5 [(true, 0), (true, 1), (true, 2), (false, 3), (false, 4)] (by kernel_rfl) (by kernel_rfl) (fun W hW => ?_)
      have p1 : W.cell? ⟨w.heap.size + 1, 1, none⟩ = some v := by rw [hW.out]; exact l1
      have hIW := Lib.hid (show GrowI w (w.heap.size + 2) n (w.heap.size + 1) w.heap.size v vs (List.replicate vs.length (List.replicate (wordsN (n : Int)) 0)) W by rw [hW.out]; exact hI'.out.keep (Below.refl _ _).drew)
      clear l1 hI'
      simp only [List.drop_succ_cons, List.drop_zero]
      iterate 3
        refine wpPlan_float (v := ?_) rfl (by rfl) (fun w' hw' => ?_) (fun K hK => ?_)
        rotate_left
        · (go_simp; try with_reducible rfl)
        go_simp
        refine hK _ ?_
        clear hK K
      refine wpPlan_only rfl (by rfl) (fun K hK => ?_)
      go_simp
      refine (hrow.out W).mono ?_
      rintro e w1 ⟨C, p, q, rfl, ho, hx64, hb1⟩
      refine hK _ _ hb1 ?_
      clear hK K p1
      refine wpPlan_only rfl (by rfl) (fun K hK => ?_)
      go_simp
      have hba : Below w1.heap.size w1 (w1.alloc (.cells #[.slice C p q] 70)) := (Below.refl _ _).alloc (Nat.le_refl _) _
      refine hK _ _ hba (wpPlan_nil ?_)
      clear hK K
      have hbb := below_trans2 hb1 hba
      have hIa := Lib.hid (hIW.out.keep hbb)
      have hoa := Lib.hid (own_below ho hba)
      replace hbb := Lib.hid hbb
      have hown := hIa.out.out
      rw [← hke.out] at hown
      have hhi := hIa.out.high
      replace hx64 := Lib.hid hx64
      clear hba hb1 ho
      go_wp2_with (at_builtin; refine wpList_append_lies _ rfl (.tmp 21) (.tmp 24) _ rfl (w.heap.size + 2) 70 i0 _ 1 24 Try.underlying37 hi.out hz0.out hz1.out hz2.out rfl (by omega) _ _ _ (by rfl) hown ⟨w1.heap.size, 0, none⟩ 1 1 [.slice C p q] rfl rfl (cell_one_new _ _ _) (by simp [Value.oneCell']) (by omega) (by unfold maxLen; omega) (by omega) hhi _ rfl ?_; intro g cap w2 hown2 hgrow hat hlt1; have hB2 := Blk.grown hIa.out.loc hgrow (fun e => own_ne_blk hIa.out.out hIa.out.loc (by decide) e.symm); have q1 := hB2.cell 1; have q2 := hB2.frozen 1; simp only [List.getElem?_cons_zero, List.getElem?_cons_succ] at q1; clear hB2 hat hlt1)
      refine NoPanic.normal ?_
      have hmore := Lib.hid (hIW.out.more hbb.out hoa.out hx64.out hgrow (by rw [← hke.out]; exact hown2) (by omega) (by omega) (by omega) (by omega) (by omega))
      clear q1 q2 hown2 hgrow hown
      go_wp2_with fail
      go_roundw
      case rel =>
        refine ⟨.slice (some ⟨g, 0, none⟩) (k + 1) cap, vs ++ [.slice C p q], by have := hke.out; simp; omega, by rw [List.length_append, ← hke.out]; simp; try omega, ?_⟩
        have h := hmore.out
        rw [← List.replicate_succ'] at h
        rw [List.length_append, List.length_singleton]
        exact Lib.hid h
      case measure => simp [intOf]; omega
    · have hkn : k = n := by omega
      have hvn : vs.length = n := by rw [← hke, hkn]
      clear hlt
      obtain rfl := hkn
      have hout := hI'.out.out
      obtain ⟨A', c', hv, hRd⟩ := Rd.of_own hout
      subst hv
      rw [hvn] at hout hRd
      have f0 := hI'.out.res.c0
      have f1 := hI'.out.res.c1
      have g0 := hI'.out.res.frozen 0
      have g1 := hI'.out.res.frozen 1
      have k0 := hI'.out.loc.cell 0
      have k1 := hI'.out.loc.cell 1
      simp only [List.getElem?_cons_zero, List.getElem?_cons_succ] at k0 k1
      rw [hvn] at k1
      have hcc := hI'.out.res.two (.int .i64 k) (.slice A' k c')
      have hc1 := Lib.hid hcc.1
      have hc2 := Lib.hid hcc.2
      replace hvn := Lib.hid hvn
      replace hke := Lib.hid hke
      clear hcc
      go_wp2_with fail
      refine bodyPost_ret (v := .tuple #[.agg #[.int .i64 k, .slice A' k c'], .int .i64 0]) (by simp [results, Try.results55, go_sem, hc1.out, hc2.out]) rfl ⟨_, _, _, rfl, ⟨vs, ?_, ?_, fun ad e => by subst e; have := own_lt_block hout _ rfl; omega, fun v hv g e => by have := (hI'.out.rows.lt v hv g e).1; omega⟩, own_cap hout, (hI'.out.below.setCell (by simp) _).setCell (by simp) _, fun ad e => by subst e; have := own_lt_block hout _ rfl; omega⟩
      · have hne : (Value.slice A' k c').ownBlock ≠ some w.heap.size := fun e => by have := own_lt_block hout _ e; omega
        exact Rd.of_own' (own_far (own_far hout (p := ⟨w.heap.size, 0, none⟩) hne _) (p := ⟨w.heap.size, 1, none⟩) hne _)
      · have h := ((hI'.out.rows.far (p := ⟨w.heap.size, 0, none⟩) (by simp) (.int .i64 k)).far (p := ⟨w.heap.size, 1, none⟩) (by simp) (.slice A' k c')).rows
        rw [hvn.out] at h
        exact h
theorem ref3_NewF (n : Nat) (hn : n ≤ 4096) (w : World) :
    Calls Try.prog 55 #[.int .i64 (n : Int)] w (RetMatF (n : Int) (newM n) 0 w) := (ref3_NewG n hn w).mono fun _ _ h => h.f

end Go.Proofs.Ytkaohfgpibbkiaa

namespace Go.Proofs.Ytkaohfgpibbkiaa
open Go.RowKit
set_option linter.unusedVariables false

set_option maxHeartbeats 400000 in
theorem ref3_New_no (n : Int) (h : n < 0 ∨ 4097 ≤ n) (w : World) :
    Calls Try.prog 55 #[.int .i64 n] w (RetMat 0 [] 1 w) := by
  have ha : Below w.heap.size w (w.alloc (.cells #[.int .i64 0, .slice none 0 0] 39)) := (Below.refl _ _).alloc (Nat.le_refl _) _
  replace ha := Lib.hid ha
  by_cases h0 : n < 0
  · clear h
    go_enter Try.func55, Try.ntmps55
    go_wp2_with fail
    exact bodyPost_ret (v := .tuple #[.agg #[.int .i64 0, .slice none 0 0], .int .i64 1]) (by simp [results, Try.results55, go_sem]) rfl ⟨none, 0, 0, rfl, RowsAt.nil _ _, Nat.le_refl _, ha.out⟩
  · have h1 : 4096 < n := by omega
    clear h
    go_enter Try.func55, Try.ntmps55
    go_wp2_with fail
    exact bodyPost_ret (v := .tuple #[.agg #[.int .i64 0, .slice none 0 0], .int .i64 1]) (by simp [results, Try.results55, go_sem]) rfl ⟨none, 0, 0, rfl, RowsAt.nil _ _, Nat.le_refl _, ha.out⟩

end Go.Proofs.Ytkaohfgpibbkiaa

namespace Go.Proofs.Ytkaohfgpibbkiaa
open Go.RowKit
set_option linter.unusedVariables false

theorem MatB.belowB {w w' : World} {g : Nat} {t : TypeId} {N : Int} {A : Option Addr} {n c B : Nat} (h : MatB w g t N A n c) (hb : Below B w w') (hg : g < B) : MatB w' g t N A n c := Blk.below h hb hg
theorem MatB.farB {w : World} {g : Nat} {t : TypeId} {N : Int} {A : Option Addr} {n c : Nat} (h : MatB w g t N A n c) {p : Addr} (hp : g ≠ p.block) (u : Value) : MatB (w.setCell p u) g t N A n c := Blk.far h hp u
set_option maxHeartbeats 400000 in
theorem ref3_Set_noF (N : Int) (A : Option Addr) (n c : Nat) (i j : Int) (w : World) (h3 : inM N i j = false) :
    Calls Try.prog 57 #[.agg #[.int .i64 N, .slice A n c], .int .i64 i, .int .i64 j] w (RetMatF 0 [] 1 w) := by
  obtain ⟨W0, hW0⟩ : ∃ W0, W0 = (w.alloc (.cells #[.int .i64 N, .slice A n c] 39)).alloc (.cells #[.int .i64 0, .slice none 0 0] 39) := ⟨_, rfl⟩
  have ha : Below w.heap.size w W0 := by rw [hW0]; exact ((Below.refl _ _).alloc (Nat.le_refl _) _).alloc (by simp) _
  have hB2 : MatB W0 (w.heap.size + 1) 39 0 none 0 0 := by rw [hW0]; exact MatB.new1 w _ _
  have hin := Lib.hid (ref3_in N A n c i j W0)
  replace h3 := Lib.hid h3
  replace ha := Lib.hid ha
  replace hB2 := Lib.hid hB2
  go_enter Try.func57, Try.ntmps57
  go_wp2_with fail
  rw [← hW0]
  clear hW0
  refine hin.out.mono ?_; rintro e w1 ⟨rfl, hb1⟩
  rw [h3.out]
  have hbb := Lib.hid (below_trans2 ha.out hb1)
  have hres := hB2.out.below_ hb1
  have f0 := hres.c0
  have f1 := hres.c1
  have g0 := hres.frozen 0
  have g1 := hres.frozen 1
  have hcc := hres.two (.int .i64 0) (.slice none 0 0)
  have hc1 := Lib.hid hcc.1
  have hc2 := Lib.hid hcc.2
  clear hcc hres hb1
  go_wp2_with fail
  exact bodyPost_ret (v := .tuple #[.agg #[.int .i64 0, .slice none 0 0], .int .i64 1]) (by simp [results, Try.results57, go_sem, hc1.out, hc2.out]) rfl ⟨none, 0, 0, rfl, RowsAt.nil _ _, Nat.le_refl _, (hbb.out.setCell (by simp) _).setCell (by simp) _, fun ad e => by cases e⟩

set_option maxRecDepth 100000 in
set_option maxHeartbeats 1000000 in
theorem ref3_SetG (B0 : Nat) (N : Int) (A : Option Addr) (n c : Nat) (xss : List (List Nat)) (i j : Int) (w : World) (hr : RowsG B0 w A n xss) (hB0 : B0 ≤ w.heap.size) (hN : N = (n : Int)) (hn : n ≤ 4096) (hl : ∀ xs ∈ xss, xs.length ≤ 1024)
    (h3 : inM N i j = true) :
    Calls Try.prog 57 #[.agg #[.int .i64 N, .slice A n c], .int .i64 i, .int .i64 j] w (RetMatG B0 N (setM xss i j) 0 w) := by
  subst hN
  obtain ⟨x0, hxi, hxz0, hxz1, hxz2⟩ := info_parts info_row
  replace hxi := Lib.hid hxi
  replace hxz0 := Lib.hid hxz0
  replace hxz1 := Lib.hid hxz1
  replace hxz2 := Lib.hid hxz2
  obtain ⟨i0, i1, j0, j1⟩ := inM_yes h3
  obtain ⟨k, rfl⟩ := Int.eq_ofNat_of_zero_le i0
  have hk : k < n := by omega
  obtain ⟨W0, hW0⟩ : ∃ W0, W0 = (w.alloc (.cells #[.int .i64 n, .slice A n c] 39)).alloc (.cells #[.int .i64 0, .slice none 0 0] 39) := ⟨_, rfl⟩
  have ha : Below w.heap.size w W0 := by rw [hW0]; exact ((Below.refl _ _).alloc (Nat.le_refl _) _).alloc (by simp) _
  have hB1 : MatB W0 w.heap.size 39 n A n c := by rw [hW0]; exact (MatB.new w _).below_ ((Below.refl _ _).alloc (Nat.le_refl _) _)
  have hB2 : MatB W0 (w.heap.size + 1) 39 0 none 0 0 := by rw [hW0]; exact MatB.new1 w _ _
  have hin := Lib.hid (ref3_in (n : Int) A n c k j W0)
  have hsz : W0.heap.size = w.heap.size + 2 := by rw [hW0]; simp
  have hlen := hr.at.len
  have hlt := Lib.hid hr.at.w64
  obtain ⟨vs, hrdw, hrcw, -, hvg⟩ := hr
  replace hvg := Lib.hid hvg
  replace hB0 := Lib.hid hB0
  obtain ⟨b, off, u, rfl, hbl, hu, hc⟩ := hrdw.at_ hk
  obtain ⟨xs, hx⟩ : ∃ xs, xss[k]? = some xs := ⟨_, List.getElem?_eq_getElem (by omega)⟩
  obtain ⟨B, m, d, rfl, hxr⟩ := hrcw.2 k u xs hu hx
  have hm : m ≤ 1024 := by have := hxr.len; have := hl xs (List.mem_of_getElem? hx); omega
  have hst := Lib.hid (ref2_SetO B m d xs j)
  have hx2 := Lib.hid hx
  have hu2 := Lib.hid hu
  have hone := Lib.hid (one_rows hrcw)
  replace hB1 := Lib.hid hB1
  replace hB2 := Lib.hid hB2
  replace hsz := Lib.hid hsz
  replace ha := Lib.hid ha
  replace h3 := Lib.hid h3
  replace hxr := Lib.hid hxr
  replace hrcw := Lib.hid hrcw
  replace hrdw := Lib.hid hrdw
  have hk0 : (0 : Int) ≤ (k : Int) := by omega
  have hkn : (k : Int) < (n : Int) := by omega
  clear hc hu hx hlen hl i0 i1
  go_enter Try.func57, Try.ntmps57
  go_wp2_with fail
  rw [← hW0]
  clear hW0
  refine hin.out.mono ?_; rintro e w1 ⟨rfl, hb1⟩
  rw [h3.out]
  have hbb := Lib.hid (below_trans2 ha.out hb1)
  have hs1 : w.heap.size + 2 ≤ w1.heap.size := by have := hb1.size; have := hsz.out; omega
  have hA1 := Lib.hid (hB1.out.below_ hb1)
  have hR1 := Lib.hid (hB2.out.below_ hb1)
  have hba : Below w1.heap.size w1 (w1.alloc (.cells #[] 70)) := (Below.refl _ _).alloc (Nat.le_refl _) _
  have hlit : (w1.alloc (.cells #[] 70)).ownsRow w1.heap.size 70 1 (.slice (some ⟨w1.heap.size, 0, none⟩) 0 0) 0 [] := by
    have h := World.ownsRow_lit (size := 1) (base := w1.heap.size) (e := 70) w1 #[] 0 (Nat.le_refl _) (by omega) (by simp)
    simpa using h
  have l1 : (w1.alloc (.cells #[] 70)).cell? ⟨w.heap.size, 1, none⟩ = some (.slice (some ⟨b, off, none⟩) n c) := (hA1.out.below_ hba).c1
  have hrd : Rd (w1.alloc (.cells #[] 70)) (some ⟨b, off, none⟩) n vs := (hrdw.out.below hbb.out).below hba
  have hbba := Lib.hid (below_trans2 hbb.out hba)
  have hRa := Lib.hid (hR1.out.below_ hba)
  have hAa := Lib.hid (hA1.out.below_ hba)
  clear hb1
  go_wp2_with (at_builtin; refine wpList_append_rd rfl (.tmp 15) (.tmp 17) _ rfl w1.heap.size 70 x0 _ 24 Try.underlying37 hxi.out hxz0.out hxz1.out hxz2.out rfl _ 0 _ (by rfl) hlit _ n c _ rfl hrd hone.out (by unfold maxLen; omega) (by omega) hba.size ?_; intro v2 w2 hown2 hbc hform; simp only [Nat.zero_add, List.nil_append] at hown2 hform; obtain ⟨g, cap, rfl⟩ := hform (by omega); have hcg := hown2.cellAt k (by omega); rw [hu2.out] at hcg; have hfg := hown2.frozenAt k; clear hform l1)
  have hglt := (hown2.lt g rfl).1
  have hb2 : Below w.heap.size w w2 := hbba.out.trans (hbc.mono (by omega))
  have hR2 := Lib.hid (MatB.belowB hRa.out hbc (by omega))
  have hA2 := Lib.hid (MatB.belowB hAa.out hbc (by omega))
  replace hb2 := Lib.hid hb2
  replace hown2 := Lib.hid hown2
  clear hba hlit hrd hbc hcg hfg
  refine (hst.out w2 (hxr.out.below hb2.out) (by omega) (by omega) (by omega)).mono ?_; rintro e w3 ⟨C, p, q, rfl, hxr2, hx64, hb3⟩
  have hown3 := Lib.hid (own_below hown2.out hb3)
  have hcg := hown3.out.cellAt k (by omega)
  rw [hu2.out] at hcg
  have hfg := hown3.out.frozenAt k
  have hR3 := Lib.hid (hR2.out.below_ hb3)
  have hA3 := Lib.hid (hA2.out.below_ hb3)
  have hbb3 := Lib.hid (below_trans2 hb2.out hb3)
  have hCb : Hid (∀ ad, C = some ad → w2.heap.size ≤ ad.block) := Lib.hid (fun ad e => by subst e; exact own_lt_block hxr2 _ rfl)
  have hgl2 : g < w2.heap.size := (hown2.out.lt g rfl).2
  replace hxr2 := Lib.hid (Row.of_own hxr2 hx64)
  have hA4 := MatB.farB (p := ⟨g, k, none⟩) hA3.out (by simp <;> omega) (.slice C p q)
  have hR4 := hR3.out.farB (p := ⟨g, k, none⟩) (by simp <;> omega) (.slice C p q)
  have f10 := hA4.c0
  have f20 := hR4.c0
  have f21 := hR4.c1
  have g20 := hR4.frozen 0
  have g21 := hR4.frozen 1
  have hcc := MatB.two hR4 (.int .i64 n) (.slice (some ⟨g, 0, none⟩) n cap)
  have hc1 := Lib.hid hcc.1
  have hc2 := Lib.hid hcc.2
  clear hA4 hR4 hcc hb3 hx64
  go_wp2_with fail
  have hfin : Below w.heap.size w ((((w3.setCell ⟨g, k, none⟩ (.slice C p q)).setCell ⟨w.heap.size + 1, 0, none⟩ (.int .i64 n)).setCell ⟨w.heap.size + 1, 1, none⟩ (.slice (some ⟨g, 0, none⟩) n cap))) := ((hbb3.out.setCell (by simp <;> omega) _).setCell (by simp) _).setCell (by simp) _
  refine bodyPost_ret (v := .tuple #[.agg #[.int .i64 n, .slice (some ⟨g, 0, none⟩) n cap], .int .i64 0]) (by simp [results, Try.results57, go_sem, hc1.out, hc2.out]) rfl ⟨_, _, _, rfl, ?_, own_cap hown3.out, hfin, fun ad e => by cases e; show w.heap.size ≤ g; omega⟩
  refine ⟨_, Rd.of_own' (own_far (own_far (hown3.out.stored k (.slice C p q)).1 (p := ⟨w.heap.size + 1, 0, none⟩) (by simp [Value.ownBlock]; omega) _) (p := ⟨w.heap.size + 1, 1, none⟩) (by simp [Value.ownBlock]; omega) _), ?_, fun ad e => by cases e; have := hB0.out; show B0 ≤ g; omega, fun v hv g' e => by
    rcases List.mem_or_eq_of_mem_set hv with h | rfl
    · exact hvg.out v h g' e
    · cases C with
      | none => cases e
      | some ad =>
        injection e with e
        have h1 := hCb.out ad rfl
        have h2 := hB0.out
        have h3 := hb2.out.size
        omega⟩
  have h1 := hrcw.out.below hfin
  rw [setM_nat hx2.out]
  refine h1.set ⟨C, p, q, rfl, ?_⟩ k
  exact ((hxr2.out.setCell (fun ad e => by have := hCb.out ad e; simp <;> omega) _).setCell (fun ad e => by have := hCb.out ad e; simp <;> omega) _).setCell (fun ad e => by have := hCb.out ad e; simp <;> omega) _
theorem ref3_SetF (N : Int) (A : Option Addr) (n c : Nat) (xss : List (List Nat)) (i j : Int) (w : World) (hr : RowsAt w A n xss) (hN : N = (n : Int)) (hn : n ≤ 4096) (hl : ∀ xs ∈ xss, xs.length ≤ 1024)
    (h3 : inM N i j = true) :
    Calls Try.prog 57 #[.agg #[.int .i64 N, .slice A n c], .int .i64 i, .int .i64 j] w (RetMatF N (setM xss i j) 0 w) :=
  (ref3_SetG 0 N A n c xss i j w (RowsG.of hr) (Nat.zero_le _) hN hn hl h3).mono fun _ _ h => h.f

end Go.Proofs.Ytkaohfgpibbkiaa

namespace Go.Proofs.Ytkaohfgpibbkiaa
open Go.RowKit

section
variable {P : Program} {ops : Array Oper} {md : Region.Mode} {Q : Exit → Act → World → Prop}

/-- does t wait for i, through others too? -/
def awaitsB (md : Region.Mode) (ops : Array Oper) : Nat → Nat → Nat → Bool
  | 0, _, _ => false
  | f + 1, t, i => match ops[t]? with
    | none => false
    | some o => o.after.any fun e => Region.binds md e && (e.on == i || awaitsB md ops f e.on i)
theorem awaits_listed {n : Nat} {listed : Array Bool} (inv : HeadInv md ops n listed) : ∀ (f t i : Nat) (o : Oper), ops[t]? = some o →
    (∀ e ∈ o.after, Region.binds md e = true → listed.getD e.on false = true) → awaitsB md ops f t i = true → listed.getD i false = true
  | 0, _, _, _, _, _, h => by simp [awaitsB] at h
  | f + 1, t, i, o, ho, hall, h => by
    simp only [awaitsB, ho] at h
    obtain ⟨e, he, hb⟩ := Array.any_eq_true'.1 h
    simp only [Bool.and_eq_true, Bool.or_eq_true, beq_iff_eq] at hb
    have h1 := hall e he hb.1
    rcases hb.2 with h2 | h2
    · rw [← h2]; exact h1
    · cases ho2 : ops[e.on]? with
      | none => cases f with
        | zero => simp [awaitsB] at h2
        | succ f => simp [awaitsB, ho2] at h2
      | some o2 => exact awaits_listed inv f e.on i o2 ho2 (fun e' he' hb' => inv.closed _ _ ho2 h1 e' he' hb') h2
/-- each operation behind the first n waits for each of them -/
def lateB (md : Region.Mode) (ops : Array Oper) (n : Nat) : Bool :=
  (List.range ops.size).all fun t => decide (t < n) || (List.range n).all fun i => awaitsB md ops ops.size t i
theorem late_waits {n : Nat} (h : lateB md ops n = true) (listed : Array Bool) (inv : HeadInv md ops n listed) (i : Nat) (hin : i < n) (hun : listed.getD i true = false) (t : Nat) (ht : n ≤ t) : t ∉ Region.ready md ops listed := by
  intro hr
  obtain ⟨_, ot, hot, hall⟩ := mem_ready.1 hr
  have htl := (Array.getElem?_eq_some_iff.1 hot).1
  have h1 := List.all_eq_true.1 h t (List.mem_range.2 htl)
  simp only [Bool.or_eq_true, decide_eq_true_eq] at h1
  rcases h1 with h1 | h1
  · omega
  · have h2 := List.all_eq_true.1 h1 i (List.mem_range.2 hin)
    have h3 := awaits_listed inv _ t i ot hot hall h2
    rw [getD_both hun] at h3
    cases h3

/-- the second half's check -/
def planT (md : Region.Mode) (ops : Array Oper) (m : Nat) : List Nat → Array Bool → Bool
  | [], listed => Region.seqB md ops (ops.size - m) m listed
  | i :: rest, listed => (Region.ready md ops listed).contains i && Region.free md ops listed i && planT md ops m rest (listed.setIfInBounds i true)
def planH (md : Region.Mode) (ops : Array Oper) (n m : Nat) (pl2 : List Nat) : List (Bool × Nat) → Array Bool → Bool
  | [], listed => (Region.ready md ops listed).all (fun j => decide (n ≤ j)) && planT md ops m pl2 listed
  | (b, i) :: rest, listed => decide (i < n) && (if b then (Region.ready md ops listed).contains i && Region.free md ops listed i else decide (Region.ready md ops listed = [i])) && planH md ops n m pl2 rest (listed.setIfInBounds i true)
def planAllT (md : Region.Mode) (ops : Array Oper) (n : Nat) (pl : List (Bool × Nat)) (m : Nat) (pl2 : List Nat) : Bool :=
  Region.noSelect ops && decide (pl.length = n) && decide (n + pl2.length = m) && decide (m ≤ ops.size) && lateB md ops n && planH md ops n m pl2 pl (Array.replicate ops.size false)

/-- the walk of the second half -/
def wpPlanT (P : Program) (ops : Array Oper) (Q : Exit → Act → World → Prop) (tail : List Oper) : List Nat → Act → World → Prop
  | [], a, w => wpList P ops Q tail a w
  | i :: rest, a, w => ∃ o v, ops[i]? = some o ∧ Yields P ops o v a ∧ wpPlanT P ops Q tail rest (a.put o.dst v) w
/-- the walk of the first half -/
def wpPlanE (P : Program) (ops : Array Oper) (Q : Exit → Act → World → Prop) (tail : List Oper) (pl2 : List Nat) : List (Bool × Nat) → Act → World → Prop
  | [], a, w => wpPlanT P ops Q tail pl2 a w
  | (true, i) :: rest, a, w => ∃ o v, ops[i]? = some o ∧ YieldsIf P ops (fun x => Below w.heap.size w x) o v a ∧ wpPlanE P ops Q tail pl2 rest (a.put o.dst v) w
  | (false, i) :: rest, a, w => wpOp P ops Q i (fun a' w' => Below w.heap.size w w' ∧ wpPlanE P ops Q tail pl2 rest a' w') a w

theorem wpAny_planT {m : Nat} {tail : List Oper} (htail : ∀ j, tail[j]? = ops[m + j]?) (hlen : tail.length = ops.size - m) (hsel : Region.noSelect ops = true) (hQ : ∀ c a d v w, Q (.panic c) (a.put d v) w → Q (.panic c) a w) :
    ∀ (pl2 : List Nat) (listed : Array Bool) (a : Act) (w : World), planT md ops m pl2 listed = true → wpPlanT P ops Q tail pl2 a w → wpAny P md ops Q (pl2.length + (ops.size - m)) listed a w
  | [], listed, a, w, hB, h => by
    rw [List.length_nil, Nat.zero_add, ← hlen]
    exact wpAny_of_seq tail m listed a w htail (by rw [hlen]; exact hB) h
  | i :: rest, listed, a, w, hB, h => by
    simp only [planT, Bool.and_eq_true] at hB
    obtain ⟨⟨hr, hf⟩, hB'⟩ := hB
    obtain ⟨o, v, ho, hy, h'⟩ := h
    rw [List.length_cons, show rest.length + 1 + (ops.size - m) = (rest.length + (ops.size - m)) + 1 by omega]
    exact wpAny_take ho hsel hf hr (fun c a w => hQ c a o.dst v w) hy (wpAny_planT htail hlen hsel hQ rest _ _ _ hB' h')

theorem wpAnyR_planE {n m : Nat} {tail : List Oper} {pl2 : List Nat} (hsel : Region.noSelect ops = true) (hQ : ∀ c a d v w, Q (.panic c) (a.put d v) w → Q (.panic c) a w)
    (hlate : ∀ listed, HeadInv md ops n listed → ∀ i, i < n → listed.getD i true = false → ∀ t, n ≤ t → t ∉ Region.ready md ops listed) :
    ∀ (pl : List (Bool × Nat)) (listed : Array Bool) (a : Act) (w : World), HeadInv md ops n listed → planH md ops n m pl2 pl listed = true → wpPlanE P ops Q tail pl2 pl a w →
    wpAnyR P md ops Q n (fun listed' a' w' => ((Region.ready md ops listed').all (fun j => decide (n ≤ j)) = true ∧ planT md ops m pl2 listed' = true) ∧ wpPlanT P ops Q tail pl2 a' w') pl.length listed a w
  | [], listed, a, w, _, hB, h => ⟨by simpa [planH] using hB, h⟩
  | (true, i) :: rest, listed, a, w, inv, hB, h => by
    simp only [planH, if_true, Bool.and_eq_true, decide_eq_true_eq] at hB
    obtain ⟨⟨hin, hr, hf⟩, hB'⟩ := hB
    obtain ⟨o, v, ho, hy, h'⟩ := h
    have hr' : i ∈ Region.ready md ops listed := by simpa using hr
    exact wpAnyR_first ho (Region.noSelect_spec hsel) (fun c a w => hQ c a o.dst v w) (fun l hl hu => hlate l hl i hin hu) hin (fun listed' a' w' hL j hj => by simpa using List.all_eq_true.1 hL.1.1 j hj) rest.length listed a w inv (Region.free_spec ho hf) hr' hy
      (wpAnyR_planE hsel hQ hlate rest _ _ _ (inv.set hr' hin) hB' h')
  | (false, i) :: rest, listed, a, w, inv, hB, h => by
    simp only [planH, Bool.false_eq_true, if_false, Bool.and_eq_true, decide_eq_true_eq] at hB
    obtain ⟨⟨hin, hr⟩, hB'⟩ := hB
    have hr' : i ∈ Region.ready md ops listed := by rw [hr]; simp
    refine ⟨by rw [hr]; simp, fun j hj => ?_⟩
    rw [hr] at hj
    have hji : j = i := by simpa using hj
    subst hji
    exact ⟨hin, wpOp_mono (fun a' w' h3 => ⟨h3.1, wpAnyR_planE hsel hQ hlate rest _ a' w' (inv.set hr' hin) hB' h3.2⟩) h⟩

theorem wp_region_planT {id : Nat} {a : Act} {w : World} {l : List Oper} (n : Nat) (pl : List (Bool × Nat)) (m : Nat) (pl2 : List Nat) (hm : P.follows .mixedOrders = true) (hB : planAllT .any l.toArray n pl m pl2 = true)
    (h : ∀ W : World, Hid (W = w.drew) → wpPlanE P l.toArray (NoPanic Q) (l.drop m) pl2 pl a W) : (Code.region id l.toArray true).wp P Q a w := by
  refine wp_region_noPanic ?_
  have hQ : ∀ c a d v w, NoPanic Q (.panic c) (a.put d v) w → NoPanic Q (.panic c) a w := fun _ _ _ _ _ h => h
  simp only [planAllT, Bool.and_eq_true, decide_eq_true_eq] at hB
  obtain ⟨⟨⟨⟨⟨hsel, hlen⟩, hnm⟩, hmz⟩, hlate⟩, hpl⟩ := hB
  have hdl : (l.drop m).length = l.toArray.size - m := by simp
  have inv0 : HeadInv .any l.toArray n (Array.replicate l.toArray.size false) :=
    ⟨by simp, fun j oj _ hl => (by rw [getD_replicate_false] at hl; cases hl), fun t _ ht => getD_in (by simpa using ht) (getD_replicate_false _ _)⟩
  have H := wpAnyR_planE (md := .any) (m := m) hsel hQ (fun listed inv i hin hun t ht => late_waits hlate listed inv i hin hun t ht) pl _ a w.drew inv0 hpl (h w.drew (Lib.hid rfl))
  refine wp_region_any hm ?_
  have := wpAny_of_R (Q := NoPanic Q) (g := pl2.length + (l.toArray.size - m)) (fun listed a' w' hL =>
    wpAny_planT (md := .any) (fun j => by simp [List.getElem?_drop]) hdl hsel hQ pl2 listed a' w' hL.1.2 hL.2) _ _ _ _ H
  rw [hlen, show n + (pl2.length + (l.toArray.size - m)) = l.toArray.size by omega] at this
  exact this

/-! ### the steps -/
section
variable {tail : List Oper} {pl2 : List Nat} {rest : List (Bool × Nat)} {a : Act} {w : World} {i : Nat} {o : Oper}
theorem wpPlanE_float {v : Value} (hi : ops[i]? = some o) (hw : Region.wanted o (yielded ops a.tmps) = true)
    (hy : ∀ w' : World, (∀ p, (w.cell? p).isSome = true → w'.cell? p = w.cell? p) → (execOp a.eval o).run P w' = .ok (.value v) w') (h : ∀ K : Act → Prop, (∀ a', wpPlanE P ops Q tail pl2 rest a' w → K a') → K (a.put o.dst v)) : wpPlanE P ops Q tail pl2 ((true, i) :: rest) a w :=
  ⟨o, v, hi, .inl ⟨hw, fun w' hb => hy w' (fun p hp => by
    have hlt : p.block < w.heap.size := by
      cases hc : w.cell? p with
      | none => rw [hc] at hp; cases hp
      | some u => exact block_lt_of_cell hc
    exact hb.cell hlt)⟩, h _ (fun _ h => h)⟩
theorem wpPlanE_only (hi : ops[i]? = some o) (hw : Region.wanted o (yielded ops a.tmps) = true)
    (h : ∀ K : Act → World → Prop, (∀ a' w', Below w.heap.size w w' → wpPlanE P ops Q tail pl2 rest a' w' → K a' w') → o.wp P a w K Q) : wpPlanE P ops Q tail pl2 ((false, i) :: rest) a w := by
  show wpOp P ops Q i _ a w
  unfold wpOp
  simp only [hi, hw, if_true]
  exact .inl (h _ (fun a' w' hb hp => ⟨hb, hp⟩))
theorem wpPlanE_nil (h : wpPlanT P ops Q tail pl2 a w) : wpPlanE P ops Q tail pl2 [] a w := h
theorem wpPlanT_float {v : Value} {rest : List Nat} (hi : ops[i]? = some o) (hw : Region.wanted o (yielded ops a.tmps) = true)
    (hy : ∀ w' : World, (execOp a.eval o).run P w' = .ok (.value v) w') (h : ∀ K : Act → Prop, (∀ a', wpPlanT P ops Q tail rest a' w → K a') → K (a.put o.dst v)) : wpPlanT P ops Q tail (i :: rest) a w :=
  ⟨o, v, hi, .inl ⟨hw, hy⟩, h _ (fun _ h => h)⟩
theorem wpPlanT_nil (h : wpList P ops Q tail a w) : wpPlanT P ops Q tail [] a w := h
end
end
end Go.Proofs.Ytkaohfgpibbkiaa
