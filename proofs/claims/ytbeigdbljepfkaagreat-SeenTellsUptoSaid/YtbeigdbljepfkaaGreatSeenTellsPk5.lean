/- A region that draws its order, walked by a plan (XPlan), whose last head results stand beside one another: behind the plan's calls come values that hang on no memory ('extract': a call's second result), which may come up between the stores behind; then a tail. What lies ahead of the tail is found by what waits for what. No function of the program is named here. Contracts of the document's own answers for matrices: Of. Plain facts of matrices that may be: parts of one another, together, whether a pair is there. Words for memory: a variable that holds a matrix, with its rows. No function of the program is named here. Plain mathematics of what follows from pairs: hulls, as the least closed ones. Nothing of the program is named. Plain mathematics of layer 12: the matrix of a history's sessions is closed, doesn't go round, and has n (n - 1) / 2 pairs of each session. Nothing of the program is named. Plain mathematics of layer 10: writes of values, differentiated facts. Nothing of the program is named. Plain mathematics of layer 11: what reads read from. Nothing of the program is named. Plain mathematics of layer 13: writes and their reads, the edges, causal order. Nothing of the program is named. Plain mathematics of layer 17: conflicts, in order, and the hull of a matrix with them. Nothing of the program is named. Plain mathematics of layer 18: what an operation has seen, round by round. Nothing of the program is named. Plain mathematics of layer 16: what is ahead of an operation. Nothing of the program is named. Facts in a variable (FBox), as the document's answers of layers 10 and on box them. The contracts of the document's own answers of layer 10: Write, Check. -/
import Derived.Test.YtbeigdbljepfkaaGreatSeenTellsPk4
import Derived.Test.YtbeigdbljepfkaaGreatSeenTellsPk3
import Derived.Test.YtbeigdbljepfkaaGreatSeenTellsPk1
import Derived.Test.YtbeigdbljepfkaaGreatProg
namespace Go.Proofs.YtbeigdbljepfkaaGreat
open Go.RowKit

section
variable {P : Program} {ops : Array Oper} {md : Region.Mode} {Q : Exit → Act → World → Prop}

/-- does t wait for i, through others too? -/
def awaitsB (md : Region.Mode) (ops : Array Oper) : Nat → Nat → Nat → Bool
  | 0, _, _ => false
  | f + 1, t, i => match ops[t]? with
    | none => false
    | some o => o.after.any fun e => Region.binds md e && (e.on == i || awaitsB md ops f e.on i)
theorem awaits_listed {n : Nat} {listed : Array Bool} (inv : HeadInv md ops n listed) : ∀ (f t i : Nat) (o : Oper), ops[t]? = some o →
    (∀ e ∈ o.after, Region.binds md e = true → listed.getD e.on false = true) → awaitsB md ops f t i = true → listed.getD i false = true
  | 0, _, _, _, _, _, h => by simp [awaitsB] at h
  | f + 1, t, i, o, ho, hall, h => by
    simp only [awaitsB, ho] at h
    obtain ⟨e, he, hb⟩ := Array.any_eq_true'.1 h
    simp only [Bool.and_eq_true, Bool.or_eq_true, beq_iff_eq] at hb
    have h1 := hall e he hb.1
    rcases hb.2 with h2 | h2
    · rw [← h2]; exact h1
    · cases ho2 : ops[e.on]? with
      | none => cases f with
        | zero => simp [awaitsB] at h2
        | succ f => simp [awaitsB, ho2] at h2
      | some o2 => exact awaits_listed inv f e.on i o2 ho2 (fun e' he' hb' => inv.closed _ _ ho2 h1 e' he' hb') h2
/-- each operation behind the first n waits for each of them -/
def lateB (md : Region.Mode) (ops : Array Oper) (n : Nat) : Bool :=
  (List.range ops.size).all fun t => decide (t < n) || (List.range n).all fun i => awaitsB md ops ops.size t i
theorem late_waits {n : Nat} (h : lateB md ops n = true) (listed : Array Bool) (inv : HeadInv md ops n listed) (i : Nat) (hin : i < n) (hun : listed.getD i true = false) (t : Nat) (ht : n ≤ t) : t ∉ Region.ready md ops listed := by
  intro hr
  obtain ⟨_, ot, hot, hall⟩ := mem_ready.1 hr
  have htl := (Array.getElem?_eq_some_iff.1 hot).1
  have h1 := List.all_eq_true.1 h t (List.mem_range.2 htl)
  simp only [Bool.or_eq_true, decide_eq_true_eq] at h1
  rcases h1 with h1 | h1
  · omega
  · have h2 := List.all_eq_true.1 h1 i (List.mem_range.2 hin)
    have h3 := awaits_listed inv _ t i ot hot hall h2
    rw [getD_both hun] at h3
    cases h3

/-- the second half's check -/
def planT (md : Region.Mode) (ops : Array Oper) (m : Nat) : List Nat → Array Bool → Bool
  | [], listed => Region.seqB md ops (ops.size - m) m listed
  | i :: rest, listed => (Region.ready md ops listed).contains i && Region.free md ops listed i && planT md ops m rest (listed.setIfInBounds i true)
def planH (md : Region.Mode) (ops : Array Oper) (n m : Nat) (pl2 : List Nat) : List (Bool × Nat) → Array Bool → Bool
  | [], listed => (Region.ready md ops listed).all (fun j => decide (n ≤ j)) && planT md ops m pl2 listed
  | (b, i) :: rest, listed => decide (i < n) && (if b then (Region.ready md ops listed).contains i && Region.free md ops listed i else decide (Region.ready md ops listed = [i])) && planH md ops n m pl2 rest (listed.setIfInBounds i true)
def planAllT (md : Region.Mode) (ops : Array Oper) (n : Nat) (pl : List (Bool × Nat)) (m : Nat) (pl2 : List Nat) : Bool :=
  Region.noSelect ops && decide (pl.length = n) && decide (n + pl2.length = m) && decide (m ≤ ops.size) && lateB md ops n && planH md ops n m pl2 pl (Array.replicate ops.size false)

/-- the walk of the second half -/
def wpPlanT (P : Program) (ops : Array Oper) (Q : Exit → Act → World → Prop) (tail : List Oper) : List Nat → Act → World → Prop
  | [], a, w => wpList P ops Q tail a w
  | i :: rest, a, w => ∃ o v, ops[i]? = some o ∧ Yields P ops o v a ∧ wpPlanT P ops Q tail rest (a.put o.dst v) w
/-- the walk of the first half -/
def wpPlanE (P : Program) (ops : Array Oper) (Q : Exit → Act → World → Prop) (tail : List Oper) (pl2 : List Nat) : List (Bool × Nat) → Act → World → Prop
  | [], a, w => wpPlanT P ops Q tail pl2 a w
  | (true, i) :: rest, a, w => ∃ o v, ops[i]? = some o ∧ YieldsIf P ops (fun x => Below w.heap.size w x) o v a ∧ wpPlanE P ops Q tail pl2 rest (a.put o.dst v) w
  | (false, i) :: rest, a, w => wpOp P ops Q i (fun a' w' => Below w.heap.size w w' ∧ wpPlanE P ops Q tail pl2 rest a' w') a w

theorem wpAny_planT {m : Nat} {tail : List Oper} (htail : ∀ j, tail[j]? = ops[m + j]?) (hlen : tail.length = ops.size - m) (hsel : Region.noSelect ops = true) (hQ : ∀ c a d v w, Q (.panic c) (a.put d v) w → Q (.panic c) a w) :
    ∀ (pl2 : List Nat) (listed : Array Bool) (a : Act) (w : World), planT md ops m pl2 listed = true → wpPlanT P ops Q tail pl2 a w → wpAny P md ops Q (pl2.length + (ops.size - m)) listed a w
  | [], listed, a, w, hB, h => by
    rw [List.length_nil, Nat.zero_add, ← hlen]
    exact wpAny_of_seq tail m listed a w htail (by rw [hlen]; exact hB) h
  | i :: rest, listed, a, w, hB, h => by
    simp only [planT, Bool.and_eq_true] at hB
    obtain ⟨⟨hr, hf⟩, hB'⟩ := hB
    obtain ⟨o, v, ho, hy, h'⟩ := h
    rw [List.length_cons, show rest.length + 1 + (ops.size - m) = (rest.length + (ops.size - m)) + 1 by omega]
    exact wpAny_take ho hsel hf hr (fun c a w => hQ c a o.dst v w) hy (wpAny_planT htail hlen hsel hQ rest _ _ _ hB' h')

theorem wpAnyR_planE {n m : Nat} {tail : List Oper} {pl2 : List Nat} (hsel : Region.noSelect ops = true) (hQ : ∀ c a d v w, Q (.panic c) (a.put d v) w → Q (.panic c) a w)
    (hlate : ∀ listed, HeadInv md ops n listed → ∀ i, i < n → listed.getD i true = false → ∀ t, n ≤ t → t ∉ Region.ready md ops listed) :
    ∀ (pl : List (Bool × Nat)) (listed : Array Bool) (a : Act) (w : World), HeadInv md ops n listed → planH md ops n m pl2 pl listed = true → wpPlanE P ops Q tail pl2 pl a w →
    wpAnyR P md ops Q n (fun listed' a' w' => ((Region.ready md ops listed').all (fun j => decide (n ≤ j)) = true ∧ planT md ops m pl2 listed' = true) ∧ wpPlanT P ops Q tail pl2 a' w') pl.length listed a w
  | [], listed, a, w, _, hB, h => ⟨by simpa [planH] using hB, h⟩
  | (true, i) :: rest, listed, a, w, inv, hB, h => by
    simp only [planH, if_true, Bool.and_eq_true, decide_eq_true_eq] at hB
    obtain ⟨⟨hin, hr, hf⟩, hB'⟩ := hB
    obtain ⟨o, v, ho, hy, h'⟩ := h
    have hr' : i ∈ Region.ready md ops listed := by simpa using hr
    exact wpAnyR_first ho (Region.noSelect_spec hsel) (fun c a w => hQ c a o.dst v w) (fun l hl hu => hlate l hl i hin hu) hin (fun listed' a' w' hL j hj => by simpa using List.all_eq_true.1 hL.1.1 j hj) rest.length listed a w inv (Region.free_spec ho hf) hr' hy
      (wpAnyR_planE hsel hQ hlate rest _ _ _ (inv.set hr' hin) hB' h')
  | (false, i) :: rest, listed, a, w, inv, hB, h => by
    simp only [planH, Bool.false_eq_true, if_false, Bool.and_eq_true, decide_eq_true_eq] at hB
    obtain ⟨⟨hin, hr⟩, hB'⟩ := hB
    have hr' : i ∈ Region.ready md ops listed := by rw [hr]; simp
    refine ⟨by rw [hr]; simp, fun j hj => ?_⟩
    rw [hr] at hj
    have hji : j = i := by simpa using hj
    subst hji
    exact ⟨hin, wpOp_mono (fun a' w' h3 => ⟨h3.1, wpAnyR_planE hsel hQ hlate rest _ a' w' (inv.set hr' hin) hB' h3.2⟩) h⟩

theorem wp_region_planT {id : Nat} {a : Act} {w : World} {l : List Oper} (n : Nat) (pl : List (Bool × Nat)) (m : Nat) (pl2 : List Nat) (hm : P.follows .mixedOrders = true) (hB : planAllT .any l.toArray n pl m pl2 = true)
    (h : ∀ W : World, Hid (W = w.drew) → wpPlanE P l.toArray (NoPanic Q) (l.drop m) pl2 pl a W) : (Code.region id l.toArray true).wp P Q a w := by
  refine wp_region_noPanic ?_
  have hQ : ∀ c a d v w, NoPanic Q (.panic c) (a.put d v) w → NoPanic Q (.panic c) a w := fun _ _ _ _ _ h => h
  simp only [planAllT, Bool.and_eq_true, decide_eq_true_eq] at hB
  obtain ⟨⟨⟨⟨⟨hsel, hlen⟩, hnm⟩, hmz⟩, hlate⟩, hpl⟩ := hB
  have hdl : (l.drop m).length = l.toArray.size - m := by simp
  have inv0 : HeadInv .any l.toArray n (Array.replicate l.toArray.size false) :=
    ⟨by simp, fun j oj _ hl => (by rw [getD_replicate_false] at hl; cases hl), fun t _ ht => getD_in (by simpa using ht) (getD_replicate_false _ _)⟩
  have H := wpAnyR_planE (md := .any) (m := m) hsel hQ (fun listed inv i hin hun t ht => late_waits hlate listed inv i hin hun t ht) pl _ a w.drew inv0 hpl (h w.drew (Lib.hid rfl))
  refine wp_region_any hm ?_
  have := wpAny_of_R (Q := NoPanic Q) (g := pl2.length + (l.toArray.size - m)) (fun listed a' w' hL =>
    wpAny_planT (md := .any) (fun j => by simp [List.getElem?_drop]) hdl hsel hQ pl2 listed a' w' hL.1.2 hL.2) _ _ _ _ H
  rw [hlen, show n + (pl2.length + (l.toArray.size - m)) = l.toArray.size by omega] at this
  exact this

/-! ### the steps -/
section
variable {tail : List Oper} {pl2 : List Nat} {rest : List (Bool × Nat)} {a : Act} {w : World} {i : Nat} {o : Oper}
theorem wpPlanE_float {v : Value} (hi : ops[i]? = some o) (hw : Region.wanted o (yielded ops a.tmps) = true)
    (hy : ∀ w' : World, (∀ p, (w.cell? p).isSome = true → w'.cell? p = w.cell? p) → (execOp a.eval o).run P w' = .ok (.value v) w') (h : ∀ K : Act → Prop, (∀ a', wpPlanE P ops Q tail pl2 rest a' w → K a') → K (a.put o.dst v)) : wpPlanE P ops Q tail pl2 ((true, i) :: rest) a w :=
  ⟨o, v, hi, .inl ⟨hw, fun w' hb => hy w' (fun p hp => by
    have hlt : p.block < w.heap.size := by
      cases hc : w.cell? p with
      | none => rw [hc] at hp; cases hp
      | some u => exact block_lt_of_cell hc
    exact hb.cell hlt)⟩, h _ (fun _ h => h)⟩
theorem wpPlanE_only (hi : ops[i]? = some o) (hw : Region.wanted o (yielded ops a.tmps) = true)
    (h : ∀ K : Act → World → Prop, (∀ a' w', Below w.heap.size w w' → wpPlanE P ops Q tail pl2 rest a' w' → K a' w') → o.wp P a w K Q) : wpPlanE P ops Q tail pl2 ((false, i) :: rest) a w := by
  show wpOp P ops Q i _ a w
  unfold wpOp
  simp only [hi, hw, if_true]
  exact .inl (h _ (fun a' w' hb hp => ⟨hb, hp⟩))
theorem wpPlanE_nil (h : wpPlanT P ops Q tail pl2 a w) : wpPlanE P ops Q tail pl2 [] a w := h
theorem wpPlanT_float {v : Value} {rest : List Nat} (hi : ops[i]? = some o) (hw : Region.wanted o (yielded ops a.tmps) = true)
    (hy : ∀ w' : World, (execOp a.eval o).run P w' = .ok (.value v) w') (h : ∀ K : Act → Prop, (∀ a', wpPlanT P ops Q tail rest a' w → K a') → K (a.put o.dst v)) : wpPlanT P ops Q tail (i :: rest) a w :=
  ⟨o, v, hi, .inl ⟨hw, hy⟩, h _ (fun _ h => h)⟩
theorem wpPlanT_nil (h : wpList P ops Q tail a w) : wpPlanT P ops Q tail [] a w := h
end
end
end Go.Proofs.YtbeigdbljepfkaaGreat

namespace Go.Proofs.YtbeigdbljepfkaaGreat
open Go.RowKit
set_option linter.unusedVariables false

theorem Row.putB {w : World} {M : Nat} {t : TypeId} {N : Int} {A : Option Addr} {n c : Nat} (hM : MatB w M t N A n c) {B : Option Addr} {m : Nat} {xs : List Nat} (h : Row w B m xs) (x y : Value) :
    Row ((w.setCell ⟨M, 0, none⟩ x).setCell ⟨M, 1, none⟩ y) B m xs := by
  rcases Nat.eq_zero_or_pos m with rfl | hm
  · rw [List.eq_nil_of_length_eq_zero h.len]; exact Row.nil _ _
  · have hne : ∀ ad, B = some ad → ad.block ≠ M := by
      intro ad e hb
      obtain ⟨b, off, x, e2, _, _, _, hc⟩ := h.at_ hm
      rw [e] at e2
      cases e2
      have hb' : b = M := hb
      subst hb'
      rw [Blk.cell hM] at hc
      match off + 0, hc with
      | 0, hc => simp at hc
      | 1, hc => simp at hc
      | k + 2, hc => simp at hc
    exact (h.setCell hne x).setCell hne y
theorem RowsAt.putB {w : World} {M : Nat} {t : TypeId} {N : Int} {A : Option Addr} {n c : Nat} (hM : MatB w M t N A n c) {B : Option Addr} {m : Nat} {xss : List (List Nat)} (h : RowsAt w B m xss) (hne : 0 < m → ∀ ad, B = some ad → ad.block ≠ M) (x y : Value) :
    RowsAt ((w.setCell ⟨M, 0, none⟩ x).setCell ⟨M, 1, none⟩ y) B m xss := by
  obtain ⟨vs, h1, h2⟩ := h
  refine ⟨vs, ?_, h2.1, fun i v xs a b => ?_⟩
  · rcases Nat.eq_zero_or_pos m with rfl | hm
    · rw [h1.of_nil]; exact Rd.nil _ _
    · exact (h1.setCell (hne hm) x).setCell (hne hm) y
  · obtain ⟨B', m', c', e, hr⟩ := h2.2 i v xs a b
    exact ⟨B', m', c', e, hr.putB hM x y⟩
theorem RowsG.putB {w : World} {M : Nat} {t : TypeId} {N : Int} {A : Option Addr} {n c : Nat} (hM : MatB w M t N A n c) {B0 : Nat} {B : Option Addr} {m : Nat} {xss : List (List Nat)} (h : RowsG B0 w B m xss) (hne : 0 < m → ∀ ad, B = some ad → ad.block ≠ M) (x y : Value) :
    RowsG B0 ((w.setCell ⟨M, 0, none⟩ x).setCell ⟨M, 1, none⟩ y) B m xss := by
  obtain ⟨vs, h1, h2, h3, h4⟩ := h
  refine ⟨vs, ?_, ⟨h2.1, fun i v xs a b => ?_⟩, h3, h4⟩
  · rcases Nat.eq_zero_or_pos m with rfl | hm
    · rw [h1.of_nil]; exact Rd.nil _ _
    · exact (h1.setCell (hne hm) x).setCell (hne hm) y
  · obtain ⟨B', m', c', e, hr⟩ := h2.2 i v xs a b
    exact ⟨B', m', c', e, hr.putB hM x y⟩
theorem RowsG.grown {B : Nat} {w w' : World} {A : Option Addr} {n : Nat} {xss : List (List Nat)} {row : Option Nat} (h : RowsG B w A n xss) (hg : w.grownBy w' row) (hrow : ∀ g, row = some g → g < B) : RowsG B w' A n xss := by
  obtain ⟨vs, h1, h2, h3, h4⟩ := h
  refine ⟨vs, ⟨h1.1, fun h0 => ?_⟩, ⟨h2.1, fun i v xs a b => ?_⟩, h3, h4⟩
  · obtain ⟨b, off, e, hb, hc⟩ := h1.2 h0
    refine ⟨b, off, e, Nat.lt_of_lt_of_le hb hg.size, fun j u hu => (World.cell?_of_block (hg.block b hb (fun e' => ?_))).trans (hc j u hu)⟩
    have h5 := hrow b e'.symm
    have h6 := h3 _ e
    simp only at h6
    omega
  · obtain ⟨B', m', c', e, ⟨⟨hr1, hr2⟩, hr3⟩⟩ := h2.2 i v xs a b
    refine ⟨B', m', c', e, ⟨⟨hr1, fun h0 => ?_⟩, hr3⟩⟩
    obtain ⟨b', off, e2, hb, hc⟩ := hr2 h0
    refine ⟨b', off, e2, Nat.lt_of_lt_of_le hb hg.size, fun j u hu => (World.cell?_of_block (hg.block b' hb (fun e' => ?_))).trans (hc j u hu)⟩
    have h5 := hrow b' e'.symm
    have h6 := h4 v (List.mem_of_getElem? a) b' (by rw [e, e2]; rfl)
    omega
theorem RowsAt.block_lt {w : World} {A : Option Addr} {n : Nat} {xss : List (List Nat)} (h : RowsAt w A n xss) (hn : 0 < n) : ∀ ad, A = some ad → ad.block < w.heap.size := by
  intro ad e
  obtain ⟨vs, h1, _⟩ := h
  obtain ⟨b, off, e2, hb, _⟩ := h1.2 hn
  rw [e] at e2; cases e2; exact hb

end Go.Proofs.YtbeigdbljepfkaaGreat

namespace Go.Proofs.YtbeigdbljepfkaaGreat
open Go.RowKit
set_option linter.unusedVariables false

theorem Good.in_has {n : Nat} {a : List (List Nat)} (h : Good n a) (i j : Int) : (inM (n : Int) i j && hasM a i j) = hasM a i j := by
  cases hh : hasM a i j with
  | false => rw [Bool.and_false]
  | true =>
    have h0 : 0 ≤ i := by
      refine Decidable.byContradiction fun hc => ?_
      rw [hasM_out (.inl (by omega))] at hh; cases hh
    obtain ⟨k, rfl⟩ := Int.eq_ofNat_of_zero_le h0
    have h1 : 0 ≤ j := by
      refine Decidable.byContradiction fun hc => ?_
      by_cases hk : k < a.length
      · rw [hasM_in (List.getElem?_eq_getElem hk), hasR_out _ _ (.inl (by omega))] at hh; cases hh
      · rw [hasM_out (.inr (by omega))] at hh; cases hh
    obtain ⟨q, rfl⟩ := Int.eq_ofNat_of_zero_le h1
    obtain ⟨h2, h3⟩ := h.has_lt hh
    rw [Bool.and_true]
    unfold inM; simp; omega
theorem orM_len (a b : List (List Nat)) : (orM a b).length = a.length := by simp [orM]

end Go.Proofs.YtbeigdbljepfkaaGreat

namespace Go.Proofs.YtbeigdbljepfkaaGreat
open Go.RowKit
set_option linter.unusedVariables false

/-- block g is a variable that holds the matrix of N and xss -/
def MatK (w : World) (g : Nat) (t : TypeId) (N : Int) (A : Option Addr) (n c : Nat) (xss : List (List Nat)) : Prop := MatB w g t N A n c ∧ RowsAt w A n xss
section
variable {w w' : World} {g : Nat} {t : TypeId} {N : Int} {A : Option Addr} {n c : Nat} {xss : List (List Nat)}
theorem MatB.below (h : MatB w g t N A n c) (hb : Below w.heap.size w w') : MatB w' g t N A n c := h.below_ hb
theorem MatK.below (h : MatK w g t N A n c xss) (hb : Below w.heap.size w w') : MatK w' g t N A n c xss := ⟨h.1.below_ hb, h.2.below hb⟩
theorem MatK.new (w : World) (t : TypeId) (hr : RowsAt w A n xss) : MatK (w.alloc (.cells #[.int .i64 N, .slice A n c] t)) w.heap.size t N A n c xss := ⟨MatB.new w t, hr.below ((Below.refl _ _).alloc (Nat.le_refl _) _)⟩
theorem MatK.drew (h : MatK w g t N A n c xss) : MatK w.drew g t N A n c xss := ⟨Blk.drew h.1, h.2⟩
theorem below_alloc (w : World) (o : Obj) : Below w.heap.size w (w.alloc o) := (Below.refl _ _).alloc (Nat.le_refl _) _
end

/-- what comes behind several orders, walked once: 'apply cut_three (F := ..)'; the orders first, each ends in 'key'; then the rest -/
theorem cut_three {Goal F : Nat → Nat → World → Prop} {R : Prop} (h1 : (∀ a b c, F a b c → Goal a b c) → R) (h2 : ∀ a b c, F a b c → Goal a b c) : R := h1 h2
theorem cut_seven {T1 T2 T3 T4 T5 T6 T7 : Type} {Goal F : T1 → T2 → T3 → T4 → T5 → T6 → T7 → Prop} {R : Prop} (h1 : (∀ a b c d e f g, F a b c d e f g → Goal a b c d e f g) → R) (h2 : ∀ a b c d e f g, F a b c d e f g → Goal a b c d e f g) : R := h1 h2

theorem RowsAt.farM {w : World} {C : Option Addr} {n G : Nat} {t : TypeId} {xss : List (List Nat)} (h : RowsAt w C n xss) (hM : MatB w G t 0 none 0 0) (h1 : ∀ r ∈ xss, r.length = 1) : 0 < n → ∀ ad, C = some ad → ad.block ≠ G := by
  intro h0 ad e hb
  obtain ⟨b, off, B, m, c, xs, e2, _, hx, hc, hr⟩ := h.at_ h0
  rw [e] at e2
  cases e2
  have hb' : b = G := hb
  subst hb'
  have hxl := h1 xs (List.mem_of_getElem? hx)
  have hrl := hr.len
  rw [Blk.cell hM] at hc
  match off + 0, hc with
  | 0, hc => simp at hc
  | 1, hc =>
    simp at hc
    omega
  | k + 2, hc => simp at hc

end Go.Proofs.YtbeigdbljepfkaaGreat

namespace Go.Proofs.YtbeigdbljepfkaaGreat
open Go.RowKit
set_option linter.unusedVariables false

/-- what follows from r -/
inductive Conn (r : Nat → Nat → Prop) : Nat → Nat → Prop where
  | one {i j : Nat} (h : r i j) : Conn r i j
  | step {i j k : Nat} (h : Conn r i j) (h2 : r j k) : Conn r i k
def Trans2 (s : Nat → Nat → Prop) : Prop := ∀ i j k, s i j → s j k → s i k
theorem Conn.trans {r : Nat → Nat → Prop} {i j k : Nat} (h1 : Conn r i j) (h2 : Conn r j k) : Conn r i k := by
  induction h2 with
  | one h => exact .step h1 h
  | step _ h ih => exact .step ih h
theorem Conn.least {r s : Nat → Nat → Prop} (hs : Trans2 s) (h : ∀ i j, r i j → s i j) {i j : Nat} (hc : Conn r i j) : s i j := by
  induction hc with
  | one h1 => exact h _ _ h1
  | step _ h2 ih => exact hs _ _ _ ih (h _ _ h2)
theorem Conn.mono {r s : Nat → Nat → Prop} (h : ∀ i j, r i j → s i j) {i j : Nat} (hc : Conn r i j) : Conn s i j :=
  Conn.least (s := Conn s) (fun a b c h1 h2 => Conn.trans h1 h2) (fun a b h1 => .one (h a b h1)) hc
theorem Conn.same {r s : Nat → Nat → Prop} (h : ∀ i j, r i j ↔ s i j) (i j : Nat) : Conn r i j ↔ Conn s i j := ⟨Conn.mono fun _ _ h1 => (h _ _).1 h1, Conn.mono fun _ _ h1 => (h _ _).2 h1⟩
theorem Conn.of_trans {r : Nat → Nat → Prop} (hr : Trans2 r) {i j : Nat} : Conn r i j ↔ r i j := ⟨Conn.least hr fun _ _ h => h, .one⟩

/-- Warshall: what follows over numbers below k -/
def Wk (r : Nat → Nat → Prop) : Nat → Nat → Nat → Prop
  | 0, i, j => r i j
  | k + 1, i, j => Wk r k i j ∨ (Wk r k i k ∧ Wk r k k j)
theorem Wk.conn {r : Nat → Nat → Prop} : ∀ (k i j : Nat), Wk r k i j → Conn r i j
  | 0, _, _, h => .one h
  | k + 1, i, j, .inl h => Wk.conn k i j h
  | k + 1, i, j, .inr h => (Wk.conn k i k h.1).trans (Wk.conn k k j h.2)
theorem Wk.mono {r : Nat → Nat → Prop} {i j : Nat} (h : r i j) : ∀ k, Wk r k i j
  | 0 => h
  | k + 1 => .inl (Wk.mono h k)
theorem Wk.join {r : Nat → Nat → Prop} : ∀ (k m i j : Nat), m < k → Wk r k i m → Wk r k m j → Wk r k i j
  | 0, m, _, _, hm, _, _ => absurd hm (by omega)
  | k + 1, m, i, j, hm, h1, h2 => by
    have e1 : Wk r k i m ∨ (Wk r k i k ∧ Wk r k k m) := h1
    have e2 : Wk r k m j ∨ (Wk r k m k ∧ Wk r k k j) := h2
    show Wk r k i j ∨ (Wk r k i k ∧ Wk r k k j)
    rcases Nat.lt_succ_iff_lt_or_eq.1 hm with hlt | rfl
    · rcases e1 with a | ⟨a, b⟩ <;> rcases e2 with c | ⟨c, d⟩
      · exact .inl (Wk.join k m i j hlt a c)
      · exact .inr ⟨Wk.join k m i k hlt a c, d⟩
      · exact .inr ⟨a, Wk.join k m k j hlt b c⟩
      · exact .inr ⟨a, d⟩
    · have a : Wk r m i m := e1.elim (fun h => h) (fun h => h.1)
      have b : Wk r m m j := e2.elim (fun h => h) (fun h => h.2)
      exact .inr ⟨a, b⟩
theorem Wk.all {r : Nat → Nat → Prop} {n : Nat} (hr : ∀ i j, r i j → i < n ∧ j < n) (i j : Nat) : Wk r n i j ↔ Conn r i j := by
  refine ⟨Wk.conn n i j, fun h => ?_⟩
  induction h with
  | one h => exact Wk.mono h n
  | step h1 h2 ih => exact Wk.join n _ _ _ (hr _ _ h2).1 ih (Wk.mono h2 n)

/-- the relation of a matrix -/
def Rel (a : List (List Nat)) (i j : Nat) : Prop := hasM a (i : Int) (j : Int) = true
theorem Good.rel_lt {n : Nat} {a : List (List Nat)} (h : Good n a) : ∀ i j, Rel a i j → i < n ∧ j < n := fun _ _ h1 => h.has_lt h1
/-- h is the hull of r among n numbers -/
def IsHull (n : Nat) (r : Nat → Nat → Prop) (h : List (List Nat)) : Prop := Good n h ∧ ∀ i j : Nat, Rel h i j ↔ Conn r i j
def ClosedM (a : List (List Nat)) : Prop := Trans2 (Rel a)
theorem rel_ext {n : Nat} {a b : List (List Nat)} (ha : Good n a) (hb : Good n b) (h : ∀ i j : Nat, Rel a i j ↔ Rel b i j) : a = b :=
  good_ext ha hb fun i j _ _ => by
    have := h i j
    unfold Rel at this
    cases h1 : hasM a (i : Int) (j : Int) with
    | true => rw [this.1 h1]
    | false =>
      cases h2 : hasM b (i : Int) (j : Int) with
      | true => rw [this.2 h2] at h1; cases h1
      | false => rfl
theorem IsHull.unique {n : Nat} {r s : Nat → Nat → Prop} {h k : List (List Nat)} (h1 : IsHull n r h) (h2 : IsHull n s k) (he : ∀ i j, Conn r i j ↔ Conn s i j) : h = k :=
  rel_ext h1.1 h2.1 fun i j => by rw [h1.2, h2.2, he]
theorem IsHull.closed {n : Nat} {r : Nat → Nat → Prop} {h : List (List Nat)} (h1 : IsHull n r h) : ClosedM h := fun i j k a b => by
  rw [h1.2] at a b ⊢
  exact a.trans b
theorem rel_set {n : Nat} {a : List (List Nat)} (ha : Good n a) {i j : Nat} (hi : i < n) (hj : j < n) (x y : Nat) : Rel (setM a (i : Int) (j : Int)) x y ↔ Rel a x y ∨ (x = i ∧ y = j) := by
  unfold Rel
  rw [hasM_setM ha hi hj]
  simp

/-- the row i of step k: joined with row k, if it has k -/
def stepR (a : List (List Nat)) (k : Nat) (r : List Nat) : List Nat := if hasR r (k : Int) = true then orR r (a.getD k []) else r
def stepM (a : List (List Nat)) (k q : Nat) : List (List Nat) := (List.range a.length).map fun i => if i < q then stepR a k (a.getD i []) else a.getD i []
theorem stepM_len (a : List (List Nat)) (k q : Nat) : (stepM a k q).length = a.length := by simp [stepM]
theorem stepM_get {a : List (List Nat)} {k q i : Nat} {r : List Nat} (h : a[i]? = some r) : (stepM a k q)[i]? = some (if i < q then stepR a k r else r) := by
  unfold stepM
  have hi := (List.getElem?_eq_some_iff.1 h).1
  rw [List.getElem?_map, List.getElem?_range hi, Option.map_some, getD_at h]
theorem stepR_good {n : Nat} {a : List (List Nat)} (ha : Good n a) {k : Nat} (hk : k < n) {r : List Nat} (hr : r ∈ a) : W64 (stepR a k r) ∧ (stepR a k r).length = r.length ∧ ∀ j : Nat, hasR (stepR a k r) (j : Int) = (hasR r (j : Int) || (hasR r (k : Int) && hasM a (k : Int) (j : Int))) := by
  obtain ⟨s, hs, hws, _⟩ := ha.at_ hk
  have h1 := ha.row r hr
  have h2 := ha.row s (List.mem_of_getElem? hs)
  unfold stepR
  rw [getD_at hs]
  by_cases h : hasR r (k : Int) = true
  · rw [if_pos h]
    refine ⟨orR_w64 h1.1 hws, by rw [orR_len, h1.2.2.1, h2.2.2.1, Nat.max_self], fun j => ?_⟩
    rw [hasR_orR, h, hasM_in hs, Bool.true_and]
  · rw [if_neg h]
    refine ⟨h1.1, rfl, fun j => ?_⟩
    rw [Bool.not_eq_true] at h
    rw [h, Bool.false_and, Bool.or_false]
theorem stepM_good {n : Nat} {a : List (List Nat)} (ha : Good n a) {k : Nat} (hk : k < n) (q : Nat) : Good n (stepM a k q) := by
  refine ⟨ha.le, by rw [stepM_len, ha.len], fun r hr => ?_⟩
  obtain ⟨i, hi⟩ := List.getElem?_of_mem hr
  have hil : i < a.length := by
    have := (List.getElem?_eq_some_iff.1 hi).1
    rwa [stepM_len] at this
  have hx : a[i]? = some a[i] := List.getElem?_eq_getElem hil
  rw [stepM_get hx] at hi
  injection hi with hi
  have h0 := ha.row _ (List.mem_of_getElem? hx)
  by_cases hq : i < q
  · rw [if_pos hq] at hi
    obtain ⟨h1, h2, h3⟩ := stepR_good ha hk (List.mem_of_getElem? hx)
    subst hi
    refine ⟨h1, by rw [h2]; exact h0.2.1, by rw [h2]; exact h0.2.2.1, fun j hj => ?_⟩
    rw [h3 j, h0.2.2.2 j hj]
    cases hh : hasM a (k : Int) (j : Int) with
    | false => simp
    | true => exact absurd (ha.has_lt hh).2 (by omega)
  · rw [if_neg hq] at hi
    subst hi
    exact h0
theorem stepM_rel {n : Nat} {a : List (List Nat)} (ha : Good n a) {k : Nat} (hk : k < n) (i j : Nat) : Rel (stepM a k n) i j ↔ Rel a i j ∨ (Rel a i k ∧ Rel a k j) := by
  unfold Rel
  by_cases hi : i < n
  · obtain ⟨r, hr, _, _⟩ := ha.at_ hi
    have h1 := stepM_get (k := k) (q := n) hr
    rw [if_pos hi] at h1
    obtain ⟨_, _, h3⟩ := stepR_good ha hk (List.mem_of_getElem? hr)
    rw [hasM_in h1, h3 j, hasM_in hr, hasM_in hr, Bool.or_eq_true, Bool.and_eq_true]
  · rw [hasM_out (xss := stepM a k n) (.inr (by rw [stepM_len, ha.len]; omega)), hasM_out (xss := a) (i := (i : Int)) (.inr (by rw [ha.len]; omega)), hasM_out (xss := a) (i := (i : Int)) (.inr (by rw [ha.len]; omega))]
    simp
/-- the hull, step by step -/
def closeK (a : List (List Nat)) : Nat → List (List Nat)
  | 0 => a
  | k + 1 => stepM (closeK a k) k a.length
theorem closeK_facts {n : Nat} {a : List (List Nat)} (ha : Good n a) : ∀ k, k ≤ n → Good n (closeK a k) ∧ ∀ i j, Rel (closeK a k) i j ↔ Wk (Rel a) k i j
  | 0, _ => ⟨ha, fun i j => Iff.rfl⟩
  | k + 1, hk => by
    obtain ⟨h1, h2⟩ := closeK_facts ha k (by omega)
    show Good n (stepM (closeK a k) k a.length) ∧ ∀ i j, Rel (stepM (closeK a k) k a.length) i j ↔ _
    rw [ha.len]
    refine ⟨stepM_good h1 (by omega) n, fun i j => ?_⟩
    rw [stepM_rel h1 (by omega)]
    show _ ↔ Wk (Rel a) k i j ∨ (Wk (Rel a) k i k ∧ Wk (Rel a) k k j)
    rw [h2, h2, h2]
theorem closeK_hull {n : Nat} {a : List (List Nat)} (ha : Good n a) : IsHull n (Rel a) (closeK a n) := by
  obtain ⟨h1, h2⟩ := closeK_facts ha n (Nat.le_refl _)
  exact ⟨h1, fun i j => by rw [h2, Wk.all ha.rel_lt]⟩

end Go.Proofs.YtbeigdbljepfkaaGreat

namespace Go.Proofs.YtbeigdbljepfkaaGreat
set_option linter.unusedVariables false

theorem mem_rowPo {is : List It} {a n : Nat} {i j : Nat} : ((i : Int), (j : Int)) ∈ rowPo is a n ↔ i = a ∧ j < n ∧ aheadF is a j = true := by
  unfold rowPo
  rw [List.mem_map]
  constructor
  · rintro ⟨k, hk, he⟩
    obtain ⟨h1, h2⟩ := List.mem_filter.1 hk
    have h1 := List.mem_range.1 h1
    injection he with e1 e2
    have e1 : a = i := by omega
    have e2 : k = j := by omega
    subst e1; subst e2
    exact ⟨rfl, h1, h2⟩
  · rintro ⟨rfl, h1, h2⟩
    exact ⟨j, List.mem_filter.2 ⟨List.mem_range.2 h1, h2⟩, rfl⟩
theorem mem_uptoPo {is : List It} {n m : Nat} {i j : Nat} : ((i : Int), (j : Int)) ∈ uptoPo is n m ↔ i < m ∧ j < n ∧ aheadF is i j = true := by
  unfold uptoPo
  rw [List.mem_flatMap]
  constructor
  · rintro ⟨a, ha, h⟩
    obtain ⟨rfl, h1, h2⟩ := mem_rowPo.1 h
    exact ⟨List.mem_range.1 ha, h1, h2⟩
  · rintro ⟨h0, h1, h2⟩
    exact ⟨i, List.mem_range.2 h0, mem_rowPo.2 ⟨rfl, h1, h2⟩⟩
theorem uptoPo_ok (is : List It) (n m : Nat) (h : m ≤ n) : ∀ x ∈ uptoPo is n m, okP (n : Int) x = true := fun x hx => by
  unfold uptoPo at hx
  obtain ⟨a, ha, h1⟩ := List.mem_flatMap.1 hx
  have ha := List.mem_range.1 ha
  unfold rowPo at h1
  obtain ⟨k, hk, rfl⟩ := List.mem_map.1 h1
  have hk := List.mem_range.1 (List.mem_filter.1 hk).1
  unfold okP inM
  simp; omega
theorem poM_good {is : List It} (h : is.length ≤ 4096) : Good is.length (poM is) ∧ ∀ i j : Nat, hasM (poM is) (i : Int) (j : Int) = aheadF is i j := by
  obtain ⟨h1, h2⟩ := foldP_facts h (uptoPo is is.length is.length) (uptoPo_ok is _ _ (Nat.le_refl _))
  refine ⟨h1, fun i j => ?_⟩
  unfold poM
  rw [h2 i j, Bool.eq_iff_iff, decide_eq_true_eq, mem_uptoPo]
  constructor
  · exact fun h => h.2.2
  · intro h
    have := aheadF_in h
    exact ⟨by omega, by omega, h⟩
end Go.Proofs.YtbeigdbljepfkaaGreat

namespace Go.Proofs.YtbeigdbljepfkaaGreat
set_option linter.unusedVariables false

/-- is it a write of this value to this variable? -/
def hitW (v val : Int) (x : It) : Bool := x.wr && (decide (x.va = v) && decide (x.vl = val))
/-- the first write of a value to a variable -/
def writeF (is : List It) (v val : Int) : Option Nat := is.findIdx? (hitW v val)
theorem writeF_at {is : List It} {v val : Int} {k : Nat} {x : It} (hx : is[k]? = some x) (h : hitW v val x = true) (hn : ∀ j, j < k → ∀ y, is[j]? = some y → hitW v val y = false) : writeF is v val = some k := by
  obtain ⟨hk, he⟩ := List.getElem?_eq_some_iff.1 hx
  unfold writeF
  rw [List.findIdx?_eq_some_iff_getElem]
  exact ⟨hk, by rw [he]; exact h, fun j hj => by rw [hn j hj _ (List.getElem?_eq_getElem (by omega))]; simp⟩
theorem writeF_none {is : List It} {v val : Int} (hn : ∀ (j : Nat) (y : It), is[j]? = some y → hitW v val y = false) : writeF is v val = none := by
  unfold writeF
  rw [List.findIdx?_eq_none_iff]
  intro x hx
  obtain ⟨j, hj, e⟩ := List.mem_iff_getElem.1 hx
  exact hn j x (by rw [← e]; exact List.getElem?_eq_getElem hj)
theorem writeF_some {is : List It} {v val : Int} {k : Nat} (h : writeF is v val = some k) : ∃ x, is[k]? = some x ∧ hitW v val x = true ∧ ∀ (j : Nat) (y : It), j < k → is[j]? = some y → hitW v val y = false := by
  unfold writeF at h
  rw [List.findIdx?_eq_some_iff_getElem] at h
  obtain ⟨hk, h1, h2⟩ := h
  refine ⟨is[k], List.getElem?_eq_getElem hk, h1, fun j y hj hy => ?_⟩
  obtain ⟨hjl, e⟩ := List.getElem?_eq_some_iff.1 hy
  have := h2 j hj
  rw [e] at this
  simpa using this
/-- what item j says of it -/
def stepC (is : List It) (j : Nat) : Option (Int × Int × Int) :=
  match is[j]? with
  | none => none
  | some x => if x.wr = false then none else if x.vl = 0 then some (j, j, 5) else if (writeF is x.va x.vl).getD 0 < j then some (((writeF is x.va x.vl).getD 0 : Nat), j, 4) else none
/-- is a history differentiated? -/
def checkF (is : List It) : Int × Int × Int := ((List.range is.length).findSome? (stepC is)).getD (0, 0, 0)
theorem range_first {n j : Nat} {α : Type} {f : Nat → Option α} {a : α} (hj : j < n) (h : f j = some a) (hn : ∀ i, i < j → f i = none) : (List.range n).findSome? f = some a := by
  rw [List.findSome?_eq_some_iff]
  refine ⟨List.range j, j, List.range' (j + 1) (n - j - 1), ?_, h, fun x hx => hn x (by simpa using hx)⟩
  rw [List.range_eq_range', List.range_eq_range', show n = j + (n - j) by omega, ← List.range'_append_1, show j + (n - j) - j - 1 = n - j - 1 by omega]
  congr 1
  rw [show n - j = (n - j - 1) + 1 by omega, List.range'_succ]
  simp
theorem checkF_at {is : List It} {j : Nat} {r : Int × Int × Int} (h : stepC is j = some r) (hn : ∀ i, i < j → stepC is i = none) : checkF is = r := by
  have hj : j < is.length := by
    rcases Nat.lt_or_ge j is.length with h1 | h1
    · exact h1
    · unfold stepC at h; rw [List.getElem?_eq_none h1] at h; cases h
  unfold checkF
  rw [range_first hj h hn]; rfl
theorem checkF_none {is : List It} (hn : ∀ i, i < is.length → stepC is i = none) : checkF is = (0, 0, 0) := by
  unfold checkF
  have : (List.range is.length).findSome? (stepC is) = none := by
    rw [List.findSome?_eq_none_iff]
    exact fun x hx => hn x (by simpa using hx)
  rw [this]; rfl
end Go.Proofs.YtbeigdbljepfkaaGreat

namespace Go.Proofs.YtbeigdbljepfkaaGreat
set_option linter.unusedVariables false

/-- what an item reads from -/
def fromOne (is : List It) (x : It) : Int := if x.wr = true then -3 else if x.vl = 0 then -1 else match writeF is x.va x.vl with | some w => (w : Int) | none => -2
def fromF (is : List It) : List Int := is.map (fromOne is)
def fillF (f : Fac) : Fac := ⟨f.vars, f.items, fromF f.items⟩
theorem fromF_len (is : List It) : (fromF is).length = is.length := List.length_map _
theorem fromF_at {is : List It} {k : Nat} {x : It} (h : is[k]? = some x) : (fromF is)[k]? = some (fromOne is x) := by unfold fromF; rw [List.getElem?_map, h]; rfl
theorem fromF_take {is : List It} {k : Nat} {x : It} (h : is[k]? = some x) : (fromF is).take (k + 1) = (fromF is).take k ++ [fromOne is x] := by
  rw [List.take_add_one, fromF_at h]; rfl
theorem fromOne_range (is : List It) (x : It) : -3 ≤ fromOne is x ∧ fromOne is x < (is.length : Int) := by
  unfold fromOne
  split
  · omega
  · split
    · omega
    · cases h : writeF is x.va x.vl with
      | none => simp only; omega
      | some w =>
        obtain ⟨y, hy, _⟩ := writeF_some h
        have := (List.getElem?_eq_some_iff.1 hy).1
        simp only; omega

/-! ### how many reads read from a write -/
end Go.Proofs.YtbeigdbljepfkaaGreat

namespace Go.Proofs.YtbeigdbljepfkaaGreat
set_option linter.unusedVariables false

/-- the pairs of writes and their reads, of the first i reads -/
def rfPs (frm : List Int) (i : Nat) : List (Int × Int) := ((List.range i).filter fun k => decide (0 ≤ frm.getD k 0)).map fun (k : Nat) => (frm.getD k 0, (k : Int))
def rfM (n : Nat) (frm : List Int) : List (List Nat) := foldP n (rfPs frm frm.length)
def edgeM (f : Fac) : List (List Nat) := orM (poM f.items) (rfM f.items.length f.frm)
def coM (f : Fac) : List (List Nat) := closeK (edgeM f) f.items.length
theorem rfPs_succ (frm : List Int) (i : Nat) : rfPs frm (i + 1) = if 0 ≤ frm.getD i 0 then rfPs frm i ++ [(frm.getD i 0, (i : Int))] else rfPs frm i := by
  unfold rfPs
  rw [List.range_succ, List.filter_append]
  split
  · rename_i h; rw [List.filter_cons_of_pos (by exact decide_eq_true h)]; simp
  · rename_i h; rw [List.filter_cons_of_neg (by simpa using h)]; simp
theorem mem_rfPs {frm : List Int} {n i j : Nat} : ((i : Int), (j : Int)) ∈ rfPs frm n ↔ j < n ∧ frm.getD j 0 = (i : Int) := by
  unfold rfPs
  rw [List.mem_map]
  constructor
  · rintro ⟨k, hk, he⟩
    obtain ⟨h1, h2⟩ := List.mem_filter.1 hk
    have h1 := List.mem_range.1 h1
    injection he with e1 e2
    have e2 : k = j := by omega
    subst e2
    exact ⟨h1, e1⟩
  · rintro ⟨h1, h2⟩
    exact ⟨j, List.mem_filter.2 ⟨List.mem_range.2 h1, by rw [h2]; exact decide_eq_true (by omega)⟩, by rw [h2]⟩
/-- of whole facts: each read's write is an item -/
structure WholeF (f : Fac) : Prop where
  len : f.frm.length = f.items.length
  lt : ∀ z ∈ f.frm, z < (f.items.length : Int)
theorem fillF_whole (f : Fac) : WholeF (fillF f) := ⟨fromF_len _, fun z hz => by
  have hz : z ∈ f.items.map (fromOne f.items) := hz
  obtain ⟨x, -, rfl⟩ := List.mem_map.1 hz
  exact (fromOne_range _ _).2⟩
theorem rfPs_ok {f : Fac} (hw : WholeF f) : ∀ x ∈ rfPs f.frm f.frm.length, okP (f.items.length : Int) x = true := fun x hx => by
  unfold rfPs at hx
  obtain ⟨k, hk, rfl⟩ := List.mem_map.1 hx
  obtain ⟨h1, h2⟩ := List.mem_filter.1 hk
  have h1 := List.mem_range.1 h1
  have h2 := of_decide_eq_true h2
  have h3 := hw.len
  have h4 : f.frm.getD k 0 < (f.items.length : Int) := hw.lt _ (by rw [List.getD_eq_getElem?_getD, List.getElem?_eq_getElem h1]; exact List.getElem_mem h1)
  unfold okP inM
  simp only [Bool.and_eq_true, decide_eq_true_eq]
  omega
theorem rfM_good {f : Fac} (hw : WholeF f) (h : f.items.length ≤ 4096) : Good f.items.length (rfM f.items.length f.frm) ∧ ∀ i j : Nat, Rel (rfM f.items.length f.frm) i j ↔ j < f.items.length ∧ f.frm.getD j 0 = (i : Int) := by
  obtain ⟨h1, h2⟩ := foldP_facts h (rfPs f.frm f.frm.length) (rfPs_ok hw)
  refine ⟨h1, fun i j => ?_⟩
  unfold Rel rfM
  rw [h2 i j, decide_eq_true_eq, mem_rfPs, hw.len]
theorem orM_at {a b : List (List Nat)} {i : Nat} {r s : List Nat} (hr : a[i]? = some r) (hs : b[i]? = some s) : (orM a b)[i]? = some (orR r s) := by
  have hi := (List.getElem?_eq_some_iff.1 hr).1
  unfold orM
  rw [List.getElem?_map, List.getElem?_range hi, Option.map_some, getD_at hr, getD_at hs]
theorem orM_good {n : Nat} {a b : List (List Nat)} (ha : Good n a) (hb : Good n b) : Good n (orM a b) ∧ ∀ i j : Nat, Rel (orM a b) i j ↔ Rel a i j ∨ Rel b i j := by
  have hat : ∀ i, i < n → ∃ r s, a[i]? = some r ∧ b[i]? = some s ∧ (orM a b)[i]? = some (orR r s) := fun i hi => by
    obtain ⟨r, hr, -, -⟩ := ha.at_ hi
    obtain ⟨s, hs, -, -⟩ := hb.at_ hi
    exact ⟨r, s, hr, hs, orM_at hr hs⟩
  have hG : Good n (orM a b) := by
    refine ⟨ha.le, by rw [orM_len, ha.len], fun x hx => ?_⟩
    obtain ⟨i, hi⟩ := List.getElem?_of_mem hx
    have hil : i < n := by
      have := (List.getElem?_eq_some_iff.1 hi).1
      rwa [orM_len, ha.len] at this
    obtain ⟨r, s, hr, hs, ho⟩ := hat i hil
    rw [ho] at hi
    injection hi with hi
    subst hi
    have h1 := ha.row r (List.mem_of_getElem? hr)
    have h2 := hb.row s (List.mem_of_getElem? hs)
    have hl : (orR r s).length = r.length := by rw [orR_len, h1.2.2.1, h2.2.2.1]; omega
    refine ⟨orR_w64 h1.1 h2.1, by rw [hl]; exact h1.2.1, by rw [hl]; exact h1.2.2.1, fun j hj => ?_⟩
    rw [hasR_orR, h1.2.2.2 j hj, h2.2.2.2 j hj]; rfl
  refine ⟨hG, fun i j => ?_⟩
  unfold Rel
  by_cases hi : i < n
  · obtain ⟨r, s, hr, hs, ho⟩ := hat i hi
    rw [hasM_in ho, hasM_in hr, hasM_in hs, hasR_orR, Bool.or_eq_true]
  · rw [hasM_out (.inr (by rw [orM_len, ha.len]; omega)), hasM_out (.inr (by rw [ha.len]; omega)), hasM_out (.inr (by rw [hb.len]; omega))]; simp
/-- the edges of whole facts -/
theorem edgeM_good {f : Fac} (hw : WholeF f) (h : f.items.length ≤ 4096) : Good f.items.length (edgeM f) ∧ ∀ i j : Nat, Rel (edgeM f) i j ↔ aheadF f.items i j = true ∨ (j < f.items.length ∧ f.frm.getD j 0 = (i : Int)) := by
  have hp := poM_good h
  have hr := rfM_good hw h
  have ho := orM_good hp.1 hr.1
  refine ⟨ho.1, fun i j => ?_⟩
  rw [show edgeM f = orM (poM f.items) (rfM f.items.length f.frm) from rfl, ho.2, hr.2]
  unfold Rel
  rw [hp.2]
theorem coM_hull {f : Fac} (hw : WholeF f) (h : f.items.length ≤ 4096) : IsHull f.items.length (Rel (edgeM f)) (coM f) := closeK_hull (edgeM_good hw h).1
end Go.Proofs.YtbeigdbljepfkaaGreat

namespace Go.Proofs.YtbeigdbljepfkaaGreat
open Go.RowKit
set_option linter.unusedVariables false

/-- a conflict: two writes and a read -/
structure Ed where
  w1 : Int
  w2 : Int
  rd : Int
deriving DecidableEq
structure Ed.Ok (e : Ed) : Prop where
  a0 : -9223372036854775808 ≤ e.w1
  a1 : e.w1 < 9223372036854775808
  b0 : -9223372036854775808 ≤ e.w2
  b1 : e.w2 < 9223372036854775808
  r0 : -9223372036854775808 ≤ e.rd
  r1 : e.rd < 9223372036854775808
def encE : Enc Ed := { cells := fun e => [.int .i64 e.w1, .int .i64 e.w2, .int .i64 e.rd], sz := 3, pos := by decide, len := fun _ => rfl, one := fun x u h => by simp only [List.mem_cons, List.not_mem_nil, or_false] at h; rcases h with rfl | rfl | rfl <;> rfl, ok := Ed.Ok }
theorem LAt.edge {w : World} {A : Option Addr} {n k : Nat} {xs : List Ed} (h : LAt encE w A n xs) (hk : k < n) : ∃ b off x, A = some ⟨b, off, none⟩ ∧ b < w.heap.size ∧ xs[k]? = some x ∧ Ed.Ok x ∧
    w.cell? ⟨b, off + k * 3, none⟩ = some (.int .i64 x.w1) ∧ w.cell? ⟨b, off + k * 3 + 1, none⟩ = some (.int .i64 x.w2) ∧ w.cell? ⟨b, off + k * 3 + 2, none⟩ = some (.int .i64 x.rd) := by
  obtain ⟨b, off, x, e, hb, hx, hok, hc⟩ := h.at_ hk
  exact ⟨b, off, x, e, hb, hx, hok, hc 0 _ rfl, hc 1 _ rfl, hc 2 _ rfl⟩

/-- both are writes, to one variable -/
def bothW (is : List It) (a b : Nat) : Bool := match is[a]?, is[b]? with | some x, some y => x.wr && y.wr && decide (x.va = y.va) | _, _ => false
theorem bothW_at {is : List It} {a b : Nat} {x y : It} (hx : is[a]? = some x) (hy : is[b]? = some y) : bothW is a b = (x.wr && y.wr && decide (x.va = y.va)) := by unfold bothW; rw [hx, hy]
/-- the pairs of conflicts -/
def edP (l : List Ed) : List (Int × Int) := l.map fun e => (e.w1, e.w2)
theorem edP_take {l : List Ed} {q : Nat} {x : Ed} (h : l[q]? = some x) (M : List (List Nat)) : (edP (l.take (q + 1))).foldl setP M = setM ((edP (l.take q)).foldl setP M) x.w1 x.w2 := by
  have hq := (List.getElem?_eq_some_iff.1 h).1
  unfold edP
  rw [List.take_succ_eq_append_getElem hq, List.map_append, List.foldl_append, (List.getElem?_eq_some_iff.1 h).2]
  rfl
end Go.Proofs.YtbeigdbljepfkaaGreat

namespace Go.Proofs.YtbeigdbljepfkaaGreat
open Go.RowKit
set_option linter.unusedVariables false

/-! ### what a round finds -/
def nwG (f : Fac) (X : List (List Nat)) (a b : Nat) : Bool := decide (a ≠ b) && bothW f.items a b && !(hasM X (a : Int) (b : Int))
def nwK (f : Fac) (X : List (List Nat)) (a b : Nat) (r : Int) : Bool := decide (f.frm.getD r.toNat 0 = (b : Int)) && hasM X (a : Int) r
def nwO (f : Fac) (X : List (List Nat)) (kept : List Int) (a b : Nat) : Option Ed := if nwG f X a b = true then (kept.find? (nwK f X a b)).map (fun r => ⟨(a : Int), (b : Int), r⟩) else none
def nwB (f : Fac) (X : List (List Nat)) (kept : List Int) (a k : Nat) : List Ed := (List.range k).flatMap fun b => (nwO f X kept a b).toList
def nwA (f : Fac) (X : List (List Nat)) (kept : List Int) (n k : Nat) : List Ed := (List.range k).flatMap fun a => nwB f X kept a n
def newF (f : Fac) (X : List (List Nat)) (kept : List Int) : List Ed := nwA f X kept f.items.length f.items.length
section
variable {f : Fac} {X : List (List Nat)} {kept : List Int}
theorem nwB_zero (a : Nat) : nwB f X kept a 0 = [] := rfl
theorem nwA_zero (n : Nat) : nwA f X kept n 0 = [] := rfl
theorem nwB_succ (a k : Nat) : nwB f X kept a (k + 1) = nwB f X kept a k ++ (nwO f X kept a k).toList := by
  unfold nwB; rw [List.range_succ, List.flatMap_append]; simp
theorem nwA_succ (n k : Nat) : nwA f X kept n (k + 1) = nwA f X kept n k ++ nwB f X kept k n := by
  unfold nwA; rw [List.range_succ, List.flatMap_append]; simp
theorem nwO_len (a b : Nat) : (nwO f X kept a b).toList.length ≤ 1 := by cases nwO f X kept a b <;> simp
theorem nwB_len (a : Nat) : ∀ k, (nwB f X kept a k).length ≤ k
  | 0 => by simp [nwB_zero]
  | k + 1 => by rw [nwB_succ, List.length_append]; have := nwB_len a k; have := nwO_len (f := f) (X := X) (kept := kept) a k; omega
theorem nwA_len (n : Nat) : ∀ k, (nwA f X kept n k).length ≤ k * n
  | 0 => by simp [nwA_zero]
  | k + 1 => by rw [nwA_succ, List.length_append, Nat.succ_mul]; have := nwA_len n k; have := nwB_len (f := f) (X := X) (kept := kept) k n; omega
theorem nwO_some {a b : Nat} {x : Ed} (h : nwO f X kept a b = some x) : nwG f X a b = true ∧ x.w1 = (a : Int) ∧ x.w2 = (b : Int) ∧ x.rd ∈ kept ∧ nwK f X a b x.rd = true := by
  unfold nwO at h
  split at h
  · rename_i hg
    cases hr : kept.find? (nwK f X a b) with
    | none => rw [hr] at h; cases h
    | some r =>
      rw [hr] at h
      simp only [Option.map_some, Option.some.injEq] at h
      subst h
      exact ⟨hg, rfl, rfl, List.mem_of_find?_eq_some hr, List.find?_some hr⟩
  · cases h
theorem mem_nwB {a k : Nat} {x : Ed} : x ∈ nwB f X kept a k ↔ ∃ b, b < k ∧ nwO f X kept a b = some x := by
  unfold nwB
  rw [List.mem_flatMap]
  constructor
  · rintro ⟨b, hb, hx⟩; exact ⟨b, List.mem_range.1 hb, by rwa [Option.mem_toList] at hx⟩
  · rintro ⟨b, hb, hx⟩; exact ⟨b, List.mem_range.2 hb, by rwa [Option.mem_toList]⟩
theorem mem_nwA {n k : Nat} {x : Ed} : x ∈ nwA f X kept n k ↔ ∃ a b, a < k ∧ b < n ∧ nwO f X kept a b = some x := by
  unfold nwA
  rw [List.mem_flatMap]
  constructor
  · rintro ⟨a, ha, hx⟩
    obtain ⟨b, hb, h⟩ := mem_nwB.1 hx
    exact ⟨a, b, List.mem_range.1 ha, hb, h⟩
  · rintro ⟨a, b, ha, hb, h⟩; exact ⟨a, List.mem_range.2 ha, mem_nwB.2 ⟨b, hb, h⟩⟩
theorem mem_newF {x : Ed} : x ∈ newF f X kept ↔ ∃ a b, a < f.items.length ∧ b < f.items.length ∧ nwO f X kept a b = some x := mem_nwA
/-- what a round finds, in words -/
theorem newF_some {x : Ed} (h : x ∈ newF f X kept) : ∃ a b : Nat, a < f.items.length ∧ b < f.items.length ∧ x.w1 = (a : Int) ∧ x.w2 = (b : Int) ∧ a ≠ b ∧ bothW f.items a b = true ∧ ¬ Rel X a b ∧ x.rd ∈ kept ∧ f.frm.getD x.rd.toNat 0 = (b : Int) ∧ hasM X (a : Int) x.rd = true := by
  obtain ⟨a, b, ha, hb, h⟩ := mem_newF.1 h
  obtain ⟨h1, h2, h3, h4, h5⟩ := nwO_some h
  unfold nwG at h1
  unfold nwK at h5
  simp only [Bool.and_eq_true, Bool.not_eq_true', decide_eq_true_eq] at h1 h5
  exact ⟨a, b, ha, hb, h2, h3, h1.1.1, h1.1.2, by unfold Rel; rw [h1.2]; simp, h4, h5.1, h5.2⟩
/-- each pair is found once -/
theorem nwB_nodup (a : Nat) : ∀ k, (edP (nwB f X kept a k)).Nodup
  | 0 => by simp [nwB_zero, edP]
  | k + 1 => by
    unfold edP
    rw [nwB_succ, List.map_append]
    refine List.nodup_append.2 ⟨nwB_nodup a k, ?_, fun p hp q hq e => ?_⟩
    · cases nwO f X kept a k <;> simp
    · obtain ⟨x, hx, rfl⟩ := List.mem_map.1 hp
      obtain ⟨y, hy, rfl⟩ := List.mem_map.1 hq
      rw [Option.mem_toList] at hy
      obtain ⟨b, hb, hx⟩ := mem_nwB.1 hx
      obtain ⟨-, -, h1, -, -⟩ := nwO_some hx
      obtain ⟨-, -, h2, -, -⟩ := nwO_some hy
      injection e with e1 e2
      omega
theorem nwA_nodup (n : Nat) : ∀ k, (edP (nwA f X kept n k)).Nodup
  | 0 => by simp [nwA_zero, edP]
  | k + 1 => by
    unfold edP
    rw [nwA_succ, List.map_append]
    refine List.nodup_append.2 ⟨nwA_nodup n k, nwB_nodup k n, fun p hp q hq e => ?_⟩
    obtain ⟨x, hx, rfl⟩ := List.mem_map.1 hp
    obtain ⟨y, hy, rfl⟩ := List.mem_map.1 hq
    obtain ⟨a, b, ha, -, hx⟩ := mem_nwA.1 hx
    obtain ⟨b', -, hy⟩ := mem_nwB.1 hy
    obtain ⟨-, h1, -, -, -⟩ := nwO_some hx
    obtain ⟨-, h2, -, -, -⟩ := nwO_some hy
    injection e with e1 e2
    omega
theorem newF_ok : ∀ p ∈ edP (newF f X kept), okP (f.items.length : Int) p = true := fun p hp => by
  obtain ⟨x, hx, rfl⟩ := List.mem_map.1 hp
  obtain ⟨a, b, ha, hb, h1, h2, -⟩ := newF_some hx
  unfold okP inM
  simp only [h1, h2, Bool.and_eq_true, decide_eq_true_eq]
  omega
end
/-! ### the rounds -/
def seX (f : Fac) (kept : List Int) (B : List (List Nat)) : Nat → List (List Nat)
  | 0 => B
  | k + 1 => closeK ((edP (newF f (seX f kept B k) kept)).foldl setP (seX f kept B k)) f.items.length
def seL (f : Fac) (kept : List Int) (B : List (List Nat)) : Nat → List Ed
  | 0 => []
  | k + 1 => seL f kept B k ++ newF f (seX f kept B k) kept
/-- the rounds that find something are the first k ones -/
def SeenIs (f : Fac) (kept : List Int) (B : List (List Nat)) (k : Nat) : Prop := (∀ j, j < k → newF f (seX f kept B j) kept ≠ []) ∧ newF f (seX f kept B k) kept = []
section
variable {f : Fac} {kept : List Int} {B : List (List Nat)}
theorem SeenIs.unique {j k : Nat} (h : SeenIs f kept B j) (h' : SeenIs f kept B k) : j = k := by
  rcases Nat.lt_trichotomy j k with h1 | h1 | h1
  · exact absurd h.2 (h'.1 j h1)
  · exact h1
  · exact absurd h'.2 (h.1 k h1)
theorem seX_good (hB : Good f.items.length B) : ∀ k, Good f.items.length (seX f kept B k)
  | 0 => hB
  | k + 1 => (closeK_hull (fold_facts _ _ (seX_good hB k) newF_ok).1).1
theorem seX_hull (hB : Good f.items.length B) (k : Nat) : IsHull f.items.length (Rel ((edP (newF f (seX f kept B k) kept)).foldl setP (seX f kept B k))) (seX f kept B (k + 1)) := closeK_hull (fold_facts _ _ (seX_good hB k) newF_ok).1
theorem seX_rel (hB : Good f.items.length B) (k i j : Nat) : Rel ((edP (newF f (seX f kept B k) kept)).foldl setP (seX f kept B k)) i j ↔ Rel (seX f kept B k) i j ∨ ((i : Int), (j : Int)) ∈ edP (newF f (seX f kept B k) kept) := by
  unfold Rel
  rw [(fold_facts _ _ (seX_good hB k) newF_ok).2, Bool.or_eq_true, decide_eq_true_eq]
theorem seX_step (hB : Good f.items.length B) (k i j : Nat) (h : Rel (seX f kept B k) i j) : Rel (seX f kept B (k + 1)) i j :=
  ((seX_hull hB k).2 i j).2 (.one ((seX_rel hB k i j).2 (.inl h)))
theorem seX_new (hB : Good f.items.length B) (k i j : Nat) (h : ((i : Int), (j : Int)) ∈ edP (newF f (seX f kept B k) kept)) : Rel (seX f kept B (k + 1)) i j :=
  ((seX_hull hB k).2 i j).2 (.one ((seX_rel hB k i j).2 (.inr h)))
theorem seX_closed (hB : Good f.items.length B) (hc : ClosedM B) : ∀ k, ClosedM (seX f kept B k)
  | 0 => hc
  | k + 1 => (seX_hull hB k).closed
theorem seL_pairs (hB : Good f.items.length B) : ∀ k, ∀ x ∈ seL f kept B k, ∃ a b : Nat, a < f.items.length ∧ b < f.items.length ∧ x.w1 = (a : Int) ∧ x.w2 = (b : Int) ∧ bothW f.items a b = true ∧ Rel (seX f kept B k) a b
  | 0, x, h => by cases h
  | k + 1, x, h => by
    rcases List.mem_append.1 h with h | h
    · obtain ⟨a, b, ha, hb, e1, e2, hbo, hr⟩ := seL_pairs hB k x h
      exact ⟨a, b, ha, hb, e1, e2, hbo, seX_step hB k a b hr⟩
    · obtain ⟨a, b, ha, hb, e1, e2, hne, hbo, -⟩ := newF_some h
      exact ⟨a, b, ha, hb, e1, e2, hbo, seX_new hB k a b (List.mem_map.2 ⟨x, h, by rw [e1, e2]⟩)⟩
theorem seL_nodup (hB : Good f.items.length B) : ∀ k, (edP (seL f kept B k)).Nodup
  | 0 => by simp [seL, edP]
  | k + 1 => by
    unfold edP
    rw [seL, List.map_append]
    refine List.nodup_append.2 ⟨seL_nodup hB k, nwA_nodup _ _, fun p hp q hq e => ?_⟩
    obtain ⟨x, hx, rfl⟩ := List.mem_map.1 hp
    obtain ⟨y, hy, rfl⟩ := List.mem_map.1 hq
    obtain ⟨a, b, ha, hb, e1, e2, hbo, hr⟩ := seL_pairs hB k x hx
    obtain ⟨a', b', ha', hb', e1', e2', -, -, hno, -⟩ := newF_some hy
    injection e with e3 e4
    obtain rfl : a = a' := by omega
    obtain rfl : b = b' := by omega
    exact hno hr
theorem seL_ge : ∀ k, (∀ j, j < k → newF f (seX f kept B j) kept ≠ []) → k ≤ (seL f kept B k).length
  | 0, _ => Nat.zero_le _
  | k + 1, h => by
    have h1 := seL_ge k (fun j hj => h j (by omega))
    have h2 := List.length_pos_iff.2 (h k (by omega))
    rw [seL, List.length_append]
    omega
end
/-- how many of the first i items are writes -/
def wrB (is : List It) (i : Nat) : Bool := match is[i]? with | some x => x.wr | none => false
def cntW (is : List It) (i : Nat) : Nat := (List.range i).countP (wrB is)
theorem cntW_le (is : List It) (i : Nat) : cntW is i ≤ i := by
  unfold cntW
  exact Nat.le_trans List.countP_le_length (by rw [List.length_range]; exact Nat.le_refl _)
theorem bothW_wr {is : List It} {a b : Nat} (h : bothW is a b = true) : wrB is a = true ∧ wrB is b = true := by
  unfold bothW at h
  unfold wrB
  cases hx : is[a]? with
  | none => rw [hx] at h; simp at h
  | some x =>
    cases hy : is[b]? with
    | none => rw [hx, hy] at h; simp at h
    | some y =>
      rw [hx, hy] at h
      simp only [Bool.and_eq_true] at h
      exact ⟨h.1.1, h.1.2⟩
theorem prod_len {α β γ : Type} (g : α → β → γ) (m : List β) : ∀ l : List α, (l.flatMap fun a => m.map (g a)).length = l.length * m.length
  | [] => by simp
  | a :: l => by rw [List.flatMap_cons, List.length_append, prod_len g m l, List.length_map, List.length_cons, Nat.succ_mul]; omega
theorem seL_len {f : Fac} {kept : List Int} {B : List (List Nat)} (hB : Good f.items.length B) (k : Nat) : (seL f kept B k).length ≤ cntW f.items f.items.length * cntW f.items f.items.length := by
  have h := (seL_nodup (kept := kept) hB k).length_le_of_subset (l₂ := ((List.range f.items.length).filter (wrB f.items)).flatMap fun (a : Nat) => ((List.range f.items.length).filter (wrB f.items)).map ((fun (a b : Nat) => ((a : Int), (b : Int))) a)) (fun p hp => by
    obtain ⟨x, hx, rfl⟩ := List.mem_map.1 hp
    obtain ⟨a, b, ha, hb, e1, e2, hbo, -⟩ := seL_pairs hB k x hx
    obtain ⟨w1, w2⟩ := bothW_wr hbo
    exact List.mem_flatMap.2 ⟨a, List.mem_filter.2 ⟨List.mem_range.2 ha, w1⟩, List.mem_map.2 ⟨b, List.mem_filter.2 ⟨List.mem_range.2 hb, w2⟩, by rw [e1, e2]⟩⟩)
  rw [prod_len, ← List.countP_eq_length_filter] at h
  unfold edP at h
  rw [List.length_map] at h
  exact h
theorem seL_okE {f : Fac} {kept : List Int} {B : List (List Nat)} (hB : Good f.items.length B) (hk : ∀ r ∈ kept, 0 ≤ r ∧ r < (f.items.length : Int)) (hl : f.items.length ≤ 1048576) : ∀ k, ∀ x ∈ seL f kept B k, Ed.Ok x
  | 0, x, h => by cases h
  | k + 1, x, h => by
    rcases List.mem_append.1 h with h | h
    · exact seL_okE hB hk hl k x h
    · obtain ⟨a, b, ha, hb, e1, e2, -, -, -, hr, -⟩ := newF_some h
      have := hk _ hr
      exact ⟨by omega, by omega, by omega, by omega, by omega, by omega⟩
theorem newF_okE {f : Fac} {kept : List Int} {X : List (List Nat)} (hk : ∀ r ∈ kept, 0 ≤ r ∧ r < (f.items.length : Int)) (hl : f.items.length ≤ 1048576) : ∀ x ∈ newF f X kept, Ed.Ok x := fun x h => by
  obtain ⟨a, b, ha, hb, e1, e2, -, -, -, hr, -⟩ := newF_some h
  have := hk _ hr
  exact ⟨by omega, by omega, by omega, by omega, by omega, by omega⟩
end Go.Proofs.YtbeigdbljepfkaaGreat

namespace Go.Proofs.YtbeigdbljepfkaaGreat
set_option linter.unusedVariables false

/-- the past of o in a matrix, up to number n -/
def colN (a : List (List Nat)) (o : Int) (n : Nat) : List Nat := (List.range n).filter fun i => hasM a (i : Int) o
/-- .. and o -/
def wihN (a : List (List Nat)) (o : Int) (n : Nat) : List Nat := (List.range n).filter fun i => decide ((i : Int) = o) || hasM a (i : Int) o
def wihF (a : List (List Nat)) (o : Int) (n : Nat) : List Int := (wihN a o n).map fun (i : Nat) => (i : Int)
def wihO (a : List (List Nat)) (o : Int) (n : Nat) : List Int := if 0 ≤ o ∧ o < (n : Int) then wihF a o n else []
/-- is a number a read's? -/
def rdOK (is : List It) (z : Int) : Bool := match is[z.toNat]? with | some x => !x.wr | none => false
def keptF (is : List It) (l : List Int) : List Int := l.filter (rdOK is)
theorem wihF_succ (a : List (List Nat)) (o : Int) (n : Nat) : wihF a o (n + 1) = if (decide ((n : Int) = o) || hasM a (n : Int) o) = true then wihF a o n ++ [(n : Int)] else wihF a o n := by
  unfold wihF wihN
  rw [List.range_succ, List.filter_append]
  split
  · rename_i h; rw [List.filter_cons_of_pos (by exact h)]; simp
  · rename_i h; rw [List.filter_cons_of_neg (by exact h)]; simp
theorem wihF_len (a : List (List Nat)) (o : Int) (n : Nat) : (wihF a o n).length ≤ n := by
  unfold wihF wihN; rw [List.length_map]; exact Nat.le_trans (List.length_filter_le _ _) (by simp)
theorem wihF_ok (a : List (List Nat)) (o : Int) (n : Nat) : ∀ z ∈ wihF a o n, 0 ≤ z ∧ z < (n : Int) := fun z hz => by
  unfold wihF wihN at hz
  obtain ⟨i, hi, rfl⟩ := List.mem_map.1 hz
  have := List.mem_range.1 (List.mem_filter.1 hi).1
  omega
theorem wihO_ok (a : List (List Nat)) (o : Int) (n : Nat) : ∀ z ∈ wihO a o n, 0 ≤ z ∧ z < (n : Int) := fun z hz => by
  unfold wihO at hz
  split at hz
  · exact wihF_ok a o n z hz
  · cases hz
theorem filter_take {p : Int → Bool} {l : List Int} {k : Nat} {z : Int} (h : l[k]? = some z) : (l.take (k + 1)).filter p = if p z = true then (l.take k).filter p ++ [z] else (l.take k).filter p := by
  have h1 := List.take_succ_eq_append_getElem (List.getElem?_eq_some_iff.1 h).1
  rw [(List.getElem?_eq_some_iff.1 h).2] at h1
  rw [h1, List.filter_append]
  split
  · rename_i h; rw [List.filter_cons_of_pos (by exact h)]; simp
  · rename_i h; rw [List.filter_cons_of_neg (by exact h)]; simp
theorem rdOK_at {is : List It} {z : Int} {x : It} (h : is[z.toNat]? = some x) : rdOK is z = !x.wr := by unfold rdOK; rw [h]

end Go.Proofs.YtbeigdbljepfkaaGreat

namespace Go.Proofs.YtbeigdbljepfkaaGreat
open Go.RowKit
set_option linter.unusedVariables false

/-- facts f, told by the slices v, lie in the variable g; of what was there in w nothing has turned -/
structure FBox (w : World) (g : Nat) (v : FV) (f : Fac) (wr : World) : Prop where
  f : FactsAt wr v f
  k : Blk wr g 29 [.slice v.A v.n v.c, .slice v.B v.m v.d, .slice v.C v.k v.e]
  o : Below w.heap.size w wr
section
variable {w wr w' : World} {g : Nat} {v : FV} {f : Fac}
theorem FBox.later (h : FBox w g v f wr) (hb : Below wr.heap.size wr w') : FBox w g v f w' := ⟨h.f.below hb, h.k.below hb h.k.lt, below_trans2 h.o hb⟩
theorem FBox.new (h : FactsAt w v f) : FBox w w.heap.size v f (w.alloc (.cells #[.slice v.A v.n v.c, .slice v.B v.m v.d, .slice v.C v.k v.e] 29)) :=
  ⟨h.below ((Below.refl _ _).alloc (Nat.le_refl _) _), Blk.new w _ _, (Below.refl _ _).alloc (Nat.le_refl _) _⟩
theorem FBox.c0 (h : FBox w g v f wr) : wr.cell? ⟨g, 0, none⟩ = some (.slice v.A v.n v.c) := h.k.cell 0
theorem FBox.c1 (h : FBox w g v f wr) : wr.cell? ⟨g, 1, none⟩ = some (.slice v.B v.m v.d) := h.k.cell 1
theorem FBox.c2 (h : FBox w g v f wr) : wr.cell? ⟨g, 2, none⟩ = some (.slice v.C v.k v.e) := h.k.cell 2
/-- .. and all that was told from an earlier world on -/
theorem FBox.from_ {w0 : World} (h : FBox w g v f wr) (hb : Below w0.heap.size w0 w) : FBox w0 g v f wr := ⟨h.f, h.k, below_trans2 hb h.o⟩
end

/-! ### facts stored into a variable of facts -/
section
variable {w w0 : World} {g k : Nat} {t : TypeId} {cs : List Value} {v u : FV} {f : Fac}
end

/-! ### an item in a variable -/
end Go.Proofs.YtbeigdbljepfkaaGreat

namespace Go.Proofs.YtbeigdbljepfkaaGreat
open Go.RowKit
set_option linter.unusedVariables false
def RetWrite (o : Option Nat) (w : World) (e : Ending) (w' : World) : Prop := e = .returned (.tuple #[.int .i64 ((o.getD 0 : Nat) : Int), .bool o.isSome]) ∧ Below w.heap.size w w'
def RetCheck (r : Int × Int × Int) (w : World) (e : Ending) (w' : World) : Prop := e = .returned (.tuple #[.int .i64 r.1, .int .i64 r.2.1, .int .i64 r.2.2]) ∧ Below w.heap.size w w'
set_option maxRecDepth 100000 in
set_option maxHeartbeats 1000000 in
theorem ref10_Write (v : FV) (f : Fac) (va vl : Int) (w : World) (hF : FactsAt w v f) :
    Calls Tryz.prog 48 #[.agg #[.slice v.A v.n v.c, .slice v.B v.m v.d, .slice v.C v.k v.e], .int .i64 va, .int .i64 vl] w (RetWrite (writeF f.items va vl) w) := by
  have hil := hF.is.len
  have him : v.m ≤ 9223372036854775807 := by have := hF.ic; have := hF.im; omega
  -- a call with facts v: they are boxed at g, the world is W0 then
  have hB0 := Lib.hid (FBox.new hF)
  obtain ⟨g, hg⟩ : ∃ g, g = w.heap.size := ⟨_, rfl⟩
  obtain ⟨W0, hW0⟩ : ∃ W, W = w.alloc (.cells #[.slice v.A v.n v.c, .slice v.B v.m v.d, .slice v.C v.k v.e] 29) := ⟨_, rfl⟩
  rw [← hW0, ← hg] at hB0
  clear hF
  have p0 := hB0.out.c0
  have p1 := hB0.out.c1
  have p2 := hB0.out.c2
  go_enter Tryz.func48, Tryz.ntmps48
  go_wp2_with (rw [← hW0, ← hg]; clear hW0 hg)
  go_loopw [8] (fun t wr => ∃ k : Nat, k ≤ v.m ∧ t = .int .i64 k ∧ wr = W0 ∧ Hid (∀ j, j < k → ∀ y, f.items[j]? = some y → hitW va vl y = false)) (fun t _ => v.m - (intOf t).toNat)
  case atStart => exact ⟨0, Nat.zero_le _, rfl, rfl, Lib.hid (fun j hj => absurd hj (by omega))⟩
  case round =>
    obtain ⟨k, hk, rfl, rfl, hall⟩ := hrel
    by_cases hlt : k < v.m
    · have hlt' : (k : Int) < (v.m : Int) := by omega
      obtain ⟨ib, io, x, hxB, hib, hx, hxo, i0, i1, i2, i3, i4⟩ := hB0.out.f.is.item hlt
      rw [hxB] at p1
      have hno := fun (h : hitW va vl x = false) => Lib.hid (show ∀ j, j < k + 1 → ∀ y, f.items[j]? = some y → hitW va vl y = false from fun j hj y hy => by
        rcases Nat.lt_succ_iff_lt_or_eq.1 hj with h1 | h1
        · exact hall.out j h1 y hy
        · subst h1; rw [hx] at hy; injection hy with hy; subst hy; exact h)
      have hyes := fun (h : hitW va vl x = true) => writeF_at hx h hall.out
      obtain ⟨xs, xp, xw, xa, xl⟩ := x
      simp only at i0 i1 i2 i3 i4
      have hh : hitW va vl ⟨xs, xp, xw, xa, xl⟩ = (xw && (decide (xa = va) && decide (xl = vl))) := rfl
      rw [hh] at hno hyes
      clear hh hxo hx hall hlt hxB
      have hkw : (k : Int) + 1 < 9223372036854775808 := by omega
      cases xw with
      | false =>
        have hn := hno rfl
        clear hno hyes
        go_wp2_with fail
        go_round
        case rel => exact ⟨k + 1, by omega, by go_num, trivial, hn⟩
        case measure => simp [intOf]; omega
      | true =>
        by_cases ha : xa = va
        · by_cases hl : xl = vl
          · have hy := hyes (by simp [ha, hl])
            clear hno hyes
            have e1 : (xa == va) = true := by simp [ha]
            have e2 : (xl == vl) = true := by simp [hl]
            replace ha := Lib.hid ha
            replace hl := Lib.hid hl
            replace hy := Lib.hid hy
            go_wp2_with fail
            exact bodyPost_ret (v := .tuple #[.int .i64 (k : Int), .bool true]) (by simp [results, go_sem]) rfl ⟨by rw [hy.out]; rfl, hB0.out.o⟩
          · have hn := hno (by simp [hl])
            clear hno hyes
            have e1 : (xa == va) = true := by simp [ha]
            have e2 : (xl == vl) = false := by simp [hl]
            replace ha := Lib.hid ha
            replace hl := Lib.hid hl
            go_wp2_with fail
            go_round
            case rel => exact ⟨k + 1, by omega, by go_num, trivial, hn⟩
            case measure => simp [intOf]; omega
        · have hn := hno (by simp [ha])
          clear hno hyes
          have e1 : (xa == va) = false := by simp [ha]
          replace ha := Lib.hid ha
          go_wp2_with fail
          go_round
          case rel => exact ⟨k + 1, by omega, by go_num, trivial, hn⟩
          case measure => simp [intOf]; omega
    · have hlt' : ¬ (k : Int) < (v.m : Int) := by omega
      have hn := Lib.hid (writeF_none (is := f.items) (v := va) (val := vl) (fun j y hy => hall.out j (by have := (List.getElem?_eq_some_iff.1 hy).1; omega) y hy))
      clear hall hlt
      go_wp2_with fail
      exact bodyPost_ret (v := .tuple #[.int .i64 0, .bool false]) (by simp [results, go_sem]) rfl ⟨by rw [hn.out]; rfl, hB0.out.o⟩
set_option maxRecDepth 100000 in
set_option maxHeartbeats 1000000 in
theorem ref10_Check (v : FV) (f : Fac) (w : World) (hF : FactsAt w v f) :
    Calls Tryz.prog 27 #[.agg #[.slice v.A v.n v.c, .slice v.B v.m v.d, .slice v.C v.k v.e]] w (RetCheck (checkF f.items) w) := by
  have hil := hF.is.len
  have him : v.m ≤ 9223372036854775807 := by have := hF.ic; have := hF.im; omega
  -- a call with facts v: they are boxed at g, the world is W0 then
  have hB0 := Lib.hid (FBox.new hF)
  obtain ⟨g, hg⟩ : ∃ g, g = w.heap.size := ⟨_, rfl⟩
  obtain ⟨W0, hW0⟩ : ∃ W, W = w.alloc (.cells #[.slice v.A v.n v.c, .slice v.B v.m v.d, .slice v.C v.k v.e] 29) := ⟨_, rfl⟩
  rw [← hW0, ← hg] at hB0
  clear hF
  have p0 := hB0.out.c0
  have p1 := hB0.out.c1
  have p2 := hB0.out.c2
  go_enter Tryz.func27, Tryz.ntmps27
  go_wp2_with (rw [← hW0, ← hg]; clear hW0 hg)
  clear p0 p1 p2
  go_loopw [5] (fun t wr => ∃ k : Nat, k ≤ v.m ∧ t = .int .i64 k ∧ Hid (FBox w g v f wr) ∧ Hid (∀ j, j < k → stepC f.items j = none)) (fun t _ => v.m - (intOf t).toNat)
  case atStart => exact ⟨0, Nat.zero_le _, rfl, hB0, Lib.hid (fun j hj => absurd hj (by omega))⟩
  case round =>
    clear hB0
    obtain ⟨k, hk, rfl, hB, hall⟩ := hrel
    have p0 := hB.out.c0
    have p1 := hB.out.c1
    have p2 := hB.out.c2
    by_cases hlt : k < v.m
    · have hlt' : (k : Int) < (v.m : Int) := by omega
      obtain ⟨ib, io, x, hxB, hib, hx, hxo, i0, i1, i2, i3, i4⟩ := hB.out.f.is.item hlt
      rw [hxB] at p1
      have hkw : (k : Int) + 1 < 9223372036854775808 := by omega
      have hno := fun (h : stepC f.items k = none) => Lib.hid (show ∀ j, j < k + 1 → stepC f.items j = none from fun j hj => by
        rcases Nat.lt_succ_iff_lt_or_eq.1 hj with h1 | h1
        · exact hall.out j h1
        · subst h1; exact h)
      have hyes := fun r (h : stepC f.items k = some r) => checkF_at h hall.out
      have hst : stepC f.items k = if x.wr = false then none else if x.vl = 0 then some ((k : Int), (k : Int), 5) else if (writeF f.items x.va x.vl).getD 0 < k then some (((writeF f.items x.va x.vl).getD 0 : Nat), (k : Int), 4) else none := by
        unfold stepC; rw [hx]
      obtain ⟨xs, xp, xw, xa, xl⟩ := x
      simp only at i0 i1 i2 i3 i4 hst
      obtain ⟨V, hV⟩ : ∃ W, W = wr.alloc (.cells #[.int .i64 xs, .int .i64 xp, .bool xw, .int .i64 xa, .int .i64 xl] 49) := ⟨_, rfl⟩
      obtain ⟨gx, hgx⟩ : ∃ g, g = wr.heap.size := ⟨_, rfl⟩
      have bV : Below wr.heap.size wr V := by rw [hV]; exact (Below.refl _ _).alloc (Nat.le_refl _) _
      have kIt : Blk V gx 49 [.int .i64 xs, .int .i64 xp, .bool xw, .int .i64 xa, .int .i64 xl] := by rw [hV, hgx]; exact Blk.new wr _ _
      have hBV := Lib.hid (hB.out.later bV)
      have j2 := kIt.cell 2
      have j3 := kIt.cell 3
      have j4 := kIt.cell 4
      simp only [List.getElem?_cons_zero, List.getElem?_cons_succ] at j2 j3 j4
      have w0 := hBV.out.c0
      have w1 := hBV.out.c1
      have w2 := hBV.out.c2
      clear bV kIt hx hxo hxB hlt
      cases xw with
      | false =>
        have hn := hno (by rw [hst]; rfl)
        clear hno hyes hst hall
        go_wp2_with (rw [← hV, ← hgx]; clear hV hgx)
        go_round
        case rel => exact ⟨k + 1, by omega, by go_num, hBV, hn⟩
        case measure => simp [intOf]; omega
      | true =>
        by_cases h0 : xl = 0
        · have hy := Lib.hid (hyes _ (by rw [hst, if_neg (by simp), if_pos h0]))
          have e0 : (xl == 0) = true := by simp [h0]
          clear hno hyes hst hall
          replace h0 := Lib.hid h0
          go_wp2_with (rw [← hV, ← hgx]; clear hV hgx)
          exact bodyPost_ret (v := .tuple #[.int .i64 (k : Int), .int .i64 (k : Int), .int .i64 5]) (by simp [results, go_sem]) rfl ⟨by rw [hy.out], hBV.out.o⟩
        · have e0 : (xl == 0) = false := by simp [h0]
          have cW := ref10_Write v f xa xl V hBV.out.f
          obtain ⟨o, ho⟩ : ∃ o, o = writeF f.items xa xl := ⟨_, rfl⟩
          rw [← ho] at cW hst
          rw [if_neg (by simp), if_neg h0] at hst
          unfold RetWrite at cW
          obtain ⟨i, hi⟩ : ∃ i, i = o.getD 0 := ⟨_, rfl⟩
          rw [← hi] at cW hst
          obtain ⟨ii, hii⟩ : ∃ ii : Int, ii = (i : Int) := ⟨_, rfl⟩
          rw [← hii] at cW
          replace cW := Lib.hid cW
          replace h0 := Lib.hid h0
          replace ho := Lib.hid ho
          replace hi := Lib.hid hi
          by_cases hik : i < k
          · have hy := Lib.hid (hyes _ (by rw [hst, if_pos hik]))
            have hik' : ii < (k : Int) := by omega
            replace hii := Lib.hid hii
            clear hno hyes hst hall hik
            go_wp2_with (rw [← hV, ← hgx]; clear hV hgx)
            refine cW.out.mono ?_; rintro e w3 ⟨rfl, b3⟩
            go_wp2_with fail
            exact bodyPost_ret (v := .tuple #[.int .i64 ii, .int .i64 (k : Int), .int .i64 4]) (by simp [results, go_sem]) rfl ⟨by rw [hy.out, hii.out], below_trans2 hBV.out.o b3⟩
          · have hn := hno (by rw [hst, if_neg hik])
            have dk : decide (ii < (k : Int)) = false := decide_eq_false (by omega)
            replace hii := Lib.hid hii
            clear hno hyes hst hall hik
            go_wp2_with (rw [← hV, ← hgx]; clear hV hgx)
            refine cW.out.mono ?_; rintro e w3 ⟨rfl, b3⟩
            have hB3 := Lib.hid (hBV.out.later b3)
            clear w0 w1 w2 j2 j3 j4 p0 p1 p2 i0 i1 i2 i3 i4 b3 e0
            go_wp2_with fail
            go_round
            case rel => exact ⟨k + 1, by omega, by go_num, hB3, hn⟩
            case measure => simp [intOf]; omega
    · have hlt' : ¬ (k : Int) < (v.m : Int) := by omega
      have hn := Lib.hid (checkF_none (is := f.items) (fun j hj => hall.out j (by omega)))
      clear hall hlt
      go_wp2_with fail
      exact bodyPost_ret (v := .tuple #[.int .i64 0, .int .i64 0, .int .i64 0]) (by simp [results, go_sem]) rfl ⟨by rw [hn.out], hB.out.o⟩
end Go.Proofs.YtbeigdbljepfkaaGreat
