/- A region that draws its order, walked by a plan (XPlan), whose last head results stand beside one another: behind the plan's calls come values that hang on no memory ('extract': a call's second result), which may come up between the stores behind; then a tail. What lies ahead of the tail is found by what waits for what. No function of the program is named here. Contracts of the document's own answers for matrices: Of. The contracts of the document's own answers of layer 12: Ahead, Past, Po. Plain mathematics of layer 12: the past of an operation of a history. Nothing of the program is named. Plain facts of matrices that may be: a pair that is set. Plain facts of matrices that may be: made of pairs, turned about. Plain facts of matrices that may be: parts of one another, together, whether a pair is there. Words for memory: a variable that holds a matrix, with its rows. No function of the program is named here. Plain mathematics of what follows from pairs: hulls, as the least closed ones. Nothing of the program is named. Plain mathematics of layer 12: the matrix of a history's sessions is closed, doesn't go round, and has n (n - 1) / 2 pairs of each session. Nothing of the program is named. Plain mathematics of layer 12: items of a session are neighbours; what follows for their order and the rows of the matrix. Nothing of the program is named. A region that draws its order, by a plan (XPlan), in which one block of the caller's may change (an append in place): what reads must not read it. No function of the program is named here. A region that draws its order, walked by a tree of orders: what only reads (in every world that meets S) is taken as soon as it may come up; what changes memory, and stays in S, comes up alone, or as one of two: then both ways are walked. S is the prover's: as a rule 'the blocks that were there at the region's start are as they were': so an alloc beside calls, and stores into what the region made, are steps too. No function of the program is named here. -/
import Derived.Test.YtjmkpoignnbcpaaSessionOrderPk1
import Derived.Test.YtjmkpoignnbcpaaSessionOrderPk3
import Derived.Test.YtjmkpoignnbcpaaSessionOrderPk2
import Derived.BigQuiet
namespace Go.Proofs.Ytjmkpoignnbcpaa
open Go.RowKit

section
variable {P : Program} {ops : Array Oper} {md : Region.Mode} {Q : Exit → Act → World → Prop}

/-- does t wait for i, through others too? -/
def awaitsB (md : Region.Mode) (ops : Array Oper) : Nat → Nat → Nat → Bool
  | 0, _, _ => false
  | f + 1, t, i => match ops[t]? with
    | none => false
    | some o => o.after.any fun e => Region.binds md e && (e.on == i || awaitsB md ops f e.on i)
theorem awaits_listed {n : Nat} {listed : Array Bool} (inv : HeadInv md ops n listed) : ∀ (f t i : Nat) (o : Oper), ops[t]? = some o →
    (∀ e ∈ o.after, Region.binds md e = true → listed.getD e.on false = true) → awaitsB md ops f t i = true → listed.getD i false = true
  | 0, _, _, _, _, _, h => by simp [awaitsB] at h
  | f + 1, t, i, o, ho, hall, h => by
    simp only [awaitsB, ho] at h
    obtain ⟨e, he, hb⟩ := Array.any_eq_true'.1 h
    simp only [Bool.and_eq_true, Bool.or_eq_true, beq_iff_eq] at hb
    have h1 := hall e he hb.1
    rcases hb.2 with h2 | h2
    · rw [← h2]; exact h1
    · cases ho2 : ops[e.on]? with
      | none => cases f with
        | zero => simp [awaitsB] at h2
        | succ f => simp [awaitsB, ho2] at h2
      | some o2 => exact awaits_listed inv f e.on i o2 ho2 (fun e' he' hb' => inv.closed _ _ ho2 h1 e' he' hb') h2
/-- each operation behind the first n waits for each of them -/
def lateB (md : Region.Mode) (ops : Array Oper) (n : Nat) : Bool :=
  (List.range ops.size).all fun t => decide (t < n) || (List.range n).all fun i => awaitsB md ops ops.size t i
theorem late_waits {n : Nat} (h : lateB md ops n = true) (listed : Array Bool) (inv : HeadInv md ops n listed) (i : Nat) (hin : i < n) (hun : listed.getD i true = false) (t : Nat) (ht : n ≤ t) : t ∉ Region.ready md ops listed := by
  intro hr
  obtain ⟨_, ot, hot, hall⟩ := mem_ready.1 hr
  have htl := (Array.getElem?_eq_some_iff.1 hot).1
  have h1 := List.all_eq_true.1 h t (List.mem_range.2 htl)
  simp only [Bool.or_eq_true, decide_eq_true_eq] at h1
  rcases h1 with h1 | h1
  · omega
  · have h2 := List.all_eq_true.1 h1 i (List.mem_range.2 hin)
    have h3 := awaits_listed inv _ t i ot hot hall h2
    rw [getD_both hun] at h3
    cases h3

/-- the second half's check -/
def planT (md : Region.Mode) (ops : Array Oper) (m : Nat) : List Nat → Array Bool → Bool
  | [], listed => Region.seqB md ops (ops.size - m) m listed
  | i :: rest, listed => (Region.ready md ops listed).contains i && Region.free md ops listed i && planT md ops m rest (listed.setIfInBounds i true)
def planH (md : Region.Mode) (ops : Array Oper) (n m : Nat) (pl2 : List Nat) : List (Bool × Nat) → Array Bool → Bool
  | [], listed => (Region.ready md ops listed).all (fun j => decide (n ≤ j)) && planT md ops m pl2 listed
  | (b, i) :: rest, listed => decide (i < n) && (if b then (Region.ready md ops listed).contains i && Region.free md ops listed i else decide (Region.ready md ops listed = [i])) && planH md ops n m pl2 rest (listed.setIfInBounds i true)
def planAllT (md : Region.Mode) (ops : Array Oper) (n : Nat) (pl : List (Bool × Nat)) (m : Nat) (pl2 : List Nat) : Bool :=
  Region.noSelect ops && decide (pl.length = n) && decide (n + pl2.length = m) && decide (m ≤ ops.size) && lateB md ops n && planH md ops n m pl2 pl (Array.replicate ops.size false)

/-- the walk of the second half -/
def wpPlanT (P : Program) (ops : Array Oper) (Q : Exit → Act → World → Prop) (tail : List Oper) : List Nat → Act → World → Prop
  | [], a, w => wpList P ops Q tail a w
  | i :: rest, a, w => ∃ o v, ops[i]? = some o ∧ Yields P ops o v a ∧ wpPlanT P ops Q tail rest (a.put o.dst v) w
/-- the walk of the first half -/
def wpPlanE (P : Program) (ops : Array Oper) (Q : Exit → Act → World → Prop) (tail : List Oper) (pl2 : List Nat) : List (Bool × Nat) → Act → World → Prop
  | [], a, w => wpPlanT P ops Q tail pl2 a w
  | (true, i) :: rest, a, w => ∃ o v, ops[i]? = some o ∧ YieldsIf P ops (fun x => Below w.heap.size w x) o v a ∧ wpPlanE P ops Q tail pl2 rest (a.put o.dst v) w
  | (false, i) :: rest, a, w => wpOp P ops Q i (fun a' w' => Below w.heap.size w w' ∧ wpPlanE P ops Q tail pl2 rest a' w') a w

theorem wpAny_planT {m : Nat} {tail : List Oper} (htail : ∀ j, tail[j]? = ops[m + j]?) (hlen : tail.length = ops.size - m) (hsel : Region.noSelect ops = true) (hQ : ∀ c a d v w, Q (.panic c) (a.put d v) w → Q (.panic c) a w) :
    ∀ (pl2 : List Nat) (listed : Array Bool) (a : Act) (w : World), planT md ops m pl2 listed = true → wpPlanT P ops Q tail pl2 a w → wpAny P md ops Q (pl2.length + (ops.size - m)) listed a w
  | [], listed, a, w, hB, h => by
    rw [List.length_nil, Nat.zero_add, ← hlen]
    exact wpAny_of_seq tail m listed a w htail (by rw [hlen]; exact hB) h
  | i :: rest, listed, a, w, hB, h => by
    simp only [planT, Bool.and_eq_true] at hB
    obtain ⟨⟨hr, hf⟩, hB'⟩ := hB
    obtain ⟨o, v, ho, hy, h'⟩ := h
    rw [List.length_cons, show rest.length + 1 + (ops.size - m) = (rest.length + (ops.size - m)) + 1 by omega]
    exact wpAny_take ho hsel hf hr (fun c a w => hQ c a o.dst v w) hy (wpAny_planT htail hlen hsel hQ rest _ _ _ hB' h')

theorem wpAnyR_planE {n m : Nat} {tail : List Oper} {pl2 : List Nat} (hsel : Region.noSelect ops = true) (hQ : ∀ c a d v w, Q (.panic c) (a.put d v) w → Q (.panic c) a w)
    (hlate : ∀ listed, HeadInv md ops n listed → ∀ i, i < n → listed.getD i true = false → ∀ t, n ≤ t → t ∉ Region.ready md ops listed) :
    ∀ (pl : List (Bool × Nat)) (listed : Array Bool) (a : Act) (w : World), HeadInv md ops n listed → planH md ops n m pl2 pl listed = true → wpPlanE P ops Q tail pl2 pl a w →
    wpAnyR P md ops Q n (fun listed' a' w' => ((Region.ready md ops listed').all (fun j => decide (n ≤ j)) = true ∧ planT md ops m pl2 listed' = true) ∧ wpPlanT P ops Q tail pl2 a' w') pl.length listed a w
  | [], listed, a, w, _, hB, h => ⟨by simpa [planH] using hB, h⟩
  | (true, i) :: rest, listed, a, w, inv, hB, h => by
    simp only [planH, if_true, Bool.and_eq_true, decide_eq_true_eq] at hB
    obtain ⟨⟨hin, hr, hf⟩, hB'⟩ := hB
    obtain ⟨o, v, ho, hy, h'⟩ := h
    have hr' : i ∈ Region.ready md ops listed := by simpa using hr
    exact wpAnyR_first ho (Region.noSelect_spec hsel) (fun c a w => hQ c a o.dst v w) (fun l hl hu => hlate l hl i hin hu) hin (fun listed' a' w' hL j hj => by simpa using List.all_eq_true.1 hL.1.1 j hj) rest.length listed a w inv (Region.free_spec ho hf) hr' hy
      (wpAnyR_planE hsel hQ hlate rest _ _ _ (inv.set hr' hin) hB' h')
  | (false, i) :: rest, listed, a, w, inv, hB, h => by
    simp only [planH, Bool.false_eq_true, if_false, Bool.and_eq_true, decide_eq_true_eq] at hB
    obtain ⟨⟨hin, hr⟩, hB'⟩ := hB
    have hr' : i ∈ Region.ready md ops listed := by rw [hr]; simp
    refine ⟨by rw [hr]; simp, fun j hj => ?_⟩
    rw [hr] at hj
    have hji : j = i := by simpa using hj
    subst hji
    exact ⟨hin, wpOp_mono (fun a' w' h3 => ⟨h3.1, wpAnyR_planE hsel hQ hlate rest _ a' w' (inv.set hr' hin) hB' h3.2⟩) h⟩

theorem wp_region_planT {id : Nat} {a : Act} {w : World} {l : List Oper} (n : Nat) (pl : List (Bool × Nat)) (m : Nat) (pl2 : List Nat) (hm : P.follows .mixedOrders = true) (hB : planAllT .any l.toArray n pl m pl2 = true)
    (h : ∀ W : World, Hid (W = w.drew) → wpPlanE P l.toArray (NoPanic Q) (l.drop m) pl2 pl a W) : (Code.region id l.toArray true).wp P Q a w := by
  refine wp_region_noPanic ?_
  have hQ : ∀ c a d v w, NoPanic Q (.panic c) (a.put d v) w → NoPanic Q (.panic c) a w := fun _ _ _ _ _ h => h
  simp only [planAllT, Bool.and_eq_true, decide_eq_true_eq] at hB
  obtain ⟨⟨⟨⟨⟨hsel, hlen⟩, hnm⟩, hmz⟩, hlate⟩, hpl⟩ := hB
  have hdl : (l.drop m).length = l.toArray.size - m := by simp
  have inv0 : HeadInv .any l.toArray n (Array.replicate l.toArray.size false) :=
    ⟨by simp, fun j oj _ hl => (by rw [getD_replicate_false] at hl; cases hl), fun t _ ht => getD_in (by simpa using ht) (getD_replicate_false _ _)⟩
  have H := wpAnyR_planE (md := .any) (m := m) hsel hQ (fun listed inv i hin hun t ht => late_waits hlate listed inv i hin hun t ht) pl _ a w.drew inv0 hpl (h w.drew (Lib.hid rfl))
  refine wp_region_any hm ?_
  have := wpAny_of_R (Q := NoPanic Q) (g := pl2.length + (l.toArray.size - m)) (fun listed a' w' hL =>
    wpAny_planT (md := .any) (fun j => by simp [List.getElem?_drop]) hdl hsel hQ pl2 listed a' w' hL.1.2 hL.2) _ _ _ _ H
  rw [hlen, show n + (pl2.length + (l.toArray.size - m)) = l.toArray.size by omega] at this
  exact this

/-! ### the steps -/
section
variable {tail : List Oper} {pl2 : List Nat} {rest : List (Bool × Nat)} {a : Act} {w : World} {i : Nat} {o : Oper}
theorem wpPlanE_float {v : Value} (hi : ops[i]? = some o) (hw : Region.wanted o (yielded ops a.tmps) = true)
    (hy : ∀ w' : World, (∀ p, (w.cell? p).isSome = true → w'.cell? p = w.cell? p) → (execOp a.eval o).run P w' = .ok (.value v) w') (h : ∀ K : Act → Prop, (∀ a', wpPlanE P ops Q tail pl2 rest a' w → K a') → K (a.put o.dst v)) : wpPlanE P ops Q tail pl2 ((true, i) :: rest) a w :=
  ⟨o, v, hi, .inl ⟨hw, fun w' hb => hy w' (fun p hp => by
    have hlt : p.block < w.heap.size := by
      cases hc : w.cell? p with
      | none => rw [hc] at hp; cases hp
      | some u => exact block_lt_of_cell hc
    exact hb.cell hlt)⟩, h _ (fun _ h => h)⟩
theorem wpPlanE_skip (hi : ops[i]? = some o) (hw : Region.wanted o (yielded ops a.tmps) = false) (h : ∀ K : Act → Prop, (∀ a', wpPlanE P ops Q tail pl2 rest a' w → K a') → K (a.put o.dst undef)) : wpPlanE P ops Q tail pl2 ((true, i) :: rest) a w :=
  ⟨o, undef, hi, .inr ⟨hw, rfl⟩, h _ (fun _ h => h)⟩
theorem wpPlanE_only (hi : ops[i]? = some o) (hw : Region.wanted o (yielded ops a.tmps) = true)
    (h : ∀ K : Act → World → Prop, (∀ a' w', Below w.heap.size w w' → wpPlanE P ops Q tail pl2 rest a' w' → K a' w') → o.wp P a w K Q) : wpPlanE P ops Q tail pl2 ((false, i) :: rest) a w := by
  show wpOp P ops Q i _ a w
  unfold wpOp
  simp only [hi, hw, if_true]
  exact .inl (h _ (fun a' w' hb hp => ⟨hb, hp⟩))
theorem wpPlanE_nil (h : wpPlanT P ops Q tail pl2 a w) : wpPlanE P ops Q tail pl2 [] a w := h
theorem wpPlanT_float {v : Value} {rest : List Nat} (hi : ops[i]? = some o) (hw : Region.wanted o (yielded ops a.tmps) = true)
    (hy : ∀ w' : World, (execOp a.eval o).run P w' = .ok (.value v) w') (h : ∀ K : Act → Prop, (∀ a', wpPlanT P ops Q tail rest a' w → K a') → K (a.put o.dst v)) : wpPlanT P ops Q tail (i :: rest) a w :=
  ⟨o, v, hi, .inl ⟨hw, hy⟩, h _ (fun _ h => h)⟩
theorem wpPlanT_nil (h : wpList P ops Q tail a w) : wpPlanT P ops Q tail [] a w := h
end
end
end Go.Proofs.Ytjmkpoignnbcpaa

namespace Go.Proofs.Ytjmkpoignnbcpaa
open Go.RowKit
set_option linter.unusedVariables false

theorem Row.putB {w : World} {M : Nat} {t : TypeId} {N : Int} {A : Option Addr} {n c : Nat} (hM : MatB w M t N A n c) {B : Option Addr} {m : Nat} {xs : List Nat} (h : Row w B m xs) (x y : Value) :
    Row ((w.setCell ⟨M, 0, none⟩ x).setCell ⟨M, 1, none⟩ y) B m xs := by
  rcases Nat.eq_zero_or_pos m with rfl | hm
  · rw [List.eq_nil_of_length_eq_zero h.len]; exact Row.nil _ _
  · have hne : ∀ ad, B = some ad → ad.block ≠ M := by
      intro ad e hb
      obtain ⟨b, off, x, e2, _, _, _, hc⟩ := h.at_ hm
      rw [e] at e2
      cases e2
      have hb' : b = M := hb
      subst hb'
      rw [Blk.cell hM] at hc
      match off + 0, hc with
      | 0, hc => simp at hc
      | 1, hc => simp at hc
      | k + 2, hc => simp at hc
    exact (h.setCell hne x).setCell hne y
theorem RowsAt.putB {w : World} {M : Nat} {t : TypeId} {N : Int} {A : Option Addr} {n c : Nat} (hM : MatB w M t N A n c) {B : Option Addr} {m : Nat} {xss : List (List Nat)} (h : RowsAt w B m xss) (hne : 0 < m → ∀ ad, B = some ad → ad.block ≠ M) (x y : Value) :
    RowsAt ((w.setCell ⟨M, 0, none⟩ x).setCell ⟨M, 1, none⟩ y) B m xss := by
  obtain ⟨vs, h1, h2⟩ := h
  refine ⟨vs, ?_, h2.1, fun i v xs a b => ?_⟩
  · rcases Nat.eq_zero_or_pos m with rfl | hm
    · rw [h1.of_nil]; exact Rd.nil _ _
    · exact (h1.setCell (hne hm) x).setCell (hne hm) y
  · obtain ⟨B', m', c', e, hr⟩ := h2.2 i v xs a b
    exact ⟨B', m', c', e, hr.putB hM x y⟩
theorem RowsG.putB {w : World} {M : Nat} {t : TypeId} {N : Int} {A : Option Addr} {n c : Nat} (hM : MatB w M t N A n c) {B0 : Nat} {B : Option Addr} {m : Nat} {xss : List (List Nat)} (h : RowsG B0 w B m xss) (hne : 0 < m → ∀ ad, B = some ad → ad.block ≠ M) (x y : Value) :
    RowsG B0 ((w.setCell ⟨M, 0, none⟩ x).setCell ⟨M, 1, none⟩ y) B m xss := by
  obtain ⟨vs, h1, h2, h3, h4⟩ := h
  refine ⟨vs, ?_, ⟨h2.1, fun i v xs a b => ?_⟩, h3, h4⟩
  · rcases Nat.eq_zero_or_pos m with rfl | hm
    · rw [h1.of_nil]; exact Rd.nil _ _
    · exact (h1.setCell (hne hm) x).setCell (hne hm) y
  · obtain ⟨B', m', c', e, hr⟩ := h2.2 i v xs a b
    exact ⟨B', m', c', e, hr.putB hM x y⟩
theorem RowsG.grown {B : Nat} {w w' : World} {A : Option Addr} {n : Nat} {xss : List (List Nat)} {row : Option Nat} (h : RowsG B w A n xss) (hg : w.grownBy w' row) (hrow : ∀ g, row = some g → g < B) : RowsG B w' A n xss := by
  obtain ⟨vs, h1, h2, h3, h4⟩ := h
  refine ⟨vs, ⟨h1.1, fun h0 => ?_⟩, ⟨h2.1, fun i v xs a b => ?_⟩, h3, h4⟩
  · obtain ⟨b, off, e, hb, hc⟩ := h1.2 h0
    refine ⟨b, off, e, Nat.lt_of_lt_of_le hb hg.size, fun j u hu => (World.cell?_of_block (hg.block b hb (fun e' => ?_))).trans (hc j u hu)⟩
    have h5 := hrow b e'.symm
    have h6 := h3 _ e
    simp only at h6
    omega
  · obtain ⟨B', m', c', e, ⟨⟨hr1, hr2⟩, hr3⟩⟩ := h2.2 i v xs a b
    refine ⟨B', m', c', e, ⟨⟨hr1, fun h0 => ?_⟩, hr3⟩⟩
    obtain ⟨b', off, e2, hb, hc⟩ := hr2 h0
    refine ⟨b', off, e2, Nat.lt_of_lt_of_le hb hg.size, fun j u hu => (World.cell?_of_block (hg.block b' hb (fun e' => ?_))).trans (hc j u hu)⟩
    have h5 := hrow b' e'.symm
    have h6 := h4 v (List.mem_of_getElem? a) b' (by rw [e, e2]; rfl)
    omega
theorem RowsAt.block_lt {w : World} {A : Option Addr} {n : Nat} {xss : List (List Nat)} (h : RowsAt w A n xss) (hn : 0 < n) : ∀ ad, A = some ad → ad.block < w.heap.size := by
  intro ad e
  obtain ⟨vs, h1, _⟩ := h
  obtain ⟨b, off, e2, hb, _⟩ := h1.2 hn
  rw [e] at e2; cases e2; exact hb

end Go.Proofs.Ytjmkpoignnbcpaa

namespace Go.Proofs.Ytjmkpoignnbcpaa
open Go.RowKit
set_option linter.unusedVariables false
set_option maxRecDepth 100000 in
set_option maxHeartbeats 2000000 in
theorem ref12_Ahead (v : FV) (f : Fac) (i j : Int) (w : World) (hF : FactsAt w v f) :
    Calls Try.prog 14 #[.agg #[.slice v.A v.n v.c, .slice v.B v.m v.d, .slice v.C v.k v.e], .int .i64 i, .int .i64 j] w (RetBool (aheadF f.items i j) w) := by
  have hil := hF.is.len
  -- a call with facts v: they are boxed at g, the world is W0 then
  have hB0 := Lib.hid (FBox.new hF)
  obtain ⟨g, hg⟩ : ∃ g, g = w.heap.size := ⟨_, rfl⟩
  obtain ⟨W0, hW0⟩ : ∃ W, W = w.alloc (.cells #[.slice v.A v.n v.c, .slice v.B v.m v.d, .slice v.C v.k v.e] 30) := ⟨_, rfl⟩
  rw [← hW0, ← hg] at hB0
  clear hF
  have p0 := hB0.out.c0
  have p1 := hB0.out.c1
  have p2 := hB0.out.c2
  by_cases hi : 0 ≤ i
  · have d1 : decide (0 ≤ i) = true := decide_eq_true hi
    by_cases hj : 0 ≤ j
    · have d2 : decide (0 ≤ j) = true := decide_eq_true hj
      by_cases him : i < (v.m : Int)
      · have d3 : decide (i < (v.m : Int)) = true := decide_eq_true him
        by_cases hjm : j < (v.m : Int)
        · have d4 : decide (j < (v.m : Int)) = true := decide_eq_true hjm
          obtain ⟨ib, io, x, hxB, hib, hx, hxo, i0, i1, -, -, -⟩ := hB0.out.f.is.item (show i.toNat < v.m by omega)
          obtain ⟨jb, jo, y, hyB, hjb, hy, hyo, j0, j1, -, -, -⟩ := hB0.out.f.is.item (show j.toNat < v.m by omega)
          rw [hxB] at p1 hyB
          injection hyB with hyB
          injection hyB with h1 h2
          subst h1; subst h2
          have hres := aheadF_at hi hj hx hy
          have bi : 0 ≤ i ∧ i < (v.m : Int) := ⟨hi, him⟩
          have bj : 0 ≤ j ∧ j < (v.m : Int) := ⟨hj, hjm⟩
          by_cases hse : x.se = y.se
          · have e1 : (x.se == y.se) = true := by simp [hse]
            rw [decide_eq_true hse, Bool.true_and] at hres
            replace hres := Lib.hid hres
            replace hse := Lib.hid hse
            clear hxB hx hy hxo hyo hib hjb
            clear hil
            go_enter Try.func14, Try.ntmps14
            go_wp2_with (rw [← hW0, ← hg]; clear hW0 hg)
            go_quiet (fail)
            go_wp2_with fail
            go_ret
            rw [hres.out]
            exact ⟨rfl, below_drewN hB0.out.o _⟩
          · have e1 : (x.se == y.se) = false := by simpa using hse
            rw [decide_eq_false hse, Bool.false_and] at hres
            replace hres := Lib.hid hres
            replace hse := Lib.hid hse
            clear hxB hx hy hxo hyo hib hjb
            clear hil
            go_enter Try.func14, Try.ntmps14
            go_wp2_with (rw [← hW0, ← hg]; clear hW0 hg)
            go_quiet (fail)
            go_wp2_with fail
            go_ret
            rw [hres.out]
            exact ⟨rfl, below_drewN hB0.out.o _⟩
        · have d4 : decide (j < (v.m : Int)) = false := decide_eq_false hjm
          have hres := Lib.hid (aheadF_out (is := f.items) (i := i) (j := j) (by omega))
          clear hil
          go_enter Try.func14, Try.ntmps14
          go_wp2_with (rw [← hW0, ← hg]; clear hW0 hg)
          go_quiet (fail)
          go_wp2_with fail
          go_ret
          rw [hres.out]
          exact ⟨rfl, below_drewN hB0.out.o _⟩
      · have d3 : decide (i < (v.m : Int)) = false := decide_eq_false him
        have hres := Lib.hid (aheadF_out (is := f.items) (i := i) (j := j) (by omega))
        clear hil
        go_enter Try.func14, Try.ntmps14
        go_wp2_with (rw [← hW0, ← hg]; clear hW0 hg)
        go_quiet (fail)
        go_wp2_with fail
        go_ret
        rw [hres.out]
        exact ⟨rfl, below_drewN hB0.out.o _⟩
    · have d2 : decide (0 ≤ j) = false := decide_eq_false hj
      have hres := Lib.hid (aheadF_out (is := f.items) (i := i) (j := j) (by omega))
      clear hil
      go_enter Try.func14, Try.ntmps14
      go_wp2_with (rw [← hW0, ← hg]; clear hW0 hg)
      go_quiet (fail)
      go_wp2_with fail
      go_ret
      rw [hres.out]
      exact ⟨rfl, below_drewN hB0.out.o _⟩
  · have d1 : decide (0 ≤ i) = false := decide_eq_false hi
    have hres := Lib.hid (aheadF_out (is := f.items) (i := i) (j := j) (by omega))
    clear hil
    go_enter Try.func14, Try.ntmps14
    go_wp2_with (rw [← hW0, ← hg]; clear hW0 hg)
    go_quiet (fail)
    go_wp2_with fail
    go_ret
    rw [hres.out]
    exact ⟨rfl, below_drewN hB0.out.o _⟩
theorem info_int3 : (Try.prog.info? 3).map (fun i => (i.zero, i.size, i.bytes)) = some (some (.int .i64 0), 1, 8) := by kernel_rfl
set_option maxRecDepth 100000 in
set_option maxHeartbeats 1000000 in
theorem ref12_Past (v : FV) (f : Fac) (o : Int) (w : World) (hF : FactsAt w v f) (hm : v.m ≤ 1048576) :
    Calls Try.prog 17 #[.agg #[.slice v.A v.n v.c, .slice v.B v.m v.d, .slice v.C v.k v.e], .int .i64 o] w (RetIL (pastF f.items o f.items.length) w) := by
  have hil := hF.is.len
  rw [hil]
  obtain ⟨i0, hi, hz0, hz1, hz2⟩ := info_parts info_int3
  replace hi := Lib.hid hi
  replace hz0 := Lib.hid hz0
  replace hz1 := Lib.hid hz1
  replace hz2 := Lib.hid hz2
  replace hil := Lib.hid hil
  -- a call with facts v: they are boxed at g, the world is W0 then
  have hB0 := Lib.hid (FBox.new hF)
  obtain ⟨g, hg⟩ : ∃ g, g = w.heap.size := ⟨_, rfl⟩
  obtain ⟨W0, hW0⟩ : ∃ W, W = w.alloc (.cells #[.slice v.A v.n v.c, .slice v.B v.m v.d, .slice v.C v.k v.e] 30) := ⟨_, rfl⟩
  rw [← hW0, ← hg] at hB0
  clear hF
  go_enter Try.func17, Try.ntmps17
  go_wp2_with (rw [← hW0, ← hg]; clear hW0 hg)
  go_loopw [5, 6] (fun u t wr => ∃ k : Nat, k ≤ v.m ∧ t = .int .i64 k ∧ Hid (Below W0.heap.size W0 wr) ∧ Hid (wr.ownsRow W0.heap.size 3 1 u (pastF f.items o k).length (encI.all (pastF f.items o k)))) (fun _ t _ => v.m - (intOf t).toNat)
  case atStart => exact ⟨0, Nat.zero_le _, rfl, Lib.hid (Below.refl _ _), Lib.hid (World.ownsRow_nil _ _ _ _)⟩
  case round =>
    obtain ⟨k, hkm, rfl, hb, hown⟩ := hrel
    have hB := Lib.hid (hB0.out.later hb.out)
    have p0 := hB.out.c0
    have p1 := hB.out.c1
    have p2 := hB.out.c2
    have hrl := pastF_len f.items o k
    have hrs := pastF_succ f.items o k
    obtain ⟨L, hL⟩ : ∃ L, L = (pastF f.items o k).length := ⟨_, rfl⟩
    rw [← hL] at hown hrl
    replace hL := Lib.hid hL
    by_cases hlt : k < v.m
    · have hlt' : (k : Int) < (v.m : Int) := by omega
      by_cases hko : (k : Int) = o
      · rw [if_pos (by simp [hko])] at hrs
        have e0 : ((k : Int) == o) = true := by simp [hko]
        replace hrs := Lib.hid hrs
        replace hko := Lib.hid hko
        clear hlt
        obtain ⟨gl, hgl⟩ : ∃ g, g = (wr).heap.size := ⟨_, rfl⟩
        obtain ⟨VL, hVL⟩ : ∃ W, W = World.alloc (wr) (.cells #[.int .i64 (k : Int)] 3) := ⟨_, rfl⟩
        have bL : Below (wr).heap.size (wr) VL := by rw [hVL]; exact (Below.refl _ _).alloc (Nat.le_refl _) _
        have hlit := Lib.hid (show LAt encI VL (some ⟨gl, 0, none⟩) 1 [(k : Int)] from by rw [hVL, hgl]; exact LAt.lit1 (E := encI) (wr) 3 (k : Int) ⟨by omega, by omega⟩)
        have hownL := Lib.hid (own_below hown.out bL)
        have bWL := Lib.hid (below_trans2 hb.out bL)
        have hbase := Lib.hid bWL.out.size
        clear bL
        go_wp2_with (first
          | (rw [← hVL, ← hgl]; clear hVL hgl)
          | (at_builtin; refine wpList_append_L (E := encI) rfl (.tmp 23) (.tmp 25) _ rfl W0.heap.size 3 i0 _ 8 Try.underlying28 hi.out hz0.out hz1.out hz2.out rfl _ L (pastF f.items o k) (by rfl) hownL.out _ 1 1 _ rfl hlit.out (by unfold maxLen; omega) (by omega) hbase.out ?_; intro v' w7 hown' hb7 _ _))
        refine ⟨⟨k + 1, by omega, by go_num, Lib.hid (bWL.out.trans hb7), Lib.hid (by rw [hrs.out, List.length_append, ← hL.out]; exact hown')⟩, by simp [intOf]; omega⟩
      · have e0 : ((k : Int) == o) = false := by simpa using hko
        rw [decide_eq_false hko, Bool.false_or] at hrs
        have cA := ref12_Ahead v f k o wr hB.out.f
        replace hko := Lib.hid hko
        cases ha : aheadF f.items k o with
        | true =>
          rw [ha] at cA
          rw [ha, if_pos rfl] at hrs
          replace hrs := Lib.hid hrs
          replace cA := Lib.hid cA
          clear hlt ha
          go_wp2_with fail
          refine cA.out.mono ?_; rintro e w3 ⟨rfl, b3⟩
          have hown3 := Lib.hid (own_below hown.out b3)
          have hb3 := Lib.hid (below_trans2 hb.out b3)
          clear b3 cA p0 p1 p2
          obtain ⟨gl, hgl⟩ : ∃ g, g = (w3).heap.size := ⟨_, rfl⟩
          obtain ⟨VL, hVL⟩ : ∃ W, W = World.alloc (w3) (.cells #[.int .i64 (k : Int)] 3) := ⟨_, rfl⟩
          have bL : Below (w3).heap.size (w3) VL := by rw [hVL]; exact (Below.refl _ _).alloc (Nat.le_refl _) _
          have hlit := Lib.hid (show LAt encI VL (some ⟨gl, 0, none⟩) 1 [(k : Int)] from by rw [hVL, hgl]; exact LAt.lit1 (E := encI) (w3) 3 (k : Int) ⟨by omega, by omega⟩)
          have hownL := Lib.hid (own_below hown3.out bL)
          have bWL := Lib.hid (below_trans2 hb3.out bL)
          have hbase := Lib.hid bWL.out.size
          clear bL
          go_wp2_with (first
            | (rw [← hVL, ← hgl]; clear hVL hgl)
            | (at_builtin; refine wpList_append_L (E := encI) rfl (.tmp 23) (.tmp 25) _ rfl W0.heap.size 3 i0 _ 8 Try.underlying28 hi.out hz0.out hz1.out hz2.out rfl _ L (pastF f.items o k) (by rfl) hownL.out _ 1 1 _ rfl hlit.out (by unfold maxLen; omega) (by omega) hbase.out ?_; intro v' w7 hown' hb7 _ _))
          refine ⟨⟨k + 1, by omega, by go_num, Lib.hid (bWL.out.trans hb7), Lib.hid (by rw [hrs.out, List.length_append, ← hL.out]; exact hown')⟩, by simp [intOf]; omega⟩
        | false =>
          rw [ha] at cA
          rw [ha, if_neg (by simp)] at hrs
          replace hrs := Lib.hid hrs
          replace cA := Lib.hid cA
          clear hlt ha
          go_wp2_with fail
          refine cA.out.mono ?_; rintro e w3 ⟨rfl, b3⟩
          have hown3 := Lib.hid (own_below hown.out b3)
          have hb3 := Lib.hid (below_trans2 hb.out b3)
          clear b3 cA p0 p1 p2
          go_wp2_with fail
          exact ⟨⟨k + 1, by omega, by go_num, hb3, Lib.hid (by rw [hrs.out, ← hL.out]; exact hown3.out)⟩, by simp [intOf]; omega⟩
    · have hlt' : ¬ (k : Int) < (v.m : Int) := by omega
      have hkm : k = v.m := by omega
      subst hkm
      obtain ⟨A, c, rfl, hnc, hcm, hLA⟩ := LAt.of_own hown.out (fun z hz => by
        have := pastF_ok f.items o v.m z hz
        exact ⟨by omega, by omega⟩) hL.out.symm
      clear hlt
      go_wp2_with fail
      go_ret
      exact ⟨A, L, c, rfl, hLA, hnc, hcm, hB.out.o⟩
/-- a variable at M that holds a matrix of n rows; its rows lie apart from it -/
structure MV (wr : World) (M n : Nat) (A : Option Addr) (c : Nat) (xss : List (List Nat)) : Prop where
  loc : MatB wr M 37 (n : Int) A n c
  rows : RowsAt wr A n xss
  cap : n ≤ c
  far : 0 < n → ∀ ad, A = some ad → ad.block ≠ M
theorem MV.later {wr w' : World} {M n c : Nat} {A : Option Addr} {xss : List (List Nat)} (h : MV wr M n A c xss) (hb : Below wr.heap.size wr w') : MV w' M n A c xss := ⟨h.loc.below_ hb, h.rows.below hb, h.cap, h.far⟩
/-- another matrix, of a call's own, is laid into it -/
theorem MV.put {wr w' : World} {M n c : Nat} {A : Option Addr} {xss : List (List Nat)} (h : MV wr M n A c xss) (hb : Below wr.heap.size wr w') {C : Option Addr} {d : Nat} {yss : List (List Nat)} (hr : RowsAt w' C n yss) (hd : n ≤ d) (hf : ∀ ad, C = some ad → wr.heap.size ≤ ad.block) :
    MV ((w'.setCell ⟨M, 0, none⟩ (.int .i64 (n : Int))).setCell ⟨M, 1, none⟩ (.slice C n d)) M n C d yss := by
  have hM := h.loc.lt
  refine ⟨(h.loc.below_ hb).put _ _ _ _, hr.putB (h.loc.below_ hb) (fun _ ad e => by have := hf ad e; omega) _ _, hd, fun _ ad e => by have := hf ad e; omega⟩
theorem poM_len {n : Nat} (hn : n ≤ 4096) (ps : List (Int × Int)) : ∀ xs ∈ foldP n ps, xs.length ≤ 1024 := fun xs hxs => by
  obtain ⟨i, hi⟩ := List.getElem?_of_mem hxs
  have := (DimM.fold n ps).2 i xs hi
  have := words_le hn
  omega
/-- a call's answer: a matrix, whose outer cells are new -/
def RetMat1F (N : Int) (xss : List (List Nat)) (w : World) (e : Ending) (w' : World) : Prop :=
  ∃ A n c, e = .returned (.agg #[.int .i64 N, .slice A n c]) ∧ RowsAt w' A n xss ∧ n ≤ c ∧ Below w.heap.size w w' ∧ ∀ ad, A = some ad → w.heap.size ≤ ad.block
set_option maxRecDepth 100000 in
set_option maxHeartbeats 2000000 in
theorem ref12_Po (v : FV) (f : Fac) (w : World) (hF : FactsAt w v f) (hm : v.m ≤ 4096) :
    Calls Try.prog 12 #[.agg #[.slice v.A v.n v.c, .slice v.B v.m v.d, .slice v.C v.k v.e]] w (RetMat1F (v.m : Int) (poM f.items) w) := by
  have hil := hF.is.len
  unfold poM
  rw [hil]
  have cN := Lib.hid (ref3_NewF v.m hm)
  replace hil := Lib.hid hil
  -- a call with facts v: they are boxed at g, the world is W0 then
  have hB0 := Lib.hid (FBox.new hF)
  obtain ⟨g, hg⟩ : ∃ g, g = w.heap.size := ⟨_, rfl⟩
  obtain ⟨W0, hW0⟩ : ∃ W, W = w.alloc (.cells #[.slice v.A v.n v.c, .slice v.B v.m v.d, .slice v.C v.k v.e] 30) := ⟨_, rfl⟩
  rw [← hW0, ← hg] at hB0
  clear hF
  obtain ⟨gr, hgr⟩ : ∃ g, g = W0.heap.size := ⟨_, rfl⟩
  obtain ⟨W1, hW1⟩ : ∃ W, W = W0.alloc (.cells #[.int .i64 0, .slice none 0 0] 37) := ⟨_, rfl⟩
  have b1 : Below W0.heap.size W0 W1 := by rw [hW1]; exact (Below.refl _ _).alloc (Nat.le_refl _) _
  have kR : MatB W1 gr 37 0 none 0 0 := by rw [hW1, hgr]; exact MatB.new W0 _
  have hB1 := Lib.hid (hB0.out.later b1)
  have p0 := hB1.out.c0
  have p1 := hB1.out.c1
  have p2 := hB1.out.c2
  go_enter Try.func12, Try.ntmps12
  go_wp2_with (first | (rw [← hW0, ← hg]; clear hW0 hg) | (rw [← hW1, ← hgr]; clear hW1))
  refine (cN.out _).mono ?_; rintro e w2 ⟨C, p, q, rfl, hrows, hcap, b2, hfar⟩
  have hpn : p = v.m := by rw [← hrows.len]; exact (DimM.new v.m).1
  subst hpn
  obtain ⟨M, hM⟩ : ∃ M, M = w2.heap.size := ⟨_, rfl⟩
  obtain ⟨W2, hW2⟩ : ∃ W2, W2 = w2.alloc (.cells #[.int .i64 v.m, .slice C v.m q] 37) := ⟨_, rfl⟩
  have b3 : Below w2.heap.size w2 W2 := by rw [hW2]; exact (Below.refl _ _).alloc (Nat.le_refl _) _
  have hbb := Lib.hid (below_trans2 (below_trans2 b1 b2) b3)
  have hMV := Lib.hid (show MV W2 M v.m C q (foldP v.m (uptoPo f.items v.m 0)) from ⟨by rw [hW2, hM]; exact MatB.new w2 _, by rw [show uptoPo f.items v.m 0 = [] from rfl, foldP_nil]; exact hrows.below b3, hcap, fun h0 ad e => by have := hrows.block_lt h0 ad e; omega⟩)
  have hgrM : gr < M := by have := kR.lt; have := b2.size; omega
  have kR2 := Lib.hid ((kR.below_ b2).below_ b3)
  have hgW : W0.heap.size ≤ gr := by omega
  have hAf := Lib.hid (show ∀ ad, C = some ad → gr < ad.block from fun ad e => by have := hfar ad e; have := kR.lt; omega)
  replace hgr := Lib.hid hgr
  clear hrows hcap b2 b3 hfar kR b1 hB1 p0 p1 p2 cN
  go_wp2_with (rw [← hW2, ← hM]; clear hW2; replace hM := Lib.hid hM)
  go_loopw [5] (fun t wr => ∃ (i : Nat) (A : Option Addr) (c : Nat), i ≤ v.m ∧ t = .int .i64 i ∧ Hid (Below W0.heap.size W0 wr) ∧ Hid (MatB wr gr 37 0 none 0 0) ∧ Hid (MV wr M v.m A c (foldP v.m (uptoPo f.items v.m i))) ∧ Hid (∀ ad, A = some ad → gr < ad.block)) (fun t _ => v.m - (intOf t).toNat)
  case atStart => exact ⟨0, _, _, Nat.zero_le _, rfl, hbb, kR2, hMV, hAf⟩
  case round =>
    clear hbb kR2 hMV hAf
    obtain ⟨i, A, c, hi, rfl, hbb, kR, hMV, hAf⟩ := hrel
    have hB := Lib.hid (hB0.out.later hbb.out)
    by_cases hlt : i < v.m
    · have hlt' : (i : Int) < (v.m : Int) := by omega
      have p1 := hB.out.c1
      go_wp2_with fail
      clear p1 hB
      obtain ⟨Wo, rfl⟩ : ∃ Wo, Wo = wr := ⟨_, rfl⟩
      go_loopw [6] (fun t wr => ∃ (j : Nat) (A : Option Addr) (c : Nat), j ≤ v.m ∧ t = .int .i64 j ∧ Hid (Below W0.heap.size W0 wr) ∧ Hid (MatB wr gr 37 0 none 0 0) ∧ Hid (MV wr M v.m A c (foldP v.m (uptoPo f.items v.m i ++ rowPo f.items i j))) ∧ Hid (∀ ad, A = some ad → gr < ad.block)) (fun t _ => v.m - (intOf t).toNat)
      case atStart => exact ⟨0, _, _, Nat.zero_le _, rfl, hbb, kR, Lib.hid (by rw [show rowPo f.items i 0 = [] from rfl, List.append_nil]; exact hMV.out), hAf⟩
      case round =>
        clear hbb kR hMV hAf
        obtain ⟨j, A, c, hj, rfl, hbb, kR, hMV, hAf⟩ := hrel
        have hB := Lib.hid (hB0.out.later hbb.out)
        have p0 := hB.out.c0
        have p1 := hB.out.c1
        have p2 := hB.out.c2
        by_cases hlj : j < v.m
        · have hlj' : (j : Int) < (v.m : Int) := by omega
          have cA := ref12_Ahead v f i j wr hB.out.f
          have hrs := rowPo_succ f.items i j
          cases ha : aheadF f.items i j with
          | false =>
            rw [ha] at cA
            rw [ha, if_neg (by simp)] at hrs
            replace cA := Lib.hid cA
            replace hrs := Lib.hid hrs
            clear ha hlj
            go_wp2_with fail
            refine cA.out.mono ?_; rintro e w3 ⟨rfl, b3⟩
            have hbb3 := Lib.hid (below_trans2 hbb.out b3)
            have kR3 := Lib.hid (kR.out.below_ b3)
            have hMV3 := Lib.hid (hMV.out.later b3)
            clear p0 p1 p2 b3 cA
            go_wp2_with fail
            exact ⟨⟨j + 1, A, c, by omega, by go_num, hbb3, kR3, Lib.hid (by rw [hrs.out]; exact hMV3.out), hAf⟩, by simp [intOf]; omega⟩
          | true =>
            rw [ha] at cA
            rw [ha, if_pos rfl] at hrs
            replace cA := Lib.hid cA
            replace hrs := Lib.hid hrs
            clear ha
            go_wp2_with fail
            refine cA.out.mono ?_; rintro e w3 ⟨rfl, b3⟩
            have hbb3 := Lib.hid (below_trans2 hbb.out b3)
            have kR3 := Lib.hid (kR.out.below_ b3)
            have hMV3 := Lib.hid (hMV.out.later b3)
            clear p0 p1 p2 b3 cA
            have cS := Lib.hid (ref3_SetF (v.m : Int) A v.m c _ (i : Int) (j : Int) w3 hMV3.out.rows rfl hm (poM_len hm _) (by unfold inM; simp; omega))
            have m0 := hMV3.out.loc.c0
            have m1 := hMV3.out.loc.c1
            go_wp2_with fail
            refine cS.out.mono ?_; rintro e w4 ⟨C2, n2, c2, rfl, hrows2, hcap2, b4, hfar2⟩
            have hn2 : n2 = v.m := by
              have h1 := hrows2.len
              rw [← foldP_last v.m (uptoPo f.items v.m i ++ rowPo f.items i j) ((i : Int), (j : Int))] at h1
              rw [← h1]; exact (DimM.fold v.m _).1
            subst hn2
            have hMV4 := Lib.hid (hMV3.out.put b4 hrows2 hcap2 hfar2)
            have hAf4 := Lib.hid (show ∀ ad, C2 = some ad → gr < ad.block from fun ad e => by have := hfar2 ad e; have := kR3.out.lt; omega)
            have kM := hMV3.out.loc.below_ b4
            have hbb4 := Lib.hid (((below_trans2 hbb3.out b4).setCell (p := ⟨M, 0, none⟩) (by show W0.heap.size ≤ M; omega) (.int .i64 (v.m : Int))).setCell (p := ⟨M, 1, none⟩) (by show W0.heap.size ≤ M; omega) (.slice C2 v.m c2))
            have kR4 := Lib.hid (((kR3.out.below_ b4).farB (p := ⟨M, 0, none⟩) (by show gr ≠ M; omega) (.int .i64 (v.m : Int))).farB (p := ⟨M, 1, none⟩) (by show gr ≠ M; omega) (.slice C2 v.m c2))
            clear m0 m1 cS hrows2 hfar2 b4 hlj
            have m0 := kM.c0
            have m1 := kM.c1
            have g0 := kM.frozen 0
            have g1 := kM.frozen 1
            clear kM
            go_wp2_with fail
            exact ⟨⟨j + 1, C2, c2, by omega, by go_num, hbb4, kR4, Lib.hid (by rw [hrs.out, ← List.append_assoc, foldP_last]; exact hMV4.out), hAf4⟩, by simp [intOf]; omega⟩
        · have hlj' : ¬ (j : Int) < (v.m : Int) := by omega
          have hjm : j = v.m := by omega
          have hus := uptoPo_succ f.items v.m i
          rw [hjm] at hMV
          clear hlj
          replace hus := Lib.hid hus
          replace hjm := Lib.hid hjm
          go_wp2_with fail
          exact ⟨⟨i + 1, A, c, by omega, by go_num, hbb, kR, Lib.hid (by rw [hus.out]; exact hMV.out), hAf⟩, by simp [intOf]; omega⟩
    · have hlt' : ¬ (i : Int) < (v.m : Int) := by omega
      have him : i = v.m := by omega
      rw [him] at hMV
      replace him := Lib.hid him
      have p1 := hB.out.c1
      have m0 := hMV.out.loc.c0
      have m1 := hMV.out.loc.c1
      have f0 := kR.out.c0
      have f1 := kR.out.c1
      have g0 := kR.out.frozen 0
      have g1 := kR.out.frozen 1
      have hcc := kR.out.two (.int .i64 (v.m : Int)) (.slice A v.m c)
      have hc1 := Lib.hid hcc.1
      have hc2 := Lib.hid hcc.2
      have hrf := Lib.hid (show RowsAt ((wr.setCell ⟨gr, 0, none⟩ (.int .i64 (v.m : Int))).setCell ⟨gr, 1, none⟩ (.slice A v.m c)) A v.m (foldP v.m (uptoPo f.items v.m v.m)) from hMV.out.rows.putB kR.out (fun h0 ad e hb => by have := hAf.out ad e; omega) _ _)
      have hbf := Lib.hid (((below_trans2 hB0.out.o hbb.out).setCell (p := ⟨gr, 0, none⟩) (by have := hB0.out.o.size; show w.heap.size ≤ gr; omega) (.int .i64 (v.m : Int))).setCell (p := ⟨gr, 1, none⟩) (by have := hB0.out.o.size; show w.heap.size ≤ gr; omega) (.slice A v.m c))
      clear hcc hlt
      go_wp2_with fail
      exact bodyPost_ret (v := .agg #[.int .i64 (v.m : Int), .slice A v.m c]) (by simp [results, Try.results12, go_sem, hc1.out, hc2.out]) rfl ⟨A, v.m, c, rfl, hrf.out, hMV.out.cap, hbf.out, fun ad e => by have := hAf.out ad e; have := hB0.out.o.size; omega⟩
end Go.Proofs.Ytjmkpoignnbcpaa

namespace Go.Proofs.Ytjmkpoignnbcpaa
set_option linter.unusedVariables false

/-- where a session begins -/
def baseO (hs : List (List OpT)) (s : Nat) : Nat := (allO (hs.take s)).length
theorem baseO_succ {hs : List (List OpT)} {s : Nat} {os : List OpT} (h : hs[s]? = some os) : baseO hs (s + 1) = baseO hs s + os.length := by
  unfold baseO; rw [allO_take_succ h, List.length_append]
theorem baseO_mono {hs : List (List OpT)} {s t : Nat} (h : s ≤ t) : baseO hs s ≤ baseO hs t := by
  induction t with
  | zero => rw [Nat.le_zero.1 h]; exact Nat.le_refl _
  | succ t ih =>
    rcases Nat.lt_or_ge s (t + 1) with h1 | h1
    · have := ih (by omega)
      cases ht : hs[t]? with
      | none =>
        have e : hs.take (t + 1) = hs.take t := by
          have := List.getElem?_eq_none_iff.1 ht
          rw [List.take_of_length_le this, List.take_of_length_le (by omega)]
        unfold baseO at this ⊢; rw [e]; exact this
      | some os => rw [baseO_succ ht]; omega
    · rw [show s = t + 1 by omega]; exact Nat.le_refl _
theorem spotN_atO {hs : List (List OpT)} {s p : Nat} {os : List OpT} (h : hs[s]? = some os) (hp : p < os.length) : spotN hs (baseO hs s + p) = some (s, p) := by
  have hi : baseO hs s + p < (allO hs).length := by
    have h1 := baseO_succ h
    have h2 := allO_take_le hs (s + 1)
    unfold baseO at h1
    rw [show (allO (hs.take (s + 1))).length = baseO hs (s + 1) from rfl] at h2
    unfold baseO at *
    omega
  obtain ⟨s', p', he⟩ := spotN_is hs _ hi
  obtain ⟨f1, f2, f3, -⟩ := spotN_some hs _ s' p' he
  obtain ⟨os', hos'⟩ : ∃ os, hs[s']? = some os := ⟨_, List.getElem?_eq_getElem f1⟩
  have hgd : hs.getD s' [] = os' := by rw [List.getD_eq_getElem?_getD, hos']; rfl
  rw [hgd] at f2
  have f3 : baseO hs s' + p' = baseO hs s + p := f3
  have b1 := baseO_succ h
  have b2 := baseO_succ hos'
  have hss : s' = s := by
    rcases Nat.lt_trichotomy s' s with hlt | heq | hgt
    · have := baseO_mono (hs := hs) (show s' + 1 ≤ s by omega); omega
    · exact heq
    · have := baseO_mono (hs := hs) (show s + 1 ≤ s' by omega); omega
  subst hss
  rw [he, show p' = p by omega]
/-- item i of a history's facts, by where it stands -/
theorem items_at {hs : List (List OpT)} {i : Nat} (hi : i < (allO hs).length) : ∃ (s p : Nat) (x : It), spotN hs i = some (s, p) ∧ (hisF hs).2[i]? = some x ∧ x.se = (s : Int) ∧ x.pl = (p : Int) ∧ baseO hs s + p = i ∧ p < (hs.getD s []).length ∧ s < hs.length := by
  obtain ⟨s, p, va, h1, h2, -, -⟩ := hisF_item hs i _ (List.getElem?_eq_getElem hi)
  obtain ⟨f1, f2, f3, -⟩ := spotN_some hs i s p h1
  exact ⟨s, p, _, h1, h2, rfl, rfl, f3, f2, f1⟩
/-- what stands ahead of item k: those of its session from its first one on -/
theorem ahead_hist {hs : List (List OpT)} {i k s p : Nat} (hi : i < (allO hs).length) (hk : k < (allO hs).length) (hs' : spotN hs k = some (s, p)) (hb : baseO hs s + p = k) : aheadF (hisF hs).2 i k = decide (baseO hs s ≤ i ∧ i < k) := by
  obtain ⟨s1, p1, x, x1, x2, x3, x4, x5, x6, x7⟩ := items_at hi
  obtain ⟨s2, p2, y, y1, y2, y3, y4, y5, y6, y7⟩ := items_at hk
  rw [hs'] at y1
  injection y1 with y1
  injection y1 with e1 e2
  subst e1; subst e2
  rw [aheadF_at (by omega) (by omega) (by rw [Int.toNat_natCast]; exact x2) (by rw [Int.toNat_natCast]; exact y2), x3, x4, y3, y4, Bool.eq_iff_iff, Bool.and_eq_true, decide_eq_true_eq, decide_eq_true_eq, decide_eq_true_eq]
  constructor
  · rintro ⟨h1, h2⟩
    have h1 : s1 = s := by omega
    subst h1
    omega
  · rintro ⟨h1, h2⟩
    obtain ⟨os, hos⟩ : ∃ os, hs[s]? = some os := ⟨_, List.getElem?_eq_getElem y7⟩
    have hgd : hs.getD s [] = os := by rw [List.getD_eq_getElem?_getD, hos]; rfl
    rw [hgd] at y6
    have := spotN_atO hos (show i - baseO hs s < os.length by omega)
    rw [show baseO hs s + (i - baseO hs s) = i by omega, x1] at this
    injection this with this
    injection this with e1 e2
    subst e1
    omega
theorem filter_span {N b k : Nat} (hb : b ≤ k) (hk : k < N) (p : Nat → Bool) (hp : ∀ i, i < N → p i = decide (b ≤ i ∧ i ≤ k)) : (List.range N).filter p = List.range' b (k + 1 - b) := by
  have e : List.range N = List.range' 0 b ++ (List.range' b (k + 1 - b) ++ List.range' (k + 1) (N - (k + 1))) := by
    rw [List.range_eq_range']
    have h1 := List.range'_append_1 (s := b) (m := k + 1 - b) (n := N - (k + 1))
    have h2 := List.range'_append_1 (s := 0) (m := b) (n := N - b)
    rw [show b + (k + 1 - b) = k + 1 by omega, show k + 1 - b + (N - (k + 1)) = N - b by omega] at h1
    rw [Nat.zero_add, show b + (N - b) = N by omega] at h2
    rw [h1, h2]
  rw [e, List.filter_append, List.filter_append]
  rw [List.filter_eq_nil_iff.2 (fun a ha => by have := List.mem_range'_1.1 ha; rw [hp a (by omega)]; simp; omega), List.nil_append]
  rw [List.filter_eq_self.2 (fun a ha => by have := List.mem_range'_1.1 ha; rw [hp a (by omega)]; simp; omega)]
  rw [List.filter_eq_nil_iff.2 (fun a ha => by have := List.mem_range'_1.1 ha; rw [hp a (by omega)]; simp; omega), List.append_nil]
/-- the past of an operation of a history: as many as its place says, and it -/
theorem past_hist {hs : List (List OpT)} {k s p : Nat} (hk : k < (allO hs).length) (hs' : spotN hs k = some (s, p)) (hb : baseO hs s + p = k) :
    pastF (hisF hs).2 k (allO hs).length = (List.range' (baseO hs s) (p + 1)).map fun (i : Nat) => (i : Int) := by
  unfold pastF pastN
  rw [filter_span (b := baseO hs s) (k := k) (by omega) hk _ (fun i hi => by
    rw [ahead_hist hi hk hs' hb, Bool.eq_iff_iff, Bool.or_eq_true, decide_eq_true_eq, decide_eq_true_eq, decide_eq_true_eq]; omega), show k + 1 - baseO hs s = p + 1 by omega]
theorem past_get {b m i : Nat} (h : i < m) : ((List.range' b m).map fun (i : Nat) => (i : Int))[i]? = some ((b + i : Nat) : Int) := by
  rw [List.getElem?_map, List.getElem?_range' (by simpa using h)]; simp
end Go.Proofs.Ytjmkpoignnbcpaa

namespace Go.Proofs.Ytjmkpoignnbcpaa
open Go.RowKit
set_option linter.unusedVariables false

theorem right_parts {N : Int} {xss : List (List Nat)} (h : rightM N xss = true) : 0 ≤ N ∧ N ≤ 4096 ∧ (xss.length : Int) = N ∧ ∀ r ∈ xss, fitsR r N = true := by
  unfold rightM at h
  simp only [Bool.and_eq_true, decide_eq_true_eq, List.all_eq_true] at h
  exact ⟨h.1.1.1, h.1.1.2, h.1.2, h.2⟩
theorem right_of {N : Int} {xss : List (List Nat)} (h0 : 0 ≤ N) (h1 : N ≤ 4096) (h2 : (xss.length : Int) = N) (h3 : ∀ r ∈ xss, fitsR r N = true) : rightM N xss = true := by
  unfold rightM
  simp only [Bool.and_eq_true, decide_eq_true_eq, List.all_eq_true]
  exact ⟨⟨⟨h0, h1⟩, h2⟩, h3⟩
theorem fits_parts {r : List Nat} {N : Int} (h : fitsR r N = true) : (r.length : Int) = wordsZ N ∧ ∀ j : Nat, j < 64 * r.length → N ≤ (j : Int) → hasR r (j : Int) = false := by
  unfold fitsR at h
  simp only [Bool.and_eq_true, decide_eq_true_eq, List.all_eq_true, List.mem_range, Bool.or_eq_true, Bool.not_eq_true'] at h
  exact ⟨h.1, fun j hj hN => (h.2 j hj).resolve_left (by omega)⟩
theorem fits_of {r : List Nat} {N : Int} (h1 : (r.length : Int) = wordsZ N) (h2 : ∀ j : Nat, j < 64 * r.length → N ≤ (j : Int) → hasR r (j : Int) = false) : fitsR r N = true := by
  unfold fitsR
  simp only [Bool.and_eq_true, decide_eq_true_eq, List.all_eq_true, List.mem_range, Bool.or_eq_true, Bool.not_eq_true']
  refine ⟨h1, fun j hj => ?_⟩
  by_cases h : (j : Int) < N
  · exact .inl h
  · exact .inr (h2 j hj (by omega))
/-- the rows of a matrix that may be: each of as many words as the number wants, and no bit behind it -/
structure Good (n : Nat) (xss : List (List Nat)) : Prop where
  le : n ≤ 4096
  len : xss.length = n
  row : ∀ r ∈ xss, W64 r ∧ n ≤ 64 * r.length ∧ r.length = (wordsZ (n : Int)).toNat ∧ ∀ j : Nat, n ≤ j → hasR r (j : Int) = false
theorem Good.of {N : Int} {xss : List (List Nat)} (h : rightM N xss = true) (hw : ∀ r ∈ xss, W64 r) : ∃ n : Nat, N = (n : Int) ∧ Good n xss := by
  obtain ⟨h0, h1, h2, h3⟩ := right_parts h
  obtain ⟨n, rfl⟩ := Int.eq_ofNat_of_zero_le h0
  refine ⟨n, rfl, by omega, by omega, fun r hr => ?_⟩
  obtain ⟨f1, f2⟩ := fits_parts (h3 r hr)
  have hp : 0 < n := by
    rcases Nat.eq_zero_or_pos n with rfl | hp
    · have : xss = [] := List.eq_nil_of_length_eq_zero (by omega)
      rw [this] at hr; cases hr
    · exact hp
  have hwp := (words_pos hp).2
  refine ⟨hw r hr, by omega, by omega, fun j hj => ?_⟩
  by_cases hj2 : j < 64 * r.length
  · exact f2 j hj2 (by omega)
  · exact hasR_out _ _ (.inr (by omega))
theorem Good.right {n : Nat} {xss : List (List Nat)} (h : Good n xss) : rightM (n : Int) xss = true := by
  refine right_of (by omega) (by have := h.le; omega) (by rw [h.len]) (fun r hr => ?_)
  obtain ⟨_, h2, h3, h4⟩ := h.row r hr
  refine fits_of ?_ (fun j _ hj => h4 j (by omega))
  have : 0 ≤ wordsZ (n : Int) := by unfold wordsZ; split <;> omega
  omega
theorem Good.at_ {n : Nat} {xss : List (List Nat)} (h : Good n xss) {a : Nat} (ha : a < n) : ∃ r, xss[a]? = some r ∧ W64 r ∧ n ≤ 64 * r.length := by
  have hl : a < xss.length := by rw [h.len]; exact ha
  exact ⟨xss[a], List.getElem?_eq_getElem hl, (h.row _ (List.getElem_mem hl)).1, (h.row _ (List.getElem_mem hl)).2.1⟩
theorem Good.small {n : Nat} {xss : List (List Nat)} (h : Good n xss) : ∀ r ∈ xss, r.length ≤ 64 := fun r hr => by
  have := (h.row r hr).2.2.1
  have := words_le h.le
  omega
theorem Good.set {n : Nat} {xss : List (List Nat)} (h : Good n xss) {a b : Nat} (ha : a < n) (hb : b < n) : Good n (setM xss (a : Int) (b : Int)) := by
  obtain ⟨r, hr, hw, hl⟩ := h.at_ ha
  rw [setM_nat hr]
  have hrow := h.row r (List.mem_of_getElem? hr)
  refine ⟨h.le, by rw [List.length_set]; exact h.len, fun r' hr' => ?_⟩
  rcases List.mem_or_eq_of_mem_set hr' with h1 | rfl
  · exact h.row r' h1
  · refine ⟨setR_w64 hw b, by rw [setR_len]; exact hl, by rw [setR_len]; exact hrow.2.2.1, fun j hj => ?_⟩
    rw [hasR_setR r b j (by omega), hrow.2.2.2 j hj, decide_eq_false (by omega)]; rfl

theorem set_at {α : Type} {xss : List α} {a : Nat} {r r' : α} (h : xss[a]? = some r) : (xss.set a r')[a]? = some r' := by
  rw [List.getElem?_set, if_pos rfl, if_pos (List.getElem?_eq_some_iff.1 h).1]
theorem set_has {n : Nat} {xss : List (List Nat)} (h : Good n xss) {a b : Nat} (ha : a < n) (hb : b < n) : hasM (setM xss (a : Int) (b : Int)) (a : Int) (b : Int) = true := by
  obtain ⟨r, hr, hw, hl⟩ := h.at_ ha
  rw [setM_nat hr, hasM_in (set_at hr), hasR_setR r b b (by omega), decide_eq_true rfl, Bool.or_true]
theorem subR_self {r : List Nat} (h : W64 r) : subR r r = true := (subR_iff r r h).2 fun _ h => h
theorem set_sub {n : Nat} {xss : List (List Nat)} (h : Good n xss) {a b : Nat} (ha : a < n) (hb : b < n) : subM xss (setM xss (a : Int) (b : Int)) = true := by
  obtain ⟨r, hr, hw, hl⟩ := h.at_ ha
  rw [setM_nat hr]
  unfold subM
  rw [List.all_eq_true]
  intro i hi
  have hi' : i < xss.length := List.mem_range.1 hi
  have hx : xss[i]? = some xss[i] := List.getElem?_eq_getElem hi'
  by_cases hia : a = i
  · subst hia
    rw [getD_at hr, getD_at (set_at hr)]; exact subR_setR hw b
  · rw [getD_at hx, getD_at (xs := xss[i]) (by rw [List.getElem?_set, if_neg hia]; exact hx)]
    exact subR_self (h.row _ (List.getElem_mem hi')).1
theorem orR_sub {a b : List Nat} (ha : W64 a) (hb : W64 b) (hl : a.length = b.length) (h : ∀ i : Nat, hasR a (i : Int) = true → hasR b (i : Int) = true) : orR a b = b := by
  refine row_ext (orR_w64 ha hb) hb (by rw [orR_len]; omega) (fun i _ => ?_)
  rw [hasR_orR]
  cases h1 : hasR a (i : Int) with
  | false => rfl
  | true => rw [h i h1]; rfl
theorem set_or {n : Nat} {xss : List (List Nat)} (h : Good n xss) {a b : Nat} (ha : a < n) (hb : b < n) : orM xss (setM xss (a : Int) (b : Int)) = setM xss (a : Int) (b : Int) := by
  obtain ⟨r, hr, hw, hl⟩ := h.at_ ha
  rw [setM_nat hr]
  unfold orM
  apply List.ext_getElem?
  intro i
  by_cases hi : i < xss.length
  · have hx : xss[i]? = some xss[i] := List.getElem?_eq_getElem hi
    rw [List.getElem?_map, List.getElem?_range hi, Option.map_some]
    by_cases hia : a = i
    · subst hia
      rw [getD_at hr, getD_at (set_at hr), set_at hr, orR_sub hw (setR_w64 hw b) (by rw [setR_len]) (fun j hj => by rw [hasR_setR r b j (by omega), hj]; rfl)]
    · have h2 : (xss.set a (setR r (b : Int)))[i]? = some xss[i] := by rw [List.getElem?_set, if_neg hia]; exact hx
      have h3 := (h.row _ (List.getElem_mem hi)).1
      rw [getD_at hx, getD_at h2, h2, orR_sub h3 h3 rfl (fun _ h => h)]
  · rw [List.getElem?_eq_none (by simpa using hi), List.getElem?_eq_none (by simpa using hi)]
theorem map_range_getD {α β : Type} (l : List α) (d : α) (f : α → β) : (List.range l.length).map (fun i => f (l.getD i d)) = l.map f := by
  apply List.ext_getElem?
  intro i
  by_cases hi : i < l.length
  · rw [List.getElem?_map, List.getElem?_range hi, List.getElem?_map, List.getElem?_eq_getElem hi, Option.map_some, Option.map_some, getD_at (List.getElem?_eq_getElem hi)]
  · rw [List.getElem?_eq_none (by simpa using hi), List.getElem?_eq_none (by simpa using hi)]
theorem pairsM_len (xss : List (List Nat)) : (pairsM xss).length = (xss.map countR).sum := by
  unfold pairsM pairsK
  rw [List.length_flatMap, ← map_range_getD xss [] countR]
  congr 1
  apply List.map_congr_left
  intro i _
  rw [List.length_map, listR_len]
theorem sum_set : ∀ (l : List Nat) (i x y : Nat), l[i]? = some y → (l.set i x).sum + y = l.sum + x
  | [], i, x, y, h => by simp at h
  | z :: l, 0, x, y, h => by
    simp at h; subst h
    simp only [List.set_cons_zero, List.sum_cons]; omega
  | z :: l, i + 1, x, y, h => by
    have := sum_set l i x y (by simpa using h)
    simp only [List.set_cons_succ, List.sum_cons]; omega
theorem set_pairs {n : Nat} {xss : List (List Nat)} (h : Good n xss) {a b : Nat} (ha : a < n) (hb : b < n) : (pairsM (setM xss (a : Int) (b : Int))).length = (pairsM xss).length + (if hasM xss (a : Int) (b : Int) = true then 0 else 1) := by
  obtain ⟨r, hr, hw, hl⟩ := h.at_ ha
  rw [setM_nat hr, hasM_in hr, pairsM_len, pairsM_len, List.map_set]
  have hs := sum_set (xss.map countR) a (countR (setR r (b : Int))) (countR r) (by rw [List.getElem?_map, hr]; rfl)
  have hc : countR (setR r (b : Int)) = countR r + (if hasR r (b : Int) = true then 0 else 1) := by
    cases hh : hasR r (b : Int) with
    | true => rw [setR_has hw b hh]; simp
    | false => rw [countR_setR r b (by omega) hh]; simp
  rw [hc] at hs ⊢
  omega

end Go.Proofs.Ytjmkpoignnbcpaa

namespace Go.Proofs.Ytjmkpoignnbcpaa
open Go.RowKit
set_option linter.unusedVariables false

theorem hasM_setM {n : Nat} {xss : List (List Nat)} (h : Good n xss) {a b : Nat} (ha : a < n) (hb : b < n) (i j : Nat) : hasM (setM xss (a : Int) (b : Int)) (i : Int) (j : Int) = (hasM xss (i : Int) (j : Int) || decide (i = a ∧ j = b)) := by
  obtain ⟨r, hr, hw, hl⟩ := h.at_ ha
  rw [setM_nat hr]
  by_cases hia : i = a
  · subst hia
    rw [hasM_in (set_at hr), hasM_in hr, hasR_setR r b j (by omega)]
    congr 1
    simp
  · rw [decide_eq_false (by omega), Bool.or_false]
    by_cases hi : i < xss.length
    · have hx : xss[i]? = some xss[i] := List.getElem?_eq_getElem hi
      rw [hasM_in hx, hasM_in (xs := xss[i]) (by rw [List.getElem?_set, if_neg (Ne.symm hia)]; exact hx)]
    · rw [hasM_out (xss := xss) (.inr (by omega)), hasM_out (xss := xss.set a (setR r (b : Int))) (.inr (by rw [List.length_set]; omega))]
theorem Good.new {n : Nat} (hn : n ≤ 4096) : Good n (newM n) := by
  refine ⟨hn, by simp [newM], fun r hr => ?_⟩
  have hp : 0 < n := by
    rcases Nat.eq_zero_or_pos n with rfl | hp
    · simp [newM] at hr
    · exact hp
  have he : r = List.replicate (wordsZ (n : Int)).toNat 0 := by unfold newM at hr; exact (List.mem_replicate.1 hr).2
  subst he
  refine ⟨fun x hx => by rw [(List.mem_replicate.1 hx).2]; omega, by rw [List.length_replicate]; exact (words_pos hp).2, by rw [List.length_replicate], fun j _ => hasR_zeros _ _⟩
theorem newM_has (n i j : Nat) : hasM (newM n) (i : Int) (j : Int) = false := by
  by_cases hi : i < n
  · rw [hasM_in (xs := List.replicate (wordsZ (n : Int)).toNat 0) (by unfold newM; rw [List.getElem?_replicate, if_pos hi])]; exact hasR_zeros _ _
  · exact hasM_out (.inr (by simp [newM]; omega))
theorem okP_nat {n : Nat} {x : Int × Int} (h : okP (n : Int) x = true) : ∃ a b : Nat, x = ((a : Int), (b : Int)) ∧ a < n ∧ b < n := by
  obtain ⟨i, j⟩ := x
  have h' : (((0 ≤ i) ∧ i < (n : Int)) ∧ 0 ≤ j) ∧ j < (n : Int) := by simpa [okP, inM] using h
  obtain ⟨⟨⟨i0, i1⟩, j0⟩, j1⟩ := h'
  obtain ⟨a, rfl⟩ := Int.eq_ofNat_of_zero_le i0
  obtain ⟨b, rfl⟩ := Int.eq_ofNat_of_zero_le j0
  exact ⟨a, b, rfl, by omega, by omega⟩
theorem fold_facts {n : Nat} : ∀ (ps : List (Int × Int)) (m : List (List Nat)), Good n m → (∀ x ∈ ps, okP (n : Int) x = true) →
    Good n (ps.foldl setP m) ∧ ∀ i j : Nat, hasM (ps.foldl setP m) (i : Int) (j : Int) = (hasM m (i : Int) (j : Int) || decide (((i : Int), (j : Int)) ∈ ps))
  | [], m, hG, _ => ⟨hG, fun i j => by simp⟩
  | p :: ps, m, hG, hok => by
    obtain ⟨a, b, rfl, ha, hb⟩ := okP_nat (hok p (List.mem_cons_self ..))
    have h := fold_facts ps (setP m ((a : Int), (b : Int))) (hG.set ha hb) (fun x hx => hok x (List.mem_cons_of_mem _ hx))
    refine ⟨h.1, fun i j => ?_⟩
    rw [List.foldl_cons, h.2 i j]
    unfold setP
    rw [hasM_setM hG ha hb, Bool.or_assoc]
    congr 1
    simp only [List.mem_cons, Prod.mk.injEq, Int.natCast_inj, Bool.decide_or]
theorem foldP_facts {n : Nat} (hn : n ≤ 4096) (ps : List (Int × Int)) (hok : ∀ x ∈ ps, okP (n : Int) x = true) :
    Good n (foldP n ps) ∧ ∀ i j : Nat, hasM (foldP n ps) (i : Int) (j : Int) = decide (((i : Int), (j : Int)) ∈ ps) := by
  have h := fold_facts ps (newM n) (Good.new hn) hok
  refine ⟨h.1, fun i j => ?_⟩
  have := h.2 i j
  rw [newM_has, Bool.false_or] at this
  exact this
theorem good_ext {n : Nat} {a b : List (List Nat)} (ha : Good n a) (hb : Good n b) (h : ∀ i j : Nat, i < n → j < n → hasM a (i : Int) (j : Int) = hasM b (i : Int) (j : Int)) : a = b := by
  apply List.ext_getElem?
  intro i
  by_cases hi : i < n
  · obtain ⟨r, hr, hw, hl⟩ := ha.at_ hi
    obtain ⟨s, hs, hw2, hl2⟩ := hb.at_ hi
    rw [hr, hs]
    have h1 := ha.row r (List.mem_of_getElem? hr)
    have h2 := hb.row s (List.mem_of_getElem? hs)
    congr 1
    refine row_ext hw hw2 (by rw [h1.2.2.1, h2.2.2.1]) (fun j _ => ?_)
    by_cases hj : j < n
    · have := h i j hi hj
      rw [hasM_in hr, hasM_in hs] at this; exact this
    · rw [h1.2.2.2 j (by omega), h2.2.2.2 j (by omega)]
  · rw [List.getElem?_eq_none (by rw [ha.len]; omega), List.getElem?_eq_none (by rw [hb.len]; omega)]
theorem mem_pairsM (xss : List (List Nat)) (i j : Nat) : ((i : Int), (j : Int)) ∈ pairsM xss ↔ hasM xss (i : Int) (j : Int) = true := by
  unfold pairsM pairsK
  rw [List.mem_flatMap]
  constructor
  · rintro ⟨k, hk, hm⟩
    obtain ⟨z, hz, he⟩ := List.mem_map.1 hm
    simp only [Prod.mk.injEq, Int.natCast_inj] at he
    obtain ⟨rfl, rfl⟩ := he
    have hk' : k < xss.length := List.mem_range.1 hk
    have hx : xss[k]? = some xss[k] := List.getElem?_eq_getElem hk'
    rw [getD_at hx] at hz
    obtain ⟨u, hu, he⟩ := List.mem_map.1 hz
    rw [hasM_in hx]
    have hju : u = j := Int.ofNat.inj he
    subst hju
    exact ((listN_mem _ _).1 hu).2
  · intro h
    by_cases hi : i < xss.length
    · have hx : xss[i]? = some xss[i] := List.getElem?_eq_getElem hi
      rw [hasM_in hx] at h
      refine ⟨i, List.mem_range.2 hi, List.mem_map.2 ⟨(j : Int), ?_, rfl⟩⟩
      rw [getD_at hx]
      refine List.mem_map.2 ⟨j, (listN_mem _ _).2 ⟨?_, h⟩, rfl⟩
      by_cases hj : j < 64 * (xss[i]).length
      · exact hj
      · rw [hasR_out _ _ (.inr (by omega))] at h; cases h
    · rw [hasM_out (.inr (by omega))] at h; cases h
theorem pairsM_nat {xss : List (List Nat)} {x : Int × Int} (h : x ∈ pairsM xss) : ∃ i j : Nat, x = ((i : Int), (j : Int)) ∧ hasM xss (i : Int) (j : Int) = true := by
  have h0 := h
  unfold pairsM pairsK at h
  rw [List.mem_flatMap] at h
  obtain ⟨k, hk, hm⟩ := h
  obtain ⟨z, hz, he⟩ := List.mem_map.1 hm
  obtain ⟨u, hu, he2⟩ := List.mem_map.1 hz
  subst he he2
  exact ⟨k, u, rfl, (mem_pairsM _ _ _).1 h0⟩
theorem Good.has_lt {n : Nat} {xss : List (List Nat)} (h : Good n xss) {i j : Nat} (hh : hasM xss (i : Int) (j : Int) = true) : i < n ∧ j < n := by
  by_cases hi : i < n
  · obtain ⟨r, hr, hw, hl⟩ := h.at_ hi
    refine ⟨hi, ?_⟩
    by_cases hj : j < n
    · exact hj
    · rw [hasM_in hr, (h.row r (List.mem_of_getElem? hr)).2.2.2 j (by omega)] at hh; cases hh
  · rw [hasM_out (.inr (by rw [h.len]; omega))] at hh; cases hh
theorem Good.ok {n : Nat} {xss : List (List Nat)} (h : Good n xss) : ∀ x ∈ pairsM xss, okP (n : Int) x = true := fun x hx => by
  obtain ⟨i, j, rfl, hh⟩ := pairsM_nat hx
  obtain ⟨h1, h2⟩ := h.has_lt hh
  unfold okP inM; simp; omega
/-- a matrix is made again of its pairs -/
theorem fold_back {n : Nat} {xss : List (List Nat)} (h : Good n xss) : foldP n (pairsM xss) = xss := by
  have hf := foldP_facts h.le (pairsM xss) h.ok
  refine good_ext hf.1 h (fun i j _ _ => ?_)
  rw [hf.2 i j]
  cases hh : hasM xss (i : Int) (j : Int) with
  | true => exact decide_eq_true ((mem_pairsM _ _ _).2 hh)
  | false => exact decide_eq_false (fun hm => by rw [(mem_pairsM _ _ _).1 hm] at hh; cases hh)

theorem words_one {n : Nat} (h0 : 0 < n) (h : n < 64) : (wordsZ (n : Int)).toNat = 1 := by
  unfold wordsZ; rw [if_neg (by omega)]; omega
theorem Good.one {n : Nat} {xss : List (List Nat)} (h : Good n xss) (hn : n < 64) : ∀ r ∈ xss, r.length = 1 := fun r hr => by
  have hp : 0 < n := by
    rcases Nat.eq_zero_or_pos n with rfl | hp
    · have : xss = [] := List.eq_nil_of_length_eq_zero h.len
      rw [this] at hr; cases hr
    · exact hp
  rw [(h.row r hr).2.2.1, words_one hp hn]
theorem turnM_bit {n : Nat} {xss : List (List Nat)} (h : Good n xss) (hn : n < 64) {r : Nat} (hr : r < n) : ∃ x : Nat, (turnM xss)[r]? = some [x] ∧ x < 18446744073709551616 ∧ ∀ j : Nat, x.testBit j = hasM xss (j : Int) (r : Int) := by
  unfold turnM
  rw [h.len]
  have hw : W64 (padK xss n) := padK_w64 (fun xs hx => (h.row xs hx).1) n
  have hfw := flipB_w64 hw
  refine ⟨(flipB (padK xss n)).getD r 0, by rw [layK_get _ _ hr, if_pos hr], getD_w64 hfw r, fun j => ?_⟩
  by_cases hj : j < 64
  · rw [flipB_bit _ r j (by omega) hj, padK_get _ hj]
    by_cases hjn : j < n
    · rw [if_pos hjn]
      obtain ⟨xs, hx, _, _⟩ := h.at_ hjn
      rw [getD_at hx, hasM_in hx, hasR_nat, Nat.div_eq_of_lt (by omega), Nat.mod_eq_of_lt (by omega)]
    · rw [if_neg hjn, hasM_out (.inr (by rw [h.len]; omega))]; simp
  · rw [hasM_out (.inr (by rw [h.len]; omega))]
    exact bit_out (getD_w64 hfw r) (by omega)
theorem hasR_single (x j : Nat) (hx : x < 18446744073709551616) : hasR [x] (j : Int) = x.testBit j := by
  rw [hasR_nat]
  by_cases hj : j < 64
  · rw [Nat.div_eq_of_lt hj, Nat.mod_eq_of_lt hj]; rfl
  · have h1 : 1 ≤ j / 64 := by omega
    rw [getD_out [x] (j / 64) (by simpa using h1), bit_out hx (by omega)]; simp
theorem turnM_has {n : Nat} {xss : List (List Nat)} (h : Good n xss) (hn : n < 64) (i j : Nat) : hasM (turnM xss) (i : Int) (j : Int) = hasM xss (j : Int) (i : Int) := by
  by_cases hi : i < n
  · obtain ⟨x, hx, hx64, hb⟩ := turnM_bit h hn hi
    rw [hasM_in hx, hasR_single x j hx64, hb j]
  · have hl : (turnM xss).length = n := by unfold turnM; rw [layK_len, h.len]
    rw [hasM_out (.inr (by rw [hl]; omega))]
    cases hh : hasM xss (j : Int) (i : Int) with
    | false => rfl
    | true => exact absurd (h.has_lt hh).2 hi
theorem Good.turn {n : Nat} {xss : List (List Nat)} (h : Good n xss) (hn : n < 64) : Good n (turnM xss) := by
  refine ⟨h.le, by unfold turnM; rw [layK_len, h.len], fun r hr => ?_⟩
  obtain ⟨i, hi⟩ := List.getElem?_of_mem hr
  have hin : i < n := by
    have := (List.getElem?_eq_some_iff.1 hi).1
    unfold turnM at this; rwa [layK_len, h.len] at this
  obtain ⟨x, hx, hx64, hb⟩ := turnM_bit h hn hin
  rw [hi] at hx
  injection hx with hx
  subst hx
  refine ⟨fun y hy => by rw [List.mem_singleton.1 hy]; exact hx64, by simp; omega, by rw [words_one (by omega) hn]; rfl, fun j hj => ?_⟩
  rw [hasR_single x j hx64, hb j]
  exact hasM_out (.inr (by rw [h.len]; omega))
theorem turn_turn {n : Nat} {xss : List (List Nat)} (h : Good n xss) (hn : n < 64) : turnM (turnM xss) = xss :=
  good_ext ((h.turn hn).turn hn) h (fun i j _ _ => by rw [turnM_has (h.turn hn) hn, turnM_has h hn])
theorem mem_turned (ps : List (Int × Int)) (i j : Int) : (i, j) ∈ ps.map (fun x => (x.2, x.1)) ↔ (j, i) ∈ ps := by
  rw [List.mem_map]
  constructor
  · rintro ⟨⟨a, b⟩, h, he⟩
    simp only [Prod.mk.injEq] at he
    obtain ⟨rfl, rfl⟩ := he
    exact h
  · intro h; exact ⟨(j, i), h, rfl⟩
theorem Good.okT {n : Nat} {xss : List (List Nat)} (h : Good n xss) : ∀ x ∈ (pairsM xss).map (fun x => (x.2, x.1)), okP (n : Int) x = true := fun x hx => by
  obtain ⟨y, hy, rfl⟩ := List.mem_map.1 hx
  obtain ⟨i, j, rfl, hh⟩ := pairsM_nat hy
  obtain ⟨h1, h2⟩ := h.has_lt hh
  unfold okP inM; simp; omega
/-- what the pairs turned about make is the matrix turned about -/
theorem fold_turned {n : Nat} {xss : List (List Nat)} (h : Good n xss) (hn : n < 64) : foldP n ((pairsM xss).map fun x => (x.2, x.1)) = turnM xss := by
  have hf := foldP_facts h.le _ h.okT
  refine good_ext hf.1 (h.turn hn) (fun i j _ _ => ?_)
  rw [hf.2 i j, turnM_has h hn]
  cases hh : hasM xss (j : Int) (i : Int) with
  | true => exact decide_eq_true ((mem_turned _ _ _).2 ((mem_pairsM _ _ _).2 hh))
  | false => exact decide_eq_false (fun hm => by rw [(mem_pairsM _ _ _).1 ((mem_turned _ _ _).1 hm)] at hh; cases hh)
def sumF (n : Nat) (f : Nat → Nat) : Nat := ((List.range n).map f).sum
theorem sumF_succ (n : Nat) (f : Nat → Nat) : sumF (n + 1) f = sumF n f + f n := by
  unfold sumF; rw [List.range_succ, List.map_append, List.sum_append]; simp
theorem sumF_congr {n : Nat} {f g : Nat → Nat} (h : ∀ i, i < n → f i = g i) : sumF n f = sumF n g := by
  unfold sumF; congr 1; exact List.map_congr_left fun i hi => h i (List.mem_range.1 hi)
theorem sumF_add (n : Nat) (f g : Nat → Nat) : sumF n (fun i => f i + g i) = sumF n f + sumF n g := by
  induction n with
  | zero => rfl
  | succ n ih => rw [sumF_succ, sumF_succ, sumF_succ, ih]; omega
theorem sumF_zero (n : Nat) : sumF n (fun _ => 0) = 0 := by
  induction n with
  | zero => rfl
  | succ n ih => rw [sumF_succ, ih]
theorem sumF_swap (a b : Nat) (f : Nat → Nat → Nat) : sumF a (fun i => sumF b fun j => f i j) = sumF b (fun j => sumF a fun i => f i j) := by
  induction a with
  | zero => exact (sumF_zero b).symm
  | succ a ih =>
    rw [sumF_succ, ih, ← sumF_add]
    exact sumF_congr fun j _ => (sumF_succ a _).symm
theorem count_sum (n : Nat) (p : Nat → Bool) : ∀ N, n ≤ N → (∀ j, n ≤ j → p j = false) → ((List.range N).filter p).length = sumF n fun j => (p j).toNat := by
  have h0 : ∀ k, ((List.range k).filter p).length = sumF k fun j => (p j).toNat := by
    intro k
    induction k with
    | zero => rfl
    | succ k ih =>
      rw [List.range_succ, List.filter_append, List.length_append, ih, sumF_succ]
      cases h : p k <;> simp [h]
  intro N hN hz
  rw [h0 N]
  obtain ⟨d, rfl⟩ := Nat.exists_eq_add_of_le hN
  clear hN h0
  induction d with
  | zero => rfl
  | succ d ih => rw [← Nat.add_assoc, sumF_succ, ih, hz (n + d) (by omega)]; rfl
theorem pairs_sum {n : Nat} {xss : List (List Nat)} (h : Good n xss) : (pairsM xss).length = sumF n fun i => sumF n fun j => (hasM xss (i : Int) (j : Int)).toNat := by
  rw [pairsM_len, ← map_range_getD xss [] countR, h.len]
  refine sumF_congr fun i hi => ?_
  obtain ⟨r, hr, hw, hl⟩ := h.at_ hi
  show countR (xss.getD i []) = _
  rw [getD_at hr, ← count_far r (64 * r.length) (Nat.le_refl _), count_sum n _ _ hl (fun j hj => (h.row r (List.mem_of_getElem? hr)).2.2.2 j hj)]
  exact sumF_congr fun j _ => by rw [hasM_in hr]
/-- as many pairs, turned about -/
theorem turn_pairs {n : Nat} {xss : List (List Nat)} (h : Good n xss) (hn : n < 64) : (pairsM (turnM xss)).length = (pairsM xss).length := by
  rw [pairs_sum (h.turn hn), pairs_sum h, sumF_swap]
  exact sumF_congr fun j _ => sumF_congr fun i _ => by rw [turnM_has h hn]

end Go.Proofs.Ytjmkpoignnbcpaa

namespace Go.Proofs.Ytjmkpoignnbcpaa
open Go.RowKit
set_option linter.unusedVariables false

theorem subM_iff {n : Nat} {a b : List (List Nat)} (ha : Good n a) (hb : Good n b) : subM a b = true ↔ ∀ i j : Nat, hasM a (i : Int) (j : Int) = true → hasM b (i : Int) (j : Int) = true := by
  unfold subM
  rw [List.all_eq_true]
  constructor
  · intro h i j hh
    obtain ⟨h1, h2⟩ := ha.has_lt hh
    obtain ⟨r, hr, hw, _⟩ := ha.at_ h1
    obtain ⟨s, hs, _, _⟩ := hb.at_ h1
    have h3 := h i (List.mem_range.2 (by rw [ha.len]; exact h1))
    rw [getD_at hr, getD_at hs] at h3
    rw [hasM_in hr] at hh
    rw [hasM_in hs]
    exact (subR_iff r s hw).1 h3 j hh
  · intro h i hi
    have h1 : i < n := by rw [← ha.len]; exact List.mem_range.1 hi
    obtain ⟨r, hr, hw, _⟩ := ha.at_ h1
    obtain ⟨s, hs, _, _⟩ := hb.at_ h1
    rw [getD_at hr, getD_at hs]
    refine (subR_iff r s hw).2 fun j hj => ?_
    have := h i j (by rw [hasM_in hr]; exact hj)
    rwa [hasM_in hs] at this
theorem same_sub {n : Nat} {a b : List (List Nat)} (ha : Good n a) (hb : Good n b) : sameM a b = (subM a b && subM b a) := by
  cases h : subM a b && subM b a with
  | true =>
    rw [Bool.and_eq_true, subM_iff ha hb, subM_iff hb ha] at h
    have : a = b := good_ext ha hb fun i j _ _ => by
      cases h1 : hasM a (i : Int) (j : Int) with
      | true => exact (h.1 i j h1).symm
      | false =>
        cases h2 : hasM b (i : Int) (j : Int) with
        | true => rw [h.2 i j h2] at h1; cases h1
        | false => rfl
    subst this
    simp [sameM]
  | false =>
    cases h1 : sameM a b with
    | false => rfl
    | true =>
      have : a = b := by simpa [sameM] using h1
      subst this
      rw [(subM_iff ha ha).2 fun _ _ h => h] at h
      cases h
theorem Good.in_has {n : Nat} {a : List (List Nat)} (h : Good n a) (i j : Int) : (inM (n : Int) i j && hasM a i j) = hasM a i j := by
  cases hh : hasM a i j with
  | false => rw [Bool.and_false]
  | true =>
    have h0 : 0 ≤ i := by
      refine Decidable.byContradiction fun hc => ?_
      rw [hasM_out (.inl (by omega))] at hh; cases hh
    obtain ⟨k, rfl⟩ := Int.eq_ofNat_of_zero_le h0
    have h1 : 0 ≤ j := by
      refine Decidable.byContradiction fun hc => ?_
      by_cases hk : k < a.length
      · rw [hasM_in (List.getElem?_eq_getElem hk), hasR_out _ _ (.inl (by omega))] at hh; cases hh
      · rw [hasM_out (.inr (by omega))] at hh; cases hh
    obtain ⟨q, rfl⟩ := Int.eq_ofNat_of_zero_le h1
    obtain ⟨h2, h3⟩ := h.has_lt hh
    rw [Bool.and_true]
    unfold inM; simp; omega
theorem orM_len (a b : List (List Nat)) : (orM a b).length = a.length := by simp [orM]
theorem orM_small {n : Nat} {a b : List (List Nat)} (ha : Good n a) (hb : Good n b) : ∀ r ∈ orM a b, r.length ≤ 64 := by
  intro r hr
  unfold orM at hr
  obtain ⟨i, hi, rfl⟩ := List.mem_map.1 hr
  have h1 : i < n := by rw [← ha.len]; exact List.mem_range.1 hi
  obtain ⟨r, hr, _, _⟩ := ha.at_ h1
  obtain ⟨s, hs, _, _⟩ := hb.at_ h1
  rw [getD_at hr, getD_at hs, orR_len]
  have := ha.small r (List.mem_of_getElem? hr)
  have := hb.small s (List.mem_of_getElem? hs)
  omega
theorem Good.same_len {n : Nat} {a b : List (List Nat)} (ha : Good n a) (hb : Good n b) : ∀ (i : Nat) (xs ys : List Nat), a[i]? = some xs → b[i]? = some ys → xs.length = ys.length ∧ xs.length ≤ 1024 := fun i xs ys h1 h2 => by
  have k1 := ha.row xs (List.mem_of_getElem? h1)
  have k2 := hb.row ys (List.mem_of_getElem? h2)
  have k3 := ha.small xs (List.mem_of_getElem? h1)
  exact ⟨by rw [k1.2.2.1, k2.2.2.1], by omega⟩
theorem equalM_self' (N : Int) (xss : List (List Nat)) : equalM N N xss xss = true := by simp [equalM, sameM]

end Go.Proofs.Ytjmkpoignnbcpaa

namespace Go.Proofs.Ytjmkpoignnbcpaa
open Go.RowKit
set_option linter.unusedVariables false

/-- block g is a variable that holds the matrix of N and xss -/
def MatK (w : World) (g : Nat) (t : TypeId) (N : Int) (A : Option Addr) (n c : Nat) (xss : List (List Nat)) : Prop := MatB w g t N A n c ∧ RowsAt w A n xss
section
variable {w w' : World} {g : Nat} {t : TypeId} {N : Int} {A : Option Addr} {n c : Nat} {xss : List (List Nat)}
theorem MatB.below (h : MatB w g t N A n c) (hb : Below w.heap.size w w') : MatB w' g t N A n c := h.below_ hb
theorem MatK.below (h : MatK w g t N A n c xss) (hb : Below w.heap.size w w') : MatK w' g t N A n c xss := ⟨h.1.below_ hb, h.2.below hb⟩
theorem MatK.new (w : World) (t : TypeId) (hr : RowsAt w A n xss) : MatK (w.alloc (.cells #[.int .i64 N, .slice A n c] t)) w.heap.size t N A n c xss := ⟨MatB.new w t, hr.below ((Below.refl _ _).alloc (Nat.le_refl _) _)⟩
theorem MatK.put (h : MatB w g t 0 none 0 0) {G : Nat} {t' : TypeId} {M : Int} {B : Option Addr} {m d : Nat} {yss : List (List Nat)} (k : MatK w G t' M B m d yss) (hne : G ≠ g) (hb : 0 < m → ∀ ad, B = some ad → ad.block ≠ g) (x y : Value) : MatK ((w.setCell ⟨g, 0, none⟩ x).setCell ⟨g, 1, none⟩ y) G t' M B m d yss :=
  ⟨(k.1.farB (p := ⟨g, 0, none⟩) (by simpa using hne) _).farB (p := ⟨g, 1, none⟩) (by simpa using hne) _, k.2.putB h hb _ _⟩
theorem MatK.drew (h : MatK w g t N A n c xss) : MatK w.drew g t N A n c xss := ⟨Blk.drew h.1, h.2⟩
theorem below_alloc (w : World) (o : Obj) : Below w.heap.size w (w.alloc o) := (Below.refl _ _).alloc (Nat.le_refl _) _
end

/-- what comes behind several orders, walked once: 'apply cut_three (F := ..)'; the orders first, each ends in 'key'; then the rest -/
theorem cut_three {Goal F : Nat → Nat → World → Prop} {R : Prop} (h1 : (∀ a b c, F a b c → Goal a b c) → R) (h2 : ∀ a b c, F a b c → Goal a b c) : R := h1 h2
theorem cut_five {T1 T2 T3 T4 T5 : Type} {Goal F : T1 → T2 → T3 → T4 → T5 → Prop} {R : Prop} (h1 : (∀ a b c d e, F a b c d e → Goal a b c d e) → R) (h2 : ∀ a b c d e, F a b c d e → Goal a b c d e) : R := h1 h2
theorem cut_seven {T1 T2 T3 T4 T5 T6 T7 : Type} {Goal F : T1 → T2 → T3 → T4 → T5 → T6 → T7 → Prop} {R : Prop} (h1 : (∀ a b c d e f g, F a b c d e f g → Goal a b c d e f g) → R) (h2 : ∀ a b c d e f g, F a b c d e f g → Goal a b c d e f g) : R := h1 h2

theorem RowsAt.farM {w : World} {C : Option Addr} {n G : Nat} {t : TypeId} {xss : List (List Nat)} (h : RowsAt w C n xss) (hM : MatB w G t 0 none 0 0) (h1 : ∀ r ∈ xss, r.length = 1) : 0 < n → ∀ ad, C = some ad → ad.block ≠ G := by
  intro h0 ad e hb
  obtain ⟨b, off, B, m, c, xs, e2, _, hx, hc, hr⟩ := h.at_ h0
  rw [e] at e2
  cases e2
  have hb' : b = G := hb
  subst hb'
  have hxl := h1 xs (List.mem_of_getElem? hx)
  have hrl := hr.len
  rw [Blk.cell hM] at hc
  match off + 0, hc with
  | 0, hc => simp at hc
  | 1, hc =>
    simp at hc
    omega
  | k + 2, hc => simp at hc

end Go.Proofs.Ytjmkpoignnbcpaa

namespace Go.Proofs.Ytjmkpoignnbcpaa
open Go.RowKit
set_option linter.unusedVariables false

/-- what follows from r -/
inductive Conn (r : Nat → Nat → Prop) : Nat → Nat → Prop where
  | one {i j : Nat} (h : r i j) : Conn r i j
  | step {i j k : Nat} (h : Conn r i j) (h2 : r j k) : Conn r i k
def Trans2 (s : Nat → Nat → Prop) : Prop := ∀ i j k, s i j → s j k → s i k
theorem Conn.trans {r : Nat → Nat → Prop} {i j k : Nat} (h1 : Conn r i j) (h2 : Conn r j k) : Conn r i k := by
  induction h2 with
  | one h => exact .step h1 h
  | step _ h ih => exact .step ih h
theorem Conn.least {r s : Nat → Nat → Prop} (hs : Trans2 s) (h : ∀ i j, r i j → s i j) {i j : Nat} (hc : Conn r i j) : s i j := by
  induction hc with
  | one h1 => exact h _ _ h1
  | step _ h2 ih => exact hs _ _ _ ih (h _ _ h2)
theorem Conn.mono {r s : Nat → Nat → Prop} (h : ∀ i j, r i j → s i j) {i j : Nat} (hc : Conn r i j) : Conn s i j :=
  Conn.least (s := Conn s) (fun a b c h1 h2 => Conn.trans h1 h2) (fun a b h1 => .one (h a b h1)) hc
theorem Conn.same {r s : Nat → Nat → Prop} (h : ∀ i j, r i j ↔ s i j) (i j : Nat) : Conn r i j ↔ Conn s i j := ⟨Conn.mono fun _ _ h1 => (h _ _).1 h1, Conn.mono fun _ _ h1 => (h _ _).2 h1⟩
theorem Conn.of_trans {r : Nat → Nat → Prop} (hr : Trans2 r) {i j : Nat} : Conn r i j ↔ r i j := ⟨Conn.least hr fun _ _ h => h, .one⟩
theorem Conn.swap {r : Nat → Nat → Prop} {i j : Nat} (h : Conn r i j) : Conn (fun x y => r y x) j i := by
  induction h with
  | one h => exact .one h
  | step _ h ih => exact Conn.trans (.one h) ih
theorem Conn.swap_iff {r : Nat → Nat → Prop} {i j : Nat} : Conn (fun x y => r y x) i j ↔ Conn r j i := ⟨fun h => h.swap, fun h => h.swap⟩

/-- Warshall: what follows over numbers below k -/
def Wk (r : Nat → Nat → Prop) : Nat → Nat → Nat → Prop
  | 0, i, j => r i j
  | k + 1, i, j => Wk r k i j ∨ (Wk r k i k ∧ Wk r k k j)
theorem Wk.conn {r : Nat → Nat → Prop} : ∀ (k i j : Nat), Wk r k i j → Conn r i j
  | 0, _, _, h => .one h
  | k + 1, i, j, .inl h => Wk.conn k i j h
  | k + 1, i, j, .inr h => (Wk.conn k i k h.1).trans (Wk.conn k k j h.2)
theorem Wk.mono {r : Nat → Nat → Prop} {i j : Nat} (h : r i j) : ∀ k, Wk r k i j
  | 0 => h
  | k + 1 => .inl (Wk.mono h k)
theorem Wk.join {r : Nat → Nat → Prop} : ∀ (k m i j : Nat), m < k → Wk r k i m → Wk r k m j → Wk r k i j
  | 0, m, _, _, hm, _, _ => absurd hm (by omega)
  | k + 1, m, i, j, hm, h1, h2 => by
    have e1 : Wk r k i m ∨ (Wk r k i k ∧ Wk r k k m) := h1
    have e2 : Wk r k m j ∨ (Wk r k m k ∧ Wk r k k j) := h2
    show Wk r k i j ∨ (Wk r k i k ∧ Wk r k k j)
    rcases Nat.lt_succ_iff_lt_or_eq.1 hm with hlt | rfl
    · rcases e1 with a | ⟨a, b⟩ <;> rcases e2 with c | ⟨c, d⟩
      · exact .inl (Wk.join k m i j hlt a c)
      · exact .inr ⟨Wk.join k m i k hlt a c, d⟩
      · exact .inr ⟨a, Wk.join k m k j hlt b c⟩
      · exact .inr ⟨a, d⟩
    · have a : Wk r m i m := e1.elim (fun h => h) (fun h => h.1)
      have b : Wk r m m j := e2.elim (fun h => h) (fun h => h.2)
      exact .inr ⟨a, b⟩
theorem Wk.all {r : Nat → Nat → Prop} {n : Nat} (hr : ∀ i j, r i j → i < n ∧ j < n) (i j : Nat) : Wk r n i j ↔ Conn r i j := by
  refine ⟨Wk.conn n i j, fun h => ?_⟩
  induction h with
  | one h => exact Wk.mono h n
  | step h1 h2 ih => exact Wk.join n _ _ _ (hr _ _ h2).1 ih (Wk.mono h2 n)

/-- the relation of a matrix -/
def Rel (a : List (List Nat)) (i j : Nat) : Prop := hasM a (i : Int) (j : Int) = true
theorem Good.rel_lt {n : Nat} {a : List (List Nat)} (h : Good n a) : ∀ i j, Rel a i j → i < n ∧ j < n := fun _ _ h1 => h.has_lt h1
/-- h is the hull of r among n numbers -/
def IsHull (n : Nat) (r : Nat → Nat → Prop) (h : List (List Nat)) : Prop := Good n h ∧ ∀ i j : Nat, Rel h i j ↔ Conn r i j
def ClosedM (a : List (List Nat)) : Prop := Trans2 (Rel a)
theorem rel_ext {n : Nat} {a b : List (List Nat)} (ha : Good n a) (hb : Good n b) (h : ∀ i j : Nat, Rel a i j ↔ Rel b i j) : a = b :=
  good_ext ha hb fun i j _ _ => by
    have := h i j
    unfold Rel at this
    cases h1 : hasM a (i : Int) (j : Int) with
    | true => rw [this.1 h1]
    | false =>
      cases h2 : hasM b (i : Int) (j : Int) with
      | true => rw [this.2 h2] at h1; cases h1
      | false => rfl
theorem IsHull.unique {n : Nat} {r s : Nat → Nat → Prop} {h k : List (List Nat)} (h1 : IsHull n r h) (h2 : IsHull n s k) (he : ∀ i j, Conn r i j ↔ Conn s i j) : h = k :=
  rel_ext h1.1 h2.1 fun i j => by rw [h1.2, h2.2, he]
theorem IsHull.closed {n : Nat} {r : Nat → Nat → Prop} {h : List (List Nat)} (h1 : IsHull n r h) : ClosedM h := fun i j k a b => by
  rw [h1.2] at a b ⊢
  exact a.trans b
theorem IsHull.self {n : Nat} {h : List (List Nat)} (hG : Good n h) (hc : ClosedM h) : IsHull n (Rel h) h := ⟨hG, fun i j => (Conn.of_trans hc).symm⟩
theorem sub_rel {n : Nat} {a b : List (List Nat)} (ha : Good n a) (hb : Good n b) : subM a b = true ↔ ∀ i j, Rel a i j → Rel b i j := subM_iff ha hb
theorem IsHull.sub {n : Nat} {a h : List (List Nat)} (ha : Good n a) (h1 : IsHull n (Rel a) h) : subM a h = true := (sub_rel ha h1.1).2 fun i j hh => (h1.2 i j).2 (.one hh)
theorem IsHull.least {n : Nat} {a h b : List (List Nat)} (ha : Good n a) (h1 : IsHull n (Rel a) h) (hb : Good n b) (hc : ClosedM b) (hs : subM a b = true) : subM h b = true :=
  (sub_rel h1.1 hb).2 fun i j hh => Conn.least hc ((sub_rel ha hb).1 hs) ((h1.2 i j).1 hh)
theorem rel_set {n : Nat} {a : List (List Nat)} (ha : Good n a) {i j : Nat} (hi : i < n) (hj : j < n) (x y : Nat) : Rel (setM a (i : Int) (j : Int)) x y ↔ Rel a x y ∨ (x = i ∧ y = j) := by
  unfold Rel
  rw [hasM_setM ha hi hj]
  simp
theorem rel_turn {n : Nat} {a : List (List Nat)} (ha : Good n a) (hn : n < 64) (x y : Nat) : Rel (turnM a) x y ↔ Rel a y x := by
  unfold Rel; rw [turnM_has ha hn]
theorem IsHull.turn {n : Nat} {a h : List (List Nat)} (ha : Good n a) (hn : n < 64) (h1 : IsHull n (Rel a) h) : IsHull n (Rel (turnM a)) (turnM h) :=
  ⟨h1.1.turn hn, fun i j => by
    rw [rel_turn h1.1 hn, h1.2, Conn.same (fun x y => rel_turn ha hn x y), Conn.swap_iff]⟩
/-- what one pair more makes of a closed one -/
def AddR (r : Nat → Nat → Prop) (i j : Nat) (x y : Nat) : Prop := r x y ∨ ((x = i ∨ r x i) ∧ (y = j ∨ r j y))
theorem AddR.conn {r : Nat → Nat → Prop} (hr : Trans2 r) (i j x y : Nat) : AddR r i j x y ↔ Conn (fun a b => r a b ∨ (a = i ∧ b = j)) x y := by
  constructor
  · rintro (h | ⟨h1, h2⟩)
    · exact .one (.inl h)
    · have hm : Conn (fun a b => r a b ∨ (a = i ∧ b = j)) i j := .one (.inr ⟨rfl, rfl⟩)
      have ha : Conn (fun a b => r a b ∨ (a = i ∧ b = j)) x j := by
        rcases h1 with rfl | h1
        · exact hm
        · exact Conn.trans (.one (.inl h1)) hm
      rcases h2 with rfl | h2
      · exact ha
      · exact .step ha (.inl h2)
  · refine Conn.least (fun a b c h1 h2 => ?_) (fun a b h => ?_)
    · rcases h1 with h1 | ⟨p1, p2⟩ <;> rcases h2 with h2 | ⟨q1, q2⟩
      · exact .inl (hr _ _ _ h1 h2)
      · refine .inr ⟨.inr ?_, q2⟩
        rcases q1 with rfl | q1
        · exact h1
        · exact hr _ _ _ h1 q1
      · refine .inr ⟨p1, .inr ?_⟩
        rcases p2 with rfl | p2
        · exact h2
        · exact hr _ _ _ p2 h2
      · exact .inr ⟨p1, q2⟩
    · rcases h with h | ⟨rfl, rfl⟩
      · exact .inl h
      · exact .inr ⟨.inl rfl, .inl rfl⟩
/-- the hull of a hull and a pair is that of all -/
theorem conn_add {r : Nat → Nat → Prop} (i j x y : Nat) : Conn (fun a b => Conn r a b ∨ (a = i ∧ b = j)) x y ↔ Conn (fun a b => r a b ∨ (a = i ∧ b = j)) x y :=
  ⟨fun hc => Conn.least (s := Conn (fun a b => r a b ∨ (a = i ∧ b = j))) (fun a b c h1 h2 => Conn.trans h1 h2) (fun a b h => by
    rcases h with h | h
    · exact h.mono fun _ _ h1 => .inl h1
    · exact .one (.inr h)) hc, fun hc => hc.mono fun a b h => h.imp .one id⟩

/-- is it closed? as the program looks: row by row -/
def closedB (a : List (List Nat)) : Bool := (List.range a.length).all fun i => (listN (a.getD i [])).all fun j => subR (a.getD j []) (a.getD i [])
theorem closedB_iff {n : Nat} {a : List (List Nat)} (ha : Good n a) : closedB a = true ↔ ClosedM a := by
  unfold closedB
  rw [List.all_eq_true]
  constructor
  · intro h i j k h1 h2
    obtain ⟨hi, hj⟩ := ha.has_lt h1
    have hk := (ha.has_lt h2).2
    obtain ⟨r, hr, hw, hl⟩ := ha.at_ hi
    obtain ⟨s, hs, hws, _⟩ := ha.at_ hj
    have h3 := h i (List.mem_range.2 (by rw [ha.len]; exact hi))
    rw [getD_at hr, List.all_eq_true] at h3
    unfold Rel at h1 h2 ⊢
    rw [hasM_in hr] at h1
    rw [hasM_in hs] at h2
    have h4 := h3 j ((listN_mem _ _).2 ⟨by omega, h1⟩)
    rw [getD_at hs] at h4
    rw [hasM_in hr]
    exact (subR_iff s r hws).1 h4 k h2
  · intro h i hi
    have hi' : i < n := by rw [← ha.len]; exact List.mem_range.1 hi
    obtain ⟨r, hr, hw, hl⟩ := ha.at_ hi'
    rw [getD_at hr, List.all_eq_true]
    intro j hj
    have h1 := ((listN_mem _ _).1 hj).2
    have h1' : Rel a i j := by unfold Rel; rw [hasM_in hr]; exact h1
    have hjn := (ha.has_lt h1').2
    obtain ⟨s, hs, hws, _⟩ := ha.at_ hjn
    rw [getD_at hs]
    refine (subR_iff s r hws).2 fun k hk => ?_
    have := h i j k h1' (by unfold Rel; rw [hasM_in hs]; exact hk)
    unfold Rel at this
    rwa [hasM_in hr] at this
theorem closedB_no {a : List (List Nat)} {i j : Nat} {r s : List Nat} (hr : a[i]? = some r) (hs : a[j]? = some s) (hj : j ∈ listN r) (h : subR s r = false) : closedB a = false := by
  cases hc : closedB a with
  | false => rfl
  | true =>
    unfold closedB at hc
    rw [List.all_eq_true] at hc
    have h1 := hc i (List.mem_range.2 (List.getElem?_eq_some_iff.1 hr).1)
    rw [getD_at hr, List.all_eq_true] at h1
    have h2 := h1 j hj
    rw [getD_at hs, h] at h2
    cases h2
theorem closedB_yes {a : List (List Nat)} (h : ∀ (i : Nat) (r : List Nat), a[i]? = some r → ∀ j, j ∈ listN r → ∀ s, a[j]? = some s → subR s r = true) (hl : ∀ (i : Nat) (r : List Nat), a[i]? = some r → ∀ j, j ∈ listN r → j < a.length) : closedB a = true := by
  unfold closedB
  rw [List.all_eq_true]
  intro i hi
  have hi' := List.mem_range.1 hi
  have hx : a[i]? = some a[i] := List.getElem?_eq_getElem hi'
  rw [getD_at hx, List.all_eq_true]
  intro j hj
  have hj' := hl i _ hx j hj
  have hy : a[j]? = some a[j] := List.getElem?_eq_getElem hj'
  rw [getD_at hy]
  exact h i _ hx j hj _ hy
/-- the row i of step k: joined with row k, if it has k -/
def stepR (a : List (List Nat)) (k : Nat) (r : List Nat) : List Nat := if hasR r (k : Int) = true then orR r (a.getD k []) else r
def stepM (a : List (List Nat)) (k q : Nat) : List (List Nat) := (List.range a.length).map fun i => if i < q then stepR a k (a.getD i []) else a.getD i []
theorem stepM_len (a : List (List Nat)) (k q : Nat) : (stepM a k q).length = a.length := by simp [stepM]
theorem stepM_get {a : List (List Nat)} {k q i : Nat} {r : List Nat} (h : a[i]? = some r) : (stepM a k q)[i]? = some (if i < q then stepR a k r else r) := by
  unfold stepM
  have hi := (List.getElem?_eq_some_iff.1 h).1
  rw [List.getElem?_map, List.getElem?_range hi, Option.map_some, getD_at h]
theorem stepM_zero (a : List (List Nat)) (k : Nat) : stepM a k 0 = a := by
  unfold stepM
  simp only [Nat.not_lt_zero, if_false]
  rw [map_range_getD a [] (fun x => x)]; simp
theorem stepM_succ {a : List (List Nat)} {k q : Nat} {r : List Nat} (h : a[q]? = some r) : stepM a k (q + 1) = (stepM a k q).set q (stepR a k r) := by
  apply List.ext_getElem?
  intro i
  rw [List.getElem?_set]
  by_cases hi : i < a.length
  · have hx : a[i]? = some a[i] := List.getElem?_eq_getElem hi
    rw [stepM_get hx, stepM_len]
    by_cases hq : q = i
    · subst hq
      rw [h] at hx
      injection hx with hx
      rw [if_pos (by omega), if_pos rfl, if_pos hi, hx]
    · rw [if_neg hq, stepM_get hx]
      by_cases h1 : i < q
      · rw [if_pos h1, if_pos (by omega)]
      · rw [if_neg h1, if_neg (by omega)]
  · rw [List.getElem?_eq_none (by rw [stepM_len]; omega)]
    split
    · rename_i h1
      subst h1
      exact absurd (List.getElem?_eq_some_iff.1 h).1 hi
    · rw [List.getElem?_eq_none (by rw [stepM_len]; omega)]
theorem stepR_self {a : List (List Nat)} {k : Nat} {r : List Nat} (h : a[k]? = some r) : stepR a k r = r := by
  unfold stepR
  split
  · rw [getD_at h]
    unfold orR
    apply List.ext_getElem?
    intro j
    rw [Nat.max_self, List.getElem?_map]
    by_cases hj : j < r.length
    · rw [List.getElem?_range hj, Option.map_some, Nat.or_self, List.getD_eq_getElem?_getD, List.getElem?_eq_getElem hj]; rfl
    · rw [List.getElem?_eq_none (by simpa using hj), List.getElem?_eq_none (by omega)]; rfl
  · rfl
theorem stepM_through {a : List (List Nat)} {k q : Nat} {r : List Nat} (h : a[k]? = some r) : (stepM a k q)[k]? = some r := by
  rw [stepM_get h, stepR_self h]; simp
theorem stepR_good {n : Nat} {a : List (List Nat)} (ha : Good n a) {k : Nat} (hk : k < n) {r : List Nat} (hr : r ∈ a) : W64 (stepR a k r) ∧ (stepR a k r).length = r.length ∧ ∀ j : Nat, hasR (stepR a k r) (j : Int) = (hasR r (j : Int) || (hasR r (k : Int) && hasM a (k : Int) (j : Int))) := by
  obtain ⟨s, hs, hws, _⟩ := ha.at_ hk
  have h1 := ha.row r hr
  have h2 := ha.row s (List.mem_of_getElem? hs)
  unfold stepR
  rw [getD_at hs]
  by_cases h : hasR r (k : Int) = true
  · rw [if_pos h]
    refine ⟨orR_w64 h1.1 hws, by rw [orR_len, h1.2.2.1, h2.2.2.1, Nat.max_self], fun j => ?_⟩
    rw [hasR_orR, h, hasM_in hs, Bool.true_and]
  · rw [if_neg h]
    refine ⟨h1.1, rfl, fun j => ?_⟩
    rw [Bool.not_eq_true] at h
    rw [h, Bool.false_and, Bool.or_false]
theorem stepM_good {n : Nat} {a : List (List Nat)} (ha : Good n a) {k : Nat} (hk : k < n) (q : Nat) : Good n (stepM a k q) := by
  refine ⟨ha.le, by rw [stepM_len, ha.len], fun r hr => ?_⟩
  obtain ⟨i, hi⟩ := List.getElem?_of_mem hr
  have hil : i < a.length := by
    have := (List.getElem?_eq_some_iff.1 hi).1
    rwa [stepM_len] at this
  have hx : a[i]? = some a[i] := List.getElem?_eq_getElem hil
  rw [stepM_get hx] at hi
  injection hi with hi
  have h0 := ha.row _ (List.mem_of_getElem? hx)
  by_cases hq : i < q
  · rw [if_pos hq] at hi
    obtain ⟨h1, h2, h3⟩ := stepR_good ha hk (List.mem_of_getElem? hx)
    subst hi
    refine ⟨h1, by rw [h2]; exact h0.2.1, by rw [h2]; exact h0.2.2.1, fun j hj => ?_⟩
    rw [h3 j, h0.2.2.2 j hj]
    cases hh : hasM a (k : Int) (j : Int) with
    | false => simp
    | true => exact absurd (ha.has_lt hh).2 (by omega)
  · rw [if_neg hq] at hi
    subst hi
    exact h0
theorem stepM_rel {n : Nat} {a : List (List Nat)} (ha : Good n a) {k : Nat} (hk : k < n) (i j : Nat) : Rel (stepM a k n) i j ↔ Rel a i j ∨ (Rel a i k ∧ Rel a k j) := by
  unfold Rel
  by_cases hi : i < n
  · obtain ⟨r, hr, _, _⟩ := ha.at_ hi
    have h1 := stepM_get (k := k) (q := n) hr
    rw [if_pos hi] at h1
    obtain ⟨_, _, h3⟩ := stepR_good ha hk (List.mem_of_getElem? hr)
    rw [hasM_in h1, h3 j, hasM_in hr, hasM_in hr, Bool.or_eq_true, Bool.and_eq_true]
  · rw [hasM_out (xss := stepM a k n) (.inr (by rw [stepM_len, ha.len]; omega)), hasM_out (xss := a) (i := (i : Int)) (.inr (by rw [ha.len]; omega)), hasM_out (xss := a) (i := (i : Int)) (.inr (by rw [ha.len]; omega))]
    simp
/-- the hull, step by step -/
def closeK (a : List (List Nat)) : Nat → List (List Nat)
  | 0 => a
  | k + 1 => stepM (closeK a k) k a.length
theorem closeK_facts {n : Nat} {a : List (List Nat)} (ha : Good n a) : ∀ k, k ≤ n → Good n (closeK a k) ∧ ∀ i j, Rel (closeK a k) i j ↔ Wk (Rel a) k i j
  | 0, _ => ⟨ha, fun i j => Iff.rfl⟩
  | k + 1, hk => by
    obtain ⟨h1, h2⟩ := closeK_facts ha k (by omega)
    show Good n (stepM (closeK a k) k a.length) ∧ ∀ i j, Rel (stepM (closeK a k) k a.length) i j ↔ _
    rw [ha.len]
    refine ⟨stepM_good h1 (by omega) n, fun i j => ?_⟩
    rw [stepM_rel h1 (by omega)]
    show _ ↔ Wk (Rel a) k i j ∨ (Wk (Rel a) k i k ∧ Wk (Rel a) k k j)
    rw [h2, h2, h2]
theorem closeK_hull {n : Nat} {a : List (List Nat)} (ha : Good n a) : IsHull n (Rel a) (closeK a n) := by
  obtain ⟨h1, h2⟩ := closeK_facts ha n (Nat.le_refl _)
  exact ⟨h1, fun i j => by rw [h2, Wk.all ha.rel_lt]⟩

end Go.Proofs.Ytjmkpoignnbcpaa

namespace Go.Proofs.Ytjmkpoignnbcpaa
set_option linter.unusedVariables false

theorem mem_rowPo {is : List It} {a n : Nat} {i j : Nat} : ((i : Int), (j : Int)) ∈ rowPo is a n ↔ i = a ∧ j < n ∧ aheadF is a j = true := by
  unfold rowPo
  rw [List.mem_map]
  constructor
  · rintro ⟨k, hk, he⟩
    obtain ⟨h1, h2⟩ := List.mem_filter.1 hk
    have h1 := List.mem_range.1 h1
    injection he with e1 e2
    have e1 : a = i := by omega
    have e2 : k = j := by omega
    subst e1; subst e2
    exact ⟨rfl, h1, h2⟩
  · rintro ⟨rfl, h1, h2⟩
    exact ⟨j, List.mem_filter.2 ⟨List.mem_range.2 h1, h2⟩, rfl⟩
theorem mem_uptoPo {is : List It} {n m : Nat} {i j : Nat} : ((i : Int), (j : Int)) ∈ uptoPo is n m ↔ i < m ∧ j < n ∧ aheadF is i j = true := by
  unfold uptoPo
  rw [List.mem_flatMap]
  constructor
  · rintro ⟨a, ha, h⟩
    obtain ⟨rfl, h1, h2⟩ := mem_rowPo.1 h
    exact ⟨List.mem_range.1 ha, h1, h2⟩
  · rintro ⟨h0, h1, h2⟩
    exact ⟨i, List.mem_range.2 h0, mem_rowPo.2 ⟨rfl, h1, h2⟩⟩
theorem uptoPo_ok (is : List It) (n m : Nat) (h : m ≤ n) : ∀ x ∈ uptoPo is n m, okP (n : Int) x = true := fun x hx => by
  unfold uptoPo at hx
  obtain ⟨a, ha, h1⟩ := List.mem_flatMap.1 hx
  have ha := List.mem_range.1 ha
  unfold rowPo at h1
  obtain ⟨k, hk, rfl⟩ := List.mem_map.1 h1
  have hk := List.mem_range.1 (List.mem_filter.1 hk).1
  unfold okP inM
  simp; omega
theorem poM_good {is : List It} (h : is.length ≤ 4096) : Good is.length (poM is) ∧ ∀ i j : Nat, hasM (poM is) (i : Int) (j : Int) = aheadF is i j := by
  obtain ⟨h1, h2⟩ := foldP_facts h (uptoPo is is.length is.length) (uptoPo_ok is _ _ (Nat.le_refl _))
  refine ⟨h1, fun i j => ?_⟩
  unfold poM
  rw [h2 i j, Bool.eq_iff_iff, decide_eq_true_eq, mem_uptoPo]
  constructor
  · exact fun h => h.2.2
  · intro h
    have := aheadF_in h
    exact ⟨by omega, by omega, h⟩
theorem aheadF_says {is : List It} {i j : Int} (h : aheadF is i j = true) : ∃ x y : It, is[i.toNat]? = some x ∧ is[j.toNat]? = some y ∧ x.se = y.se ∧ x.pl < y.pl := by
  have hb := aheadF_in h
  obtain ⟨x, hx⟩ : ∃ x, is[i.toNat]? = some x := ⟨_, List.getElem?_eq_getElem (by omega)⟩
  obtain ⟨y, hy⟩ : ∃ x, is[j.toNat]? = some x := ⟨_, List.getElem?_eq_getElem (by omega)⟩
  rw [aheadF_at hb.1 hb.2.1 hx hy, Bool.and_eq_true, decide_eq_true_eq, decide_eq_true_eq] at h
  exact ⟨x, y, hx, hy, h.1, h.2⟩
theorem aheadF_not {is : List It} {i j : Int} (h : aheadF is i j = true) : aheadF is j i = false := by
  cases hh : aheadF is j i with
  | false => rfl
  | true =>
    obtain ⟨x, y, x1, y1, -, h1⟩ := aheadF_says h
    obtain ⟨y', x', y2, x2, -, h2⟩ := aheadF_says hh
    rw [x1] at x2; injection x2 with x2; subst x2
    rw [y1] at y2; injection y2 with y2; subst y2
    omega
theorem poM_closed {is : List It} (h : is.length ≤ 4096) : closedB (poM is) = true := (closedB_iff (poM_good h).1).2 fun i j k h1 h2 => by
  unfold Rel at *
  rw [(poM_good h).2] at *
  obtain ⟨x, y, x1, y1, e1, l1⟩ := aheadF_says h1
  obtain ⟨y', z, y2, z1, e2, l2⟩ := aheadF_says h2
  rw [y1] at y2; injection y2 with y2; subst y2
  rw [aheadF_at (by omega) (by omega) x1 z1, Bool.and_eq_true, decide_eq_true_eq, decide_eq_true_eq]
  exact ⟨by rw [e1, e2], by omega⟩
theorem poM_loop {is : List It} (h : is.length ≤ 4096) (i : Nat) : ¬ Rel (poM is) i i := fun h1 => by
  unfold Rel at h1
  rw [(poM_good h).2] at h1
  rw [aheadF_not h1] at h1; cases h1
/-- what one session of n operations has -/
def triN : Nat → Nat
  | 0 => 0
  | n + 1 => triN n + n
theorem triN_le : ∀ n, triN n ≤ n * n
  | 0 => Nat.le_refl _
  | n + 1 => by have := triN_le n; show triN n + n ≤ (n + 1) * (n + 1); rw [Nat.add_mul, Nat.mul_add]; omega
theorem triN_two : ∀ n : Nat, (n : Int) * ((n : Int) - 1) = 2 * (triN n : Int)
  | 0 => rfl
  | n + 1 => by
    have := triN_two n
    show ((n + 1 : Nat) : Int) * (((n + 1 : Nat) : Int) - 1) = 2 * ((triN n + n : Nat) : Int)
    rw [show (((n + 1 : Nat) : Int) - 1) = (n : Int) by omega, Int.natCast_add n 1, Int.natCast_add (triN n) n, Int.mul_add, ← this, Int.add_mul, Int.mul_sub]
    omega
theorem triN_quo (n : Nat) : ((n : Int) * ((n : Int) - 1)).tdiv 2 = (triN n : Int) := by
  rw [triN_two, Int.mul_tdiv_cancel_left _ (by omega)]
/-- how many pairs the first sessions have -/
def pairsO (hs : List (List OpT)) (s : Nat) : Nat := sumF s fun t => triN (hs.getD t []).length
theorem pairsO_succ {hs : List (List OpT)} {s : Nat} {os : List OpT} (h : hs[s]? = some os) : pairsO hs (s + 1) = pairsO hs s + triN os.length := by
  unfold pairsO; rw [sumF_succ, List.getD_eq_getElem?_getD, h]; rfl
theorem pairsO_le (hs : List (List OpT)) : ∀ s, s ≤ hs.length → pairsO hs s ≤ baseO hs s * baseO hs s
  | 0, _ => by unfold pairsO baseO; exact Nat.zero_le _
  | s + 1, h => by
    obtain ⟨os, hos⟩ : ∃ os, hs[s]? = some os := ⟨_, List.getElem?_eq_getElem (by omega)⟩
    have := pairsO_le hs s (by omega)
    have h1 := triN_le os.length
    rw [pairsO_succ hos, baseO_succ hos, Nat.add_mul, Nat.mul_add, Nat.mul_add]
    omega
def plc (hs : List (List OpT)) (j : Nat) : Nat := match spotN hs j with | some (_, p) => p | none => 0
theorem sum_session {hs : List (List OpT)} {s : Nat} {os : List OpT} (h : hs[s]? = some os) : ∀ m, m ≤ os.length → sumF (baseO hs s + m) (plc hs) = sumF (baseO hs s) (plc hs) + triN m
  | 0, _ => rfl
  | m + 1, hm => by
    have := sum_session h m (by omega)
    rw [← Nat.add_assoc, sumF_succ, this]
    have e : plc hs (baseO hs s + m) = m := by unfold plc; rw [spotN_atO h (by omega)]
    rw [e]
    show _ = _ + (triN m + m)
    omega
theorem sum_places (hs : List (List OpT)) : ∀ s, s ≤ hs.length → sumF (baseO hs s) (plc hs) = pairsO hs s
  | 0, _ => by unfold pairsO baseO; rfl
  | s + 1, h => by
    obtain ⟨os, hos⟩ : ∃ os, hs[s]? = some os := ⟨_, List.getElem?_eq_getElem (by omega)⟩
    rw [pairsO_succ hos, baseO_succ hos, sum_session hos _ (Nat.le_refl _), sum_places hs s (by omega)]
theorem poM_pairs (hs : List (List OpT)) (hN : (allO hs).length ≤ 4096) : (pairsM (poM (hisF hs).2)).length = pairsO hs hs.length := by
  have hl := hisF_len hs
  have hG := poM_good (is := (hisF hs).2) (by rw [hl]; exact hN)
  rw [pairs_sum hG.1, sumF_swap, hl, ← sum_places hs hs.length (Nat.le_refl _)]
  have eb : baseO hs hs.length = (allO hs).length := by unfold baseO; rw [List.take_length]
  rw [eb]
  refine sumF_congr fun j hj => ?_
  obtain ⟨s, p, x, x1, x2, x3, x4, x5, x6, x7⟩ := items_at hj
  have e : plc hs j = p := by unfold plc; rw [x1]
  rw [e, ← count_sum (allO hs).length (fun i => hasM (poM (hisF hs).2) (i : Int) (j : Int)) (allO hs).length (Nat.le_refl _) (fun i hi => by
    rw [hG.2]; exact aheadF_out (by rw [hl]; omega))]
  rw [List.filter_congr (q := fun i => decide (baseO hs s ≤ i ∧ i < j)) (fun i hi => by rw [hG.2]; exact ahead_hist (List.mem_range.1 hi) hj x1 x5)]
  rcases Nat.eq_zero_or_pos p with hp | hp
  · rw [List.filter_eq_nil_iff.2 (fun a ha => by simp; omega)]; rw [hp]; rfl
  · rw [filter_span (b := baseO hs s) (k := j - 1) (by omega) (by omega) _ (fun i hi => by rw [Bool.eq_iff_iff, decide_eq_true_eq, decide_eq_true_eq]; omega), List.length_range']
    omega
end Go.Proofs.Ytjmkpoignnbcpaa

namespace Go.Proofs.Ytjmkpoignnbcpaa
set_option linter.unusedVariables false

/-- items of a session are neighbours, and their places rise by one -/
def Nbr (is : List It) : Prop := ∀ (i : Nat) (x y : It), is[i]? = some x → is[i + 1]? = some y → (x.se = y.se ∧ y.pl = x.pl + 1) ∨ x.se < y.se
theorem nbr_hist (hs : List (List OpT)) : Nbr (hisF hs).2 := fun i x y hx hy => by
  have hi : i + 1 < (allO hs).length := by rw [← hisF_len hs]; exact (List.getElem?_eq_some_iff.1 hy).1
  obtain ⟨s, p, x', x1, x2, x3, x4, x5, x6, x7⟩ := items_at (hs := hs) (i := i) (by omega)
  obtain ⟨t, q, y', y1, y2, y3, y4, y5, y6, y7⟩ := items_at (hs := hs) (i := i + 1) hi
  rw [hx] at x2; injection x2 with x2; subst x2
  rw [hy] at y2; injection y2 with y2; subst y2
  rcases Nat.lt_trichotomy s t with h | h | h
  · exact .inr (by omega)
  · subst h; exact .inl ⟨by omega, by omega⟩
  · exfalso
    obtain ⟨os, hos⟩ : ∃ os, hs[t]? = some os := ⟨_, List.getElem?_eq_getElem y7⟩
    have hgd : hs.getD t [] = os := by rw [List.getD_eq_getElem?_getD, hos]; rfl
    rw [hgd] at y6
    have b1 := baseO_succ hos
    have := baseO_mono (hs := hs) (show t + 1 ≤ s by omega)
    omega
theorem Nbr.chain {is : List It} (h : Nbr is) : ∀ (d i : Nat) (x y : It), is[i]? = some x → is[i + d]? = some y → (x.se = y.se ∧ y.pl = x.pl + (d : Int)) ∨ x.se < y.se
  | 0, i, x, y, hx, hy => by
    rw [Nat.add_zero, hx] at hy; injection hy with hy; subst hy
    exact .inl ⟨rfl, by omega⟩
  | d + 1, i, x, y, hx, hy => by
    obtain ⟨z, hz⟩ : ∃ z, is[i + d]? = some z := ⟨_, List.getElem?_eq_getElem (by have := (List.getElem?_eq_some_iff.1 hy).1; omega)⟩
    have h1 := h.chain d i x z hx hz
    have h2 := h (i + d) z y hz (by rw [Nat.add_assoc]; exact hy)
    omega
theorem Nbr.le {is : List It} (h : Nbr is) {i j : Nat} {x y : It} (hij : i ≤ j) (hx : is[i]? = some x) (hy : is[j]? = some y) : (x.se = y.se ∧ y.pl = x.pl + ((j - i : Nat) : Int)) ∨ x.se < y.se :=
  h.chain (j - i) i x y hx (by rw [show i + (j - i) = j by omega]; exact hy)
theorem Nbr.ahead {is : List It} (h : Nbr is) {i j : Nat} {x y : It} (hx : is[i]? = some x) (hy : is[j]? = some y) : aheadF is i j = (decide (x.se = y.se) && decide (i < j)) := by
  rw [aheadF_at (by omega) (by omega) (by rw [Int.toNat_natCast]; exact hx) (by rw [Int.toNat_natCast]; exact hy), Bool.eq_iff_iff, Bool.and_eq_true, Bool.and_eq_true, decide_eq_true_eq, decide_eq_true_eq, decide_eq_true_eq]
  rcases Nat.le_total i j with hij | hij
  · have := h.le hij hx hy
    omega
  · have := h.le hij hy hx
    omega
/-- b is the first item of o's session -/
structure FirstIs (is : List It) (o b : Nat) : Prop where
  le : b ≤ o
  same : ∀ (i : Nat) (x y : It), b ≤ i → i ≤ o → is[i]? = some x → is[o]? = some y → x.se = y.se
  new : 0 < b → ∀ x y, is[b - 1]? = some x → is[o]? = some y → x.se ≠ y.se
theorem FirstIs.lower {is : List It} {o b : Nat} (hN : Nbr is) (h : FirstIs is o b) {i : Nat} {x y : It} (hi : i < b) (hx : is[i]? = some x) (hy : is[o]? = some y) : x.se ≠ y.se := by
  have hob : o < is.length := (List.getElem?_eq_some_iff.1 hy).1
  have hle := h.le
  obtain ⟨z, hz⟩ : ∃ z, is[b - 1]? = some z := ⟨_, List.getElem?_eq_getElem (by omega)⟩
  have h1 := h.new (by omega) z y hz hy
  have h2 := hN.le (show i ≤ b - 1 by omega) hx hz
  have h3 := hN.le (show b - 1 ≤ o by omega) hz hy
  omega
theorem FirstIs.ahead {is : List It} {o b : Nat} (hN : Nbr is) (h : FirstIs is o b) (ho : o < is.length) {i : Nat} (hi : i < is.length) : aheadF is i o = decide (b ≤ i ∧ i < o) := by
  obtain ⟨x, hx⟩ : ∃ z, is[i]? = some z := ⟨_, List.getElem?_eq_getElem hi⟩
  obtain ⟨y, hy⟩ : ∃ z, is[o]? = some z := ⟨_, List.getElem?_eq_getElem ho⟩
  rw [hN.ahead hx hy, Bool.eq_iff_iff, Bool.and_eq_true, decide_eq_true_eq, decide_eq_true_eq, decide_eq_true_eq]
  constructor
  · rintro ⟨h1, h2⟩
    refine ⟨?_, h2⟩
    rcases Nat.lt_or_ge i b with hb | hb
    · exact absurd h1 (h.lower hN hb hx hy)
    · exact hb
  · rintro ⟨h1, h2⟩
    exact ⟨h.same i x y h1 (by omega) hx hy, h2⟩
def spanI (b n : Nat) : List Int := (List.range' b n).map fun (i : Nat) => (i : Int)
theorem spanI_succ (b n : Nat) : spanI b (n + 1) = spanI b n ++ [((b + n : Nat) : Int)] := by
  unfold spanI; rw [List.range'_1_concat, List.map_append]; rfl
theorem spanI_len (b n : Nat) : (spanI b n).length = n := by unfold spanI; simp
theorem spanI_ok (b n : Nat) : ∀ z ∈ spanI b n, 0 ≤ z ∧ z < ((b + n : Nat) : Int) := fun z hz => by
  unfold spanI at hz
  obtain ⟨i, hi, rfl⟩ := List.mem_map.1 hz
  have := List.mem_range'_1.1 hi
  omega
theorem FirstIs.past {is : List It} {o b : Nat} (hN : Nbr is) (h : FirstIs is o b) (ho : o < is.length) : pastF is (o : Int) is.length = spanI b (o + 1 - b) := by
  unfold pastF pastN spanI
  rw [filter_span h.le ho _ (fun i hi => by
    rw [h.ahead hN ho hi, Bool.eq_iff_iff, Bool.or_eq_true, decide_eq_true_eq, decide_eq_true_eq, decide_eq_true_eq]; have := h.le; omega)]
theorem past_none {is : List It} {o : Int} (h : o < 0 ∨ (is.length : Int) ≤ o) : pastF is o is.length = [] := by
  unfold pastF pastN
  rw [List.filter_eq_nil_iff.2 (fun a ha => by
    have := List.mem_range.1 ha
    rw [aheadF_out (by omega), decide_eq_false (by omega)]; simp)]
  rfl
/-- a session ends ahead of e -/
def EndAt (is : List It) (e : Nat) : Prop := 0 < e → ∀ x y, is[e - 1]? = some x → is[e]? = some y → x.se ≠ y.se
theorem EndAt.all (is : List It) : EndAt is is.length := fun h x y _ hy => by
  rw [List.getElem?_eq_none (Nat.le_refl _)] at hy; cases hy
/-- the items from s to below e are one session -/
structure Seg (is : List It) (s e : Nat) : Prop where
  lt : s < e
  le : e ≤ is.length
  at_ : ∀ i j : Nat, s ≤ i → i < e → aheadF is i j = decide (i < j ∧ j < e)
theorem FirstIs.seg {is : List It} {s e : Nat} (hN : Nbr is) (he : 0 < e) (hl : e ≤ is.length) (hE : EndAt is e) (h : FirstIs is (e - 1) s) : Seg is s e ∧ EndAt is s := by
  have hle := h.le
  obtain ⟨z, hz⟩ : ∃ z, is[e - 1]? = some z := ⟨_, List.getElem?_eq_getElem (by omega)⟩
  refine ⟨⟨by omega, hl, fun i j hi hie => ?_⟩, fun h0 x y hx hy => ?_⟩
  · obtain ⟨x, hx⟩ : ∃ z, is[i]? = some z := ⟨_, List.getElem?_eq_getElem (by omega)⟩
    have hxz := h.same i x z hi (by omega) hx hz
    rcases Nat.lt_or_ge j is.length with hj | hj
    · obtain ⟨y, hy⟩ : ∃ z, is[j]? = some z := ⟨_, List.getElem?_eq_getElem hj⟩
      rw [hN.ahead hx hy, Bool.eq_iff_iff, Bool.and_eq_true, decide_eq_true_eq, decide_eq_true_eq, decide_eq_true_eq]
      constructor
      · rintro ⟨h1, h2⟩
        refine ⟨h2, ?_⟩
        rcases Nat.lt_or_ge j e with hje | hje
        · exact hje
        · exfalso
          obtain ⟨u, hu⟩ : ∃ z, is[e]? = some z := ⟨_, List.getElem?_eq_getElem (by omega)⟩
          have h3 := hE he z u hz hu
          have h4 := hN.le (show e - 1 ≤ e by omega) hz hu
          have h5 := hN.le hje hu hy
          omega
      · rintro ⟨h1, h2⟩
        exact ⟨by rw [hxz]; exact (h.same j y z (by omega) (by omega) hy hz).symm, h1⟩
    · rw [aheadF_out (by omega)]
      symm; rw [decide_eq_false_iff_not]; omega
  · have := h.same s y z (Nat.le_refl _) hle hy hz
    rw [this]
    exact h.new h0 x z hx hz
/-- the rows of the last items, those ahead of them empty -/
def partM (is : List It) (e : Nat) : List (List Nat) := (List.range is.length).map fun i => if i < e then [] else (poM is).getD i []
theorem partM_len (is : List It) (e : Nat) : (partM is e).length = is.length := by simp [partM]
theorem partM_none (is : List It) : partM is is.length = List.replicate is.length [] := by
  unfold partM
  apply List.ext_getElem?
  intro i
  rw [List.getElem?_map, List.getElem?_range_eq, List.getElem?_replicate]
  by_cases h : i < is.length
  · rw [if_pos h, if_pos h]; simp [h]
  · rw [if_neg h, if_neg h]; rfl
where
  List.getElem?_range_eq {n i : Nat} : (List.range n)[i]? = if i < n then some i else none := by
    by_cases h : i < n
    · rw [if_pos h, List.getElem?_range h]
    · rw [if_neg h, List.getElem?_eq_none (by simp; omega)]
theorem poM_len' (is : List It) : (poM is).length = is.length := (DimM.fold is.length _).1
theorem partM_all (is : List It) : partM is 0 = poM is := by
  unfold partM
  apply List.ext_getElem?
  intro i
  rw [List.getElem?_map]
  by_cases h : i < is.length
  · rw [List.getElem?_range h]
    have := List.getElem?_eq_getElem (l := poM is) (i := i) (by rw [poM_len']; exact h)
    rw [this]; simp [List.getD_eq_getElem?_getD, this]
  · rw [List.getElem?_eq_none (by simp; omega), List.getElem?_eq_none (by rw [poM_len']; omega)]; rfl
theorem partM_get {is : List It} {e i : Nat} (h1 : e ≤ i) (h2 : i < is.length) : (partM is e)[i]? = some ((poM is).getD i []) := by
  unfold partM
  rw [List.getElem?_map, List.getElem?_range h2]
  simp; omega
theorem partM_set {is : List It} {e : Nat} (h : e < is.length) : (partM is (e + 1)).set e ((poM is).getD e []) = partM is e := by
  unfold partM
  rw [map_range_set]
  apply List.map_congr_left
  intro j hj
  by_cases hje : j = e
  · subst hje; simp
  · simp only [if_neg hje]
    by_cases h1 : j < e
    · rw [if_pos h1, if_pos (by omega)]
    · rw [if_neg h1, if_neg (by omega)]
theorem poM_row {is : List It} (h : is.length ≤ 4096) {i : Nat} (hi : i < is.length) : ((poM is).getD i []).length = (wordsZ (is.length : Int)).toNat ∧ W64 ((poM is).getD i []) ∧ ∀ j : Nat, hasR ((poM is).getD i []) (j : Int) = aheadF is i j := by
  obtain ⟨hG, hh⟩ := poM_good h
  obtain ⟨r, hr⟩ : ∃ r, (poM is)[i]? = some r := ⟨_, List.getElem?_eq_getElem (by rw [poM_len']; exact hi)⟩
  have hd : (poM is).getD i [] = r := getD_at hr
  rw [hd]
  refine ⟨(DimM.fold is.length _).2 i r hr, (hG.row r (List.mem_of_getElem? hr)).1, fun j => ?_⟩
  rw [← hh i j, hasM_in hr]
/-- the row of a session's last item -/
theorem Seg.last {is : List It} {s e : Nat} (h : Seg is s e) (hn : is.length ≤ 4096) : (poM is).getD (e - 1) [] = List.replicate (wordsZ (is.length : Int)).toNat 0 := by
  have hlt := h.lt
  have hle := h.le
  obtain ⟨r1, r2, r3⟩ := poM_row hn (i := e - 1) (by omega)
  refine row_ext r2 (fun x hx => by rw [(List.mem_replicate.1 hx).2]; omega) (by rw [r1, List.length_replicate]) (fun i _ => ?_)
  rw [r3, hasR_zeros, h.at_ (e - 1) i (by omega) (by omega), decide_eq_false (by omega)]
/-- .. and of one ahead of it: the next one, and what stands behind that -/
theorem Seg.step {is : List It} {s e i : Nat} (h : Seg is s e) (hn : is.length ≤ 4096) (hs : s ≤ i) (hi : i + 1 < e) : setR ((poM is).getD (i + 1) []) ((i + 1 : Nat) : Int) = (poM is).getD i [] := by
  have hle := h.le
  obtain ⟨r1, r2, r3⟩ := poM_row hn (i := i) (by omega)
  obtain ⟨q1, q2, q3⟩ := poM_row hn (i := i + 1) (by omega)
  have hw := words_pos (n := is.length) (by omega)
  refine row_ext (setR_w64 q2 _) r2 (by rw [setR_len, r1, q1]) (fun j _ => ?_)
  rw [hasR_setR _ _ _ (by rw [q1]; omega), r3, q3, h.at_ i j hs (by omega), h.at_ (i + 1) j (by omega) hi, Bool.eq_iff_iff, Bool.or_eq_true, decide_eq_true_eq, decide_eq_true_eq, decide_eq_true_eq]
  omega
end Go.Proofs.Ytjmkpoignnbcpaa

namespace Go.Proofs.Ytjmkpoignnbcpaa
open Go.RowKit

/-- whatever there was, but for the block g, is as it was -/
structure BelowB (g : Nat) (w w' : World) : Prop where
  os : w'.os = w.os
  tape : w'.tape = w.tape
  output : w'.output = w.output
  size : w.heap.size ≤ w'.heap.size
  block : ∀ k, k < w.heap.size → k ≠ g → w'.heap[k]? = w.heap[k]?
theorem BelowB.refl (g : Nat) (w : World) : BelowB g w w := ⟨rfl, rfl, rfl, Nat.le_refl _, fun _ _ _ => rfl⟩
theorem BelowB.trans {g : Nat} {a b c : World} (h : BelowB g a b) (k : BelowB g b c) : BelowB g a c :=
  ⟨k.os.trans h.os, k.tape.trans h.tape, k.output.trans h.output, Nat.le_trans h.size k.size, fun i hi hg => (k.block i (Nat.lt_of_lt_of_le hi h.size) hg).trans (h.block i hi hg)⟩
theorem BelowB.of {g : Nat} {w w' : World} (h : Below w.heap.size w w') : BelowB g w w' := ⟨h.os, h.tape, h.output, h.size, fun k hk _ => h.block k hk⟩
theorem BelowB.grown {g : Nat} {w w' : World} {row : Option Nat} (hg : w.grownBy w' row) (h : ∀ k, row = some k → k = g) : BelowB g w w' :=
  ⟨hg.os, hg.tape, hg.output, hg.size, fun k hk hne => hg.block k hk (fun e => hne (h k e.symm))⟩
theorem BelowB.cell {g : Nat} {w w' : World} (h : BelowB g w w') {p : Addr} (hp : p.block < w.heap.size) (hg : p.block ≠ g) : w'.cell? p = w.cell? p := World.cell?_of_block (w := w) (h.block p.block hp hg)
theorem BelowB.below {g B : Nat} {w w' : World} (h : BelowB g w w') (hB : B ≤ w.heap.size) (hg : B ≤ g) : Below B w w' := ⟨h.os, h.tape, h.output, h.size, fun k hk => h.block k (by omega) (by omega)⟩
theorem BelowB.blk {g k : Nat} {t : TypeId} {cs : List Value} {w w' : World} (h : BelowB g w w') (hk : Blk w k t cs) (hne : k ≠ g) : Blk w' k t cs := (h.block k hk.lt hne).trans hk
section
variable {gb : Nat} {P : Program} {ops : Array Oper} {md : Region.Mode} {Q : Exit → Act → World → Prop}

/-- Whatever order is picked from here on, till the first n operations are done; each leaves what was there. -/
def wpAnyG (gb : Nat) (P : Program) (md : Region.Mode) (ops : Array Oper) (Q : Exit → Act → World → Prop) (n : Nat) (F : Array Bool → Act → World → Prop) : Nat → Array Bool → Act → World → Prop
  | 0, listed, a, w => F listed a w
  | f + 1, listed, a, w => Region.ready md ops listed ≠ [] ∧ ∀ i ∈ Region.ready md ops listed, i < n ∧ wpOp P ops Q i (fun a' w' => BelowB gb w w' ∧ wpAnyG gb P md ops Q n F f (listed.setIfInBounds i true) a' w') a w

theorem wpAny_of_G {n g : Nat} {F : Array Bool → Act → World → Prop} (hF : ∀ listed a w, F listed a w → wpAny P md ops Q g listed a w) :
    ∀ (f : Nat) (listed : Array Bool) (a : Act) (w : World), wpAnyG gb P md ops Q n F f listed a w → wpAny P md ops Q (f + g) listed a w
  | 0, _, _, _, h => by rw [Nat.zero_add]; exact hF _ _ _ h
  | f + 1, listed, a, w, h => by
    rw [show f + 1 + g = (f + g) + 1 by omega]
    exact ⟨fun h0 => absurd h0 h.1, fun i hi => wpOp_mono (fun a' w' h' => wpAny_of_G hF f _ a' w' h'.2) (h.2 i hi).2⟩

theorem belowB_of {w w' w'' : World} (h : BelowB gb w w') (h' : BelowB gb w' w'') : BelowB gb w w'' := h.trans h'
theorem yieldsB_later {w w' : World} {o : Oper} {v : Value} {a : Act} (hb : BelowB gb w w') (h : YieldsIf P ops (fun x => BelowB gb w x) o v a) : YieldsIf P ops (fun x => BelowB gb w' x) o v a :=
  h.imp (fun ⟨h1, h2⟩ => ⟨h1, fun x hx => h2 x (belowB_of hb hx)⟩) id

theorem wpAnyG_first {n i : Nat} {oi : Oper} {v : Value} {F : Array Bool → Act → World → Prop} (hi : ops[i]? = some oi) (hsel : ∀ (j : Nat) (o : Oper) cs b, ops[j]? = some o → o.op ≠ .select cs b)
    (hQ : ∀ c a w, Q (.panic c) (a.put oi.dst v) w → Q (.panic c) a w)
    (hlate : ∀ listed, HeadInv md ops n listed → listed.getD i true = false → ∀ t, n ≤ t → t ∉ Region.ready md ops listed) (hin : i < n)
    (hdone : ∀ listed a w, F listed a w → ∀ j ∈ Region.ready md ops listed, n ≤ j) :
    ∀ (f : Nat) (listed : Array Bool) (a : Act) (w : World), HeadInv md ops n listed →
      (∀ j oj, ops[j]? = some oj → j ≠ i → listed.getD j true = false → (∀ e ∈ oj.after, Region.binds md e = true → e.on ≠ i) → oi.apart ops oj = true) →
      i ∈ Region.ready md ops listed → YieldsIf P ops (fun x => BelowB gb w x) oi v a →
      wpAnyG gb P md ops Q n F f (listed.setIfInBounds i true) (a.put oi.dst v) w → wpAnyG gb P md ops Q n F (f + 1) listed a w := by
  intro f
  induction f with
  | zero =>
    intro listed a w inv _ hr hy H
    have hun := (mem_ready.1 hr).1
    refine ⟨fun h => (by rw [h] at hr; cases hr), fun j hj => ?_⟩
    have hjn : j < n := by
      rcases Nat.lt_or_ge j n with h | h
      · exact h
      · exact absurd hj (hlate listed inv hun j h)
    refine ⟨hjn, ?_⟩
    by_cases hji : j = i
    · subst hji; exact hy.wpOp hi (BelowB.refl _ _) ⟨BelowB.refl _ _, H⟩
    · have := hdone _ _ _ H j (ready_mono hj hji)
      omega
  | succ f ih =>
    intro listed a w inv hfree hr hy H
    have hun := (mem_ready.1 hr).1
    refine ⟨fun h => (by rw [h] at hr; cases hr), fun j hj => ?_⟩
    have hjn : j < n := by
      rcases Nat.lt_or_ge j n with h | h
      · exact h
      · exact absurd hj (hlate listed inv hun j h)
    refine ⟨hjn, ?_⟩
    by_cases hji : j = i
    · subst hji; exact hy.wpOp hi (BelowB.refl _ _) ⟨BelowB.refl _ _, H⟩
    · have h1 := (H.2 j (ready_mono hj hji)).2
      obtain ⟨hjun, oj, hoj, hall⟩ := mem_ready.1 hj
      have hnot : ∀ e ∈ oj.after, Region.binds md e = true → e.on ≠ i := fun e he hb heq => by
        have h1 := hall e he hb
        rw [heq, getD_both hun] at h1
        cases h1
      have h2 := wpOp_putIf hoj (hfree j oj hoj hji hjun hnot) (fun cs b => hsel i oi cs b hi) (fun cs b => hsel j oj cs b hoj) hQ hy h1
      have hfree' : ∀ k ok, ops[k]? = some ok → k ≠ i → (listed.setIfInBounds j true).getD k true = false →
          (∀ e ∈ ok.after, Region.binds md e = true → e.on ≠ i) → oi.apart ops ok = true := fun k ok hk hki hun hno => by
        refine hfree k ok hk hki ?_ hno
        by_cases hjk : j = k
        · subst hjk; exact hjun
        · rw [getD_set_ne true hjk] at hun; exact hun
      refine wpOp_mono (fun a' w' h3 => ⟨h3.2.1, ih (listed.setIfInBounds j true) a' w' (inv.set hj hjn) hfree' (ready_mono hr (Ne.symm hji)) (yieldsB_later h3.2.1 h3.1) ?_⟩) h2
      rw [Array.setIfInBounds_comm _ _ hji]
      exact h3.2.2

/-- the walk of the plan -/
def wpPG (gb : Nat) (P : Program) (ops : Array Oper) (Q : Exit → Act → World → Prop) (tail : List Oper) : List (Bool × Nat) → Act → World → Prop
  | [], a, w => wpList P ops Q tail a w
  | (true, i) :: rest, a, w => ∃ o v, ops[i]? = some o ∧ YieldsIf P ops (fun x => BelowB gb w x) o v a ∧ wpPG gb P ops Q tail rest (a.put o.dst v) w
  | (false, i) :: rest, a, w => wpOp P ops Q i (fun a' w' => BelowB gb w w' ∧ wpPG gb P ops Q tail rest a' w') a w

theorem wpAnyG_plan {n : Nat} {tail : List Oper} (hsel : Region.noSelect ops = true) (hQ : ∀ c a d v w, Q (.panic c) (a.put d v) w → Q (.panic c) a w)
    (hlate : ∀ listed, HeadInv md ops n listed → ∀ i, i < n → listed.getD i true = false → ∀ t, n ≤ t → t ∉ Region.ready md ops listed) :
    ∀ (pl : List (Bool × Nat)) (listed : Array Bool) (a : Act) (w : World), HeadInv md ops n listed → planB md ops n pl listed = true → wpPG gb P ops Q tail pl a w →
    wpAnyG gb P md ops Q n (fun listed' a' w' => Region.seqB md ops (ops.size - n) n listed' = true ∧ wpList P ops Q tail a' w') pl.length listed a w
  | [], listed, a, w, _, hB, h => ⟨hB, h⟩
  | (true, i) :: rest, listed, a, w, inv, hB, h => by
    simp only [planB, if_true, Bool.and_eq_true, decide_eq_true_eq] at hB
    obtain ⟨⟨hin, hr, hf⟩, hB'⟩ := hB
    obtain ⟨o, v, ho, hy, h'⟩ := h
    have hr' : i ∈ Region.ready md ops listed := by simpa using hr
    exact wpAnyG_first ho (Region.noSelect_spec hsel) (fun c a w => hQ c a o.dst v w) (fun l hl hu => hlate l hl i hin hu) hin (fun listed' a' w' hL => seqB_ready hL.1) rest.length listed a w inv (Region.free_spec ho hf) hr' hy
      (wpAnyG_plan hsel hQ hlate rest _ _ _ (inv.set hr' hin) hB' h')
  | (false, i) :: rest, listed, a, w, inv, hB, h => by
    simp only [planB, Bool.false_eq_true, if_false, Bool.and_eq_true, decide_eq_true_eq] at hB
    obtain ⟨⟨hin, hr⟩, hB'⟩ := hB
    have hr' : i ∈ Region.ready md ops listed := by rw [hr]; simp
    refine ⟨by rw [hr]; simp, fun j hj => ?_⟩
    rw [hr] at hj
    have hji : j = i := by simpa using hj
    subst hji
    exact ⟨hin, wpOp_mono (fun a' w' h3 => ⟨h3.1, wpAnyG_plan hsel hQ hlate rest _ a' w' (inv.set hr' hin) hB' h3.2⟩) h⟩

theorem wpAny_planG {a : Act} {w : World} {l : List Oper} (n : Nat) (pl : List (Bool × Nat)) (hB : planAll .any l.toArray n pl = true)
    (h : ∀ W : World, Hid (W = w.drew) → wpPG gb P l.toArray (NoPanic Q) (l.drop n) pl a W) : wpAny P .any l.toArray (NoPanic Q) l.toArray.size (Array.replicate l.toArray.size false) a { w with drawn := w.drawn + 1 } := by
  have hQ : ∀ c a d v w, NoPanic Q (.panic c) (a.put d v) w → NoPanic Q (.panic c) a w := fun _ _ _ _ _ h => h
  simp only [planAll, Bool.and_eq_true, decide_eq_true_eq] at hB
  obtain ⟨⟨⟨⟨hsel, hlen⟩, hn⟩, hsc⟩, hpl⟩ := hB
  have hn' : n ≤ l.length := by simpa using hn
  have hdl : (l.drop n).length = l.toArray.size - n := by simp
  have inv0 : HeadInv .any l.toArray n (Array.replicate l.toArray.size false) :=
    ⟨by simp, fun j oj _ hl => (by rw [getD_replicate_false] at hl; cases hl), fun t _ ht => getD_in (by simpa using ht) (getD_replicate_false _ _)⟩
  have hlate : ∀ listed, HeadInv .any l.toArray n listed → ∀ i, i < n → listed.getD i true = false → ∀ t, n ≤ t → t ∉ Region.ready .any l.toArray listed := by
    intro listed inv i hin hun t ht hr
    rw [Bool.or_eq_true, decide_eq_true_eq, Bool.and_eq_true] at hsc
    obtain ⟨_, ot, hot, _⟩ := mem_ready.1 hr
    have htl := (Array.getElem?_eq_some_iff.1 hot).1
    rcases hsc with h0 | ⟨hs, hc⟩
    · omega
    · exact tail_waits hs hc (by omega) inv _ i rfl hin hun t ht hr
  have H := wpAnyG_plan (md := .any) hsel hQ hlate pl _ a w.drew inv0 hpl (h w.drew (Lib.hid rfl))
  have := wpAny_of_G (Q := NoPanic Q) (g := l.toArray.size - n) (fun listed a' w' hL => by
    have := wpAny_of_seq (md := .any) (Q' := NoPanic Q) (l.drop n) n listed a' w' (fun j => by simp [List.getElem?_drop]) (by rw [hdl]; exact hL.1) hL.2
    rwa [hdl] at this) _ _ _ _ H
  rw [hlen, show n + (l.toArray.size - n) = l.toArray.size by omega] at this
  exact this
theorem wp_region_planG {id : Nat} {a : Act} {w : World} {l : List Oper} (n : Nat) (pl : List (Bool × Nat)) (hm : P.follows .mixedOrders = true) (hB : planAll .any l.toArray n pl = true)
    (h : ∀ W : World, Hid (W = w.drew) → wpPG gb P l.toArray (NoPanic Q) (l.drop n) pl a W) : (Code.region id l.toArray true).wp P Q a w :=
  wp_region_noPanic (wp_region_any hm (wpAny_planG n pl hB h))

/-! ### the steps -/
section
variable {tail : List Oper} {rest : List (Bool × Nat)} {a : Act} {w : World} {i : Nat} {o : Oper}
/-- what only reads: its value, in every world whose cells are those of w, where w has any -/
theorem wpPG_float {v : Value} (hi : ops[i]? = some o) (hw : Region.wanted o (yielded ops a.tmps) = true)
    (hy : ∀ w' : World, (∀ p : Addr, p.block ≠ gb → (w.cell? p).isSome = true → w'.cell? p = w.cell? p) → (execOp a.eval o).run P w' = .ok (.value v) w') (h : ∀ K : Act → Prop, (∀ a', wpPG gb P ops Q tail rest a' w → K a') → K (a.put o.dst v)) : wpPG gb P ops Q tail ((true, i) :: rest) a w :=
  ⟨o, v, hi, .inl ⟨hw, fun w' hb => hy w' (fun p hpg hp => by
    have hlt : p.block < w.heap.size := by
      cases hc : w.cell? p with
      | none => rw [hc] at hp; cases hp
      | some u => exact block_lt_of_cell hc
    exact hb.cell hlt hpg)⟩, h _ (fun _ h => h)⟩
theorem wpPG_skip (hi : ops[i]? = some o) (hw : Region.wanted o (yielded ops a.tmps) = false) (h : ∀ K : Act → Prop, (∀ a', wpPG gb P ops Q tail rest a' w → K a') → K (a.put o.dst undef)) : wpPG gb P ops Q tail ((true, i) :: rest) a w :=
  ⟨o, undef, hi, .inr ⟨hw, rfl⟩, h _ (fun _ h => h)⟩
theorem wpPG_skip' (hi : ops[i]? = some o) (hw : Region.wanted o (yielded ops a.tmps) = false) (h : ∀ K : Act → Prop, (∀ a', wpPG gb P ops Q tail rest a' w → K a') → K (a.put o.dst undef)) : wpPG gb P ops Q tail ((false, i) :: rest) a w := by
  show wpOp P ops Q i _ a w
  unfold wpOp
  simp only [hi, hw, Bool.false_eq_true, if_false]
  exact ⟨BelowB.refl _ _, h _ (fun _ h => h)⟩
/-- what comes up alone: a call -/
theorem wpPG_only (hi : ops[i]? = some o) (hw : Region.wanted o (yielded ops a.tmps) = true)
    (h : ∀ K : Act → World → Prop, (∀ a' w', BelowB gb w w' → wpPG gb P ops Q tail rest a' w' → K a' w') → o.wp P a w K Q) : wpPG gb P ops Q tail ((false, i) :: rest) a w := by
  show wpOp P ops Q i _ a w
  unfold wpOp
  simp only [hi, hw, if_true]
  exact .inl (h _ (fun a' w' hb hp => ⟨hb, hp⟩))
theorem wpPG_nil (h : wpList P ops Q tail a w) : wpPG gb P ops Q tail [] a w := h
end
end
end Go.Proofs.Ytjmkpoignnbcpaa

namespace Go.Proofs.Ytjmkpoignnbcpaa
open Go.RowKit
set_option linter.unusedVariables false

section
variable {P : Program} {ops : Array Oper} {md : Region.Mode} {Q : Exit → Act → World → Prop} {S : World → Prop}

def wpAnyS (S : World → Prop) (P : Program) (md : Region.Mode) (ops : Array Oper) (Q : Exit → Act → World → Prop) : Nat → Array Bool → Act → World → Prop
  | 0, listed, a, w => Region.ready md ops listed = [] ∧ Q .normal a w
  | f + 1, listed, a, w => Region.ready md ops listed ≠ [] ∧ ∀ i ∈ Region.ready md ops listed, wpOp P ops Q i (fun a' w' => S w' ∧ wpAnyS S P md ops Q f (listed.setIfInBounds i true) a' w') a w
theorem wpAny_of_S : ∀ (f : Nat) (listed : Array Bool) (a : Act) (w : World), wpAnyS S P md ops Q f listed a w → wpAny P md ops Q f listed a w
  | 0, _, _, _, h => h
  | f + 1, listed, a, w, h => ⟨fun h0 => absurd h0 h.1, fun i hi => wpOp_mono (fun a' w' h' => wpAny_of_S f _ a' w' h'.2) (h.2 i hi)⟩

theorem wpAnyS_first {i : Nat} {oi : Oper} {v : Value} (hi : ops[i]? = some oi) (hsel : ∀ (j : Nat) (o : Oper) cs b, ops[j]? = some o → o.op ≠ .select cs b)
    (hQ : ∀ c a w, Q (.panic c) (a.put oi.dst v) w → Q (.panic c) a w) :
    ∀ (f : Nat) (listed : Array Bool) (a : Act) (w : World), S w →
      (∀ j oj, ops[j]? = some oj → j ≠ i → listed.getD j true = false → (∀ e ∈ oj.after, Region.binds md e = true → e.on ≠ i) → oi.apart ops oj = true) →
      i ∈ Region.ready md ops listed → YieldsIf P ops S oi v a →
      wpAnyS S P md ops Q f (listed.setIfInBounds i true) (a.put oi.dst v) w → wpAnyS S P md ops Q (f + 1) listed a w := by
  intro f
  induction f with
  | zero =>
    intro listed a w hS _ hr hy H
    refine ⟨fun h => (by rw [h] at hr; cases hr), fun j hj => ?_⟩
    by_cases hji : j = i
    · subst hji; exact hy.wpOp hi hS ⟨hS, H⟩
    · have h1 := ready_mono hj hji
      rw [H.1] at h1
      cases h1
  | succ f ih =>
    intro listed a w hS hfree hr hy H
    have hun := (mem_ready.1 hr).1
    refine ⟨fun h => (by rw [h] at hr; cases hr), fun j hj => ?_⟩
    by_cases hji : j = i
    · subst hji; exact hy.wpOp hi hS ⟨hS, H⟩
    · have h1 := H.2 j (ready_mono hj hji)
      obtain ⟨hjun, oj, hoj, hall⟩ := mem_ready.1 hj
      have hnot : ∀ e ∈ oj.after, Region.binds md e = true → e.on ≠ i := fun e he hb heq => by
        have h1 := hall e he hb
        rw [heq, getD_both hun] at h1
        cases h1
      have h2 := wpOp_putIf hoj (hfree j oj hoj hji hjun hnot) (fun cs b => hsel i oi cs b hi) (fun cs b => hsel j oj cs b hoj) hQ hy h1
      have hfree' : ∀ k ok, ops[k]? = some ok → k ≠ i → (listed.setIfInBounds j true).getD k true = false →
          (∀ e ∈ ok.after, Region.binds md e = true → e.on ≠ i) → oi.apart ops ok = true := fun k ok hk hki hun hno => by
        refine hfree k ok hk hki ?_ hno
        by_cases hjk : j = k
        · subst hjk; exact hjun
        · rw [getD_set_ne true hjk] at hun; exact hun
      refine wpOp_mono (fun a' w' h3 => ⟨h3.2.1, ih (listed.setIfInBounds j true) a' w' h3.2.1 hfree' (ready_mono hr (Ne.symm hji)) h3.1 ?_⟩) h2
      rw [Array.setIfInBounds_comm _ _ hji]
      exact h3.2.2

/-- a tree of orders -/
inductive PT where
  | done
  | flt (i : Nat) (t : PT)
  | one (i : Nat) (t : PT)
  | two (i j : Nat) (ti tj : PT)
  | three (i j k : Nat) (ti tj tk : PT)
def PT.depth : PT → Nat
  | .done => 0
  | .flt _ t => t.depth + 1
  | .one _ t => t.depth + 1
  | .two _ _ t _ => t.depth + 1
  | .three _ _ _ t _ _ => t.depth + 1
def PT.ok (md : Region.Mode) (ops : Array Oper) : PT → Array Bool → Bool
  | .done, listed => (Region.ready md ops listed).isEmpty
  | .flt i t, listed => (Region.ready md ops listed).contains i && Region.free md ops listed i && t.ok md ops (listed.setIfInBounds i true)
  | .one i t, listed => decide (Region.ready md ops listed = [i]) && t.ok md ops (listed.setIfInBounds i true)
  | .two i j t u, listed => decide (Region.ready md ops listed = [i, j]) && decide (t.depth = u.depth) && t.ok md ops (listed.setIfInBounds i true) && u.ok md ops (listed.setIfInBounds j true)
  | .three i j k t u v, listed => decide (Region.ready md ops listed = [i, j, k]) && (decide (t.depth = u.depth) && decide (t.depth = v.depth)) && t.ok md ops (listed.setIfInBounds i true) && u.ok md ops (listed.setIfInBounds j true) && v.ok md ops (listed.setIfInBounds k true)
def wpPT (S : World → Prop) (P : Program) (ops : Array Oper) (Q : Exit → Act → World → Prop) : PT → Act → World → Prop
  | .done, a, w => Q .normal a w
  | .flt i t, a, w => ∃ o v, ops[i]? = some o ∧ YieldsIf P ops S o v a ∧ wpPT S P ops Q t (a.put o.dst v) w
  | .one i t, a, w => wpOp P ops Q i (fun a' w' => S w' ∧ wpPT S P ops Q t a' w') a w
  | .two i j t u, a, w => wpOp P ops Q i (fun a' w' => S w' ∧ wpPT S P ops Q t a' w') a w ∧ wpOp P ops Q j (fun a' w' => S w' ∧ wpPT S P ops Q u a' w') a w
  | .three i j k t u v, a, w => wpOp P ops Q i (fun a' w' => S w' ∧ wpPT S P ops Q t a' w') a w ∧ wpOp P ops Q j (fun a' w' => S w' ∧ wpPT S P ops Q u a' w') a w ∧ wpOp P ops Q k (fun a' w' => S w' ∧ wpPT S P ops Q v a' w') a w

theorem wpAnyS_tree (hsel : Region.noSelect ops = true) (hQ : ∀ c a d v w, Q (.panic c) (a.put d v) w → Q (.panic c) a w) :
    ∀ (t : PT) (listed : Array Bool) (a : Act) (w : World), S w → t.ok md ops listed = true → wpPT S P ops Q t a w → wpAnyS S P md ops Q t.depth listed a w
  | .done, listed, a, w, _, hB, h => ⟨by simpa [PT.ok] using hB, h⟩
  | .flt i t, listed, a, w, hS, hB, h => by
    simp only [PT.ok, Bool.and_eq_true] at hB
    obtain ⟨⟨hr, hf⟩, hB'⟩ := hB
    obtain ⟨o, v, ho, hy, h'⟩ := h
    exact wpAnyS_first ho (Region.noSelect_spec hsel) (fun c a w => hQ c a o.dst v w) t.depth listed a w hS (Region.free_spec ho hf) (by simpa using hr) hy (wpAnyS_tree hsel hQ t _ _ _ hS hB' h')
  | .one i t, listed, a, w, hS, hB, h => by
    simp only [PT.ok, Bool.and_eq_true, decide_eq_true_eq] at hB
    refine ⟨by rw [hB.1]; simp, fun j hj => ?_⟩
    rw [hB.1] at hj
    have hji : j = i := by simpa using hj
    subst hji
    exact wpOp_mono (fun a' w' h3 => ⟨h3.1, wpAnyS_tree hsel hQ t _ a' w' h3.1 hB.2 h3.2⟩) h
  | .two i k t u, listed, a, w, hS, hB, h => by
    simp only [PT.ok, Bool.and_eq_true, decide_eq_true_eq] at hB
    obtain ⟨⟨⟨hr, hd⟩, h1⟩, h2⟩ := hB
    refine ⟨by rw [hr]; simp, fun j hj => ?_⟩
    rw [hr] at hj
    have hjik : j = i ∨ j = k := by simpa using hj
    rcases hjik with rfl | rfl
    · exact wpOp_mono (fun a' w' h3 => ⟨h3.1, wpAnyS_tree hsel hQ t _ a' w' h3.1 h1 h3.2⟩) h.1
    · refine wpOp_mono (fun a' w' h3 => ⟨h3.1, ?_⟩) h.2
      rw [hd]
      exact wpAnyS_tree hsel hQ u _ a' w' h3.1 h2 h3.2
  | .three i j k t u v, listed, a, w, hS, hB, h => by
    simp only [PT.ok, Bool.and_eq_true, decide_eq_true_eq] at hB
    obtain ⟨⟨⟨⟨hr, hd, hd2⟩, h1⟩, h2⟩, h3⟩ := hB
    refine ⟨by rw [hr]; simp, fun q hq => ?_⟩
    rw [hr] at hq
    have hqs : q = i ∨ q = j ∨ q = k := by simpa using hq
    rcases hqs with rfl | rfl | rfl
    · exact wpOp_mono (fun a' w' h3' => ⟨h3'.1, wpAnyS_tree hsel hQ t _ a' w' h3'.1 h1 h3'.2⟩) h.1
    · refine wpOp_mono (fun a' w' h3' => ⟨h3'.1, ?_⟩) h.2.1
      rw [hd]
      exact wpAnyS_tree hsel hQ u _ a' w' h3'.1 h2 h3'.2
    · refine wpOp_mono (fun a' w' h3' => ⟨h3'.1, ?_⟩) h.2.2
      rw [hd2]
      exact wpAnyS_tree hsel hQ v _ a' w' h3'.1 h3 h3'.2

theorem wp_region_tree {id : Nat} {a : Act} {w : World} {l : List Oper} (t : PT) (hm : P.follows .mixedOrders = true) (hB : (Region.noSelect l.toArray && decide (t.depth = l.toArray.size) && t.ok .any l.toArray (Array.replicate l.toArray.size false)) = true)
    (h : ∀ W : World, Hid (W = w.drew) → wpPT (fun x => Below W.heap.size W x) P l.toArray (NoPanic Q) t a W) : (Code.region id l.toArray true).wp P Q a w := by
  refine wp_region_noPanic ?_
  have hQ : ∀ c a d v w, NoPanic Q (.panic c) (a.put d v) w → NoPanic Q (.panic c) a w := fun _ _ _ _ _ h => h
  simp only [Bool.and_eq_true, decide_eq_true_eq] at hB
  obtain ⟨⟨hsel, hd⟩, hok⟩ := hB
  refine wp_region_any hm ?_
  have H := wpAny_of_S _ _ _ _ (wpAnyS_tree (md := .any) hsel hQ t _ a w.drew (Below.refl _ _) hok (h w.drew (Lib.hid rfl)))
  rw [hd] at H
  exact H

/-! ### the steps -/
section
variable {W : World} {t u : PT} {a : Act} {w : World} {i j : Nat} {o : Oper}
theorem wpPT_float {v : Value} (hi : ops[i]? = some o) (hw : Region.wanted o (yielded ops a.tmps) = true)
    (hy : ∀ w' : World, (∀ p, (W.cell? p).isSome = true → w'.cell? p = W.cell? p) → (execOp a.eval o).run P w' = .ok (.value v) w') (h : ∀ K : Act → Prop, (∀ a', wpPT (fun x => Below W.heap.size W x) P ops Q t a' w → K a') → K (a.put o.dst v)) : wpPT (fun x => Below W.heap.size W x) P ops Q (.flt i t) a w :=
  ⟨o, v, hi, .inl ⟨hw, fun w' hb => hy w' (fun p hp => by
    have hlt : p.block < W.heap.size := by
      cases hc : W.cell? p with
      | none => rw [hc] at hp; cases hp
      | some u => exact block_lt_of_cell hc
    exact hb.cell hlt)⟩, h _ (fun _ h => h)⟩
theorem wpPT_skip (hi : ops[i]? = some o) (hw : Region.wanted o (yielded ops a.tmps) = false) (h : ∀ K : Act → Prop, (∀ a', wpPT S P ops Q t a' w → K a') → K (a.put o.dst undef)) : wpPT S P ops Q (.flt i t) a w :=
  ⟨o, undef, hi, .inr ⟨hw, rfl⟩, h _ (fun _ h => h)⟩
theorem wpOp_step {K0 : Act → World → Prop} (hi : ops[i]? = some o) (hw : Region.wanted o (yielded ops a.tmps) = true)
    (h : ∀ K : Act → World → Prop, (∀ a' w', S w' → K0 a' w' → K a' w') → o.wp P a w K Q) : wpOp P ops Q i (fun a' w' => S w' ∧ K0 a' w') a w := by
  unfold wpOp
  simp only [hi, hw, if_true]
  exact .inl (h _ (fun a' w' hb hp => ⟨hb, hp⟩))
theorem wpPT_one (hi : ops[i]? = some o) (hw : Region.wanted o (yielded ops a.tmps) = true)
    (h : ∀ K : Act → World → Prop, (∀ a' w', S w' → wpPT S P ops Q t a' w' → K a' w') → o.wp P a w K Q) : wpPT S P ops Q (.one i t) a w := wpOp_step hi hw h
theorem wpPT_two {o' : Oper} (hi : ops[i]? = some o) (hw : Region.wanted o (yielded ops a.tmps) = true) (hj : ops[j]? = some o') (hw' : Region.wanted o' (yielded ops a.tmps) = true)
    (h : ∀ K : Act → World → Prop, (∀ a' w', S w' → wpPT S P ops Q t a' w' → K a' w') → o.wp P a w K Q)
    (h' : ∀ K : Act → World → Prop, (∀ a' w', S w' → wpPT S P ops Q u a' w' → K a' w') → o'.wp P a w K Q) : wpPT S P ops Q (.two i j t u) a w := ⟨wpOp_step hi hw h, wpOp_step hj hw' h'⟩
theorem wpPT_three {v : PT} {k : Nat} {o' o'' : Oper} (hi : ops[i]? = some o) (hw : Region.wanted o (yielded ops a.tmps) = true) (hj : ops[j]? = some o') (hw' : Region.wanted o' (yielded ops a.tmps) = true) (hk : ops[k]? = some o'') (hw'' : Region.wanted o'' (yielded ops a.tmps) = true)
    (h : ∀ K : Act → World → Prop, (∀ a' w', S w' → wpPT S P ops Q t a' w' → K a' w') → o.wp P a w K Q)
    (h' : ∀ K : Act → World → Prop, (∀ a' w', S w' → wpPT S P ops Q u a' w' → K a' w') → o'.wp P a w K Q)
    (h'' : ∀ K : Act → World → Prop, (∀ a' w', S w' → wpPT S P ops Q v a' w' → K a' w') → o''.wp P a w K Q) : wpPT S P ops Q (.three i j k t u v) a w := ⟨wpOp_step hi hw h, wpOp_step hj hw' h', wpOp_step hk hw'' h''⟩
theorem wpPT_done (h : Q .normal a w) : wpPT S P ops Q .done a w := h
end
end
end Go.Proofs.Ytjmkpoignnbcpaa
