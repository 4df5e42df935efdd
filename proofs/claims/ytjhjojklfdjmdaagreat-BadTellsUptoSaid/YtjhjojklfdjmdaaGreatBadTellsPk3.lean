/- Words for memory: rows that lie apart from a span of blocks; mathematics of 'or'. A region that draws its order: walked in an order of one's own ('plan'): what only reads (copies, addresses, arithmetic, loads) is taken as soon as it may come up; a call comes up alone; behind the plan a tail, one operation behind the other. What a call makes of memory may be anything that leaves the blocks that were there as they were ('Below'). No function of the program is named here. Contracts of package mat: join, Or. Contracts of package mat: fits, Right. Contracts of package mat: Sub, Same (by slices.EqualFunc). Contracts of package mat: Pairs. Plain facts of matrices that may be: a pair that is set. Plain mathematics of a block of 64 words whose bits are turned about, size by size. Nothing of the program is imported. Contracts of package mat: flip. A whole array of words, loaded and stored: at a plain region's list. No function of the program is named here. Contracts of package mat: take, lay, Turn. Contracts of package mat: lay. Contracts of package mat: Turn. Plain facts of matrices that may be: made of pairs, turned about. Contracts of the document's own answers for matrices (eyewitnessref03): in, Has, Small, Equal. Contracts of the document's own answers for matrices: Equal, Sub, Same. Contracts of the document's own answers for matrices: Sub, Same. Contracts of the document's own answers for matrices: Right. Contracts of the document's own answers for matrices: New. Contracts of the document's own answers for matrices: New (refused), Or. Contracts of the document's own answers for matrices: Set. A region that draws its order, walked by a plan (XPlan), whose last head results stand beside one another: behind the plan's calls come values that hang on no memory ('extract': a call's second result), which may come up between the stores behind; then a tail. What lies ahead of the tail is found by what waits for what. No function of the program is named here. Contracts of the document's own answers for matrices: Of. Plain facts of matrices that may be: parts of one another, together, whether a pair is there. Words for memory: a variable that holds a matrix, with its rows. No function of the program is named here. Plain mathematics of what follows from pairs: hulls, as the least closed ones. Nothing of the program is named. -/
import Derived.Test.YtjhjojklfdjmdaaGreatBadTellsPk2
import Derived.OrdersHeld
import Derived.StillTail
import Derived.Below
import Derived.WalkKit
import Derived.Deep.RegionHeld3
import Derived.Lib.Hide
import Derived.Deep.MidRow
namespace Go.Proofs.YtjhjojklfdjmdaaGreat
set_option maxRecDepth 100000
set_option maxHeartbeats 8000000
open Go.RowKit
set_option linter.unusedVariables false

def RowF (w : World) (lo hi : Nat) (v : Value) (xs : List Nat) : Prop := ∃ A n c, v = .slice A n c ∧ Row w A n xs ∧ (0 < n → ∀ ad, A = some ad → ad.block < lo ∨ hi ≤ ad.block)
def RowsF (w : World) (lo hi : Nat) (vs : List Value) (xss : List (List Nat)) : Prop := vs.length = xss.length ∧ ∀ (i : Nat) (v : Value) (xs : List Nat), vs[i]? = some v → xss[i]? = some xs → RowF w lo hi v xs
section
variable {w w' : World} {lo hi : Nat} {A : Option Addr} {n c : Nat} {vs : List Value} {xss : List (List Nat)} {v : Value} {xs : List Nat}
theorem Row.setCell' {p : Addr} (h : Row w A n xs) (hne : 0 < n → ∀ ad, A = some ad → ad.block ≠ p.block) (u : Value) : Row (w.setCell p u) A n xs := by
 rcases Nat.eq_zero_or_pos n with h0 | h0
 ·subst h0
  have := h.len;obtain rfl := List.eq_nil_of_length_eq_zero this;exact Row.nil _ _
 ·exact h.setCell (hne h0) u
theorem RowF.row (h : RowF w lo hi v xs) : RowV w v xs := by
 obtain ⟨A, n, c, e, hr, _⟩ := h; exact ⟨A, n, c, e, hr⟩
theorem RowF.below (h : RowF w lo hi v xs) (hb : Below w.heap.size w w') : RowF w' lo hi v xs := by
 obtain ⟨A, n, c, e, hr, hf⟩ := h; exact ⟨A, n, c, e, hr.below hb, hf⟩
theorem RowF.set {p : Addr} (h : RowF w lo hi v xs) (h1 : lo ≤ p.block) (h2 : p.block < hi) (u : Value) : RowF (w.setCell p u) lo hi v xs := by
 obtain ⟨A, n, c, e, hr, hf⟩ := h;exact ⟨A, n, c, e, hr.setCell' (fun h0 ad he hh => by have := hf h0 ad he; omega) u, hf⟩
theorem RowF.old {w0 : World} (h : Row w0 A n xs) (hb : Below w0.heap.size w0 w) (hlo : w0.heap.size ≤ lo) : RowF w lo hi (.slice A n c) xs :=
 ⟨A, n, c, rfl, h.below hb, fun h0 ad he => by
  obtain ⟨b, off, e, hbl, _⟩ := h.1.2 h0;rw [e] at he;injection he with he;subst he;exact .inl (by show b < lo; omega)⟩
theorem RowF.new {t : TypeId} {base : Nat} (h : w.ownsRow base t 1 (.slice A n c) n (xs.map u64v)) (hx : W64 xs) (hhi : hi ≤ base) : RowF w lo hi (.slice A n c) xs :=
 ⟨A, n, c, rfl, Row.of_own h hx, fun _ ad he => by
  subst he;have := oLb h _ rfl;exact .inr (by omega)⟩
theorem RowsF.nil (w : World) : RowsF w lo hi [] [] := ⟨rfl, fun i v xs h => by simp at h⟩
theorem RowsF.rows (h : RowsF w lo hi vs xss) : RowsC w vs xss := ⟨h.1, fun i v xs h1 h2 => (h.2 i v xs h1 h2).row⟩
theorem RowsF.below (h : RowsF w lo hi vs xss) (hb : Below w.heap.size w w') : RowsF w' lo hi vs xss := ⟨h.1, fun i v xs h1 h2 => (h.2 i v xs h1 h2).below hb⟩
theorem RowsF.set {p : Addr} (h : RowsF w lo hi vs xss) (h1 : lo ≤ p.block) (h2 : p.block < hi) (u : Value) : RowsF (w.setCell p u) lo hi vs xss := ⟨h.1, fun i v xs h3 h4 => (h.2 i v xs h3 h4).set h1 h2 u⟩
theorem RowsF.snoc (h : RowsF w lo hi vs xss) (hv : RowF w lo hi v xs) : RowsF w lo hi (vs ++ [v]) (xss ++ [xs]) := by
 refine ⟨by simp [h.1], fun i u ys h1 h2 => ?_⟩;rcases Nat.lt_or_ge i vs.length with hi' | hi'
 ·rw [List.getElem?_append_left hi'] at h1
  rw [List.getElem?_append_left (by rw [← h.1]; exact hi')] at h2;exact h.2 i u ys h1 h2
 ·rw [List.getElem?_append_right hi'] at h1
  rw [List.getElem?_append_right (by rw [← h.1]; exact hi')] at h2;rw [← h.1] at h2;rcases Nat.eq_zero_or_pos (i - vs.length) with h0 | h0
  ·rw [h0] at h1 h2
   simp at h1 h2;subst h1 h2;exact hv
  ·rw [List.getElem?_eq_none (by simp; omega)] at h1; cases h1
end

theorem or_of_and {x y : Nat} (h : x &&& y = x) : y ||| x = y := by
 apply Nat.eq_of_testBit_eq
 intro i;have := congrArg (·.testBit i) h;simp only [Nat.testBit_and, Nat.testBit_or] at this ⊢
 revert this
 cases x.testBit i <;> cases y.testBit i <;> simp
theorem orR_of_sub {a b : List Nat} (hl : b.length = a.length) (h : subR b a = true) : orR a b = a := by
 unfold subR at h;rw [List.all_eq_true] at h;unfold orR
 apply List.ext_getElem?
 intro j;rw [hl, Nat.max_self, List.getElem?_map];rcases Nat.lt_or_ge j a.length with hj | hj
 ·rw [List.getElem?_range hj]
  have := h j (List.mem_range.2 (by omega));rw [beq_iff_eq] at this
  show some (a.getD j 0 ||| b.getD j 0) = _
  rw [or_of_and this, List.getD_eq_getElem?_getD, List.getElem?_eq_getElem hj]; rfl
 ·rw [List.getElem?_eq_none (by simpa using hj), List.getElem?_eq_none hj]; rfl
def orPre (a b : List (List Nat)) (k : Nat) : List (List Nat) := (List.range k).map fun i => orR (a.getD i []) (b.getD i [])
theorem orPre_all (a b : List (List Nat)) : orPre a b a.length = orM a b := rfl
theorem orPre_succ (a b : List (List Nat)) (k : Nat) : orPre a b (k + 1) = orPre a b k ++ [orR (a.getD k []) (b.getD k [])] := by
 unfold orPre; rw [List.range_succ, List.map_append]; rfl


section
variable {P : Program} {ops : Array Oper} {md : Region.Mode} {Q : Exit → Act → World → Prop}

def wpAnyR (P : Program) (md : Region.Mode) (ops : Array Oper) (Q : Exit → Act → World → Prop) (n : Nat) (F : Array Bool → Act → World → Prop) : Nat → Array Bool → Act → World → Prop
 | 0, listed, a, w => F listed a w
 | f + 1, listed, a, w => Region.ready md ops listed ≠ [] ∧ ∀ i ∈ Region.ready md ops listed, i < n ∧ wpOp P ops Q i (fun a' w' => Below w.heap.size w w' ∧ wpAnyR P md ops Q n F f (listed.setIfInBounds i true) a' w') a w

theorem wpAny_of_R {n g : Nat} {F : Array Bool → Act → World → Prop} (hF : ∀ listed a w, F listed a w → wpAny P md ops Q g listed a w) :
  ∀ (f : Nat) (listed : Array Bool) (a : Act) (w : World), wpAnyR P md ops Q n F f listed a w → wpAny P md ops Q (f + g) listed a w
 | 0, _, _, _, h => by rw [Nat.zero_add]; exact hF _ _ _ h
 | f + 1, listed, a, w, h => by
  rw [show f + 1 + g = (f + g) + 1 by omega];exact ⟨fun h0 => absurd h0 h.1, fun i hi => wpOp_mono (fun a' w' h' => wpAny_of_R hF f _ a' w' h'.2) (h.2 i hi).2⟩

theorem below_of {w w' w'' : World} (h : Below w.heap.size w w') (h' : Below w'.heap.size w' w'') : Below w.heap.size w w'' := h.trans (h'.mono h.size)
theorem yields_later {w w' : World} {o : Oper} {v : Value} {a : Act} (hb : Below w.heap.size w w') (h : YieldsIf P ops (fun x => Below w.heap.size w x) o v a) : YieldsIf P ops (fun x => Below w'.heap.size w' x) o v a :=
 h.imp (fun ⟨h1, h2⟩ => ⟨h1, fun x hx => h2 x (below_of hb hx)⟩) id

theorem wpAnyR_first {n i : Nat} {oi : Oper} {v : Value} {F : Array Bool → Act → World → Prop} (hi : ops[i]? = some oi) (hsel : ∀ (j : Nat) (o : Oper) cs b, ops[j]? = some o → o.op ≠ .select cs b)
  (hQ : ∀ c a w, Q (.panic c) (a.put oi.dst v) w → Q (.panic c) a w)
  (hlate : ∀ listed, HeadInv md ops n listed → listed.getD i true = false → ∀ t, n ≤ t → t ∉ Region.ready md ops listed) (hin : i < n)
  (hdone : ∀ listed a w, F listed a w → ∀ j ∈ Region.ready md ops listed, n ≤ j) :
  ∀ (f : Nat) (listed : Array Bool) (a : Act) (w : World), HeadInv md ops n listed →
   (∀ j oj, ops[j]? = some oj → j ≠ i → listed.getD j true = false → (∀ e ∈ oj.after, Region.binds md e = true → e.on ≠ i) → oi.apart ops oj = true) →
   i ∈ Region.ready md ops listed → YieldsIf P ops (fun x => Below w.heap.size w x) oi v a →
   wpAnyR P md ops Q n F f (listed.setIfInBounds i true) (a.put oi.dst v) w → wpAnyR P md ops Q n F (f + 1) listed a w := by
 intro f
 induction f with
 | zero =>
  intro listed a w inv _ hr hy H;have hun := (mem_ready.1 hr).1;refine ⟨fun h => (by rw [h] at hr; cases hr), fun j hj => ?_⟩;have hjn : j < n := by
   rcases Nat.lt_or_ge j n with h | h
   ·exact h
   ·exact absurd hj (hlate listed inv hun j h)
  refine ⟨hjn, ?_⟩;by_cases hji : j = i
  ·subst hji; exact hy.wpOp hi (Below.refl _ _) ⟨Below.refl _ _, H⟩
  ·have := hdone _ _ _ H j (ready_mono hj hji)
   omega
 | succ f ih =>
  intro listed a w inv hfree hr hy H;have hun := (mem_ready.1 hr).1;refine ⟨fun h => (by rw [h] at hr; cases hr), fun j hj => ?_⟩;have hjn : j < n := by
   rcases Nat.lt_or_ge j n with h | h
   ·exact h
   ·exact absurd hj (hlate listed inv hun j h)
  refine ⟨hjn, ?_⟩;by_cases hji : j = i
  ·subst hji; exact hy.wpOp hi (Below.refl _ _) ⟨Below.refl _ _, H⟩
  ·have h1 := (H.2 j (ready_mono hj hji)).2
   obtain ⟨hjun, oj, hoj, hall⟩ := mem_ready.1 hj;have hnot : ∀ e ∈ oj.after, Region.binds md e = true → e.on ≠ i := fun e he hb heq => by
    have h1 := hall e he hb;rw [heq, getD_both hun] at h1
    cases h1
   have h2 := wpOp_putIf hoj (hfree j oj hoj hji hjun hnot) (fun cs b => hsel i oi cs b hi) (fun cs b => hsel j oj cs b hoj) hQ hy h1;have hfree' : ∀ k ok, ops[k]? = some ok → k ≠ i → (listed.setIfInBounds j true).getD k true = false →
     (∀ e ∈ ok.after, Region.binds md e = true → e.on ≠ i) → oi.apart ops ok = true := fun k ok hk hki hun hno => by
    refine hfree k ok hk hki ?_ hno;by_cases hjk : j = k
    ·subst hjk; exact hjun
    ·rw [getD_set_ne true hjk] at hun; exact hun
   refine wpOp_mono (fun a' w' h3 => ⟨h3.2.1, ih (listed.setIfInBounds j true) a' w' (inv.set hj hjn) hfree' (ready_mono hr (Ne.symm hji)) (yields_later h3.2.1 h3.1) ?_⟩) h2;rw [Array.setIfInBounds_comm _ _ hji];exact h3.2.2

def planB (md : Region.Mode) (ops : Array Oper) (n : Nat) : List (Bool × Nat) → Array Bool → Bool
 | [], listed => Region.seqB md ops (ops.size - n) n listed
 | (b, i) :: rest, listed => decide (i < n) && (if b then (Region.ready md ops listed).contains i && Region.free md ops listed i else decide (Region.ready md ops listed = [i])) && planB md ops n rest (listed.setIfInBounds i true)
def planAll (md : Region.Mode) (ops : Array Oper) (n : Nat) (pl : List (Bool × Nat)) : Bool :=
 Region.noSelect ops && decide (pl.length = n) && decide (n ≤ ops.size) && (decide (n = ops.size) || (Region.sinkB md ops n && Region.chainB md ops n)) && planB md ops n pl (Array.replicate ops.size false)

def wpPlan (P : Program) (ops : Array Oper) (Q : Exit → Act → World → Prop) (tail : List Oper) : List (Bool × Nat) → Act → World → Prop
 | [], a, w => wpList P ops Q tail a w
 | (true, i) :: rest, a, w => ∃ o v, ops[i]? = some o ∧ YieldsIf P ops (fun x => Below w.heap.size w x) o v a ∧ wpPlan P ops Q tail rest (a.put o.dst v) w
 | (false, i) :: rest, a, w => wpOp P ops Q i (fun a' w' => Below w.heap.size w w' ∧ wpPlan P ops Q tail rest a' w') a w

theorem wpAnyR_plan {n : Nat} {tail : List Oper} (hsel : Region.noSelect ops = true) (hQ : ∀ c a d v w, Q (.panic c) (a.put d v) w → Q (.panic c) a w)
  (hlate : ∀ listed, HeadInv md ops n listed → ∀ i, i < n → listed.getD i true = false → ∀ t, n ≤ t → t ∉ Region.ready md ops listed) :
  ∀ (pl : List (Bool × Nat)) (listed : Array Bool) (a : Act) (w : World), HeadInv md ops n listed → planB md ops n pl listed = true → wpPlan P ops Q tail pl a w →
  wpAnyR P md ops Q n (fun listed' a' w' => Region.seqB md ops (ops.size - n) n listed' = true ∧ wpList P ops Q tail a' w') pl.length listed a w
 | [], listed, a, w, _, hB, h => ⟨hB, h⟩
 | (true, i) :: rest, listed, a, w, inv, hB, h => by
  simp only [planB, if_true, Bool.and_eq_true, decide_eq_true_eq] at hB;obtain ⟨⟨hin, hr, hf⟩, hB'⟩ := hB;obtain ⟨o, v, ho, hy, h'⟩ := h;have hr' : i ∈ Region.ready md ops listed := by simpa using hr
  exact wpAnyR_first ho (Region.noSelect_spec hsel) (fun c a w => hQ c a o.dst v w) (fun l hl hu => hlate l hl i hin hu) hin (fun listed' a' w' hL => seqB_ready hL.1) rest.length listed a w inv (Region.free_spec ho hf) hr' hy
   (wpAnyR_plan hsel hQ hlate rest _ _ _ (inv.set hr' hin) hB' h')
 | (false, i) :: rest, listed, a, w, inv, hB, h => by
  simp only [planB, Bool.false_eq_true, if_false, Bool.and_eq_true, decide_eq_true_eq] at hB;obtain ⟨⟨hin, hr⟩, hB'⟩ := hB;have hr' : i ∈ Region.ready md ops listed := by rw [hr]; simp
  refine ⟨by rw [hr]; simp, fun j hj => ?_⟩;rw [hr] at hj;have hji : j = i := by simpa using hj
  subst hji;exact ⟨hin, wpOp_mono (fun a' w' h3 => ⟨h3.1, wpAnyR_plan hsel hQ hlate rest _ a' w' (inv.set hr' hin) hB' h3.2⟩) h⟩

theorem wpAny_plan {a : Act} {w : World} {l : List Oper} (n : Nat) (pl : List (Bool × Nat)) (hB : planAll .any l.toArray n pl = true)
  (h : ∀ W : World, Hid (W = w.drew) → wpPlan P l.toArray (NoPanic Q) (l.drop n) pl a W) : wpAny P .any l.toArray (NoPanic Q) l.toArray.size (Array.replicate l.toArray.size false) a { w with drawn := w.drawn + 1 } := by
 have hQ : ∀ c a d v w, NoPanic Q (.panic c) (a.put d v) w → NoPanic Q (.panic c) a w := fun _ _ _ _ _ h => h;simp only [planAll, Bool.and_eq_true, decide_eq_true_eq] at hB;obtain ⟨⟨⟨⟨hsel, hlen⟩, hn⟩, hsc⟩, hpl⟩ := hB;have hn' : n ≤ l.length := by simpa using hn
 have hdl : (l.drop n).length = l.toArray.size - n := by simp
 have inv0 : HeadInv .any l.toArray n (Array.replicate l.toArray.size false) :=
  ⟨by simp, fun j oj _ hl => (by rw [getD_replicate_false] at hl; cases hl), fun t _ ht => getD_in (by simpa using ht) (getD_replicate_false _ _)⟩
 have hlate : ∀ listed, HeadInv .any l.toArray n listed → ∀ i, i < n → listed.getD i true = false → ∀ t, n ≤ t → t ∉ Region.ready .any l.toArray listed := by
  intro listed inv i hin hun t ht hr;rw [Bool.or_eq_true, decide_eq_true_eq, Bool.and_eq_true] at hsc;obtain ⟨_, ot, hot, _⟩ := mem_ready.1 hr;have htl := (Array.getElem?_eq_some_iff.1 hot).1;rcases hsc with h0 | ⟨hs, hc⟩
  ·omega
  ·exact tail_waits hs hc (by omega) inv _ i rfl hin hun t ht hr
 have H := wpAnyR_plan (md := .any) hsel hQ hlate pl _ a w.drew inv0 hpl (h w.drew (Hd rfl));have := wpAny_of_R (Q := NoPanic Q) (g := l.toArray.size - n) (fun listed a' w' hL => by
  have := wpAny_of_seq (md := .any) (Q' := NoPanic Q) (l.drop n) n listed a' w' (fun j => by simp [List.getElem?_drop]) (by rw [hdl]; exact hL.1) hL.2
  rwa [hdl] at this) _ _ _ _ H
 rw [hlen, show n + (l.toArray.size - n) = l.toArray.size by omega] at this;exact this
theorem wpRp {id : Nat} {a : Act} {w : World} {l : List Oper} (n : Nat) (pl : List (Bool × Nat)) (hm : P.follows .mixedOrders = true) (hB : planAll .any l.toArray n pl = true)
  (h : ∀ W : World, Hid (W = w.drew) → wpPlan P l.toArray (NoPanic Q) (l.drop n) pl a W) : (Code.region id l.toArray true).wp P Q a w :=
 wp_region_noPanic (wp_region_any hm (wpAny_plan n pl hB h))

/-! ### the steps -/
section
variable {tail : List Oper} {rest : List (Bool × Nat)} {a : Act} {w : World} {i : Nat} {o : Oper}
theorem wpPf {v : Value} (hi : ops[i]? = some o) (hw : Region.wanted o (yielded ops a.tmps) = true)
  (hy : ∀ w' : World, (∀ p, (w.cell? p).isSome = true → w'.cell? p = w.cell? p) → (execOp a.eval o).run P w' = .ok (.value v) w') (h : ∀ K : Act → Prop, (∀ a', wpPlan P ops Q tail rest a' w → K a') → K (a.put o.dst v)) : wpPlan P ops Q tail ((true, i) :: rest) a w :=
 ⟨o, v, hi, .inl ⟨hw, fun w' hb => hy w' (fun p hp => by
  have hlt : p.block < w.heap.size := by
   cases hc : w.cell? p with
   | none => rw [hc] at hp; cases hp
   | some u => exact block_lt_of_cell hc
  exact hb.cell hlt)⟩, h _ (fun _ h => h)⟩
theorem wpPs (hi : ops[i]? = some o) (hw : Region.wanted o (yielded ops a.tmps) = false) (h : ∀ K : Act → Prop, (∀ a', wpPlan P ops Q tail rest a' w → K a') → K (a.put o.dst undef)) : wpPlan P ops Q tail ((true, i) :: rest) a w :=
 ⟨o, undef, hi, .inr ⟨hw, rfl⟩, h _ (fun _ h => h)⟩
theorem wpPo (hi : ops[i]? = some o) (hw : Region.wanted o (yielded ops a.tmps) = true)
  (h : ∀ K : Act → World → Prop, (∀ a' w', Below w.heap.size w w' → wpPlan P ops Q tail rest a' w' → K a' w') → o.wp P a w K Q) : wpPlan P ops Q tail ((false, i) :: rest) a w := by
 show wpOp P ops Q i _ a w
 unfold wpOp;simp only [hi, hw, if_true];exact .inl (h _ (fun a' w' hb hp => ⟨hb, hp⟩))
theorem wpPn (h : wpList P ops Q tail a w) : wpPlan P ops Q tail [] a w := h
end
end

def RetJoin (A B : Option Addr) (xs ys : List Nat) (w : World) (e : Ending) (w' : World) : Prop :=
 ∃ C n c, e = .returned (.slice C n c) ∧ Row w' C n (orR xs ys) ∧ Below w.heap.size w w' ∧ (C = A ∨ C = B ∨ ∀ ad, C = some ad → w.heap.size ≤ ad.block)
theorem mat_join (A B : Option Addr) (n c d : Nat) (xs ys : List Nat) (w : World) (hr : Row w A n xs) (hs : Row w B n ys) (hn : n ≤ 1073741824) :
  Calls Tryz.prog 79 #[.slice A n c, .slice B n d] w (RetJoin A B xs ys w) := by
 have hl1 := hr.len;have hl2 := hs.len;have h1 := Hd (row_Sub B A n n d c ys xs w hs hr (by omega) (by omega));have h2 := Hd (row_Sub A B n n c d xs ys w hr hs (by omega) (by omega));have h3 := Hd (row_OrO A B n n c d xs ys w hr hs (by omega) (by omega));rcases Bool.eq_false_or_eq_true (subR ys xs) with ha | ha
 ·have he := Hd (orR_of_sub (by omega) ha)
  replace ha := Hd ha;replace hr := Hd hr;clear hl1 hl2 hs
  go_enter Tryz.func79, Tryz.ntmps79
  go_wp2_with fail;refine h1.out.mono ?_; rintro e w' ⟨rfl, rfl⟩;rw [ha.out]
  go_wp2
  go_ret;exact ⟨_, _, _, rfl, by rw [he.out]; exact hr.out, Below.refl _ _, .inl rfl⟩
 ·replace ha := Hd ha
  rcases Bool.eq_false_or_eq_true (subR xs ys) with hb | hb
  ·have he := orR_of_sub (a := ys) (b := xs) (by omega) hb
   rw [orR_comm] at he;replace he := Hd he;replace hb := Hd hb;replace hs := Hd hs;clear hl1 hl2 hr
   go_enter Tryz.func79, Tryz.ntmps79
   go_wp2_with fail;refine h1.out.mono ?_; rintro e w' ⟨rfl, rfl⟩;rw [ha.out];go_wp2_with fail;refine h2.out.mono ?_; rintro e w' ⟨rfl, rfl⟩;rw [hb.out]
   go_wp2
   go_ret;exact ⟨_, _, _, rfl, by rw [he.out]; exact hs.out, Below.refl _ _, .inr (.inl rfl)⟩
  ·replace hb := Hd hb
   clear hl1 hl2 hr hs
   go_enter Tryz.func79, Tryz.ntmps79
   go_wp2_with fail;refine h1.out.mono ?_; rintro e w' ⟨rfl, rfl⟩;rw [ha.out];go_wp2_with fail;refine h2.out.mono ?_; rintro e w' ⟨rfl, rfl⟩;rw [hb.out];go_wp2_with fail;refine h3.out.mono ?_; rintro e w1 ⟨C, p, q, rfl, ho, hx, hbb⟩
   go_wp2
   go_ret;exact ⟨_, _, _, rfl, Row.of_own ho hx, hbb, .inr (.inr (fun ad e => by subst e; exact oLb ho _ rfl))⟩

theorem mat_Or (A B : Option Addr) (n c d : Nat) (xss yss : List (List Nat)) (w : World) (hr : RowsAt w A n xss) (hs : RowsAt w B n yss) (hn : n ≤ 4096)
  (hl : ∀ (i : Nat) (xs ys : List Nat), xss[i]? = some xs → yss[i]? = some ys → xs.length = ys.length ∧ xs.length ≤ 1024) :
  Calls Tryz.prog 50 #[.agg #[.int .i64 (n : Int), .slice A n c], .agg #[.int .i64 (n : Int), .slice B n d]] w (RetMat (n : Int) (orM xss yss) 0 w) := by
 have hmk := mk_rows .i64 .i64 n n (Nat.le_refl _) (by omega);have hxl := hr.len;obtain ⟨W0, hW0⟩ : ∃ W0, W0 = ((w.alloc (.cells #[.int .i64 n, .slice A n c] 57)).alloc (.cells #[.int .i64 n, .slice B n d] 57)).alloc (.cells #[.int .i64 0, .slice none 0 0] 57) := ⟨_, rfl⟩;have ha : Below w.heap.size w W0 := by rw [hW0]; exact (((Below.refl _ _).alloc (Nat.le_refl _) _).alloc (by simp <;> omega) _).alloc (by simp <;> omega) _
 have hBa : MatB W0 w.heap.size 57 n A n c := by rw [hW0]; exact ((MatB.new w _).below_ ((Below.refl _ _).alloc (Nat.le_refl _) _)).below_ ((Below.refl _ _).alloc (Nat.le_refl _) _)
 have hBb : MatB W0 (w.heap.size + 1) 57 n B n d := by rw [hW0]; exact (MatB.new1 w _ _).below_ ((Below.refl _ _).alloc (Nat.le_refl _) _)
 have hBr : MatB W0 (w.heap.size + 2) 57 0 none 0 0 := by
  rw [hW0];have h := MatB.new1 (N := 0) (A := none) (n := 0) (c := 0) (w.alloc (.cells #[.int .i64 n, .slice A n c] 57)) (.cells #[.int .i64 n, .slice B n d] 57) 57
  rwa [show (w.alloc (.cells #[.int .i64 n, .slice A n c] 57)).heap.size = w.heap.size + 1 from by simp] at h
 have hs0 : W0.heap.size = w.heap.size + 3 := by rw [hW0]; simp
 obtain ⟨W1, hW1⟩ : ∃ W1, W1 = W0.alloc (.cells (zeros n (.slice none 0 0)) 88) := ⟨_, rfl⟩;have hb01 : Below W0.heap.size W0 W1 := by rw [hW1]; exact (Below.refl _ _).alloc (Nat.le_refl _) _
 have hs1 : W1.heap.size = w.heap.size + 4 := by rw [hW1]; simp [hs0]
 have hown0 : W1.ownsRow (w.heap.size + 3) 88 1 (.slice (some ⟨w.heap.size + 3, 0, none⟩) n n) n (filled [] n) := by
  have h := own_zeros W0 n (.slice none 0 0) 88 (by unfold maxLen; omega);rw [← hW1, hs0] at h;rw [filled_nil]; exact h
 have hp : W0.heap.size = w.heap.size + 3 := hs0;have l1 := hBa.c0;have l2 := hBb.c0;have hne : ((n : Int) != (n : Int)) = false := by simp
 have hBa1 := Hd (hBa.below_ hb01);have hBb1 := Hd (hBb.below_ hb01);have hBr1 := Hd (hBr.below_ hb01);have ha1 := Hd (bT2 ha hb01);have hs1' := Hd hs1;replace hown0 := Hd hown0;replace hr := Hd hr;replace hs := Hd hs;replace hl := Hd hl;replace hxl := Hd hxl;clear ha hBa hBb hBr hs1 hb01 hs0
 go_enter Tryz.func50, Tryz.ntmps50
 go_wp2_with fail;rw [← hW0, ← hW1];clear hW1 hW0 hmk hp l1 l2
 go_loopw [19] (fun i wr => ∃ vs : List Value, vs.length ≤ n ∧ i = .int .i64 vs.length ∧ Hid (wr.ownsRow (w.heap.size + 3) 88 1 (.slice (some ⟨w.heap.size + 3, 0, none⟩) n n) n (filled vs n)) ∧ Hid (RowsF wr w.heap.size (w.heap.size + 4) vs (orPre xss yss vs.length)) ∧ Hid (MatB wr w.heap.size 57 n A n c) ∧ Hid (MatB wr (w.heap.size + 1) 57 n B n d) ∧ Hid (MatB wr (w.heap.size + 2) 57 0 none 0 0) ∧ Hid (Below w.heap.size w wr) ∧ Hid (w.heap.size + 4 ≤ wr.heap.size)) (fun i _ => n - (intOf i).toNat)
 case atStart => exact ⟨[], Nat.zero_le _, rfl, hown0, Hd (RowsF.nil _), hBa1, hBb1, hBr1, ha1, Hd (by rw [hs1'.out]; exact Nat.le_refl _)⟩
 case round =>
  obtain ⟨vs, hk, rfl, hown, hrows, hBa, hBb, hBr, hbr, hsr⟩ := hrel;clear hown0 hBa1 hBb1 hBr1 ha1;obtain ⟨k, hke⟩ : ∃ k, k = vs.length := ⟨_, rfl⟩;rw [← hke] at hk;rw [← hke];by_cases hlt : k < n
  ·have hke' := Hd hke
   clear hke;obtain ⟨b1, o1, A1, n1, c1, xs, rfl, hbl1, hx1, hc1, hrx⟩ := hr.out.at_ hlt;obtain ⟨b2, o2, B1, n2, c2, ys, rfl, hbl2, hy1, hc2, hry⟩ := hs.out.at_ hlt;have hxy := hl.out k xs ys hx1 hy1;have e12 : n2 = n1 := by have := hrx.len; have := hry.len; omega
   subst e12;have hn1 : n2 ≤ 1024 := by have := hrx.len; omega
   replace hc1 := (hbr.out.cell (p := ⟨b1, o1 + k, none⟩) hbl1).trans hc1;replace hc2 := (hbr.out.cell (p := ⟨b2, o2 + k, none⟩) hbl2).trans hc2;have hstep : Hid (orPre xss yss (k + 1) = orPre xss yss k ++ [orR xs ys]) := Hd (by rw [orPre_succ, getD_at hx1, getD_at hy1]);have la := hBa.out.c1;have lb := hBb.out.c1;have hget := filled_get (vs := vs) (n := n) (by rw [← hke'.out]; exact hlt);have hfg := hown.out.frozenAt k;have hcg := hown.out.cellAt k (by omega);rw [hke'.out, hget, ← hke'.out] at hcg;replace hrx := Hd hrx;replace hry := Hd hry;clear hx1 hy1 hxy hget;have hk0 : (0 : Int) ≤ (k : Int) := by omega
   have hkn : (k : Int) < (n : Int) := by omega
   go_wp2_with fail;refine wpRp 13 [(true, 0), (true, 1), (true, 2), (true, 3), (true, 4), (true, 5), (true, 6), (true, 7), (true, 8), (true, 9), (true, 10), (true, 11), (false, 12)] (by kernel_rfl) (by kernel_rfl) (fun W hW => ?_);have hbW : Below wr.heap.size wr W := by rw [hW.out]; exact (Below.refl _ _).drew
   have m1 : W.cell? ⟨w.heap.size, 1, none⟩ = some (.slice (some ⟨b1, o1, none⟩) n c) := by rw [hW.out]; exact la
   have m2 : W.cell? ⟨w.heap.size + 1, 1, none⟩ = some (.slice (some ⟨b2, o2, none⟩) n d) := by rw [hW.out]; exact lb
   have m3 : W.cell? ⟨b1, o1 + k, none⟩ = some (.slice A1 n2 c1) := by rw [hW.out]; exact hc1
   have m4 : W.cell? ⟨b2, o2 + k, none⟩ = some (.slice B1 n2 c2) := by rw [hW.out]; exact hc2
   have hbrW := Hd (bT2 hbr.out hbW);have hownW := Hd (oBl hown.out hbW);have hrowsW := Hd (hrows.out.below hbW);have hBaW := Hd (hBa.out.below_ hbW);have hBbW := Hd (hBb.out.below_ hbW);have hBrW := Hd (hBr.out.below_ hbW);have hsW : Hid (w.heap.size + 4 ≤ W.heap.size) := Hd (Nat.le_trans hsr.out hbW.size);have hj := Hd (mat_join A1 B1 n2 c1 c2 xs ys W (hrx.out.below hbrW.out) (hry.out.below hbrW.out) (by omega));clear hbW hown hrows hBa hBb hBr hbr hsr la lb hc1 hc2 hfg hcg;simp only [List.drop_succ_cons, List.drop_zero]
   iterate 12
    refine wpPf (v := ?_) rfl (by rfl) (fun w' hw' => ?_) (fun K hK => ?_);rotate_left
    ·(go_simp; try with_reducible rfl)
    go_simp;refine hK _ ?_;clear hK K
   refine wpPo rfl (by rfl) (fun K hK => ?_);go_simp;refine hj.out.mono ?_; rintro e w1 ⟨C, p, q, rfl, hC, hb1, hfr⟩;refine hK _ _ hb1 (wpPn ?_);clear hK K;have hown1 := oBl hownW.out hb1;have hget := filled_get (vs := vs) (n := n) (by rw [← hke'.out]; exact hlt);have hcg := hown1.cellAt k (by omega);rw [hke'.out, hget, ← hke'.out] at hcg;have hfg := hown1.frozenAt k;have hCF : Hid (RowF w1 w.heap.size (w.heap.size + 4) (.slice C p q) (orR xs ys)) := Hd ⟨C, p, q, rfl, hC, fun h0 ad he => by
    have hp0 : 0 < n2 := by
     have h1 := hC.len;have h2 := orR_len xs ys;have h3 := hrx.out.len;have h4 := hry.out.len
     omega
    rcases hfr with h | h | h
    ·subst h
     obtain ⟨b, off, e, hbl, _⟩ := hrx.out.1.2 hp0;rw [e] at he;injection he with he;subst he;exact .inl hbl
    ·subst h
     obtain ⟨b, off, e, hbl, _⟩ := hry.out.1.2 hp0;rw [e] at he;injection he with he;subst he;exact .inl hbl
    ·exact .inr (Nat.le_trans hsW.out (h ad he))⟩
   have hrows1 := Hd ((hrowsW.out.below hb1).snoc hCF.out);have hBa1 := Hd (hBaW.out.below_ hb1);have hBb1 := Hd (hBbW.out.below_ hb1);have hBr1 := Hd (hBrW.out.below_ hb1);have hbr1 := Hd (bT2 hbrW.out hb1);have hsr1 := Hd (Nat.le_trans hsW.out hb1.size);replace hown1 := Hd hown1;clear hC hb1 hfr hget hownW hrowsW hBaW hBbW hBrW hbrW hsW m1 m2 m3 m4;go_wp2_with fail;refine NoPanic.normal ?_;go_wp2_with fail
   go_roundw
   case rel =>
    refine ⟨vs ++ [.slice C p q], by have := hke'.out; simp; omega, by rw [List.length_append, ← hke'.out]; simp; try omega, ?_, ?_, ?_, ?_, ?_, ?_, ?_⟩
    ·refine Hd ?_
     rw [← filled_set (by rw [← hke'.out]; exact hlt), ← hke'.out];exact (hown1.out.stored k (.slice C p q)).1
    ·refine Hd ?_
     rw [List.length_append, List.length_singleton, ← hke'.out, hstep.out];have h := hrows1.out.set (p := ⟨w.heap.size + 3, k, none⟩) (by simp <;> omega) (by simp <;> omega) (.slice C p q);rw [← hke'.out] at h;exact h
    ·exact Hd (hBa1.out.far (by simp <;> omega) _)
    ·exact Hd (hBb1.out.far (by simp <;> omega) _)
    ·exact Hd (hBr1.out.far (by simp <;> omega) _)
    ·exact Hd (hbr1.out.setCell (by simp <;> omega) _)
    ·exact Hd (by simpa using hsr1.out)
   case measure => simp [intOf]; omega
  ·have hkn : k = n := by omega
   have hvn : vs.length = n := by rw [← hke, hkn]
   clear hlt;have l1 := hBa.out.c0;have f20 := hBr.out.c0;have f21 := hBr.out.c1;have g20 := hBr.out.frozen 0;have g21 := hBr.out.frozen 1;replace hvn := Hd hvn;replace hke := Hd hke;obtain rfl := hkn;go_wp2_with fail;have hcc := hBr.out.two (.int .i64 k) (.slice (some ⟨w.heap.size + 3, 0, none⟩) k k);have hc1 := hcc.1;have hc2 := hcc.2;clear hcc f20 f21 g20 g21 l1;refine bodyPost_ret (v := .tuple #[.agg #[.int .i64 k, .slice (some ⟨w.heap.size + 3, 0, none⟩) k k], .int .i64 0]) (by simp [results, Tryz.results50, go_sem, hc1, hc2]) rfl ⟨_, _, _, rfl, ⟨vs, ?_, ?_⟩, Nat.le_refl _, ?_⟩
   ·have h := hown.out
    rw [filled_all hvn.out] at h;exact Rd.of_own' (own_far (own_far h (p := ⟨w.heap.size + 2, 0, none⟩) (by simp [Value.ownBlock]) _) (p := ⟨w.heap.size + 2, 1, none⟩) (by simp [Value.ownBlock]) _)
   ·have h := (hrows.out.set (p := ⟨w.heap.size + 2, 0, none⟩) (by simp) (by simp <;> omega) (.int .i64 k)).set (p := ⟨w.heap.size + 2, 1, none⟩) (by simp) (by simp <;> omega) (.slice (some ⟨w.heap.size + 3, 0, none⟩) k k)
    have he : orPre xss yss vs.length = orM xss yss := by rw [hvn.out, ← orPre_all, hxl.out]
    rw [he] at h;exact h.rows
   ·exact (hbr.out.setCell (by simp <;> omega) _).setCell (by simp <;> omega) _




def cellsP (ps : List (Int × Int)) : List Value := ps.flatMap fun p => [.int .i64 p.1, .int .i64 p.2]
theorem cellsP_len (ps : List (Int × Int)) : (cellsP ps).length = ps.length * 2 := by
 induction ps with
 | nil => rfl
 | cons p ps ih =>
  unfold cellsP at ih ⊢;rw [List.flatMap_cons, List.length_append, ih]
  simp; omega
theorem cellsP_snoc (ps : List (Int × Int)) (p : Int × Int) : cellsP (ps ++ [p]) = cellsP ps ++ [.int .i64 p.1, .int .i64 p.2] := by
 unfold cellsP; rw [List.flatMap_append]; simp
theorem cellsP_get : ∀ (ps : List (Int × Int)) (j : Nat) (p : Int × Int), ps[j]? = some p → (cellsP ps)[j * 2]? = some (.int .i64 p.1) ∧ (cellsP ps)[j * 2 + 1]? = some (.int .i64 p.2)
 | [], j, p, h => by simp at h
 | q :: ps, 0, p, h => by
  simp at h;subst h;unfold cellsP
  simp
 | q :: ps, j + 1, p, h => by
  have ih := cellsP_get ps j p (by simpa using h);unfold cellsP at ih ⊢;rw [List.flatMap_cons];rw [show (j + 1) * 2 = j * 2 + 2 from by omega];exact ⟨by simpa using ih.1, by simpa using ih.2⟩
def OkI (ps : List (Int × Int)) : Prop := ∀ p ∈ ps, (-9223372036854775808 ≤ p.1 ∧ p.1 < 9223372036854775808) ∧ (-9223372036854775808 ≤ p.2 ∧ p.2 < 9223372036854775808)
theorem PairsAt.of_own {w : World} {base n : Nat} {e : TypeId} {v : Value} {ps : List (Int × Int)} (h : w.ownsRow base e 2 v n (cellsP ps)) (hp : OkI ps) : ∃ A c, v = .slice A n c ∧ PairsAt w A n ps := by
 have hlen : ps.length = n := by have := h.1; rw [cellsP_len] at this; omega
 rcases h.2 with ⟨rfl, h0⟩ | ⟨g, cap, cur, rfl, hbg, hg, hnc, hcm, hcs, htake⟩
 ·obtain rfl : n = 0 := h0
  exact ⟨none, 0, rfl, hlen, hp, fun hh => by omega⟩
 ·refine ⟨_, _, rfl, hlen, hp, fun hn => ⟨g, 0, rfl, (Array.getElem?_eq_some_iff.1 hg).1, fun j p hj => ?_⟩⟩
  have hjl : j < ps.length := (List.getElem?_eq_some_iff.1 hj).1;obtain ⟨h1, h2⟩ := cellsP_get ps j p hj;have key : ∀ q u, q < n * 2 → (cellsP ps)[q]? = some u → w.cell? ⟨g, 0 + q, none⟩ = some u := fun q u hq hu => by
   rw [Nat.zero_add, cell_of_row w g q cur e (0, 0) hg];rw [← htake, List.getElem?_take_of_lt hq] at hu
   simpa using hu
  refine ⟨key _ _ (by omega) h1, ?_⟩;have := key (j * 2 + 1) _ (by omega) h2
  rwa [show 0 + (j * 2 + 1) = 0 + j * 2 + 1 from by omega] at this

/-! ### the pairs of a matrix -/
def pairsK (xss : List (List Nat)) (k : Nat) : List (Int × Int) := (List.range k).flatMap fun i => (listR (xss.getD i [])).map fun j => ((i : Int), j)
def pairsM (xss : List (List Nat)) : List (Int × Int) := pairsK xss xss.length
theorem pairsK_succ {xss : List (List Nat)} {k : Nat} {xs : List Nat} (h : xss[k]? = some xs) : pairsK xss (k + 1) = pairsK xss k ++ (listR xs).map fun j => ((k : Int), j) := by
 unfold pairsK;rw [List.range_succ, List.flatMap_append, List.flatMap_singleton, getD_at h]
def sumK (xss : List (List Nat)) (k : Nat) : Nat := ((List.range k).map fun i => countR (xss.getD i [])).sum
theorem sumK_le {xss : List (List Nat)} (B : Nat) (hl : ∀ (i : Nat) (xs : List Nat), xss[i]? = some xs → xs.length ≤ B) : ∀ k, sumK xss k ≤ k * (64 * B)
 | 0 => by simp [sumK]
 | k + 1 => by
  have ih := sumK_le B hl k;unfold sumK at ih ⊢;rw [List.range_succ, List.map_append, List.sum_append, List.map_singleton, List.sum_singleton];have : countR (xss.getD k []) ≤ 64 * B := by
   rcases Nat.lt_or_ge k xss.length with hk | hk
   ·have hx := List.getElem?_eq_getElem hk
    rw [getD_at hx];exact Nat.le_trans (countR_le _) (Nat.mul_le_mul_left _ (hl k _ hx))
   ·rw [List.getD_eq_getElem?_getD, List.getElem?_eq_none hk]; simp [countR]
  rw [Nat.succ_mul]
  omega
theorem pairsK_len (xss : List (List Nat)) (k : Nat) : (pairsK xss k).length = sumK xss k := by
 unfold pairsK sumK;rw [List.length_flatMap]
 congr 1
 apply List.map_congr_left
 intro i _;rw [List.length_map, listR_len]
theorem pairsM_ok (xss : List (List Nat)) (h1 : xss.length ≤ 1073741824) (h : ∀ (i : Nat) (xs : List Nat), xss[i]? = some xs → xs.length ≤ 1073741824) : OkI (pairsM xss) := by
 intro p hp;unfold pairsM pairsK at hp;rw [List.mem_flatMap] at hp;obtain ⟨i, hi, hp⟩ := hp;have hil := List.mem_range.1 hi;have hx := List.getElem?_eq_getElem hil;rw [getD_at hx, List.mem_map] at hp;obtain ⟨j, hj, rfl⟩ := hp;unfold listR at hj;obtain ⟨q, hq, rfl⟩ := List.mem_map.1 hj;have := ((listN_mem _ q).1 hq).1;have := h i _ hx
 show (-9223372036854775808 ≤ (i : Int) ∧ (i : Int) < 9223372036854775808) ∧ (-9223372036854775808 ≤ (q : Int) ∧ (q : Int) < 9223372036854775808)
 omega

theorem info_pair : (Tryz.prog.info? 99).map (fun i => (i.zero, i.size, i.bytes)) = some (some (.agg #[.int .i64 0, .int .i64 0]), 2, 16) := by kernel_rfl
theorem cell_two_new (w : World) (t : TypeId) (x y : Value) : ∀ (j : Nat) (u : Value), [x, y][j]? = some u → (w.alloc (.cells #[x, y] t)).cell? ((⟨w.heap.size, 0, none⟩ : Addr).add j) = some u := by
 intro j u hu;have hB := Blk.new w t [x, y];have h := hB.cell j;have e : (⟨w.heap.size, 0, none⟩ : Addr).add j = ⟨w.heap.size, j, none⟩ := by unfold Addr.add; split <;> simp_all
 rw [e];exact h.trans hu

def RetPairs (ps : List (Int × Int)) (w : World) (e : Ending) (w' : World) : Prop := ∃ A n c, e = .returned (.slice A n c) ∧ PairsAt w' A n ps ∧ Below w.heap.size w w'


structure Good (n : Nat) (xss : List (List Nat)) : Prop where
 le : n ≤ 4096
 len : xss.length = n
 row : ∀ r ∈ xss, W64 r ∧ n ≤ 64 * r.length ∧ r.length = (wordsZ (n : Int)).toNat ∧ ∀ j : Nat, n ≤ j → hasR r (j : Int) = false
theorem Good.at_ {n : Nat} {xss : List (List Nat)} (h : Good n xss) {a : Nat} (ha : a < n) : ∃ r, xss[a]? = some r ∧ W64 r ∧ n ≤ 64 * r.length := by
 have hl : a < xss.length := by rw [h.len]; exact ha
 exact ⟨xss[a], List.getElem?_eq_getElem hl, (h.row _ (List.getElem_mem hl)).1, (h.row _ (List.getElem_mem hl)).2.1⟩
theorem Good.small {n : Nat} {xss : List (List Nat)} (h : Good n xss) : ∀ r ∈ xss, r.length ≤ 64 := fun r hr => by
 have := (h.row r hr).2.2.1;have := words_le h.le
 omega
theorem Good.set {n : Nat} {xss : List (List Nat)} (h : Good n xss) {a b : Nat} (ha : a < n) (hb : b < n) : Good n (setM xss (a : Int) (b : Int)) := by
 obtain ⟨r, hr, hw, hl⟩ := h.at_ ha;rw [setM_nat hr];have hrow := h.row r (List.mem_of_getElem? hr);refine ⟨h.le, by rw [List.length_set]; exact h.len, fun r' hr' => ?_⟩;rcases List.mem_or_eq_of_mem_set hr' with h1 | rfl
 ·exact h.row r' h1
 ·refine ⟨setR_w64 hw b, by rw [setR_len]; exact hl, by rw [setR_len]; exact hrow.2.2.1, fun j hj => ?_⟩
  rw [hasR_setR r b j (by omega), hrow.2.2.2 j hj, decide_eq_false (by omega)]; rfl

theorem set_at {α : Type} {xss : List α} {a : Nat} {r r' : α} (h : xss[a]? = some r) : (xss.set a r')[a]? = some r' := by
 rw [List.getElem?_set, if_pos rfl, if_pos (List.getElem?_eq_some_iff.1 h).1]
theorem map_range_getD {α β : Type} (l : List α) (d : α) (f : α → β) : (List.range l.length).map (fun i => f (l.getD i d)) = l.map f := by
 apply List.ext_getElem?
 intro i;by_cases hi : i < l.length
 ·rw [List.getElem?_map, List.getElem?_range hi, List.getElem?_map, List.getElem?_eq_getElem hi, Option.map_some, Option.map_some, getD_at (List.getElem?_eq_getElem hi)]
 ·rw [List.getElem?_eq_none (by simpa using hi), List.getElem?_eq_none (by simpa using hi)]
theorem pairsM_len (xss : List (List Nat)) : (pairsM xss).length = (xss.map countR).sum := by
 unfold pairsM pairsK;rw [List.length_flatMap, ← map_range_getD xss [] countR]
 congr 1
 apply List.map_congr_left
 intro i _;rw [List.length_map, listR_len]
theorem sum_set : ∀ (l : List Nat) (i x y : Nat), l[i]? = some y → (l.set i x).sum + y = l.sum + x
 | [], i, x, y, h => by simp at h
 | z :: l, 0, x, y, h => by
  simp at h; subst h;simp only [List.set_cons_zero, List.sum_cons]; omega
 | z :: l, i + 1, x, y, h => by
  have := sum_set l i x y (by simpa using h);simp only [List.set_cons_succ, List.sum_cons]; omega


/-! ### one size: the rows, one by one -/

/-! ### the bits -/


structure OnlyAt (g : Nat) (w w' : World) : Prop where
 os : w'.os = w.os
 tape : w'.tape = w.tape
 output : w'.output = w.output
 size : w'.heap.size = w.heap.size
 block : ∀ k, k ≠ g → w'.heap[k]? = w.heap[k]?
theorem OnlyAt.refl (g : Nat) (w : World) : OnlyAt g w w := ⟨rfl, rfl, rfl, rfl, fun _ _ => rfl⟩
theorem OnlyAt.drewN {g : Nat} {w w' : World} (h : OnlyAt g w w') (n : Nat) : OnlyAt g w (w'.drewN n) := ⟨h.os, h.tape, h.output, h.size, h.block⟩
theorem OnlyAt.set {g : Nat} {w w' : World} (h : OnlyAt g w w') (o : Nat) (u : Value) : OnlyAt g w (w'.setCell ⟨g, o, none⟩ u) :=
 ⟨h.os, h.tape, h.output, by simpa using h.size, fun k hk => (Below.heap_setCell w' ⟨g, o, none⟩ u k (by simpa using hk)).trans (h.block k hk)⟩
theorem OnlyAt.below {g : Nat} {w w' : World} (h : OnlyAt g w w') : Below g w w' := ⟨h.os, h.tape, h.output, by rw [h.size]; exact Nat.le_refl _, fun k hk => h.block k (by omega)⟩
theorem OnlyAt.cell {g : Nat} {w w' : World} (h : OnlyAt g w w') {p : Addr} (hp : p.block ≠ g) : w'.cell? p = w.cell? p := World.cell?_of_block (h.block _ hp)


section
variable {P : Program} {ops : Array Oper} {rest : List Oper} {op : Oper} {a : Act} {w : World} {Q : Exit → Act → World → Prop}
end





theorem hasM_setM {n : Nat} {xss : List (List Nat)} (h : Good n xss) {a b : Nat} (ha : a < n) (hb : b < n) (i j : Nat) : hasM (setM xss (a : Int) (b : Int)) (i : Int) (j : Int) = (hasM xss (i : Int) (j : Int) || decide (i = a ∧ j = b)) := by
 obtain ⟨r, hr, hw, hl⟩ := h.at_ ha;rw [setM_nat hr];by_cases hia : i = a
 ·subst hia
  rw [hasM_in (set_at hr), hasM_in hr, hasR_setR r b j (by omega)]
  congr 1
  simp
 ·rw [decide_eq_false (by omega), Bool.or_false]
  by_cases hi : i < xss.length
  ·have hx : xss[i]? = some xss[i] := List.getElem?_eq_getElem hi
   rw [hasM_in hx, hasM_in (xs := xss[i]) (by rw [List.getElem?_set, if_neg (Ne.symm hia)]; exact hx)]
  ·rw [hasM_out (xss := xss) (.inr (by omega)), hasM_out (xss := xss.set a (setR r (b : Int))) (.inr (by rw [List.length_set]; omega))]
theorem Good.new {n : Nat} (hn : n ≤ 4096) : Good n (newM n) := by
 refine ⟨hn, by simp [newM], fun r hr => ?_⟩;have hp : 0 < n := by
  rcases Nat.eq_zero_or_pos n with rfl | hp
  ·simp [newM] at hr
  ·exact hp
 have he : r = List.replicate (wordsZ (n : Int)).toNat 0 := by unfold newM at hr; exact (List.mem_replicate.1 hr).2
 subst he;refine ⟨fun x hx => by rw [(List.mem_replicate.1 hx).2]; omega, by rw [List.length_replicate]; exact (words_pos hp).2, by rw [List.length_replicate], fun j _ => hasR_zeros _ _⟩
theorem newM_has (n i j : Nat) : hasM (newM n) (i : Int) (j : Int) = false := by
 by_cases hi : i < n
 ·rw [hasM_in (xs := List.replicate (wordsZ (n : Int)).toNat 0) (by unfold newM; rw [List.getElem?_replicate, if_pos hi])]; exact hasR_zeros _ _
 ·exact hasM_out (.inr (by simp [newM]; omega))
theorem okP_nat {n : Nat} {x : Int × Int} (h : okP (n : Int) x = true) : ∃ a b : Nat, x = ((a : Int), (b : Int)) ∧ a < n ∧ b < n := by
 obtain ⟨i, j⟩ := x;have h' : (((0 ≤ i) ∧ i < (n : Int)) ∧ 0 ≤ j) ∧ j < (n : Int) := by simpa [okP, inM] using h
 obtain ⟨⟨⟨i0, i1⟩, j0⟩, j1⟩ := h';obtain ⟨a, rfl⟩ := Int.eq_ofNat_of_zero_le i0;obtain ⟨b, rfl⟩ := Int.eq_ofNat_of_zero_le j0;exact ⟨a, b, rfl, by omega, by omega⟩
theorem fold_facts {n : Nat} : ∀ (ps : List (Int × Int)) (m : List (List Nat)), Good n m → (∀ x ∈ ps, okP (n : Int) x = true) →
  Good n (ps.foldl setP m) ∧ ∀ i j : Nat, hasM (ps.foldl setP m) (i : Int) (j : Int) = (hasM m (i : Int) (j : Int) || decide (((i : Int), (j : Int)) ∈ ps))
 | [], m, hG, _ => ⟨hG, fun i j => by simp⟩
 | p :: ps, m, hG, hok => by
  obtain ⟨a, b, rfl, ha, hb⟩ := okP_nat (hok p (List.mem_cons_self ..));have h := fold_facts ps (setP m ((a : Int), (b : Int))) (hG.set ha hb) (fun x hx => hok x (List.mem_cons_of_mem _ hx));refine ⟨h.1, fun i j => ?_⟩;rw [List.foldl_cons, h.2 i j];unfold setP;rw [hasM_setM hG ha hb, Bool.or_assoc]
  congr 1
  simp only [List.mem_cons, Prod.mk.injEq, Int.natCast_inj, Bool.decide_or]
theorem foldP_facts {n : Nat} (hn : n ≤ 4096) (ps : List (Int × Int)) (hok : ∀ x ∈ ps, okP (n : Int) x = true) :
  Good n (foldP n ps) ∧ ∀ i j : Nat, hasM (foldP n ps) (i : Int) (j : Int) = decide (((i : Int), (j : Int)) ∈ ps) := by
 have h := fold_facts ps (newM n) (Good.new hn) hok;refine ⟨h.1, fun i j => ?_⟩;have := h.2 i j;rw [newM_has, Bool.false_or] at this;exact this
theorem good_ext {n : Nat} {a b : List (List Nat)} (ha : Good n a) (hb : Good n b) (h : ∀ i j : Nat, i < n → j < n → hasM a (i : Int) (j : Int) = hasM b (i : Int) (j : Int)) : a = b := by
 apply List.ext_getElem?
 intro i;by_cases hi : i < n
 ·obtain ⟨r, hr, hw, hl⟩ := ha.at_ hi
  obtain ⟨s, hs, hw2, hl2⟩ := hb.at_ hi;rw [hr, hs];have h1 := ha.row r (List.mem_of_getElem? hr);have h2 := hb.row s (List.mem_of_getElem? hs)
  congr 1
  refine row_ext hw hw2 (by rw [h1.2.2.1, h2.2.2.1]) (fun j _ => ?_);by_cases hj : j < n
  ·have := h i j hi hj
   rw [hasM_in hr, hasM_in hs] at this; exact this
  ·rw [h1.2.2.2 j (by omega), h2.2.2.2 j (by omega)]
 ·rw [List.getElem?_eq_none (by rw [ha.len]; omega), List.getElem?_eq_none (by rw [hb.len]; omega)]
theorem mem_pairsM (xss : List (List Nat)) (i j : Nat) : ((i : Int), (j : Int)) ∈ pairsM xss ↔ hasM xss (i : Int) (j : Int) = true := by
 unfold pairsM pairsK;rw [List.mem_flatMap]
 constructor
 ·rintro ⟨k, hk, hm⟩
  obtain ⟨z, hz, he⟩ := List.mem_map.1 hm;simp only [Prod.mk.injEq, Int.natCast_inj] at he;obtain ⟨rfl, rfl⟩ := he;have hk' : k < xss.length := List.mem_range.1 hk;have hx : xss[k]? = some xss[k] := List.getElem?_eq_getElem hk';rw [getD_at hx] at hz;obtain ⟨u, hu, he⟩ := List.mem_map.1 hz;rw [hasM_in hx];have hju : u = j := Int.ofNat.inj he;subst hju;exact ((listN_mem _ _).1 hu).2
 ·intro h
  by_cases hi : i < xss.length
  ·have hx : xss[i]? = some xss[i] := List.getElem?_eq_getElem hi
   rw [hasM_in hx] at h;refine ⟨i, List.mem_range.2 hi, List.mem_map.2 ⟨(j : Int), ?_, rfl⟩⟩;rw [getD_at hx];refine List.mem_map.2 ⟨j, (listN_mem _ _).2 ⟨?_, h⟩, rfl⟩;by_cases hj : j < 64 * (xss[i]).length
   ·exact hj
   ·rw [hasR_out _ _ (.inr (by omega))] at h; cases h
  ·rw [hasM_out (.inr (by omega))] at h; cases h
theorem pairsM_nat {xss : List (List Nat)} {x : Int × Int} (h : x ∈ pairsM xss) : ∃ i j : Nat, x = ((i : Int), (j : Int)) ∧ hasM xss (i : Int) (j : Int) = true := by
 have h0 := h;unfold pairsM pairsK at h;rw [List.mem_flatMap] at h;obtain ⟨k, hk, hm⟩ := h;obtain ⟨z, hz, he⟩ := List.mem_map.1 hm;obtain ⟨u, hu, he2⟩ := List.mem_map.1 hz;subst he he2;exact ⟨k, u, rfl, (mem_pairsM _ _ _).1 h0⟩
theorem Good.has_lt {n : Nat} {xss : List (List Nat)} (h : Good n xss) {i j : Nat} (hh : hasM xss (i : Int) (j : Int) = true) : i < n ∧ j < n := by
 by_cases hi : i < n
 ·obtain ⟨r, hr, hw, hl⟩ := h.at_ hi
  refine ⟨hi, ?_⟩;by_cases hj : j < n
  ·exact hj
  ·rw [hasM_in hr, (h.row r (List.mem_of_getElem? hr)).2.2.2 j (by omega)] at hh; cases hh
 ·rw [hasM_out (.inr (by rw [h.len]; omega))] at hh; cases hh
theorem Good.ok {n : Nat} {xss : List (List Nat)} (h : Good n xss) : ∀ x ∈ pairsM xss, okP (n : Int) x = true := fun x hx => by
 obtain ⟨i, j, rfl, hh⟩ := pairsM_nat hx;obtain ⟨h1, h2⟩ := h.has_lt hh;unfold okP inM; simp; omega

theorem words_one {n : Nat} (h0 : 0 < n) (h : n < 64) : (wordsZ (n : Int)).toNat = 1 := by
 unfold wordsZ; rw [if_neg (by omega)]; omega
theorem Good.one {n : Nat} {xss : List (List Nat)} (h : Good n xss) (hn : n < 64) : ∀ r ∈ xss, r.length = 1 := fun r hr => by
 have hp : 0 < n := by
  rcases Nat.eq_zero_or_pos n with rfl | hp
  ·have : xss = [] := List.eq_nil_of_length_eq_zero h.len
   rw [this] at hr; cases hr
  ·exact hp
 rw [(h.row r hr).2.2.1, words_one hp hn]
def sumF (n : Nat) (f : Nat → Nat) : Nat := ((List.range n).map f).sum
theorem sumF_succ (n : Nat) (f : Nat → Nat) : sumF (n + 1) f = sumF n f + f n := by
 unfold sumF; rw [List.range_succ, List.map_append, List.sum_append]; simp
theorem sumF_congr {n : Nat} {f g : Nat → Nat} (h : ∀ i, i < n → f i = g i) : sumF n f = sumF n g := by
 unfold sumF; congr 1; exact List.map_congr_left fun i hi => h i (List.mem_range.1 hi)
theorem count_sum (n : Nat) (p : Nat → Bool) : ∀ N, n ≤ N → (∀ j, n ≤ j → p j = false) → ((List.range N).filter p).length = sumF n fun j => (p j).toNat := by
 have h0 : ∀ k, ((List.range k).filter p).length = sumF k fun j => (p j).toNat := by
  intro k
  induction k with
  | zero => rfl
  | succ k ih =>
   rw [List.range_succ, List.filter_append, List.length_append, ih, sumF_succ]
   cases h : p k <;> simp [h]
 intro N hN hz;rw [h0 N];obtain ⟨d, rfl⟩ := Nat.exists_eq_add_of_le hN;clear hN h0
 induction d with
 | zero => rfl
 | succ d ih => rw [← Nat.add_assoc, sumF_succ, ih, hz (n + d) (by omega)]; rfl
theorem pairs_sum {n : Nat} {xss : List (List Nat)} (h : Good n xss) : (pairsM xss).length = sumF n fun i => sumF n fun j => (hasM xss (i : Int) (j : Int)).toNat := by
 rw [pairsM_len, ← map_range_getD xss [] countR, h.len];refine sumF_congr fun i hi => ?_;obtain ⟨r, hr, hw, hl⟩ := h.at_ hi
 show countR (xss.getD i []) = _
 rw [getD_at hr, ← count_far r (64 * r.length) (Nat.le_refl _), count_sum n _ _ hl (fun j hj => (h.row r (List.mem_of_getElem? hr)).2.2.2 j hj)];exact sumF_congr fun j _ => by rw [hasM_in hr]


theorem ref3_in (N : Int) (A : Option Addr) (n c : Nat) (i j : Int) (w : World) :
  Calls Tryz.prog 71 #[.agg #[.int .i64 N, .slice A n c], .int .i64 i, .int .i64 j] w (RetB (inM N i j) w) := by
 have ha : Below w.heap.size w (w.alloc (.cells #[.int .i64 N, .slice A n c] 57)) := (Below.refl _ _).alloc (Nat.le_refl _) _;replace ha := Hd ha;by_cases h1 : 0 ≤ i
 ·by_cases h2 : i < N
  ·by_cases h3 : 0 ≤ j
   ·by_cases h4 : j < N
    ·have H := Hd (show inM N i j = true by unfold inM; simp [h1, h2, h3, h4])
     go_enter Tryz.func71, Tryz.ntmps71
     go_wp2
     go_ret;rw [H.out]; exact ⟨rfl, ha.out⟩
    ·have H := Hd (show inM N i j = false by unfold inM; simp [h4])
     go_enter Tryz.func71, Tryz.ntmps71
     go_wp2
     go_ret;rw [H.out]; exact ⟨rfl, ha.out⟩
   ·have H := Hd (show inM N i j = false by unfold inM; simp [h3])
    go_enter Tryz.func71, Tryz.ntmps71
    go_wp2
    go_ret;rw [H.out]; exact ⟨rfl, ha.out⟩
  ·have H := Hd (show inM N i j = false by unfold inM; simp [h2])
   go_enter Tryz.func71, Tryz.ntmps71
   go_wp2
   go_ret;rw [H.out]; exact ⟨rfl, ha.out⟩
 ·have H := Hd (show inM N i j = false by unfold inM; simp [h1])
  go_enter Tryz.func71, Tryz.ntmps71
  go_wp2
  go_ret;rw [H.out]; exact ⟨rfl, ha.out⟩

theorem inM_yes {N i j : Int} (h : inM N i j = true) : 0 ≤ i ∧ i < N ∧ 0 ≤ j ∧ j < N := by
 unfold inM at h;simp only [Bool.and_eq_true, decide_eq_true_eq] at h;obtain ⟨⟨⟨a, b⟩, c⟩, d⟩ := h;exact ⟨a, b, c, d⟩
theorem ref3_Has (A : Option Addr) (n c : Nat) (xss : List (List Nat)) (i j : Int) (w : World) (hr : RowsAt w A n xss) (hn : n ≤ 4096) (hl : ∀ (k : Nat) (xs : List Nat), xss[k]? = some xs → xs.length ≤ 1024) :
  Calls Tryz.prog 70 #[.agg #[.int .i64 (n : Int), .slice A n c], .int .i64 i, .int .i64 j] w (RetB (inM (n : Int) i j && hasM xss i j) w) := by
 obtain ⟨W0, hW0⟩ : ∃ W0, W0 = w.alloc (.cells #[.int .i64 n, .slice A n c] 57) := ⟨_, rfl⟩;have ha : Below w.heap.size w W0 := by rw [hW0]; exact (Below.refl _ _).alloc (Nat.le_refl _) _
 have hB : MatB W0 w.heap.size 57 n A n c := by rw [hW0]; exact MatB.new w _
 have hin := Hd (ref3_in (n : Int) A n c i j W0);rcases Bool.eq_false_or_eq_true (inM (n : Int) i j) with h | h
 ·obtain ⟨i0, i1, j0, j1⟩ := inM_yes h
  obtain ⟨k, rfl⟩ := Int.eq_ofNat_of_zero_le i0;have hk : k < n := by omega
  obtain ⟨b, off, B, m, d, xs, rfl, hbl, hx, hc, hxr⟩ := hr.at_ hk;have hm : m ≤ 1024 := by have := hxr.len; have := hl k xs hx; omega
  have H := Hd (show (inM (n : Int) k j && hasM xss k j) = hasR xs j by rw [h, hasM_in hx, Bool.true_and]);have hk0 : (0 : Int) ≤ (k : Int) := by omega
  have hkn : (k : Int) < (n : Int) := by omega
  replace h := Hd h;replace hB := Hd hB;replace hxr := Hd hxr;replace ha := Hd ha;clear hx hr
  go_enter Tryz.func70, Tryz.ntmps70
  go_wp2_with fail;rw [← hW0];clear hW0;refine hin.out.mono ?_; rintro e w1 ⟨rfl, hb1⟩;rw [h.out];have l1 := (hB.out.below_ hb1).c1;have hbb := bT2 ha.out hb1;have hcr := (hbb.cell (p := ⟨b, off + k, none⟩) hbl).trans hc;have hC := Hd (ref2_Has B m d xs j w1 (hxr.out.below hbb) (by omega) (by omega) (by omega));replace hbb := Hd hbb;clear hb1 hc;go_wp2_with fail;refine hC.out.mono ?_; rintro e w' ⟨rfl, rfl⟩
  go_wp2
  go_ret;rw [H.out]; exact ⟨rfl, hbb.out⟩
 ·have H := Hd (show (inM (n : Int) i j && hasM xss i j) = false by rw [h]; rfl)
  replace h := Hd h;replace ha := Hd ha;clear hB hr
  go_enter Tryz.func70, Tryz.ntmps70
  go_wp2_with fail;rw [← hW0];clear hW0;refine hin.out.mono ?_; rintro e w1 ⟨rfl, hb1⟩;rw [h.out];have hbb := Hd (bT2 ha.out hb1);clear hb1
  go_wp2
  go_ret;rw [H.out]; exact ⟨rfl, hbb.out⟩





theorem own_ne_blk {w : World} {base s n g : Nat} {e t : TypeId} {v : Value} {xs cs : List Value} (h : w.ownsRow base e s v n xs) (hB : Blk w g t cs) (hne : e ≠ t) : v.ownBlock ≠ some g := by
 intro he;rcases h.2 with ⟨rfl, _⟩ | ⟨g', cap, cur, rfl, _, hh, _⟩
 ·simp [Value.ownBlock] at he
 ·have : g' = g := by simpa [Value.ownBlock] using he
  subst this;unfold Blk at hB;rw [hh] at hB;injection hB with hB;injection hB with _ ht;exact hne ht
theorem OwnRows.grown {t e : TypeId} {w w' : World} {base b2 s n : Nat} {v : Value} {vs us : List Value} {xss : List (List Nat)} (h : OwnRows t w base vs xss) (ho : w.ownsRow b2 e s v n us) (hne : t ≠ e) (hg : w.grownBy w' v.ownBlock) : OwnRows t w' base vs xss :=
 ⟨h.1, fun i u xs h1 h2 => by
  obtain ⟨A, m, c, e', hown, hx⟩ := h.2.1 i u xs h1 h2;exact ⟨A, m, c, e', own_grown hown ho hne hg, hx⟩, h.2.2⟩

def RowsG (B : Nat) (w : World) (A : Option Addr) (n : Nat) (xss : List (List Nat)) : Prop := ∃ vs, Rd w A n vs ∧ RowsC w vs xss ∧ (∀ ad, A = some ad → B ≤ ad.block) ∧ ∀ v ∈ vs, ∀ g, v.ownBlock = some g → B ≤ g
theorem RowsG.at {B : Nat} {w : World} {A : Option Addr} {n : Nat} {xss : List (List Nat)} (h : RowsG B w A n xss) : RowsAt w A n xss := by
 obtain ⟨vs, h1, h2, -, -⟩ := h; exact ⟨vs, h1, h2⟩
theorem RowsG.of {w : World} {A : Option Addr} {n : Nat} {xss : List (List Nat)} (h : RowsAt w A n xss) : RowsG 0 w A n xss := by
 obtain ⟨vs, h1, h2⟩ := h; exact ⟨vs, h1, h2, fun _ _ => Nat.zero_le _, fun _ _ _ _ => Nat.zero_le _⟩
theorem RowsG.below {B : Nat} {w w' : World} {A : Option Addr} {n : Nat} {xss : List (List Nat)} (h : RowsG B w A n xss) (hb : Below w.heap.size w w') : RowsG B w' A n xss := by
 obtain ⟨vs, h1, h2, h3, h4⟩ := h; exact ⟨vs, h1.below hb, h2.below hb, h3, h4⟩
theorem RowsG.mono {B B' : Nat} {w : World} {A : Option Addr} {n : Nat} {xss : List (List Nat)} (h : RowsG B w A n xss) (hb : B' ≤ B) : RowsG B' w A n xss := by
 obtain ⟨vs, h1, h2, h3, h4⟩ := h; exact ⟨vs, h1, h2, fun ad e => Nat.le_trans hb (h3 ad e), fun v hv g e => Nat.le_trans hb (h4 v hv g e)⟩
def RetMatG (B : Nat) (N : Int) (xss : List (List Nat)) (er : Int) (w : World) : Ending → World → Prop := fun e w' =>
 ∃ A n c, e = .returned (.tuple #[.agg #[.int .i64 N, .slice A n c], .int .i64 er]) ∧ RowsG B w' A n xss ∧ n ≤ c ∧ Below w.heap.size w w' ∧ ∀ ad, A = some ad → w.heap.size ≤ ad.block
def RetMatF (N : Int) (xss : List (List Nat)) (er : Int) (w : World) : Ending → World → Prop := fun e w' =>
 ∃ A n c, e = .returned (.tuple #[.agg #[.int .i64 N, .slice A n c], .int .i64 er]) ∧ RowsAt w' A n xss ∧ n ≤ c ∧ Below w.heap.size w w' ∧ ∀ ad, A = some ad → w.heap.size ≤ ad.block
theorem RetMatG.f {B : Nat} {N : Int} {xss : List (List Nat)} {er : Int} {w w' : World} {e : Ending} (h : RetMatG B N xss er w e w') : RetMatF N xss er w e w' := by
 obtain ⟨A, n, c, h1, h2, h3, h4, h5⟩ := h; exact ⟨A, n, c, h1, h2.at, h3, h4, h5⟩
structure GrowI (w : World) (hi n : Nat) (M R : Nat) (v : Value) (vs : List Value) (xss : List (List Nat)) (wr : World) : Prop where
 res : MatB wr R 57 0 none 0 0
 loc : Blk wr M 57 [.int .i64 n, v]
 out : wr.ownsRow hi 88 1 v vs.length vs
 rows : OwnRows 89 wr hi vs xss
 below : Below w.heap.size w wr
 high : hi ≤ wr.heap.size
theorem GrowI.keep {w : World} {hi n M R : Nat} {v : Value} {vs : List Value} {xss : List (List Nat)} {wr w' : World} (h : GrowI w hi n M R v vs xss wr) (hb : Below wr.heap.size wr w') : GrowI w hi n M R v vs xss w' :=
 ⟨h.res.below_ hb, Blk.below h.loc hb h.loc.lt, oBl h.out hb, h.rows.below hb, bT2 h.below hb, Nat.le_trans h.high hb.size⟩
theorem GrowI.more {w : World} {hi n M R : Nat} {v : Value} {vs : List Value} {xss : List (List Nat)} {wr w1 w2 : World} {A : Option Addr} {m c : Nat} {xs : List Nat} {u : Value} (h : GrowI w hi n M R v vs xss wr) (hb : Below wr.heap.size wr w1)
  (ho : w1.ownsRow wr.heap.size 89 1 (.slice A m c) m (xs.map u64v)) (hx : W64 xs) (hg : w1.grownBy w2 v.ownBlock) (h2 : w2.ownsRow hi 88 1 u (vs.length + 1) (vs ++ [.slice A m c])) (hM : M < hi) (hR : R < hi) (hRM : R ≠ M) (hw : w.heap.size ≤ M) (hw2 : w.heap.size ≤ hi) :
  GrowI w hi n M R u (vs ++ [.slice A m c]) (xss ++ [xs]) (w2.setCell ⟨M, 1, none⟩ u) := by
 have h1 := h.keep hb;have hsn := h.rows.snoc hb ho hx h.high;have hne1 := own_ne_blk h1.out h1.res (by decide);have hne2 := own_ne_blk h1.out h1.loc (by decide);have hu : u.ownBlock ≠ some M := fun e => by have := oLb h2 M e; omega
 have hsz : w1.heap.size ≤ w2.heap.size := hg.size;refine ⟨(Blk.grown h1.res hg (fun e => hne1 e.symm)).far hRM _, ?_, ?_, (hsn.grown h1.out (by decide) hg).far hM _, ?_, ?_⟩
 ·have := (Blk.grown h1.loc hg (fun e => hne2 e.symm)).set_ 1 u
  exact this
 ·rw [List.length_append, List.length_singleton]
  exact own_far h2 hu _
 ·refine Below.setCell ?_ hw _
  exact h1.below.grown hg (Nat.le_trans hw2 h1.high) (fun g e => Nat.le_trans hw2 (oLb h1.out g e))
 ·have := h1.high
  simp
  omega
theorem ref3_NewG (n : Nat) (hn : n ≤ 4096) (w : World) :
  Calls Tryz.prog 73 #[.int .i64 (n : Int)] w (RetMatG w.heap.size (n : Int) (newM n) 0 w) := by
 obtain ⟨i0, hi, hz0, hz1, hz2⟩ := info_parts info_row;replace hi := Hd hi;replace hz0 := Hd hz0;replace hz1 := Hd hz1;replace hz2 := Hd hz2;have hrow := Hd (fun W => ref2_NewO (n : Int) (by omega) (by omega) W);obtain ⟨W0, hW0⟩ : ∃ W0, W0 = (w.alloc (.cells #[.int .i64 0, .slice none 0 0] 57)).alloc (.cells #[.int .i64 n, .slice none 0 0] 57) := ⟨_, rfl⟩;have hI : GrowI w (w.heap.size + 2) n (w.heap.size + 1) w.heap.size (.slice none 0 0) [] (List.replicate 0 (List.replicate (wordsN (n : Int)) 0)) W0 := by
  refine ⟨by rw [hW0]; exact (MatB.new w _).below_ ((Below.refl _ _).alloc (Nat.le_refl _) _), by rw [hW0]; exact MatB.new1 w _ _, World.ownsRow_nil _ _ _ _, OwnRows.nil _ _ _, by rw [hW0]; exact ((Below.refl _ _).alloc (Nat.le_refl _) _).alloc (by simp) _, by rw [hW0]; simp⟩
 replace hI := Hd hI;have h1 : ¬ (n : Int) < 0 := by omega
 have h2 : ¬ 4096 < (n : Int) := by omega
 go_enter Tryz.func73, Tryz.ntmps73
 go_wp2_with fail;rw [← hW0];clear hW0
 go_loopw [5] (fun i wr => ∃ (v : Value) (vs : List Value), vs.length ≤ n ∧ i = .int .i64 vs.length ∧ Hid (GrowI w (w.heap.size + 2) n (w.heap.size + 1) w.heap.size v vs (List.replicate vs.length (List.replicate (wordsN (n : Int)) 0)) wr)) (fun i _ => n - (intOf i).toNat)
 case atStart => exact ⟨_, [], Nat.zero_le _, rfl, hI⟩
 case round =>
  obtain ⟨v, vs, hk, rfl, hI'⟩ := hrel;clear hI;obtain ⟨k, hke⟩ : ∃ k, k = vs.length := ⟨_, rfl⟩;rw [← hke] at hk;rw [← hke];by_cases hlt : k < n
  ·replace hke := Hd hke
   have l1 := Blk.cell hI'.out.loc 1;simp only [gZ, gS] at l1;go_wp2_with fail;refine wpRp 5 [(true, 0), (true, 1), (true, 2), (false, 3), (false, 4)] (by kernel_rfl) (by kernel_rfl) (fun W hW => ?_);have p1 : W.cell? ⟨w.heap.size + 1, 1, none⟩ = some v := by rw [hW.out]; exact l1
   have hIW := Hd (show GrowI w (w.heap.size + 2) n (w.heap.size + 1) w.heap.size v vs (List.replicate vs.length (List.replicate (wordsN (n : Int)) 0)) W by rw [hW.out]; exact hI'.out.keep (Below.refl _ _).drew);clear l1 hI';simp only [List.drop_succ_cons, List.drop_zero]
   iterate 3
    refine wpPf (v := ?_) rfl (by rfl) (fun w' hw' => ?_) (fun K hK => ?_);rotate_left
    ·(go_simp; try with_reducible rfl)
    go_simp;refine hK _ ?_;clear hK K
   refine wpPo rfl (by rfl) (fun K hK => ?_);go_simp;refine (hrow.out W).mono ?_;rintro e w1 ⟨C, p, q, rfl, ho, hx64, hb1⟩;refine hK _ _ hb1 ?_;clear hK K p1;refine wpPo rfl (by rfl) (fun K hK => ?_);go_simp;have hba : Below w1.heap.size w1 (w1.alloc (.cells #[.slice C p q] 88)) := (Below.refl _ _).alloc (Nat.le_refl _) _;refine hK _ _ hba (wpPn ?_);clear hK K;have hbb := bT2 hb1 hba;have hIa := Hd (hIW.out.keep hbb);have hoa := Hd (oBl ho hba);replace hbb := Hd hbb;have hown := hIa.out.out;rw [← hke.out] at hown;have hhi := hIa.out.high;replace hx64 := Hd hx64;clear hba hb1 ho;go_wp2_with (at_builtin; refine wpList_append_lies _ rfl (.tmp 21) (.tmp 24) _ rfl (w.heap.size + 2) 88 i0 _ 1 24 Tryz.underlying55 hi.out hz0.out hz1.out hz2.out rfl (by omega) _ _ _ (by rfl) hown ⟨w1.heap.size, 0, none⟩ 1 1 [.slice C p q] rfl rfl (cell_one_new _ _ _) (by simp [Value.oneCell']) (by omega) (by unfold maxLen; omega) (by omega) hhi _ rfl ?_; intro g cap w2 hown2 hgrow hat hlt1; have hB2 := Blk.grown hIa.out.loc hgrow (fun e => own_ne_blk hIa.out.out hIa.out.loc (by decide) e.symm); have q1 := hB2.cell 1; have q2 := hB2.frozen 1; simp only [gZ, gS] at q1; clear hB2 hat hlt1);refine NoPanic.normal ?_;have hmore := Hd (hIW.out.more hbb.out hoa.out hx64.out hgrow (by rw [← hke.out]; exact hown2) (by omega) (by omega) (by omega) (by omega) (by omega));clear q1 q2 hown2 hgrow hown;go_wp2_with fail
   go_roundw
   case rel =>
    refine ⟨.slice (some ⟨g, 0, none⟩) (k + 1) cap, vs ++ [.slice C p q], by have := hke.out; simp; omega, by rw [List.length_append, ← hke.out]; simp; try omega, ?_⟩
    have h := hmore.out;rw [← List.replicate_succ'] at h;rw [List.length_append, List.length_singleton];exact Hd h
   case measure => simp [intOf]; omega
  ·have hkn : k = n := by omega
   have hvn : vs.length = n := by rw [← hke, hkn]
   clear hlt;obtain rfl := hkn;have hout := hI'.out.out;obtain ⟨A', c', hv, hRd⟩ := Rd.of_own hout;subst hv;rw [hvn] at hout hRd;have f0 := hI'.out.res.c0;have f1 := hI'.out.res.c1;have g0 := hI'.out.res.frozen 0;have g1 := hI'.out.res.frozen 1;have k0 := hI'.out.loc.cell 0;have k1 := hI'.out.loc.cell 1;simp only [gZ, gS] at k0 k1;rw [hvn] at k1;have hcc := hI'.out.res.two (.int .i64 k) (.slice A' k c');have hc1 := Hd hcc.1;have hc2 := Hd hcc.2;replace hvn := Hd hvn;replace hke := Hd hke;clear hcc;go_wp2_with fail;refine bodyPost_ret (v := .tuple #[.agg #[.int .i64 k, .slice A' k c'], .int .i64 0]) (by simp [results, Tryz.results73, go_sem, hc1.out, hc2.out]) rfl ⟨_, _, _, rfl, ⟨vs, ?_, ?_, fun ad e => by subst e; have := oLb hout _ rfl; omega, fun v hv g e => by have := (hI'.out.rows.lt v hv g e).1; omega⟩, own_cap hout, (hI'.out.below.setCell (by simp) _).setCell (by simp) _, fun ad e => by subst e; have := oLb hout _ rfl; omega⟩
   ·have hne : (Value.slice A' k c').ownBlock ≠ some w.heap.size := fun e => by have := oLb hout _ e; omega
    exact Rd.of_own' (own_far (own_far hout (p := ⟨w.heap.size, 0, none⟩) hne _) (p := ⟨w.heap.size, 1, none⟩) hne _)
   ·have h := ((hI'.out.rows.far (p := ⟨w.heap.size, 0, none⟩) (by simp) (.int .i64 k)).far (p := ⟨w.heap.size, 1, none⟩) (by simp) (.slice A' k c')).rows
    rw [hvn.out] at h;exact h
theorem ref3_NewF (n : Nat) (hn : n ≤ 4096) (w : World) :
  Calls Tryz.prog 73 #[.int .i64 (n : Int)] w (RetMatF (n : Int) (newM n) 0 w) := (ref3_NewG n hn w).mono fun _ _ h => h.f
theorem ref3_New (n : Nat) (hn : n ≤ 4096) (w : World) :
  Calls Tryz.prog 73 #[.int .i64 (n : Int)] w (RetMat (n : Int) (newM n) 0 w) :=
 (ref3_NewF n hn w).mono fun _ _ ⟨A', n', c', h1, h2, h3, h4, _⟩ => ⟨A', n', c', h1, h2, h3, h4⟩


theorem ref3_OrF (A B : Option Addr) (n c d : Nat) (xss yss : List (List Nat)) (w : World) (hr : RowsAt w A n xss) (hs : RowsAt w B n yss) (hn : n ≤ 4096)
  (hl : ∀ (i : Nat) (xs : List Nat), xss[i]? = some xs → xs.length ≤ 1024) (hl2 : ∀ (i : Nat) (xs : List Nat), yss[i]? = some xs → xs.length ≤ 1024) :
  Calls Tryz.prog 95 #[.agg #[.int .i64 (n : Int), .slice A n c], .agg #[.int .i64 (n : Int), .slice B n d]] w (RetMatF (n : Int) (orM xss yss) 0 w) := by
 obtain ⟨i0, hi, hz0, hz1, hz2⟩ := info_parts info_row;replace hi := Hd hi;replace hz0 := Hd hz0;replace hz1 := Hd hz1;replace hz2 := Hd hz2;have hxl := hr.len;obtain ⟨W0, hW0⟩ : ∃ W0, W0 = (((w.alloc (.cells #[.int .i64 n, .slice A n c] 57)).alloc (.cells #[.int .i64 n, .slice B n d] 57)).alloc (.cells #[.int .i64 0, .slice none 0 0] 57)).alloc (.cells #[.int .i64 n, .slice none 0 0] 57) := ⟨_, rfl⟩;have hBa : MatB W0 w.heap.size 57 n A n c := by rw [hW0]; exact (((MatB.new w _).below_ ((Below.refl _ _).alloc (Nat.le_refl _) _)).below_ ((Below.refl _ _).alloc (Nat.le_refl _) _)).below_ ((Below.refl _ _).alloc (Nat.le_refl _) _)
 have hBb : MatB W0 (w.heap.size + 1) 57 n B n d := by rw [hW0]; exact ((MatB.new1 w _ _).below_ ((Below.refl _ _).alloc (Nat.le_refl _) _)).below_ ((Below.refl _ _).alloc (Nat.le_refl _) _)
 have hI : GrowI w (w.heap.size + 4) n (w.heap.size + 3) (w.heap.size + 2) (.slice none 0 0) [] (orPre xss yss 0) W0 := by
  refine ⟨?_, ?_, World.ownsRow_nil _ _ _ _, OwnRows.nil _ _ _, by rw [hW0]; exact (((((Below.refl _ _).alloc (Nat.le_refl _) _).alloc (by simp) _).alloc (by simp <;> omega) _).alloc (by simp <;> omega) _), by rw [hW0]; simp⟩
  ·rw [hW0]
   have h := MatB.new1 (N := 0) (A := none) (n := 0) (c := 0) (w.alloc (.cells #[.int .i64 n, .slice A n c] 57)) (.cells #[.int .i64 n, .slice B n d] 57) 57;rw [show (w.alloc (.cells #[.int .i64 n, .slice A n c] 57)).heap.size = w.heap.size + 1 from by simp] at h;exact h.below_ ((Below.refl _ _).alloc (Nat.le_refl _) _)
  ·rw [hW0]
   have h := MatB.new1 (N := n) (A := none) (n := 0) (c := 0) ((w.alloc (.cells #[.int .i64 n, .slice A n c] 57)).alloc (.cells #[.int .i64 n, .slice B n d] 57)) (.cells #[.int .i64 0, .slice none 0 0] 57) 57;rw [show ((w.alloc (.cells #[.int .i64 n, .slice A n c] 57)).alloc (.cells #[.int .i64 n, .slice B n d] 57)).heap.size + 1 = w.heap.size + 3 from by simp] at h;exact h
 replace hI := Hd hI;have hne : ((n : Int) != (n : Int)) = false := by simp
 replace hBa := Hd hBa;replace hBb := Hd hBb;replace hr := Hd hr;replace hs := Hd hs;replace hl := Hd hl;replace hl2 := Hd hl2;replace hxl := Hd hxl
 go_enter Tryz.func95, Tryz.ntmps95
 go_wp2_with fail;rw [← hW0];clear hW0
 go_loopw [7] (fun i wr => ∃ (v : Value) (vs : List Value), vs.length ≤ n ∧ i = .int .i64 vs.length ∧ Hid (GrowI w (w.heap.size + 4) n (w.heap.size + 3) (w.heap.size + 2) v vs (orPre xss yss vs.length) wr) ∧ Hid (MatB wr w.heap.size 57 n A n c) ∧ Hid (MatB wr (w.heap.size + 1) 57 n B n d)) (fun i _ => n - (intOf i).toNat)
 case atStart => exact ⟨_, [], Nat.zero_le _, rfl, hI, hBa, hBb⟩
 case round =>
  obtain ⟨v, vs, hk, rfl, hI', hA', hB'⟩ := hrel;clear hI hBa hBb;obtain ⟨k, hke⟩ : ∃ k, k = vs.length := ⟨_, rfl⟩;rw [← hke] at hk;rw [← hke];have la0 := hA'.out.c0;by_cases hlt : k < n
  ·replace hke := Hd hke
   obtain ⟨b1, o1, A1, n1, c1, xs, rfl, hbl1, hx, hc1, hrx⟩ := (hr.out.below hI'.out.below).at_ hlt;obtain ⟨b2, o2, B1, n2, c2, ys, rfl, hbl2, hy, hc2, hry⟩ := (hs.out.below hI'.out.below).at_ hlt;have hn1 : n1 ≤ 1024 := by have := hrx.len; have := hl.out k xs hx; omega
   have hn2 : n2 ≤ 1024 := by have := hry.len; have := hl2.out k ys hy; omega
   have hstep : Hid (orPre xss yss (k + 1) = orPre xss yss k ++ [orR xs ys]) := Hd (by rw [orPre_succ, getD_at hx, getD_at hy]);have l1 := Blk.cell hI'.out.loc 1;have la1 := hA'.out.c1;have lb1 := hB'.out.c1;have hk0 : (0 : Int) ≤ (k : Int) := by omega
   have hkn : (k : Int) < (n : Int) := by omega
   simp only [gZ, gS] at l1;clear hx hy;go_wp2_with fail;refine wpRp 14 [(true, 0), (true, 1), (true, 2), (true, 3), (true, 4), (true, 5), (true, 6), (true, 7), (true, 8), (true, 9), (true, 10), (true, 11), (false, 12), (false, 13)] (by kernel_rfl) (by kernel_rfl) (fun W hW => ?_);have p1 : W.cell? ⟨w.heap.size + 3, 1, none⟩ = some v := by rw [hW.out]; exact l1
   have p2 : W.cell? ⟨w.heap.size, 1, none⟩ = some (.slice (some ⟨b1, o1, none⟩) n c) := by rw [hW.out]; exact la1
   have p3 : W.cell? ⟨w.heap.size + 1, 1, none⟩ = some (.slice (some ⟨b2, o2, none⟩) n d) := by rw [hW.out]; exact lb1
   have p4 : W.cell? ⟨b1, o1 + k, none⟩ = some (.slice A1 n1 c1) := by rw [hW.out]; exact hc1
   have p5 : W.cell? ⟨b2, o2 + k, none⟩ = some (.slice B1 n2 c2) := by rw [hW.out]; exact hc2
   have hIW := Hd (show GrowI w (w.heap.size + 4) n (w.heap.size + 3) (w.heap.size + 2) v vs (orPre xss yss vs.length) W by rw [hW.out]; exact hI'.out.keep (Below.refl _ _).drew);have hAW := Hd (show MatB W w.heap.size 57 n (some ⟨b1, o1, none⟩) n c by rw [hW.out]; exact Blk.drew hA'.out);have hBW := Hd (show MatB W (w.heap.size + 1) 57 n (some ⟨b2, o2, none⟩) n d by rw [hW.out]; exact Blk.drew hB'.out);have hC := Hd (ref2_OrO A1 B1 n1 n2 c1 c2 xs ys W (by rw [hW.out]; exact hrx) (by rw [hW.out]; exact hry) (by omega) (by omega));clear l1 la1 lb1 la0 hc1 hc2 hI' hA' hB' hrx hry;simp only [List.drop_succ_cons, List.drop_zero]
   iterate 12
    refine wpPf (v := ?_) rfl (by rfl) (fun w' hw' => ?_) (fun K hK => ?_);rotate_left
    ·(go_simp; try with_reducible rfl)
    go_simp;refine hK _ ?_;clear hK K
   refine wpPo rfl (by rfl) (fun K hK => ?_);go_simp;refine hC.out.mono ?_;rintro e w1 ⟨C, p, q, rfl, ho, hx64, hb1⟩;refine hK _ _ hb1 ?_;clear hK K p1 p2 p3 p4 p5;refine wpPo rfl (by rfl) (fun K hK => ?_);go_simp;have hba : Below w1.heap.size w1 (w1.alloc (.cells #[.slice C p q] 88)) := (Below.refl _ _).alloc (Nat.le_refl _) _;refine hK _ _ hba (wpPn ?_);clear hK K;have hbb := bT2 hb1 hba;have hIa := Hd (hIW.out.keep hbb);have hAa := Hd (hAW.out.below_ hbb);have hBa := Hd (hBW.out.below_ hbb);have hoa := Hd (oBl ho hba);replace hbb := Hd hbb;have hown := hIa.out.out;rw [← hke.out] at hown;have hhi := hIa.out.high;replace hx64 := Hd hx64;clear hba hb1 ho;go_wp2_with (at_builtin; refine wpList_append_lies _ rfl (.tmp 24) (.tmp 36) _ rfl (w.heap.size + 4) 88 i0 _ 1 24 Tryz.underlying55 hi.out hz0.out hz1.out hz2.out rfl (by omega) _ _ _ (by rfl) hown ⟨w1.heap.size, 0, none⟩ 1 1 [.slice C p q] rfl rfl (cell_one_new _ _ _) (by simp [Value.oneCell']) (by omega) (by unfold maxLen; omega) (by omega) hhi _ rfl ?_; intro g cap w2 hown2 hgrow hat hlt1; have hB2 := Blk.grown hIa.out.loc hgrow (fun e => own_ne_blk hIa.out.out hIa.out.loc (by decide) e.symm); have q1 := hB2.cell 1; have q2 := hB2.frozen 1; simp only [gZ, gS] at q1; clear hB2 hat hlt1);refine NoPanic.normal ?_;have hmore := Hd (hIW.out.more hbb.out hoa.out hx64.out hgrow (by rw [← hke.out]; exact hown2) (by omega) (by omega) (by omega) (by omega) (by omega));have hA2 := Hd ((Blk.grown hAa.out hgrow (fun e => own_ne_blk hIa.out.out hAa.out (by decide) e.symm)).far (p := ⟨w.heap.size + 3, 1, none⟩) (by simp <;> omega) (.slice (some ⟨g, 0, none⟩) (k + 1) cap));have hB2 := Hd ((Blk.grown hBa.out hgrow (fun e => own_ne_blk hIa.out.out hBa.out (by decide) e.symm)).far (p := ⟨w.heap.size + 3, 1, none⟩) (by simp <;> omega) (.slice (some ⟨g, 0, none⟩) (k + 1) cap));clear q1 q2 hown2 hgrow hown;go_wp2_with fail
   go_roundw
   case rel =>
    refine ⟨.slice (some ⟨g, 0, none⟩) (k + 1) cap, vs ++ [.slice C p q], by have := hke.out; simp; omega, by rw [List.length_append, ← hke.out]; simp; try omega, ?_, hA2, hB2⟩
    have h := hmore.out;rw [← hke.out, ← hstep.out] at h;rw [List.length_append, List.length_singleton, ← hke.out];exact Hd h
   case measure => simp [intOf]; omega
  ·have hkn : k = n := by omega
   have hvn : vs.length = n := by rw [← hke, hkn]
   clear hlt;obtain rfl := hkn;have hout := hI'.out.out;obtain ⟨A', c', hv, hRd⟩ := Rd.of_own hout;subst hv;rw [hvn] at hout hRd;have f0 := hI'.out.res.c0;have f1 := hI'.out.res.c1;have g0 := hI'.out.res.frozen 0;have g1 := hI'.out.res.frozen 1;have k0 := hI'.out.loc.cell 0;have k1 := hI'.out.loc.cell 1;simp only [gZ, gS] at k0 k1;rw [hvn] at k1;have hcc := hI'.out.res.two (.int .i64 k) (.slice A' k c');have hc1 := Hd hcc.1;have hc2 := Hd hcc.2;replace hvn := Hd hvn;replace hke := Hd hke;clear hcc;go_wp2_with fail;refine bodyPost_ret (v := .tuple #[.agg #[.int .i64 k, .slice A' k c'], .int .i64 0]) (by simp [results, Tryz.results95, go_sem, hc1.out, hc2.out]) rfl ⟨_, _, _, rfl, ⟨vs, ?_, ?_⟩, own_cap hout, (hI'.out.below.setCell (by simp <;> omega) _).setCell (by simp <;> omega) _, fun ad e => by subst e; have := oLb hout _ rfl; omega⟩
   ·have hne : (Value.slice A' k c').ownBlock ≠ some (w.heap.size + 2) := fun e => by have := oLb hout _ e; omega
    exact Rd.of_own' (own_far (own_far hout (p := ⟨w.heap.size + 2, 0, none⟩) hne _) (p := ⟨w.heap.size + 2, 1, none⟩) hne _)
   ·have h := ((hI'.out.rows.far (p := ⟨w.heap.size + 2, 0, none⟩) (by simp <;> omega) (.int .i64 k)).far (p := ⟨w.heap.size + 2, 1, none⟩) (by simp <;> omega) (.slice A' k c')).rows
    have he : orPre xss yss vs.length = orM xss yss := by rw [hvn.out, ← orPre_all, hxl.out]
    rw [he] at h;exact h


theorem MatB.belowB {w w' : World} {g : Nat} {t : TypeId} {N : Int} {A : Option Addr} {n c B : Nat} (h : MatB w g t N A n c) (hb : Below B w w') (hg : g < B) : MatB w' g t N A n c := Blk.below h hb hg
theorem MatB.farB {w : World} {g : Nat} {t : TypeId} {N : Int} {A : Option Addr} {n c : Nat} (h : MatB w g t N A n c) {p : Addr} (hp : g ≠ p.block) (u : Value) : MatB (w.setCell p u) g t N A n c := Blk.far h hp u

theorem ref3_SetG (B0 : Nat) (N : Int) (A : Option Addr) (n c : Nat) (xss : List (List Nat)) (i j : Int) (w : World) (hr : RowsG B0 w A n xss) (hB0 : B0 ≤ w.heap.size) (hN : N = (n : Int)) (hn : n ≤ 4096) (hl : ∀ xs ∈ xss, xs.length ≤ 1024)
  (h3 : inM N i j = true) :
  Calls Tryz.prog 43 #[.agg #[.int .i64 N, .slice A n c], .int .i64 i, .int .i64 j] w (RetMatG B0 N (setM xss i j) 0 w) := by
 subst hN;obtain ⟨x0, hxi, hxz0, hxz1, hxz2⟩ := info_parts info_row;replace hxi := Hd hxi;replace hxz0 := Hd hxz0;replace hxz1 := Hd hxz1;replace hxz2 := Hd hxz2;obtain ⟨i0, i1, j0, j1⟩ := inM_yes h3;obtain ⟨k, rfl⟩ := Int.eq_ofNat_of_zero_le i0;have hk : k < n := by omega
 obtain ⟨W0, hW0⟩ : ∃ W0, W0 = (w.alloc (.cells #[.int .i64 n, .slice A n c] 57)).alloc (.cells #[.int .i64 0, .slice none 0 0] 57) := ⟨_, rfl⟩;have ha : Below w.heap.size w W0 := by rw [hW0]; exact ((Below.refl _ _).alloc (Nat.le_refl _) _).alloc (by simp) _
 have hB1 : MatB W0 w.heap.size 57 n A n c := by rw [hW0]; exact (MatB.new w _).below_ ((Below.refl _ _).alloc (Nat.le_refl _) _)
 have hB2 : MatB W0 (w.heap.size + 1) 57 0 none 0 0 := by rw [hW0]; exact MatB.new1 w _ _
 have hin := Hd (ref3_in (n : Int) A n c k j W0);have hsz : W0.heap.size = w.heap.size + 2 := by rw [hW0]; simp
 have hlen := hr.at.len;have hlt := Hd hr.at.w64;obtain ⟨vs, hrdw, hrcw, -, hvg⟩ := hr;replace hvg := Hd hvg;replace hB0 := Hd hB0;obtain ⟨b, off, u, rfl, hbl, hu, hc⟩ := hrdw.at_ hk;obtain ⟨xs, hx⟩ : ∃ xs, xss[k]? = some xs := ⟨_, List.getElem?_eq_getElem (by omega)⟩;obtain ⟨B, m, d, rfl, hxr⟩ := hrcw.2 k u xs hu hx;have hm : m ≤ 1024 := by have := hxr.len; have := hl xs (List.mem_of_getElem? hx); omega
 have hst := Hd (ref2_SetO B m d xs j);have hx2 := Hd hx;have hu2 := Hd hu;have hone := Hd (one_rows hrcw);replace hB1 := Hd hB1;replace hB2 := Hd hB2;replace hsz := Hd hsz;replace ha := Hd ha;replace h3 := Hd h3;replace hxr := Hd hxr;replace hrcw := Hd hrcw;replace hrdw := Hd hrdw;have hk0 : (0 : Int) ≤ (k : Int) := by omega
 have hkn : (k : Int) < (n : Int) := by omega
 clear hc hu hx hlen hl i0 i1
 go_enter Tryz.func43, Tryz.ntmps43
 go_wp2_with fail;rw [← hW0];clear hW0;refine hin.out.mono ?_; rintro e w1 ⟨rfl, hb1⟩;rw [h3.out];have hbb := Hd (bT2 ha.out hb1);have hs1 : w.heap.size + 2 ≤ w1.heap.size := by have := hb1.size; have := hsz.out; omega
 have hA1 := Hd (hB1.out.below_ hb1);have hR1 := Hd (hB2.out.below_ hb1);have hba : Below w1.heap.size w1 (w1.alloc (.cells #[] 88)) := (Below.refl _ _).alloc (Nat.le_refl _) _;have hlit : (w1.alloc (.cells #[] 88)).ownsRow w1.heap.size 88 1 (.slice (some ⟨w1.heap.size, 0, none⟩) 0 0) 0 [] := by
  have h := World.ownsRow_lit (size := 1) (base := w1.heap.size) (e := 88) w1 #[] 0 (Nat.le_refl _) (by omega) (by simp)
  simpa using h
 have l1 : (w1.alloc (.cells #[] 88)).cell? ⟨w.heap.size, 1, none⟩ = some (.slice (some ⟨b, off, none⟩) n c) := (hA1.out.below_ hba).c1;have hrd : Rd (w1.alloc (.cells #[] 88)) (some ⟨b, off, none⟩) n vs := (hrdw.out.below hbb.out).below hba;have hbba := Hd (bT2 hbb.out hba);have hRa := Hd (hR1.out.below_ hba);have hAa := Hd (hA1.out.below_ hba);clear hb1;go_wp2_with (at_builtin; refine wpList_append_rd rfl (.tmp 15) (.tmp 17) _ rfl w1.heap.size 88 x0 _ 24 Tryz.underlying55 hxi.out hxz0.out hxz1.out hxz2.out rfl _ 0 _ (by rfl) hlit _ n c _ rfl hrd hone.out (by unfold maxLen; omega) (by omega) hba.size ?_; intro v2 w2 hown2 hbc hform; simp only [Nat.zero_add, List.nil_append] at hown2 hform; obtain ⟨g, cap, rfl⟩ := hform (by omega); have hcg := hown2.cellAt k (by omega); rw [hu2.out] at hcg; have hfg := hown2.frozenAt k; clear hform l1);have hglt := (hown2.lt g rfl).1;have hb2 : Below w.heap.size w w2 := hbba.out.trans (hbc.mono (by omega));have hR2 := Hd (MatB.belowB hRa.out hbc (by omega));have hA2 := Hd (MatB.belowB hAa.out hbc (by omega));replace hb2 := Hd hb2;replace hown2 := Hd hown2;clear hba hlit hrd hbc hcg hfg;refine (hst.out w2 (hxr.out.below hb2.out) (by omega) (by omega) (by omega)).mono ?_; rintro e w3 ⟨C, p, q, rfl, hxr2, hx64, hb3⟩;have hown3 := Hd (oBl hown2.out hb3);have hcg := hown3.out.cellAt k (by omega);rw [hu2.out] at hcg;have hfg := hown3.out.frozenAt k;have hR3 := Hd (hR2.out.below_ hb3);have hA3 := Hd (hA2.out.below_ hb3);have hbb3 := Hd (bT2 hb2.out hb3);have hCb : Hid (∀ ad, C = some ad → w2.heap.size ≤ ad.block) := Hd (fun ad e => by subst e; exact oLb hxr2 _ rfl);have hgl2 : g < w2.heap.size := (hown2.out.lt g rfl).2;replace hxr2 := Hd (Row.of_own hxr2 hx64);have hA4 := MatB.farB (p := ⟨g, k, none⟩) hA3.out (by simp <;> omega) (.slice C p q);have hR4 := hR3.out.farB (p := ⟨g, k, none⟩) (by simp <;> omega) (.slice C p q);have f10 := hA4.c0;have f20 := hR4.c0;have f21 := hR4.c1;have g20 := hR4.frozen 0;have g21 := hR4.frozen 1;have hcc := MatB.two hR4 (.int .i64 n) (.slice (some ⟨g, 0, none⟩) n cap);have hc1 := Hd hcc.1;have hc2 := Hd hcc.2;clear hA4 hR4 hcc hb3 hx64;go_wp2_with fail;have hfin : Below w.heap.size w ((((w3.setCell ⟨g, k, none⟩ (.slice C p q)).setCell ⟨w.heap.size + 1, 0, none⟩ (.int .i64 n)).setCell ⟨w.heap.size + 1, 1, none⟩ (.slice (some ⟨g, 0, none⟩) n cap))) := ((hbb3.out.setCell (by simp <;> omega) _).setCell (by simp) _).setCell (by simp) _;refine bodyPost_ret (v := .tuple #[.agg #[.int .i64 n, .slice (some ⟨g, 0, none⟩) n cap], .int .i64 0]) (by simp [results, Tryz.results43, go_sem, hc1.out, hc2.out]) rfl ⟨_, _, _, rfl, ?_, own_cap hown3.out, hfin, fun ad e => by cases e; show w.heap.size ≤ g; omega⟩;refine ⟨_, Rd.of_own' (own_far (own_far (hown3.out.stored k (.slice C p q)).1 (p := ⟨w.heap.size + 1, 0, none⟩) (by simp [Value.ownBlock]; omega) _) (p := ⟨w.heap.size + 1, 1, none⟩) (by simp [Value.ownBlock]; omega) _), ?_, fun ad e => by cases e; have := hB0.out; show B0 ≤ g; omega, fun v hv g' e => by
  rcases List.mem_or_eq_of_mem_set hv with h | rfl
  ·exact hvg.out v h g' e
  ·cases C with
   | none => cases e
   | some ad =>
    injection e with e;have h1 := hCb.out ad rfl;have h2 := hB0.out;have h3 := hb2.out.size
    omega⟩
 have h1 := hrcw.out.below hfin;rw [setM_nat hx2.out];refine h1.set ⟨C, p, q, rfl, ?_⟩ k;exact ((hxr2.out.setCell (fun ad e => by have := hCb.out ad e; simp <;> omega) _).setCell (fun ad e => by have := hCb.out ad e; simp <;> omega) _).setCell (fun ad e => by have := hCb.out ad e; simp <;> omega) _
theorem ref3_SetF (N : Int) (A : Option Addr) (n c : Nat) (xss : List (List Nat)) (i j : Int) (w : World) (hr : RowsAt w A n xss) (hN : N = (n : Int)) (hn : n ≤ 4096) (hl : ∀ xs ∈ xss, xs.length ≤ 1024)
  (h3 : inM N i j = true) :
  Calls Tryz.prog 43 #[.agg #[.int .i64 N, .slice A n c], .int .i64 i, .int .i64 j] w (RetMatF N (setM xss i j) 0 w) :=
 (ref3_SetG 0 N A n c xss i j w (RowsG.of hr) (Nat.zero_le _) hN hn hl h3).mono fun _ _ h => h.f
theorem ref3_Set (N : Int) (A : Option Addr) (n c : Nat) (xss : List (List Nat)) (i j : Int) (w : World) (hr : RowsAt w A n xss) (hN : N = (n : Int)) (hn : n ≤ 4096) (hl : ∀ xs ∈ xss, xs.length ≤ 1024)
  (h3 : inM N i j = true) :
  Calls Tryz.prog 43 #[.agg #[.int .i64 N, .slice A n c], .int .i64 i, .int .i64 j] w (RetMat N (setM xss i j) 0 w) :=
 (ref3_SetF N A n c xss i j w hr hN hn hl h3).mono fun _ _ ⟨A', n', c', h1, h2, h3, h4, _⟩ => ⟨A', n', c', h1, h2, h3, h4⟩


section
variable {P : Program} {ops : Array Oper} {md : Region.Mode} {Q : Exit → Act → World → Prop}

def awaitsB (md : Region.Mode) (ops : Array Oper) : Nat → Nat → Nat → Bool
 | 0, _, _ => false
 | f + 1, t, i => match ops[t]? with
  | none => false
  | some o => o.after.any fun e => Region.binds md e && (e.on == i || awaitsB md ops f e.on i)
theorem awaits_listed {n : Nat} {listed : Array Bool} (inv : HeadInv md ops n listed) : ∀ (f t i : Nat) (o : Oper), ops[t]? = some o →
  (∀ e ∈ o.after, Region.binds md e = true → listed.getD e.on false = true) → awaitsB md ops f t i = true → listed.getD i false = true
 | 0, _, _, _, _, _, h => by simp [awaitsB] at h
 | f + 1, t, i, o, ho, hall, h => by
  simp only [awaitsB, ho] at h;obtain ⟨e, he, hb⟩ := Array.any_eq_true'.1 h;simp only [Bool.and_eq_true, Bool.or_eq_true, beq_iff_eq] at hb;have h1 := hall e he hb.1;rcases hb.2 with h2 | h2
  ·rw [← h2]; exact h1
  ·cases ho2 : ops[e.on]? with
   | none => cases f with
    | zero => simp [awaitsB] at h2
    | succ f => simp [awaitsB, ho2] at h2
   | some o2 => exact awaits_listed inv f e.on i o2 ho2 (fun e' he' hb' => inv.closed _ _ ho2 h1 e' he' hb') h2
def lateB (md : Region.Mode) (ops : Array Oper) (n : Nat) : Bool :=
 (List.range ops.size).all fun t => decide (t < n) || (List.range n).all fun i => awaitsB md ops ops.size t i
theorem late_waits {n : Nat} (h : lateB md ops n = true) (listed : Array Bool) (inv : HeadInv md ops n listed) (i : Nat) (hin : i < n) (hun : listed.getD i true = false) (t : Nat) (ht : n ≤ t) : t ∉ Region.ready md ops listed := by
 intro hr;obtain ⟨_, ot, hot, hall⟩ := mem_ready.1 hr;have htl := (Array.getElem?_eq_some_iff.1 hot).1;have h1 := List.all_eq_true.1 h t (List.mem_range.2 htl);simp only [Bool.or_eq_true, decide_eq_true_eq] at h1;rcases h1 with h1 | h1
 ·omega
 ·have h2 := List.all_eq_true.1 h1 i (List.mem_range.2 hin)
  have h3 := awaits_listed inv _ t i ot hot hall h2;rw [getD_both hun] at h3
  cases h3

def planT (md : Region.Mode) (ops : Array Oper) (m : Nat) : List Nat → Array Bool → Bool
 | [], listed => Region.seqB md ops (ops.size - m) m listed
 | i :: rest, listed => (Region.ready md ops listed).contains i && Region.free md ops listed i && planT md ops m rest (listed.setIfInBounds i true)
def planH (md : Region.Mode) (ops : Array Oper) (n m : Nat) (pl2 : List Nat) : List (Bool × Nat) → Array Bool → Bool
 | [], listed => (Region.ready md ops listed).all (fun j => decide (n ≤ j)) && planT md ops m pl2 listed
 | (b, i) :: rest, listed => decide (i < n) && (if b then (Region.ready md ops listed).contains i && Region.free md ops listed i else decide (Region.ready md ops listed = [i])) && planH md ops n m pl2 rest (listed.setIfInBounds i true)
def planAllT (md : Region.Mode) (ops : Array Oper) (n : Nat) (pl : List (Bool × Nat)) (m : Nat) (pl2 : List Nat) : Bool :=
 Region.noSelect ops && decide (pl.length = n) && decide (n + pl2.length = m) && decide (m ≤ ops.size) && lateB md ops n && planH md ops n m pl2 pl (Array.replicate ops.size false)

def wpPlanT (P : Program) (ops : Array Oper) (Q : Exit → Act → World → Prop) (tail : List Oper) : List Nat → Act → World → Prop
 | [], a, w => wpList P ops Q tail a w
 | i :: rest, a, w => ∃ o v, ops[i]? = some o ∧ Yields P ops o v a ∧ wpPlanT P ops Q tail rest (a.put o.dst v) w
def wpPlanE (P : Program) (ops : Array Oper) (Q : Exit → Act → World → Prop) (tail : List Oper) (pl2 : List Nat) : List (Bool × Nat) → Act → World → Prop
 | [], a, w => wpPlanT P ops Q tail pl2 a w
 | (true, i) :: rest, a, w => ∃ o v, ops[i]? = some o ∧ YieldsIf P ops (fun x => Below w.heap.size w x) o v a ∧ wpPlanE P ops Q tail pl2 rest (a.put o.dst v) w
 | (false, i) :: rest, a, w => wpOp P ops Q i (fun a' w' => Below w.heap.size w w' ∧ wpPlanE P ops Q tail pl2 rest a' w') a w

theorem wpAny_planT {m : Nat} {tail : List Oper} (htail : ∀ j, tail[j]? = ops[m + j]?) (hlen : tail.length = ops.size - m) (hsel : Region.noSelect ops = true) (hQ : ∀ c a d v w, Q (.panic c) (a.put d v) w → Q (.panic c) a w) :
  ∀ (pl2 : List Nat) (listed : Array Bool) (a : Act) (w : World), planT md ops m pl2 listed = true → wpPlanT P ops Q tail pl2 a w → wpAny P md ops Q (pl2.length + (ops.size - m)) listed a w
 | [], listed, a, w, hB, h => by
  rw [List.length_nil, Nat.zero_add, ← hlen];exact wpAny_of_seq tail m listed a w htail (by rw [hlen]; exact hB) h
 | i :: rest, listed, a, w, hB, h => by
  simp only [planT, Bool.and_eq_true] at hB;obtain ⟨⟨hr, hf⟩, hB'⟩ := hB;obtain ⟨o, v, ho, hy, h'⟩ := h;rw [List.length_cons, show rest.length + 1 + (ops.size - m) = (rest.length + (ops.size - m)) + 1 by omega];exact wpAny_take ho hsel hf hr (fun c a w => hQ c a o.dst v w) hy (wpAny_planT htail hlen hsel hQ rest _ _ _ hB' h')

theorem wpAnyR_planE {n m : Nat} {tail : List Oper} {pl2 : List Nat} (hsel : Region.noSelect ops = true) (hQ : ∀ c a d v w, Q (.panic c) (a.put d v) w → Q (.panic c) a w)
  (hlate : ∀ listed, HeadInv md ops n listed → ∀ i, i < n → listed.getD i true = false → ∀ t, n ≤ t → t ∉ Region.ready md ops listed) :
  ∀ (pl : List (Bool × Nat)) (listed : Array Bool) (a : Act) (w : World), HeadInv md ops n listed → planH md ops n m pl2 pl listed = true → wpPlanE P ops Q tail pl2 pl a w →
  wpAnyR P md ops Q n (fun listed' a' w' => ((Region.ready md ops listed').all (fun j => decide (n ≤ j)) = true ∧ planT md ops m pl2 listed' = true) ∧ wpPlanT P ops Q tail pl2 a' w') pl.length listed a w
 | [], listed, a, w, _, hB, h => ⟨by simpa [planH] using hB, h⟩
 | (true, i) :: rest, listed, a, w, inv, hB, h => by
  simp only [planH, if_true, Bool.and_eq_true, decide_eq_true_eq] at hB;obtain ⟨⟨hin, hr, hf⟩, hB'⟩ := hB;obtain ⟨o, v, ho, hy, h'⟩ := h;have hr' : i ∈ Region.ready md ops listed := by simpa using hr
  exact wpAnyR_first ho (Region.noSelect_spec hsel) (fun c a w => hQ c a o.dst v w) (fun l hl hu => hlate l hl i hin hu) hin (fun listed' a' w' hL j hj => by simpa using List.all_eq_true.1 hL.1.1 j hj) rest.length listed a w inv (Region.free_spec ho hf) hr' hy
   (wpAnyR_planE hsel hQ hlate rest _ _ _ (inv.set hr' hin) hB' h')
 | (false, i) :: rest, listed, a, w, inv, hB, h => by
  simp only [planH, Bool.false_eq_true, if_false, Bool.and_eq_true, decide_eq_true_eq] at hB;obtain ⟨⟨hin, hr⟩, hB'⟩ := hB;have hr' : i ∈ Region.ready md ops listed := by rw [hr]; simp
  refine ⟨by rw [hr]; simp, fun j hj => ?_⟩;rw [hr] at hj;have hji : j = i := by simpa using hj
  subst hji;exact ⟨hin, wpOp_mono (fun a' w' h3 => ⟨h3.1, wpAnyR_planE hsel hQ hlate rest _ a' w' (inv.set hr' hin) hB' h3.2⟩) h⟩

theorem wp_region_planT {id : Nat} {a : Act} {w : World} {l : List Oper} (n : Nat) (pl : List (Bool × Nat)) (m : Nat) (pl2 : List Nat) (hm : P.follows .mixedOrders = true) (hB : planAllT .any l.toArray n pl m pl2 = true)
  (h : ∀ W : World, Hid (W = w.drew) → wpPlanE P l.toArray (NoPanic Q) (l.drop m) pl2 pl a W) : (Code.region id l.toArray true).wp P Q a w := by
 refine wp_region_noPanic ?_;have hQ : ∀ c a d v w, NoPanic Q (.panic c) (a.put d v) w → NoPanic Q (.panic c) a w := fun _ _ _ _ _ h => h;simp only [planAllT, Bool.and_eq_true, decide_eq_true_eq] at hB;obtain ⟨⟨⟨⟨⟨hsel, hlen⟩, hnm⟩, hmz⟩, hlate⟩, hpl⟩ := hB;have hdl : (l.drop m).length = l.toArray.size - m := by simp
 have inv0 : HeadInv .any l.toArray n (Array.replicate l.toArray.size false) :=
  ⟨by simp, fun j oj _ hl => (by rw [getD_replicate_false] at hl; cases hl), fun t _ ht => getD_in (by simpa using ht) (getD_replicate_false _ _)⟩
 have H := wpAnyR_planE (md := .any) (m := m) hsel hQ (fun listed inv i hin hun t ht => late_waits hlate listed inv i hin hun t ht) pl _ a w.drew inv0 hpl (h w.drew (Hd rfl));refine wp_region_any hm ?_;have := wpAny_of_R (Q := NoPanic Q) (g := pl2.length + (l.toArray.size - m)) (fun listed a' w' hL =>
  wpAny_planT (md := .any) (fun j => by simp [List.getElem?_drop]) hdl hsel hQ pl2 listed a' w' hL.1.2 hL.2) _ _ _ _ H
 rw [hlen, show n + (pl2.length + (l.toArray.size - m)) = l.toArray.size by omega] at this;exact this

/-! ### the steps -/
section
variable {tail : List Oper} {pl2 : List Nat} {rest : List (Bool × Nat)} {a : Act} {w : World} {i : Nat} {o : Oper}
theorem wpEf {v : Value} (hi : ops[i]? = some o) (hw : Region.wanted o (yielded ops a.tmps) = true)
  (hy : ∀ w' : World, (∀ p, (w.cell? p).isSome = true → w'.cell? p = w.cell? p) → (execOp a.eval o).run P w' = .ok (.value v) w') (h : ∀ K : Act → Prop, (∀ a', wpPlanE P ops Q tail pl2 rest a' w → K a') → K (a.put o.dst v)) : wpPlanE P ops Q tail pl2 ((true, i) :: rest) a w :=
 ⟨o, v, hi, .inl ⟨hw, fun w' hb => hy w' (fun p hp => by
  have hlt : p.block < w.heap.size := by
   cases hc : w.cell? p with
   | none => rw [hc] at hp; cases hp
   | some u => exact block_lt_of_cell hc
  exact hb.cell hlt)⟩, h _ (fun _ h => h)⟩
theorem wpPlanE_only (hi : ops[i]? = some o) (hw : Region.wanted o (yielded ops a.tmps) = true)
  (h : ∀ K : Act → World → Prop, (∀ a' w', Below w.heap.size w w' → wpPlanE P ops Q tail pl2 rest a' w' → K a' w') → o.wp P a w K Q) : wpPlanE P ops Q tail pl2 ((false, i) :: rest) a w := by
 show wpOp P ops Q i _ a w
 unfold wpOp;simp only [hi, hw, if_true];exact .inl (h _ (fun a' w' hb hp => ⟨hb, hp⟩))
theorem wpPlanE_nil (h : wpPlanT P ops Q tail pl2 a w) : wpPlanE P ops Q tail pl2 [] a w := h
theorem wpPlanT_float {v : Value} {rest : List Nat} (hi : ops[i]? = some o) (hw : Region.wanted o (yielded ops a.tmps) = true)
  (hy : ∀ w' : World, (execOp a.eval o).run P w' = .ok (.value v) w') (h : ∀ K : Act → Prop, (∀ a', wpPlanT P ops Q tail rest a' w → K a') → K (a.put o.dst v)) : wpPlanT P ops Q tail (i :: rest) a w :=
 ⟨o, v, hi, .inl ⟨hw, hy⟩, h _ (fun _ h => h)⟩
theorem wpPlanT_nil (h : wpList P ops Q tail a w) : wpPlanT P ops Q tail [] a w := h
end
end

theorem Row.putB {w : World} {M : Nat} {t : TypeId} {N : Int} {A : Option Addr} {n c : Nat} (hM : MatB w M t N A n c) {B : Option Addr} {m : Nat} {xs : List Nat} (h : Row w B m xs) (x y : Value) :
  Row ((w.setCell ⟨M, 0, none⟩ x).setCell ⟨M, 1, none⟩ y) B m xs := by
 rcases Nat.eq_zero_or_pos m with rfl | hm
 ·rw [List.eq_nil_of_length_eq_zero h.len]; exact Row.nil _ _
 ·have hne : ∀ ad, B = some ad → ad.block ≠ M := by
   intro ad e hb;obtain ⟨b, off, x, e2, _, _, _, hc⟩ := h.at_ hm;rw [e] at e2
   cases e2
   have hb' : b = M := hb;subst hb';rw [Blk.cell hM] at hc
   match off + 0, hc with
   | 0, hc => simp at hc
   | 1, hc => simp at hc
   | k + 2, hc => simp at hc
  exact (h.setCell hne x).setCell hne y
theorem RowsAt.putB {w : World} {M : Nat} {t : TypeId} {N : Int} {A : Option Addr} {n c : Nat} (hM : MatB w M t N A n c) {B : Option Addr} {m : Nat} {xss : List (List Nat)} (h : RowsAt w B m xss) (hne : 0 < m → ∀ ad, B = some ad → ad.block ≠ M) (x y : Value) :
  RowsAt ((w.setCell ⟨M, 0, none⟩ x).setCell ⟨M, 1, none⟩ y) B m xss := by
 obtain ⟨vs, h1, h2⟩ := h;refine ⟨vs, ?_, h2.1, fun i v xs a b => ?_⟩
 ·rcases Nat.eq_zero_or_pos m with rfl | hm
  ·rw [h1.of_nil]; exact Rd.nil _ _
  ·exact (h1.setCell (hne hm) x).setCell (hne hm) y
 ·obtain ⟨B', m', c', e, hr⟩ := h2.2 i v xs a b
  exact ⟨B', m', c', e, hr.putB hM x y⟩
theorem RowsG.putB {w : World} {M : Nat} {t : TypeId} {N : Int} {A : Option Addr} {n c : Nat} (hM : MatB w M t N A n c) {B0 : Nat} {B : Option Addr} {m : Nat} {xss : List (List Nat)} (h : RowsG B0 w B m xss) (hne : 0 < m → ∀ ad, B = some ad → ad.block ≠ M) (x y : Value) :
  RowsG B0 ((w.setCell ⟨M, 0, none⟩ x).setCell ⟨M, 1, none⟩ y) B m xss := by
 obtain ⟨vs, h1, h2, h3, h4⟩ := h;refine ⟨vs, ?_, ⟨h2.1, fun i v xs a b => ?_⟩, h3, h4⟩
 ·rcases Nat.eq_zero_or_pos m with rfl | hm
  ·rw [h1.of_nil]; exact Rd.nil _ _
  ·exact (h1.setCell (hne hm) x).setCell (hne hm) y
 ·obtain ⟨B', m', c', e, hr⟩ := h2.2 i v xs a b
  exact ⟨B', m', c', e, hr.putB hM x y⟩
theorem RowsG.grown {B : Nat} {w w' : World} {A : Option Addr} {n : Nat} {xss : List (List Nat)} {row : Option Nat} (h : RowsG B w A n xss) (hg : w.grownBy w' row) (hrow : ∀ g, row = some g → g < B) : RowsG B w' A n xss := by
 obtain ⟨vs, h1, h2, h3, h4⟩ := h;refine ⟨vs, ⟨h1.1, fun h0 => ?_⟩, ⟨h2.1, fun i v xs a b => ?_⟩, h3, h4⟩
 ·obtain ⟨b, off, e, hb, hc⟩ := h1.2 h0
  refine ⟨b, off, e, Nat.lt_of_lt_of_le hb hg.size, fun j u hu => (World.cell?_of_block (hg.block b hb (fun e' => ?_))).trans (hc j u hu)⟩;have h5 := hrow b e'.symm;have h6 := h3 _ e
  simp only at h6
  omega
 ·obtain ⟨B', m', c', e, ⟨⟨hr1, hr2⟩, hr3⟩⟩ := h2.2 i v xs a b
  refine ⟨B', m', c', e, ⟨⟨hr1, fun h0 => ?_⟩, hr3⟩⟩;obtain ⟨b', off, e2, hb, hc⟩ := hr2 h0;refine ⟨b', off, e2, Nat.lt_of_lt_of_le hb hg.size, fun j u hu => (World.cell?_of_block (hg.block b' hb (fun e' => ?_))).trans (hc j u hu)⟩;have h5 := hrow b' e'.symm;have h6 := h4 v (List.mem_of_getElem? a) b' (by rw [e, e2]; rfl)
  omega
theorem RowsAt.block_lt {w : World} {A : Option Addr} {n : Nat} {xss : List (List Nat)} (h : RowsAt w A n xss) (hn : 0 < n) : ∀ ad, A = some ad → ad.block < w.heap.size := by
 intro ad e;obtain ⟨vs, h1, _⟩ := h;obtain ⟨b, off, e2, hb, _⟩ := h1.2 hn;rw [e] at e2; cases e2; exact hb


theorem Good.in_has {n : Nat} {a : List (List Nat)} (h : Good n a) (i j : Int) : (inM (n : Int) i j && hasM a i j) = hasM a i j := by
 cases hh : hasM a i j with
 | false => rw [Bool.and_false]
 | true =>
  have h0 : 0 ≤ i := by
   refine Decidable.byContradiction fun hc => ?_;rw [hasM_out (.inl (by omega))] at hh; cases hh
  obtain ⟨k, rfl⟩ := Int.eq_ofNat_of_zero_le h0;have h1 : 0 ≤ j := by
   refine Decidable.byContradiction fun hc => ?_;by_cases hk : k < a.length
   ·rw [hasM_in (List.getElem?_eq_getElem hk), hasR_out _ _ (.inl (by omega))] at hh; cases hh
   ·rw [hasM_out (.inr (by omega))] at hh; cases hh
  obtain ⟨q, rfl⟩ := Int.eq_ofNat_of_zero_le h1;obtain ⟨h2, h3⟩ := h.has_lt hh;rw [Bool.and_true];unfold inM; simp; omega
theorem orM_len (a b : List (List Nat)) : (orM a b).length = a.length := by simp [orM]
theorem Good.same_len {n : Nat} {a b : List (List Nat)} (ha : Good n a) (hb : Good n b) : ∀ (i : Nat) (xs ys : List Nat), a[i]? = some xs → b[i]? = some ys → xs.length = ys.length ∧ xs.length ≤ 1024 := fun i xs ys h1 h2 => by
 have k1 := ha.row xs (List.mem_of_getElem? h1);have k2 := hb.row ys (List.mem_of_getElem? h2);have k3 := ha.small xs (List.mem_of_getElem? h1);exact ⟨by rw [k1.2.2.1, k2.2.2.1], by omega⟩


def MatK (w : World) (g : Nat) (t : TypeId) (N : Int) (A : Option Addr) (n c : Nat) (xss : List (List Nat)) : Prop := MatB w g t N A n c ∧ RowsAt w A n xss
section
variable {w w' : World} {g : Nat} {t : TypeId} {N : Int} {A : Option Addr} {n c : Nat} {xss : List (List Nat)}
theorem MatB.below (h : MatB w g t N A n c) (hb : Below w.heap.size w w') : MatB w' g t N A n c := h.below_ hb
theorem MatK.below (h : MatK w g t N A n c xss) (hb : Below w.heap.size w w') : MatK w' g t N A n c xss := ⟨h.1.below_ hb, h.2.below hb⟩
theorem MatK.new (w : World) (t : TypeId) (hr : RowsAt w A n xss) : MatK (w.alloc (.cells #[.int .i64 N, .slice A n c] t)) w.heap.size t N A n c xss := ⟨MatB.new w t, hr.below ((Below.refl _ _).alloc (Nat.le_refl _) _)⟩
theorem MatK.drew (h : MatK w g t N A n c xss) : MatK w.drew g t N A n c xss := ⟨Blk.drew h.1, h.2⟩
theorem bAl (w : World) (o : Obj) : Below w.heap.size w (w.alloc o) := (Below.refl _ _).alloc (Nat.le_refl _) _
end

theorem cut_three {Goal F : Nat → Nat → World → Prop} {R : Prop} (h1 : (∀ a b c, F a b c → Goal a b c) → R) (h2 : ∀ a b c, F a b c → Goal a b c) : R := h1 h2
theorem cut_five {T1 T2 T3 T4 T5 : Type} {Goal F : T1 → T2 → T3 → T4 → T5 → Prop} {R : Prop} (h1 : (∀ a b c d e, F a b c d e → Goal a b c d e) → R) (h2 : ∀ a b c d e, F a b c d e → Goal a b c d e) : R := h1 h2
theorem cut_seven {T1 T2 T3 T4 T5 T6 T7 : Type} {Goal F : T1 → T2 → T3 → T4 → T5 → T6 → T7 → Prop} {R : Prop} (h1 : (∀ a b c d e f g, F a b c d e f g → Goal a b c d e f g) → R) (h2 : ∀ a b c d e f g, F a b c d e f g → Goal a b c d e f g) : R := h1 h2

theorem RowsAt.farM {w : World} {C : Option Addr} {n G : Nat} {t : TypeId} {xss : List (List Nat)} (h : RowsAt w C n xss) (hM : MatB w G t 0 none 0 0) (h1 : ∀ r ∈ xss, r.length = 1) : 0 < n → ∀ ad, C = some ad → ad.block ≠ G := by
 intro h0 ad e hb;obtain ⟨b, off, B, m, c, xs, e2, _, hx, hc, hr⟩ := h.at_ h0;rw [e] at e2
 cases e2
 have hb' : b = G := hb;subst hb';have hxl := h1 xs (List.mem_of_getElem? hx);have hrl := hr.len;rw [Blk.cell hM] at hc
 match off + 0, hc with
 | 0, hc => simp at hc
 | 1, hc =>
  simp at hc
  omega
 | k + 2, hc => simp at hc


inductive Conn (r : Nat → Nat → Prop) : Nat → Nat → Prop where
 | one {i j : Nat} (h : r i j) : Conn r i j
 | step {i j k : Nat} (h : Conn r i j) (h2 : r j k) : Conn r i k
def Trans2 (s : Nat → Nat → Prop) : Prop := ∀ i j k, s i j → s j k → s i k
theorem Conn.trans {r : Nat → Nat → Prop} {i j k : Nat} (h1 : Conn r i j) (h2 : Conn r j k) : Conn r i k := by
 induction h2 with
 | one h => exact .step h1 h
 | step _ h ih => exact .step ih h
theorem Conn.least {r s : Nat → Nat → Prop} (hs : Trans2 s) (h : ∀ i j, r i j → s i j) {i j : Nat} (hc : Conn r i j) : s i j := by
 induction hc with
 | one h1 => exact h _ _ h1
 | step _ h2 ih => exact hs _ _ _ ih (h _ _ h2)
theorem Conn.mono {r s : Nat → Nat → Prop} (h : ∀ i j, r i j → s i j) {i j : Nat} (hc : Conn r i j) : Conn s i j :=
 Conn.least (s := Conn s) (fun a b c h1 h2 => Conn.trans h1 h2) (fun a b h1 => .one (h a b h1)) hc
theorem Conn.same {r s : Nat → Nat → Prop} (h : ∀ i j, r i j ↔ s i j) (i j : Nat) : Conn r i j ↔ Conn s i j := ⟨Conn.mono fun _ _ h1 => (h _ _).1 h1, Conn.mono fun _ _ h1 => (h _ _).2 h1⟩
theorem Conn.of_trans {r : Nat → Nat → Prop} (hr : Trans2 r) {i j : Nat} : Conn r i j ↔ r i j := ⟨Conn.least hr fun _ _ h => h, .one⟩

def Wk (r : Nat → Nat → Prop) : Nat → Nat → Nat → Prop
 | 0, i, j => r i j
 | k + 1, i, j => Wk r k i j ∨ (Wk r k i k ∧ Wk r k k j)
theorem Wk.conn {r : Nat → Nat → Prop} : ∀ (k i j : Nat), Wk r k i j → Conn r i j
 | 0, _, _, h => .one h
 | k + 1, i, j, .inl h => Wk.conn k i j h
 | k + 1, i, j, .inr h => (Wk.conn k i k h.1).trans (Wk.conn k k j h.2)
theorem Wk.mono {r : Nat → Nat → Prop} {i j : Nat} (h : r i j) : ∀ k, Wk r k i j
 | 0 => h
 | k + 1 => .inl (Wk.mono h k)
theorem Wk.join {r : Nat → Nat → Prop} : ∀ (k m i j : Nat), m < k → Wk r k i m → Wk r k m j → Wk r k i j
 | 0, m, _, _, hm, _, _ => absurd hm (by omega)
 | k + 1, m, i, j, hm, h1, h2 => by
  have e1 : Wk r k i m ∨ (Wk r k i k ∧ Wk r k k m) := h1;have e2 : Wk r k m j ∨ (Wk r k m k ∧ Wk r k k j) := h2
  show Wk r k i j ∨ (Wk r k i k ∧ Wk r k k j)
  rcases Nat.lt_succ_iff_lt_or_eq.1 hm with hlt | rfl
  ·rcases e1 with a | ⟨a, b⟩ <;> rcases e2 with c | ⟨c, d⟩
   ·exact .inl (Wk.join k m i j hlt a c)
   ·exact .inr ⟨Wk.join k m i k hlt a c, d⟩
   ·exact .inr ⟨a, Wk.join k m k j hlt b c⟩
   ·exact .inr ⟨a, d⟩
  ·have a : Wk r m i m := e1.elim (fun h => h) (fun h => h.1)
   have b : Wk r m m j := e2.elim (fun h => h) (fun h => h.2);exact .inr ⟨a, b⟩
theorem Wk.all {r : Nat → Nat → Prop} {n : Nat} (hr : ∀ i j, r i j → i < n ∧ j < n) (i j : Nat) : Wk r n i j ↔ Conn r i j := by
 refine ⟨Wk.conn n i j, fun h => ?_⟩
 induction h with
 | one h => exact Wk.mono h n
 | step h1 h2 ih => exact Wk.join n _ _ _ (hr _ _ h2).1 ih (Wk.mono h2 n)

def Rel (a : List (List Nat)) (i j : Nat) : Prop := hasM a (i : Int) (j : Int) = true
theorem Good.rel_lt {n : Nat} {a : List (List Nat)} (h : Good n a) : ∀ i j, Rel a i j → i < n ∧ j < n := fun _ _ h1 => h.has_lt h1
def IsHull (n : Nat) (r : Nat → Nat → Prop) (h : List (List Nat)) : Prop := Good n h ∧ ∀ i j : Nat, Rel h i j ↔ Conn r i j
def ClosedM (a : List (List Nat)) : Prop := Trans2 (Rel a)
theorem rel_ext {n : Nat} {a b : List (List Nat)} (ha : Good n a) (hb : Good n b) (h : ∀ i j : Nat, Rel a i j ↔ Rel b i j) : a = b :=
 good_ext ha hb fun i j _ _ => by
  have := h i j;unfold Rel at this
  cases h1 : hasM a (i : Int) (j : Int) with
  | true => rw [this.1 h1]
  | false =>
   cases h2 : hasM b (i : Int) (j : Int) with
   | true => rw [this.2 h2] at h1; cases h1
   | false => rfl
theorem IsHull.unique {n : Nat} {r s : Nat → Nat → Prop} {h k : List (List Nat)} (h1 : IsHull n r h) (h2 : IsHull n s k) (he : ∀ i j, Conn r i j ↔ Conn s i j) : h = k :=
 rel_ext h1.1 h2.1 fun i j => by rw [h1.2, h2.2, he]
theorem IsHull.closed {n : Nat} {r : Nat → Nat → Prop} {h : List (List Nat)} (h1 : IsHull n r h) : ClosedM h := fun i j k a b => by
 rw [h1.2] at a b ⊢;exact a.trans b
theorem rel_set {n : Nat} {a : List (List Nat)} (ha : Good n a) {i j : Nat} (hi : i < n) (hj : j < n) (x y : Nat) : Rel (setM a (i : Int) (j : Int)) x y ↔ Rel a x y ∨ (x = i ∧ y = j) := by
 unfold Rel;rw [hasM_setM ha hi hj]
 simp

def stepR (a : List (List Nat)) (k : Nat) (r : List Nat) : List Nat := if hasR r (k : Int) = true then orR r (a.getD k []) else r
def stepM (a : List (List Nat)) (k q : Nat) : List (List Nat) := (List.range a.length).map fun i => if i < q then stepR a k (a.getD i []) else a.getD i []
theorem stepM_len (a : List (List Nat)) (k q : Nat) : (stepM a k q).length = a.length := by simp [stepM]
theorem stepM_get {a : List (List Nat)} {k q i : Nat} {r : List Nat} (h : a[i]? = some r) : (stepM a k q)[i]? = some (if i < q then stepR a k r else r) := by
 unfold stepM;have hi := (List.getElem?_eq_some_iff.1 h).1;rw [List.getElem?_map, List.getElem?_range hi, Option.map_some, getD_at h]
theorem stepM_zero (a : List (List Nat)) (k : Nat) : stepM a k 0 = a := by
 unfold stepM;simp only [Nat.not_lt_zero, if_false];rw [map_range_getD a [] (fun x => x)]; simp
theorem stepM_succ {a : List (List Nat)} {k q : Nat} {r : List Nat} (h : a[q]? = some r) : stepM a k (q + 1) = (stepM a k q).set q (stepR a k r) := by
 apply List.ext_getElem?
 intro i;rw [List.getElem?_set];by_cases hi : i < a.length
 ·have hx : a[i]? = some a[i] := List.getElem?_eq_getElem hi
  rw [stepM_get hx, stepM_len];by_cases hq : q = i
  ·subst hq
   rw [h] at hx;injection hx with hx;rw [if_pos (by omega), if_pos rfl, if_pos hi, hx]
  ·rw [if_neg hq, stepM_get hx]
   by_cases h1 : i < q
   ·rw [if_pos h1, if_pos (by omega)]
   ·rw [if_neg h1, if_neg (by omega)]
 ·rw [List.getElem?_eq_none (by rw [stepM_len]; omega)]
  split
  ·rename_i h1
   subst h1;exact absurd (List.getElem?_eq_some_iff.1 h).1 hi
  ·rw [List.getElem?_eq_none (by rw [stepM_len]; omega)]
theorem stepR_self {a : List (List Nat)} {k : Nat} {r : List Nat} (h : a[k]? = some r) : stepR a k r = r := by
 unfold stepR
 split
 ·rw [getD_at h]
  unfold orR
  apply List.ext_getElem?
  intro j;rw [Nat.max_self, List.getElem?_map];by_cases hj : j < r.length
  ·rw [List.getElem?_range hj, Option.map_some, Nat.or_self, List.getD_eq_getElem?_getD, List.getElem?_eq_getElem hj]; rfl
  ·rw [List.getElem?_eq_none (by simpa using hj), List.getElem?_eq_none (by omega)]; rfl
 ·rfl
theorem stepM_through {a : List (List Nat)} {k q : Nat} {r : List Nat} (h : a[k]? = some r) : (stepM a k q)[k]? = some r := by
 rw [stepM_get h, stepR_self h]; simp
theorem stepR_good {n : Nat} {a : List (List Nat)} (ha : Good n a) {k : Nat} (hk : k < n) {r : List Nat} (hr : r ∈ a) : W64 (stepR a k r) ∧ (stepR a k r).length = r.length ∧ ∀ j : Nat, hasR (stepR a k r) (j : Int) = (hasR r (j : Int) || (hasR r (k : Int) && hasM a (k : Int) (j : Int))) := by
 obtain ⟨s, hs, hws, _⟩ := ha.at_ hk;have h1 := ha.row r hr;have h2 := ha.row s (List.mem_of_getElem? hs);unfold stepR;rw [getD_at hs];by_cases h : hasR r (k : Int) = true
 ·rw [if_pos h]
  refine ⟨orR_w64 h1.1 hws, by rw [orR_len, h1.2.2.1, h2.2.2.1, Nat.max_self], fun j => ?_⟩;rw [hasR_orR, h, hasM_in hs, Bool.true_and]
 ·rw [if_neg h]
  refine ⟨h1.1, rfl, fun j => ?_⟩;rw [Bool.not_eq_true] at h;rw [h, Bool.false_and, Bool.or_false]
theorem stepM_good {n : Nat} {a : List (List Nat)} (ha : Good n a) {k : Nat} (hk : k < n) (q : Nat) : Good n (stepM a k q) := by
 refine ⟨ha.le, by rw [stepM_len, ha.len], fun r hr => ?_⟩;obtain ⟨i, hi⟩ := List.getElem?_of_mem hr;have hil : i < a.length := by
  have := (List.getElem?_eq_some_iff.1 hi).1
  rwa [stepM_len] at this
 have hx : a[i]? = some a[i] := List.getElem?_eq_getElem hil;rw [stepM_get hx] at hi;injection hi with hi;have h0 := ha.row _ (List.mem_of_getElem? hx);by_cases hq : i < q
 ·rw [if_pos hq] at hi
  obtain ⟨h1, h2, h3⟩ := stepR_good ha hk (List.mem_of_getElem? hx);subst hi;refine ⟨h1, by rw [h2]; exact h0.2.1, by rw [h2]; exact h0.2.2.1, fun j hj => ?_⟩;rw [h3 j, h0.2.2.2 j hj]
  cases hh : hasM a (k : Int) (j : Int) with
  | false => simp
  | true => exact absurd (ha.has_lt hh).2 (by omega)
 ·rw [if_neg hq] at hi
  subst hi;exact h0
theorem stepM_rel {n : Nat} {a : List (List Nat)} (ha : Good n a) {k : Nat} (hk : k < n) (i j : Nat) : Rel (stepM a k n) i j ↔ Rel a i j ∨ (Rel a i k ∧ Rel a k j) := by
 unfold Rel;by_cases hi : i < n
 ·obtain ⟨r, hr, _, _⟩ := ha.at_ hi
  have h1 := stepM_get (k := k) (q := n) hr;rw [if_pos hi] at h1;obtain ⟨_, _, h3⟩ := stepR_good ha hk (List.mem_of_getElem? hr);rw [hasM_in h1, h3 j, hasM_in hr, hasM_in hr, Bool.or_eq_true, Bool.and_eq_true]
 ·rw [hasM_out (xss := stepM a k n) (.inr (by rw [stepM_len, ha.len]; omega)), hasM_out (xss := a) (i := (i : Int)) (.inr (by rw [ha.len]; omega)), hasM_out (xss := a) (i := (i : Int)) (.inr (by rw [ha.len]; omega))]
  simp
def closeK (a : List (List Nat)) : Nat → List (List Nat)
 | 0 => a
 | k + 1 => stepM (closeK a k) k a.length
theorem closeK_facts {n : Nat} {a : List (List Nat)} (ha : Good n a) : ∀ k, k ≤ n → Good n (closeK a k) ∧ ∀ i j, Rel (closeK a k) i j ↔ Wk (Rel a) k i j
 | 0, _ => ⟨ha, fun i j => Iff.rfl⟩
 | k + 1, hk => by
  obtain ⟨h1, h2⟩ := closeK_facts ha k (by omega)
  show Good n (stepM (closeK a k) k a.length) ∧ ∀ i j, Rel (stepM (closeK a k) k a.length) i j ↔ _
  rw [ha.len];refine ⟨stepM_good h1 (by omega) n, fun i j => ?_⟩;rw [stepM_rel h1 (by omega)]
  show _ ↔ Wk (Rel a) k i j ∨ (Wk (Rel a) k i k ∧ Wk (Rel a) k k j)
  rw [h2, h2, h2]
theorem closeK_hull {n : Nat} {a : List (List Nat)} (ha : Good n a) : IsHull n (Rel a) (closeK a n) := by
 obtain ⟨h1, h2⟩ := closeK_facts ha n (Nat.le_refl _);exact ⟨h1, fun i j => by rw [h2, Wk.all ha.rel_lt]⟩

end Go.Proofs.YtjhjojklfdjmdaaGreat
