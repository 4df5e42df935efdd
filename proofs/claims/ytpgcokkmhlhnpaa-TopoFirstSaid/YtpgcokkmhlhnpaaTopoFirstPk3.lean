/- A region that draws its order, walked by a plan (XPlan), whose last head results stand beside one another: behind the plan's calls come values that hang on no memory ('extract': a call's second result), which may come up between the stores behind; then a tail. What lies ahead of the tail is found by what waits for what. No function of the program is named here. Contracts of the document's own answers for matrices: Of. Plain facts of matrices that may be: parts of one another, together, whether a pair is there. Words for memory: a variable that holds a matrix, with its rows. No function of the program is named here. Plain mathematics of what follows from pairs: hulls, as the least closed ones. Nothing of the program is named. Plain mathematics of layer 15: the first order of numbers. Nothing of the program is named. Plain mathematics of layer 15: first orders of all of a matrix's numbers. Nothing of the program is named. Plain mathematics of layer 14: ways, first paths, how far a number is. Nothing of the program is named. Words for memory: slices of anything that takes a fixed number of cells (an encoding 'Enc'). No function of the program is named here. Words for memory: slices of operations (three cells each), histories (slices of such slices). No function of the program is named here. Words for memory: operations appended to a call's own slice of them; mathematics of histories: numbers and spots. No function of the program is named here. Plain mathematics of layer 9: histories interned. Nothing of the program is named. Plain mathematics of layer 9: facts laid back into a history. Nothing of the program is named. Plain mathematics of layer 9: a history comes back of its facts, but for empty sessions at its end. Nothing of the program is named. Plain mathematics of layer 9: each item stands where its operation does, and says the same. Nothing of the program is named. Plain mathematics of layer 10: writes of values, differentiated facts. Nothing of the program is named. Plain mathematics of layer 11: what reads read from. Nothing of the program is named. Facts in a variable (FBox), as the document's answers of layers 10 and on box them. The contracts of the document's own answers of layer 10: Write, Check. The contracts of the document's own answers of layer 6: Name, Flat, Count, Right, Spot, Small. The contracts of the document's own answers of layer 6: Spot, Number, Same. The contracts of the document's own answers of layer 9, first half: find, texts, items, Ints, Same, Small. The contract of the document's own answer of layer 9: Of. The contracts of the document's own answers of layer 9: Same, Small. The contracts of the document's own answers of layer 11: From, Fill, Whole, Readers. Contracts of package hull: place, below, Closed, Loop. Contracts of the document's own answers of layer 4: Closed, Loop. The contracts of the document's own answers of layer 14: Is, far. A queue of numbers of a call's own: 'q = q[1:]', 'q = append(q, x)'. No function of the program is named here. And the search over a matrix's pairs, as plain mathematics. Contract of the document's own answer: Reach (a search with a queue). The contracts of the document's own answers of layer 15: fine, Respects, Perm. The contract of the document's own answer of layer 14: far. The contracts of the document's own answers of layer 14: Find, Round. A region that draws its order, by a plan (XPlan), in which some blocks of the caller's may change (those of a predicate): what reads must not read it. No function of the program is named here. The contract of the document's own answer of layer 15: Sort. Plain mathematics of layer 15's own code: counts laid by bits (the words k have the bits of 2^k), masks, and the order that they make. No function of the program is named. -/
import Derived.Test.YtpgcokkmhlhnpaaTopoFirstPk2
import Derived.Test.YtpgcokkmhlhnpaaTopoFirstPk1
import Derived.Test.YtpgcokkmhlhnpaaProg
import Derived.BigQuiet
import Derived.Laws.MakeOwn
import Derived.ArgAppend
namespace Go.Proofs.Ytpgcokkmhlhnpaa
open Go.RowKit

section
variable {P : Program} {ops : Array Oper} {md : Region.Mode} {Q : Exit → Act → World → Prop}

/-- does t wait for i, through others too? -/
def awaitsB (md : Region.Mode) (ops : Array Oper) : Nat → Nat → Nat → Bool
  | 0, _, _ => false
  | f + 1, t, i => match ops[t]? with
    | none => false
    | some o => o.after.any fun e => Region.binds md e && (e.on == i || awaitsB md ops f e.on i)
theorem awaits_listed {n : Nat} {listed : Array Bool} (inv : HeadInv md ops n listed) : ∀ (f t i : Nat) (o : Oper), ops[t]? = some o →
    (∀ e ∈ o.after, Region.binds md e = true → listed.getD e.on false = true) → awaitsB md ops f t i = true → listed.getD i false = true
  | 0, _, _, _, _, _, h => by simp [awaitsB] at h
  | f + 1, t, i, o, ho, hall, h => by
    simp only [awaitsB, ho] at h
    obtain ⟨e, he, hb⟩ := Array.any_eq_true'.1 h
    simp only [Bool.and_eq_true, Bool.or_eq_true, beq_iff_eq] at hb
    have h1 := hall e he hb.1
    rcases hb.2 with h2 | h2
    · rw [← h2]; exact h1
    · cases ho2 : ops[e.on]? with
      | none => cases f with
        | zero => simp [awaitsB] at h2
        | succ f => simp [awaitsB, ho2] at h2
      | some o2 => exact awaits_listed inv f e.on i o2 ho2 (fun e' he' hb' => inv.closed _ _ ho2 h1 e' he' hb') h2
/-- each operation behind the first n waits for each of them -/
def lateB (md : Region.Mode) (ops : Array Oper) (n : Nat) : Bool :=
  (List.range ops.size).all fun t => decide (t < n) || (List.range n).all fun i => awaitsB md ops ops.size t i
theorem late_waits {n : Nat} (h : lateB md ops n = true) (listed : Array Bool) (inv : HeadInv md ops n listed) (i : Nat) (hin : i < n) (hun : listed.getD i true = false) (t : Nat) (ht : n ≤ t) : t ∉ Region.ready md ops listed := by
  intro hr
  obtain ⟨_, ot, hot, hall⟩ := mem_ready.1 hr
  have htl := (Array.getElem?_eq_some_iff.1 hot).1
  have h1 := List.all_eq_true.1 h t (List.mem_range.2 htl)
  simp only [Bool.or_eq_true, decide_eq_true_eq] at h1
  rcases h1 with h1 | h1
  · omega
  · have h2 := List.all_eq_true.1 h1 i (List.mem_range.2 hin)
    have h3 := awaits_listed inv _ t i ot hot hall h2
    rw [getD_both hun] at h3
    cases h3

/-- the second half's check -/
def planT (md : Region.Mode) (ops : Array Oper) (m : Nat) : List Nat → Array Bool → Bool
  | [], listed => Region.seqB md ops (ops.size - m) m listed
  | i :: rest, listed => (Region.ready md ops listed).contains i && Region.free md ops listed i && planT md ops m rest (listed.setIfInBounds i true)
def planH (md : Region.Mode) (ops : Array Oper) (n m : Nat) (pl2 : List Nat) : List (Bool × Nat) → Array Bool → Bool
  | [], listed => (Region.ready md ops listed).all (fun j => decide (n ≤ j)) && planT md ops m pl2 listed
  | (b, i) :: rest, listed => decide (i < n) && (if b then (Region.ready md ops listed).contains i && Region.free md ops listed i else decide (Region.ready md ops listed = [i])) && planH md ops n m pl2 rest (listed.setIfInBounds i true)
def planAllT (md : Region.Mode) (ops : Array Oper) (n : Nat) (pl : List (Bool × Nat)) (m : Nat) (pl2 : List Nat) : Bool :=
  Region.noSelect ops && decide (pl.length = n) && decide (n + pl2.length = m) && decide (m ≤ ops.size) && lateB md ops n && planH md ops n m pl2 pl (Array.replicate ops.size false)

/-- the walk of the second half -/
def wpPlanT (P : Program) (ops : Array Oper) (Q : Exit → Act → World → Prop) (tail : List Oper) : List Nat → Act → World → Prop
  | [], a, w => wpList P ops Q tail a w
  | i :: rest, a, w => ∃ o v, ops[i]? = some o ∧ Yields P ops o v a ∧ wpPlanT P ops Q tail rest (a.put o.dst v) w
/-- the walk of the first half -/
def wpPlanE (P : Program) (ops : Array Oper) (Q : Exit → Act → World → Prop) (tail : List Oper) (pl2 : List Nat) : List (Bool × Nat) → Act → World → Prop
  | [], a, w => wpPlanT P ops Q tail pl2 a w
  | (true, i) :: rest, a, w => ∃ o v, ops[i]? = some o ∧ YieldsIf P ops (fun x => Below w.heap.size w x) o v a ∧ wpPlanE P ops Q tail pl2 rest (a.put o.dst v) w
  | (false, i) :: rest, a, w => wpOp P ops Q i (fun a' w' => Below w.heap.size w w' ∧ wpPlanE P ops Q tail pl2 rest a' w') a w

theorem wpAny_planT {m : Nat} {tail : List Oper} (htail : ∀ j, tail[j]? = ops[m + j]?) (hlen : tail.length = ops.size - m) (hsel : Region.noSelect ops = true) (hQ : ∀ c a d v w, Q (.panic c) (a.put d v) w → Q (.panic c) a w) :
    ∀ (pl2 : List Nat) (listed : Array Bool) (a : Act) (w : World), planT md ops m pl2 listed = true → wpPlanT P ops Q tail pl2 a w → wpAny P md ops Q (pl2.length + (ops.size - m)) listed a w
  | [], listed, a, w, hB, h => by
    rw [List.length_nil, Nat.zero_add, ← hlen]
    exact wpAny_of_seq tail m listed a w htail (by rw [hlen]; exact hB) h
  | i :: rest, listed, a, w, hB, h => by
    simp only [planT, Bool.and_eq_true] at hB
    obtain ⟨⟨hr, hf⟩, hB'⟩ := hB
    obtain ⟨o, v, ho, hy, h'⟩ := h
    rw [List.length_cons, show rest.length + 1 + (ops.size - m) = (rest.length + (ops.size - m)) + 1 by omega]
    exact wpAny_take ho hsel hf hr (fun c a w => hQ c a o.dst v w) hy (wpAny_planT htail hlen hsel hQ rest _ _ _ hB' h')

theorem wpAnyR_planE {n m : Nat} {tail : List Oper} {pl2 : List Nat} (hsel : Region.noSelect ops = true) (hQ : ∀ c a d v w, Q (.panic c) (a.put d v) w → Q (.panic c) a w)
    (hlate : ∀ listed, HeadInv md ops n listed → ∀ i, i < n → listed.getD i true = false → ∀ t, n ≤ t → t ∉ Region.ready md ops listed) :
    ∀ (pl : List (Bool × Nat)) (listed : Array Bool) (a : Act) (w : World), HeadInv md ops n listed → planH md ops n m pl2 pl listed = true → wpPlanE P ops Q tail pl2 pl a w →
    wpAnyR P md ops Q n (fun listed' a' w' => ((Region.ready md ops listed').all (fun j => decide (n ≤ j)) = true ∧ planT md ops m pl2 listed' = true) ∧ wpPlanT P ops Q tail pl2 a' w') pl.length listed a w
  | [], listed, a, w, _, hB, h => ⟨by simpa [planH] using hB, h⟩
  | (true, i) :: rest, listed, a, w, inv, hB, h => by
    simp only [planH, if_true, Bool.and_eq_true, decide_eq_true_eq] at hB
    obtain ⟨⟨hin, hr, hf⟩, hB'⟩ := hB
    obtain ⟨o, v, ho, hy, h'⟩ := h
    have hr' : i ∈ Region.ready md ops listed := by simpa using hr
    exact wpAnyR_first ho (Region.noSelect_spec hsel) (fun c a w => hQ c a o.dst v w) (fun l hl hu => hlate l hl i hin hu) hin (fun listed' a' w' hL j hj => by simpa using List.all_eq_true.1 hL.1.1 j hj) rest.length listed a w inv (Region.free_spec ho hf) hr' hy
      (wpAnyR_planE hsel hQ hlate rest _ _ _ (inv.set hr' hin) hB' h')
  | (false, i) :: rest, listed, a, w, inv, hB, h => by
    simp only [planH, Bool.false_eq_true, if_false, Bool.and_eq_true, decide_eq_true_eq] at hB
    obtain ⟨⟨hin, hr⟩, hB'⟩ := hB
    have hr' : i ∈ Region.ready md ops listed := by rw [hr]; simp
    refine ⟨by rw [hr]; simp, fun j hj => ?_⟩
    rw [hr] at hj
    have hji : j = i := by simpa using hj
    subst hji
    exact ⟨hin, wpOp_mono (fun a' w' h3 => ⟨h3.1, wpAnyR_planE hsel hQ hlate rest _ a' w' (inv.set hr' hin) hB' h3.2⟩) h⟩

theorem wp_region_planT {id : Nat} {a : Act} {w : World} {l : List Oper} (n : Nat) (pl : List (Bool × Nat)) (m : Nat) (pl2 : List Nat) (hm : P.follows .mixedOrders = true) (hB : planAllT .any l.toArray n pl m pl2 = true)
    (h : ∀ W : World, Hid (W = w.drew) → wpPlanE P l.toArray (NoPanic Q) (l.drop m) pl2 pl a W) : (Code.region id l.toArray true).wp P Q a w := by
  refine wp_region_noPanic ?_
  have hQ : ∀ c a d v w, NoPanic Q (.panic c) (a.put d v) w → NoPanic Q (.panic c) a w := fun _ _ _ _ _ h => h
  simp only [planAllT, Bool.and_eq_true, decide_eq_true_eq] at hB
  obtain ⟨⟨⟨⟨⟨hsel, hlen⟩, hnm⟩, hmz⟩, hlate⟩, hpl⟩ := hB
  have hdl : (l.drop m).length = l.toArray.size - m := by simp
  have inv0 : HeadInv .any l.toArray n (Array.replicate l.toArray.size false) :=
    ⟨by simp, fun j oj _ hl => (by rw [getD_replicate_false] at hl; cases hl), fun t _ ht => getD_in (by simpa using ht) (getD_replicate_false _ _)⟩
  have H := wpAnyR_planE (md := .any) (m := m) hsel hQ (fun listed inv i hin hun t ht => late_waits hlate listed inv i hin hun t ht) pl _ a w.drew inv0 hpl (h w.drew (Lib.hid rfl))
  refine wp_region_any hm ?_
  have := wpAny_of_R (Q := NoPanic Q) (g := pl2.length + (l.toArray.size - m)) (fun listed a' w' hL =>
    wpAny_planT (md := .any) (fun j => by simp [List.getElem?_drop]) hdl hsel hQ pl2 listed a' w' hL.1.2 hL.2) _ _ _ _ H
  rw [hlen, show n + (pl2.length + (l.toArray.size - m)) = l.toArray.size by omega] at this
  exact this

/-! ### the steps -/
section
variable {tail : List Oper} {pl2 : List Nat} {rest : List (Bool × Nat)} {a : Act} {w : World} {i : Nat} {o : Oper}
theorem wpPlanE_float {v : Value} (hi : ops[i]? = some o) (hw : Region.wanted o (yielded ops a.tmps) = true)
    (hy : ∀ w' : World, (∀ p, (w.cell? p).isSome = true → w'.cell? p = w.cell? p) → (execOp a.eval o).run P w' = .ok (.value v) w') (h : ∀ K : Act → Prop, (∀ a', wpPlanE P ops Q tail pl2 rest a' w → K a') → K (a.put o.dst v)) : wpPlanE P ops Q tail pl2 ((true, i) :: rest) a w :=
  ⟨o, v, hi, .inl ⟨hw, fun w' hb => hy w' (fun p hp => by
    have hlt : p.block < w.heap.size := by
      cases hc : w.cell? p with
      | none => rw [hc] at hp; cases hp
      | some u => exact block_lt_of_cell hc
    exact hb.cell hlt)⟩, h _ (fun _ h => h)⟩
theorem wpPlanE_only (hi : ops[i]? = some o) (hw : Region.wanted o (yielded ops a.tmps) = true)
    (h : ∀ K : Act → World → Prop, (∀ a' w', Below w.heap.size w w' → wpPlanE P ops Q tail pl2 rest a' w' → K a' w') → o.wp P a w K Q) : wpPlanE P ops Q tail pl2 ((false, i) :: rest) a w := by
  show wpOp P ops Q i _ a w
  unfold wpOp
  simp only [hi, hw, if_true]
  exact .inl (h _ (fun a' w' hb hp => ⟨hb, hp⟩))
theorem wpPlanE_nil (h : wpPlanT P ops Q tail pl2 a w) : wpPlanE P ops Q tail pl2 [] a w := h
theorem wpPlanT_float {v : Value} {rest : List Nat} (hi : ops[i]? = some o) (hw : Region.wanted o (yielded ops a.tmps) = true)
    (hy : ∀ w' : World, (execOp a.eval o).run P w' = .ok (.value v) w') (h : ∀ K : Act → Prop, (∀ a', wpPlanT P ops Q tail rest a' w → K a') → K (a.put o.dst v)) : wpPlanT P ops Q tail (i :: rest) a w :=
  ⟨o, v, hi, .inl ⟨hw, hy⟩, h _ (fun _ h => h)⟩
theorem wpPlanT_nil (h : wpList P ops Q tail a w) : wpPlanT P ops Q tail [] a w := h
end
end
end Go.Proofs.Ytpgcokkmhlhnpaa

namespace Go.Proofs.Ytpgcokkmhlhnpaa
open Go.RowKit
set_option linter.unusedVariables false

theorem Row.putB {w : World} {M : Nat} {t : TypeId} {N : Int} {A : Option Addr} {n c : Nat} (hM : MatB w M t N A n c) {B : Option Addr} {m : Nat} {xs : List Nat} (h : Row w B m xs) (x y : Value) :
    Row ((w.setCell ⟨M, 0, none⟩ x).setCell ⟨M, 1, none⟩ y) B m xs := by
  rcases Nat.eq_zero_or_pos m with rfl | hm
  · rw [List.eq_nil_of_length_eq_zero h.len]; exact Row.nil _ _
  · have hne : ∀ ad, B = some ad → ad.block ≠ M := by
      intro ad e hb
      obtain ⟨b, off, x, e2, _, _, _, hc⟩ := h.at_ hm
      rw [e] at e2
      cases e2
      have hb' : b = M := hb
      subst hb'
      rw [Blk.cell hM] at hc
      match off + 0, hc with
      | 0, hc => simp at hc
      | 1, hc => simp at hc
      | k + 2, hc => simp at hc
    exact (h.setCell hne x).setCell hne y
theorem RowsAt.putB {w : World} {M : Nat} {t : TypeId} {N : Int} {A : Option Addr} {n c : Nat} (hM : MatB w M t N A n c) {B : Option Addr} {m : Nat} {xss : List (List Nat)} (h : RowsAt w B m xss) (hne : 0 < m → ∀ ad, B = some ad → ad.block ≠ M) (x y : Value) :
    RowsAt ((w.setCell ⟨M, 0, none⟩ x).setCell ⟨M, 1, none⟩ y) B m xss := by
  obtain ⟨vs, h1, h2⟩ := h
  refine ⟨vs, ?_, h2.1, fun i v xs a b => ?_⟩
  · rcases Nat.eq_zero_or_pos m with rfl | hm
    · rw [h1.of_nil]; exact Rd.nil _ _
    · exact (h1.setCell (hne hm) x).setCell (hne hm) y
  · obtain ⟨B', m', c', e, hr⟩ := h2.2 i v xs a b
    exact ⟨B', m', c', e, hr.putB hM x y⟩
theorem RowsAt.block_lt {w : World} {A : Option Addr} {n : Nat} {xss : List (List Nat)} (h : RowsAt w A n xss) (hn : 0 < n) : ∀ ad, A = some ad → ad.block < w.heap.size := by
  intro ad e
  obtain ⟨vs, h1, _⟩ := h
  obtain ⟨b, off, e2, hb, _⟩ := h1.2 hn
  rw [e] at e2; cases e2; exact hb
/-- what is known of m and the error at each round's head -/
def OfS (R M n : Nat) (ps : List (Int × Int)) (k : Nat) (wr : World) (er N' : Int) (A' : Option Addr) (n' c' : Nat) : Prop :=
  (er = 0 ∧ N' = n ∧ n' = n ∧ RowsAt wr A' n' (foldP n (ps.take k)) ∧ n' ≤ c' ∧ (∀ x ∈ ps.take k, okP n x = true) ∧ (0 < n' → ∀ ad, A' = some ad → R < ad.block ∧ ad.block ≠ M)) ∨ (er = 1 ∧ ∃ x ∈ ps, okP n x = false)
set_option maxHeartbeats 400000 in
theorem ref3_Of_big (n : Int) (h : n < 0 ∨ 4097 ≤ n) (A : Option Addr) (m c : Nat) (hm : m ≤ 1073741824) (w : World) :
    Calls Try.prog 38 #[.int .i64 n, .slice A m c] w (RetMat 0 [] 1 w) := by
  have hN := Lib.hid (ref3_New_no n h)
  obtain ⟨W0, hW0⟩ : ∃ W0, W0 = w.alloc (.cells #[.int .i64 0, .slice none 0 0] 39) := ⟨_, rfl⟩
  have ha : Below w.heap.size w W0 := by rw [hW0]; exact (Below.refl _ _).alloc (Nat.le_refl _) _
  have hB : MatB W0 w.heap.size 39 0 none 0 0 := by rw [hW0]; exact MatB.new w _
  replace ha := Lib.hid ha
  replace hB := Lib.hid hB
  clear h
  go_enter Try.func38, Try.ntmps38
  go_wp2_with fail
  rw [← hW0]
  clear hW0
  refine (hN.out _).mono ?_; rintro e w1 ⟨C, p, q, rfl, _, _, hb1⟩
  obtain ⟨W2, hW2⟩ : ∃ W2, W2 = w1.alloc (.cells #[.int .i64 0, .slice C p q] 39) := ⟨_, rfl⟩
  have hb2 : Below w1.heap.size w1 W2 := by rw [hW2]; exact (Below.refl _ _).alloc (Nat.le_refl _) _
  have hbb := Lib.hid (below_trans2 (below_trans2 ha.out hb1) hb2)
  have hB1 := (hB.out.below_ hb1).below_ hb2
  have f20 := hB1.c0
  have f21 := hB1.c1
  have g20 := hB1.frozen 0
  have g21 := hB1.frozen 1
  have hcc := hB1.two (.int .i64 0) (.slice none 0 0)
  have hc1 := Lib.hid hcc.1
  have hc2 := Lib.hid hcc.2
  clear hb1 hb2 hcc hB1
  go_wp2_with fail
  rw [← hW2]
  clear hW2
  by_cases hm0 : 0 < m
  · go_loop [7, 8] (fun e i => e = .int .i64 1 ∧ i = .int .i64 0) (fun _ _ => 0)
    case atStart => exact ⟨rfl, rfl⟩
    case round =>
      obtain ⟨rfl, rfl⟩ := hrel
      go_wp2_with fail
      exact bodyPost_ret (v := .tuple #[.agg #[.int .i64 0, .slice none 0 0], .int .i64 1]) (by simp [results, Try.results38, go_sem, hc1.out, hc2.out]) rfl ⟨none, 0, 0, rfl, RowsAt.nil _ _, Nat.le_refl _, (hbb.out.setCell (by simp) _).setCell (by simp) _⟩
  · obtain rfl : m = 0 := by omega
    go_loop [7, 8] (fun e i => e = .int .i64 1 ∧ i = .int .i64 0) (fun _ _ => 0)
    case atStart => exact ⟨rfl, rfl⟩
    case round =>
      obtain ⟨rfl, rfl⟩ := hrel
      go_wp2_with fail
      exact bodyPost_ret (v := .tuple #[.agg #[.int .i64 0, .slice none 0 0], .int .i64 1]) (by simp [results, Try.results38, go_sem, hc1.out, hc2.out]) rfl ⟨none, 0, 0, rfl, RowsAt.nil _ _, Nat.le_refl _, (hbb.out.setCell (by simp) _).setCell (by simp) _⟩

set_option maxRecDepth 100000 in
set_option maxHeartbeats 2000000 in
theorem ref3_Of_in (n : Nat) (hn : n ≤ 4096) (A : Option Addr) (m c : Nat) (ps : List (Int × Int)) (w : World) (hp : PairsAt w A m ps) (hm : m ≤ 1073741824) :
    Calls Try.prog 38 #[.int .i64 (n : Int), .slice A m c] w (RetMat (ofN n ps) (ofM n ps) (ofE n ps) w) := by
  have hN := Lib.hid (ref3_NewF n hn)
  have hin : belowZ (n : Int) 4097 = true := belowZ_yes (by omega) (by omega)
  obtain ⟨W0, hW0⟩ : ∃ W0, W0 = w.alloc (.cells #[.int .i64 0, .slice none 0 0] 39) := ⟨_, rfl⟩
  have ha : Below w.heap.size w W0 := by rw [hW0]; exact (Below.refl _ _).alloc (Nat.le_refl _) _
  have hB : MatB W0 w.heap.size 39 0 none 0 0 := by rw [hW0]; exact MatB.new w _
  have hyes : Hid (ps.all (okP n) = true → ofN n ps = n ∧ ofM n ps = foldP n ps ∧ ofE n ps = 0) := Lib.hid (fun h => by unfold ofN ofM ofE ofOk; rw [hin, h]; simp)
  have hno : Hid (∀ p ∈ ps, okP n p = false → ofN n ps = 0 ∧ ofM n ps = [] ∧ ofE n ps = 1) := Lib.hid (fun p hp h => by
    have : ps.all (okP n) = false := List.all_eq_false.2 ⟨p, hp, by rw [h]; simp⟩
    unfold ofN ofM ofE ofOk; rw [hin, this]; simp)
  replace ha := Lib.hid ha
  replace hB := Lib.hid hB
  replace hp := Lib.hid hp
  clear hin
  go_enter Try.func38, Try.ntmps38
  go_wp2_with fail
  rw [← hW0]
  clear hW0
  refine (hN.out _).mono ?_; rintro e w1 ⟨C, p, q, rfl, hrows, hcap, hb1, hfarC0⟩
  have hpn : p = n := by rw [← hrows.len]; exact (DimM.new n).1
  subst hpn
  have hsz0 := hB.out.lt
  have hfarC : Hid (∀ ad, C = some ad → w.heap.size < ad.block) := Lib.hid (fun ad e => by have := hfarC0 ad e; omega)
  clear hfarC0 hsz0
  obtain ⟨M, hM⟩ : ∃ M, M = w1.heap.size := ⟨_, rfl⟩
  obtain ⟨W2, hW2⟩ : ∃ W2, W2 = w1.alloc (.cells #[.int .i64 p, .slice C p q] 39) := ⟨_, rfl⟩
  have hb2 : Below w1.heap.size w1 W2 := by rw [hW2]; exact (Below.refl _ _).alloc (Nat.le_refl _) _
  have hbb : Below w.heap.size w W2 := below_trans2 (below_trans2 ha.out hb1) hb2
  have hS : OfS w.heap.size M p ps 0 W2 0 p C p q := .inl ⟨rfl, rfl, rfl, by rw [List.take_zero, foldP_nil]; exact hrows.below hb2, hcap, by simp, fun h0 ad e => by have := hrows.block_lt h0 ad e; have := hfarC.out ad e; omega⟩
  have hR : MatB W2 w.heap.size 39 0 none 0 0 := (hB.out.below_ hb1).below_ hb2
  have hL : MatB W2 M 39 p C p q := by rw [hW2, hM]; exact MatB.new w1 _
  have hMw : w.heap.size < M := by have h1 := (hB.out.below_ hb1).lt; omega
  replace hbb := Lib.hid hbb
  replace hS := Lib.hid hS
  replace hR := Lib.hid hR
  replace hL := Lib.hid hL
  clear hrows hb1 hb2 hN hcap hfarC
  go_wp2_with fail
  rw [← hW2, ← hM]
  clear hW2 hM
  go_loopw [7, 8] (fun e i wr => ∃ (k : Nat) (er N' : Int) (A' : Option Addr) (n' c' : Nat), k ≤ m ∧ e = .int .i64 er ∧ i = .int .i64 k ∧ Hid (OfS w.heap.size M p ps k wr er N' A' n' c') ∧ Hid (MatB wr w.heap.size 39 0 none 0 0) ∧ Hid (MatB wr M 39 N' A' n' c') ∧ Hid (Below w.heap.size w wr)) (fun _ i _ => m - (intOf i).toNat)
  case atStart => exact ⟨0, 0, _, _, _, _, Nat.zero_le _, rfl, rfl, hS, hR, hL, hbb⟩
  case round =>
    obtain ⟨k, er, N', A', n', c', hk, rfl, rfl, hSr, hRr, hLr, hbr⟩ := hrel
    clear hS hR hL hbb
    rcases hSr.out with ⟨e0, e1, e2, hrr, hcap, hall, hfar⟩ | ⟨e1, x, hx, hxf⟩
    · subst e0 e1
      obtain rfl : p = n' := e2.symm
      by_cases hlt : k < m
      · obtain ⟨b, off, ⟨x, y⟩, rfl, hbl, hx, ⟨⟨x1, x2⟩, ⟨y1, y2⟩⟩, hc1, hc2⟩ := (hp.out.below hbr.out).at_ hlt
        simp only at x1 x2 y1 y2 hc1 hc2
        have hok1 : okP p (x, y) = true → ∀ z ∈ ps.take (k + 1), okP p z = true := fun h z hz => by
          rw [List.take_succ_eq_append_getElem (List.getElem?_eq_some_iff.1 hx).1, (List.getElem?_eq_some_iff.1 hx).2] at hz
          rcases List.mem_append.1 hz with h5 | h5
          · exact hall z h5
          · rw [List.mem_singleton.1 h5]; exact h
        have hfold := foldP_snoc p ps k _ hx
        have hmem := List.mem_of_getElem? hx
        have hdim := DimM.fold p (ps.take k)
        have hlr : ∀ xs ∈ foldP p (ps.take k), xs.length ≤ 1024 := fun xs hxs => by
          obtain ⟨i, hi⟩ := List.getElem?_of_mem hxs
          have := hdim.2 i xs hi
          have := words_le hn
          omega
        have l0 := hLr.out.c0
        have l1 := hLr.out.c1
        have hk0 : (0 : Int) ≤ (k : Int) := by omega
        have hkm : (k : Int) < (m : Int) := by omega
        have hcall : Hid (∀ W, RowsAt W A' p (foldP p (ps.take k)) → ∃ (N2 : Int) (xss2 : List (List Nat)) (er2 : Int), Calls Try.prog 45 #[.agg #[.int .i64 (p : Int), .slice A' p c'], .int .i64 x, .int .i64 y] W (RetMatF N2 xss2 er2 W) ∧ ((er2 = 0 ∧ N2 = p ∧ xss2 = foldP p (ps.take (k + 1)) ∧ ∀ z ∈ ps.take (k + 1), okP p z = true) ∨ (er2 = 1 ∧ ∃ z ∈ ps, okP p z = false))) := Lib.hid (fun W hW => by
          rcases Bool.eq_false_or_eq_true (okP p (x, y)) with hok | hok
          · exact ⟨_, _, _, ref3_SetF (p : Int) A' p c' _ x y W hW rfl hn hlr hok, .inl ⟨rfl, rfl, hfold.symm, hok1 hok⟩⟩
          · exact ⟨_, _, _, ref3_Set_noF (p : Int) A' p c' x y W hok, .inr ⟨rfl, _, hmem, hok⟩⟩)
        replace hrr := Lib.hid hrr
        clear hx hok1 hfold hmem hdim hlr hall hSr
        go_wp2_with fail
        refine wp_region_planT 13 [(true, 0), (true, 1), (true, 2), (true, 3), (true, 4), (true, 5), (true, 6), (true, 7), (true, 8), (true, 9), (true, 10), (false, 11), (true, 12)] 15 [13, 14] (by kernel_rfl) (by kernel_rfl) (fun W hW => ?_)
        have p0 : W.cell? ⟨M, 0, none⟩ = some (.int .i64 p) := by rw [hW.out]; exact l0
        have p1 : W.cell? ⟨M, 1, none⟩ = some (.slice A' p c') := by rw [hW.out]; exact l1
        have p2 : W.cell? ⟨b, off + k * 2, none⟩ = some (.int .i64 x) := by rw [hW.out]; exact hc1
        have p3 : W.cell? ⟨b, off + k * 2 + 1, none⟩ = some (.int .i64 y) := by rw [hW.out]; exact hc2
        obtain ⟨N2, xss2, er2, hC, hdone⟩ := hcall.out W (by rw [hW.out]; exact hrr.out)
        have hRW := Lib.hid (show MatB W w.heap.size 39 0 none 0 0 by rw [hW.out]; exact Blk.drew hRr.out)
        have hLW := Lib.hid (show MatB W M 39 p A' p c' by rw [hW.out]; exact Blk.drew hLr.out)
        have hbW := Lib.hid (show Below w.heap.size w W by rw [hW.out]; exact hbr.out.drew)
        replace hC := Lib.hid hC
        replace hdone := Lib.hid hdone
        clear l0 l1 hc1 hc2 hRr hLr hbr hrr hcall
        simp only [List.drop_succ_cons, List.drop_zero]
        iterate 11
          refine wpPlanE_float (v := ?_) rfl (by rfl) (fun w' hw' => ?_) (fun K hK => ?_)
          rotate_left
          · (go_simp; try with_reducible rfl)
          go_simp
          refine hK _ ?_
          clear hK K
        refine wpPlanE_only rfl (by rfl) (fun K hK => ?_)
        go_simp
        refine hC.out.mono ?_
        rintro e w4 ⟨C2, n2, c2, rfl, hrows2, hcap2, hb4, hfar2⟩
        refine hK _ _ hb4 ?_
        clear hK K p0 p1 p2 p3
        have hR4 := Lib.hid (hRW.out.below_ hb4)
        have hL4 := hLW.out.below_ hb4
        have hbb4 := below_trans2 hbW.out hb4
        iterate 1
          refine wpPlanE_float (v := ?_) rfl (by rfl) (fun w' hw' => ?_) (fun K hK => ?_)
          rotate_left
          · (go_simp; try with_reducible rfl)
          go_simp
          refine hK _ ?_
          clear hK K
        refine wpPlanE_nil ?_
        iterate 2
          refine wpPlanT_float (v := ?_) rfl (by rfl) (fun w' => ?_) (fun K hK => ?_)
          rotate_left
          · (go_simp; try with_reducible rfl)
          go_simp
          refine hK _ ?_
          clear hK K
        refine wpPlanT_nil ?_
        have f0 := hL4.c0
        have f1 := hL4.c1
        have g0 := hL4.frozen 0
        have g1 := hL4.frozen 1
        have hLf := Lib.hid (hL4.put N2 C2 n2 c2)
        have hRf := Lib.hid ((hR4.out.farB (p := ⟨M, 0, none⟩) (by simp <;> omega) (.int .i64 N2)).farB (p := ⟨M, 1, none⟩) (by simp <;> omega) (.slice C2 n2 c2))
        have hbf := Lib.hid ((hbb4.setCell (p := ⟨M, 0, none⟩) (by simp <;> omega) (.int .i64 N2)).setCell (p := ⟨M, 1, none⟩) (by simp <;> omega) (.slice C2 n2 c2))
        have hMW : M < W.heap.size := hLW.out.lt
        have hrows5 := Lib.hid (hrows2.putB hL4 (fun _ ad e => by have := hfar2 ad e; omega) (.int .i64 N2) (.slice C2 n2 c2))
        have hS5 : Hid (OfS w.heap.size M p ps (k + 1) ((w4.setCell ⟨M, 0, none⟩ (.int .i64 N2)).setCell ⟨M, 1, none⟩ (.slice C2 n2 c2)) er2 N2 C2 n2 c2) := Lib.hid (by
          rcases hdone.out with ⟨d0, d1, d2, d3⟩ | ⟨d0, d1⟩
          · subst d0 d1 d2
            have hl := hrows5.out.len
            rw [(DimM.fold p (ps.take (k + 1))).1] at hl
            exact .inl ⟨rfl, rfl, hl.symm, hrows5.out, hcap2, d3, fun _ ad e => by have := hfar2 ad e; omega⟩
          · exact .inr ⟨d0, d1⟩)
        clear hrows2 hrows5 hdone hfar2
        replace hL4 := Lib.hid hL4
        clear hb4 hbb4
        go_wp2_with fail
        refine NoPanic.normal ?_
        go_wp2_with fail
        go_roundw
        case rel => exact ⟨k + 1, er2, N2, C2, n2, c2, by omega, rfl, rfl, hS5, hRf, hLf, hbf⟩
        case measure => simp [intOf]; omega
      · obtain rfl : k = m := by omega
        have hfull : ps.take k = ps := by rw [← hp.out.1]; exact List.take_length
        rw [hfull] at hrr hall
        obtain ⟨y1, y2, y3⟩ := hyes.out (List.all_eq_true.2 hall)
        have l0 := hLr.out.c0
        have l1 := hLr.out.c1
        have f0 := hRr.out.c0
        have f1 := hRr.out.c1
        have g0 := hRr.out.frozen 0
        have g1 := hRr.out.frozen 1
        have hcc := hRr.out.two (.int .i64 p) (.slice A' p c')
        have hc1 := Lib.hid hcc.1
        have hc2 := Lib.hid hcc.2
        have hfin : Below w.heap.size w ((wr.setCell ⟨w.heap.size, 0, none⟩ (.int .i64 p)).setCell ⟨w.heap.size, 1, none⟩ (.slice A' p c')) := (hbr.out.setCell (by simp) _).setCell (by simp) _
        have hrf := Lib.hid (hrr.putB hRr.out (fun h0 ad e => by have := (hfar h0 ad e).1; omega) (.int .i64 p) (.slice A' p c'))
        replace y1 := Lib.hid y1
        replace y2 := Lib.hid y2
        replace y3 := Lib.hid y3
        replace hfin := Lib.hid hfin
        clear hcc hall hSr hfull hfar hrr
        go_wp2_with fail
        exact bodyPost_ret (v := .tuple #[.agg #[.int .i64 p, .slice A' p c'], .int .i64 0]) (by simp [results, Try.results38, go_sem, hc1.out, hc2.out]) rfl ⟨A', p, c', by rw [y1.out, y3.out], by rw [y2.out]; exact hrf.out, hcap, hfin.out⟩
    · subst e1
      obtain ⟨y1, y2, y3⟩ := hno.out x hx hxf
      have f0 := hRr.out.c0
      have f1 := hRr.out.c1
      have g0 := hRr.out.frozen 0
      have g1 := hRr.out.frozen 1
      have hcc := hRr.out.two (.int .i64 0) (.slice none 0 0)
      have hc1 := Lib.hid hcc.1
      have hc2 := Lib.hid hcc.2
      replace y1 := Lib.hid y1
      replace y2 := Lib.hid y2
      replace y3 := Lib.hid y3
      have hfin : Below w.heap.size w ((wr.setCell ⟨w.heap.size, 0, none⟩ (.int .i64 0)).setCell ⟨w.heap.size, 1, none⟩ (.slice none 0 0)) := (hbr.out.setCell (by simp) _).setCell (by simp) _
      replace hfin := Lib.hid hfin
      clear hcc hSr hx hxf
      by_cases hlt : k < m
      · go_wp2_with fail
        exact bodyPost_ret (v := .tuple #[.agg #[.int .i64 0, .slice none 0 0], .int .i64 1]) (by simp [results, Try.results38, go_sem, hc1.out, hc2.out]) rfl ⟨none, 0, 0, by rw [y1.out, y3.out], by rw [y2.out]; exact RowsAt.nil _ _, Nat.le_refl _, hfin.out⟩
      · obtain rfl : k = m := by omega
        go_wp2_with fail
        exact bodyPost_ret (v := .tuple #[.agg #[.int .i64 0, .slice none 0 0], .int .i64 1]) (by simp [results, Try.results38, go_sem, hc1.out, hc2.out]) rfl ⟨none, 0, 0, by rw [y1.out, y3.out], by rw [y2.out]; exact RowsAt.nil _ _, Nat.le_refl _, hfin.out⟩
theorem ref3_Of (n : Int) (A : Option Addr) (m c : Nat) (ps : List (Int × Int)) (w : World) (hp : PairsAt w A m ps) (hm : m ≤ 1073741824) :
    Calls Try.prog 38 #[.int .i64 n, .slice A m c] w (RetMat (ofN n ps) (ofM n ps) (ofE n ps) w) := by
  by_cases h : 0 ≤ n ∧ n < 4097
  · obtain ⟨k, rfl⟩ := Int.eq_ofNat_of_zero_le h.1
    exact ref3_Of_in k (by omega) A m c ps w hp hm
  · have hb := belowZ_no (i := n) (n := 4097) (by omega)
    have h0 : ofOk n ps = false := by unfold ofOk; rw [hb]; rfl
    have h1 : ofN n ps = 0 ∧ ofM n ps = [] ∧ ofE n ps = 1 := by unfold ofN ofM ofE; rw [h0]; simp
    rw [h1.1, h1.2.1, h1.2.2]
    exact ref3_Of_big n (by omega) A m c hm w

end Go.Proofs.Ytpgcokkmhlhnpaa

namespace Go.Proofs.Ytpgcokkmhlhnpaa
open Go.RowKit
set_option linter.unusedVariables false

theorem Good.in_has {n : Nat} {a : List (List Nat)} (h : Good n a) (i j : Int) : (inM (n : Int) i j && hasM a i j) = hasM a i j := by
  cases hh : hasM a i j with
  | false => rw [Bool.and_false]
  | true =>
    have h0 : 0 ≤ i := by
      refine Decidable.byContradiction fun hc => ?_
      rw [hasM_out (.inl (by omega))] at hh; cases hh
    obtain ⟨k, rfl⟩ := Int.eq_ofNat_of_zero_le h0
    have h1 : 0 ≤ j := by
      refine Decidable.byContradiction fun hc => ?_
      by_cases hk : k < a.length
      · rw [hasM_in (List.getElem?_eq_getElem hk), hasR_out _ _ (.inl (by omega))] at hh; cases hh
      · rw [hasM_out (.inr (by omega))] at hh; cases hh
    obtain ⟨q, rfl⟩ := Int.eq_ofNat_of_zero_le h1
    obtain ⟨h2, h3⟩ := h.has_lt hh
    rw [Bool.and_true]
    unfold inM; simp; omega

end Go.Proofs.Ytpgcokkmhlhnpaa

namespace Go.Proofs.Ytpgcokkmhlhnpaa
open Go.RowKit
set_option linter.unusedVariables false

/-- block g is a variable that holds the matrix of N and xss -/
def MatK (w : World) (g : Nat) (t : TypeId) (N : Int) (A : Option Addr) (n c : Nat) (xss : List (List Nat)) : Prop := MatB w g t N A n c ∧ RowsAt w A n xss
section
variable {w w' : World} {g : Nat} {t : TypeId} {N : Int} {A : Option Addr} {n c : Nat} {xss : List (List Nat)}
theorem MatK.below (h : MatK w g t N A n c xss) (hb : Below w.heap.size w w') : MatK w' g t N A n c xss := ⟨h.1.below_ hb, h.2.below hb⟩
theorem MatK.new (w : World) (t : TypeId) (hr : RowsAt w A n xss) : MatK (w.alloc (.cells #[.int .i64 N, .slice A n c] t)) w.heap.size t N A n c xss := ⟨MatB.new w t, hr.below ((Below.refl _ _).alloc (Nat.le_refl _) _)⟩
theorem below_alloc (w : World) (o : Obj) : Below w.heap.size w (w.alloc o) := (Below.refl _ _).alloc (Nat.le_refl _) _
end

end Go.Proofs.Ytpgcokkmhlhnpaa

namespace Go.Proofs.Ytpgcokkmhlhnpaa
open Go.RowKit
set_option linter.unusedVariables false

/-- the relation of a matrix -/
def Rel (a : List (List Nat)) (i j : Nat) : Prop := hasM a (i : Int) (j : Int) = true

end Go.Proofs.Ytpgcokkmhlhnpaa

namespace Go.Proofs.Ytpgcokkmhlhnpaa
set_option linter.unusedVariables false

section
variable {r : Int → Int → Prop}
/-- each number is the least that may go, of those that are left -/
def FirstO (r : Int → Int → Prop) : List Int → Prop
  | [] => True
  | x :: l => (∀ y ∈ x :: l, ¬ r y x) ∧ (∀ y ∈ l, y < x → ∃ z ∈ x :: l, r z y) ∧ FirstO r l
/-- no number is ahead of one that must be ahead of it -/
def RespO (r : Int → Int → Prop) (l : List Int) : Prop := ∀ i k : Nat, i < l.length → k ≤ i → ¬ r (l.getD i 0) (l.getD k 0)
theorem FirstO.unique : ∀ {l l' : List Int}, FirstO r l → FirstO r l' → l.Perm l' → l = l'
  | [], l', _, _, hp => by rw [List.nil_perm.1 hp]
  | x :: l, [], _, _, hp => absurd hp.length_eq (by simp)
  | x :: l, y :: l', h, h', hp => by
    have hxy : x = y := by
      have h1 : y ∈ x :: l := hp.mem_iff.2 (by simp)
      have h2 : x ∈ y :: l' := hp.mem_iff.1 (by simp)
      rcases Int.lt_trichotomy x y with hlt | he | hlt
      · have h2' : x ∈ l' := (List.mem_cons.1 h2).resolve_left (by omega)
        obtain ⟨z, hz, hr⟩ := h'.2.1 x h2' hlt
        exact absurd hr (h.1 z (hp.mem_iff.2 hz))
      · exact he
      · have h1' : y ∈ l := (List.mem_cons.1 h1).resolve_left (by omega)
        obtain ⟨z, hz, hr⟩ := h.2.1 y h1' hlt
        exact absurd hr (h'.1 z (hp.mem_iff.1 hz))
    subst hxy
    rw [FirstO.unique h.2.2 h'.2.2 (List.Perm.cons_inv hp)]
/-- where there is an order nothing goes round -/
theorem FirstO.noRound : ∀ {l : List Int}, FirstO r l → ∀ C : Int → Prop, (∃ x ∈ l, C x) → (∀ x, C x → ∃ y ∈ l, C y ∧ r y x) → False
  | [], _, C, ⟨x, hx, _⟩, _ => by cases hx
  | x :: l, h, C, ⟨w, hw, hC⟩, hp => by
    by_cases hx : C x
    · obtain ⟨y, hy, _, hr⟩ := hp x hx
      exact h.1 y hy hr
    · refine FirstO.noRound h.2.2 C ⟨w, (List.mem_cons.1 hw).resolve_left (fun e => hx (e ▸ hC)), hC⟩ (fun z hz => ?_)
      obtain ⟨y, hy, hCy, hr⟩ := hp z hz
      exact ⟨y, (List.mem_cons.1 hy).resolve_left (fun e => hx (e ▸ hCy)), hCy, hr⟩
/-- a lesser one behind is held by one that is left -/
theorem FirstO.held : ∀ {l : List Int}, FirstO r l → ∀ i k : Nat, i < k → k < l.length → l.getD k 0 < l.getD i 0 → ∃ n : Nat, i ≤ n ∧ n < l.length ∧ r (l.getD n 0) (l.getD k 0)
  | [], _, i, k, _, hk, _ => by simp at hk
  | x :: l, h, 0, 0, hik, _, _ => by omega
  | x :: l, h, 0, k + 1, _, hk, hlt => by
    have hk' : k < l.length := by simpa using hk
    have e : (x :: l).getD (k + 1) 0 = l[k] := by
      rw [List.getD_eq_getElem?_getD, List.getElem?_cons_succ, List.getElem?_eq_getElem hk']; rfl
    rw [e] at hlt ⊢
    obtain ⟨z, hz, hr⟩ := h.2.1 l[k] (List.getElem_mem hk') hlt
    obtain ⟨n, hn, hz'⟩ := List.getElem_of_mem hz
    refine ⟨n, Nat.zero_le _, hn, ?_⟩
    rw [List.getD_eq_getElem?_getD, List.getElem?_eq_getElem hn, hz']; exact hr
  | x :: l, h, i + 1, 0, hik, _, _ => by omega
  | x :: l, h, i + 1, k + 1, hik, hk, hlt => by
    obtain ⟨n, h1, h2, h3⟩ := FirstO.held h.2.2 i k (by omega) (by simpa using hk) (by simpa using hlt)
    exact ⟨n + 1, by omega, by simp; omega, by simpa using h3⟩
/-- the first order of the numbers zs, if there is one: E 0; zs are none of a matrix's, or not unlike: 1; there is none: 7 -/
def SortIs (r : Int → Int → Prop) (n : Nat) (zs l : List Int) (E : Int) : Prop :=
  (¬ ((∀ z ∈ zs, 0 ≤ z ∧ z < n) ∧ zs.Nodup) ∧ l = [] ∧ E = 1) ∨ (((∀ z ∈ zs, 0 ≤ z ∧ z < n) ∧ zs.Nodup) ∧ E = 0 ∧ l.Perm zs ∧ FirstO r l) ∨
  (((∀ z ∈ zs, 0 ≤ z ∧ z < n) ∧ zs.Nodup) ∧ E = 7 ∧ l = [] ∧ ∃ C : Int → Prop, (∃ x ∈ zs, C x) ∧ ∀ x, C x → x ∈ zs ∧ ∃ y, C y ∧ r y x)
theorem SortIs.unique {n : Nat} {zs l l' : List Int} {E E' : Int} (h : SortIs r n zs l E) (k : SortIs r n zs l' E') : l = l' ∧ E = E' := by
  rcases h with ⟨h1, rfl, rfl⟩ | ⟨h1, rfl, h2, h3⟩ | ⟨h1, rfl, rfl, C, h2, h3⟩ <;> rcases k with ⟨k1, rfl, rfl⟩ | ⟨k1, rfl, k2, k3⟩ | ⟨k1, rfl, rfl, C', k2, k3⟩
  · exact ⟨rfl, rfl⟩
  · exact absurd k1 h1
  · exact absurd k1 h1
  · exact absurd h1 k1
  · exact ⟨h3.unique k3 (h2.trans k2.symm), rfl⟩
  · exfalso
    obtain ⟨x, hx, hC⟩ := k2
    refine h3.noRound C' ⟨x, h2.mem_iff.2 hx, hC⟩ (fun x hx => ?_)
    obtain ⟨_, y, hy, hr⟩ := k3 x hx
    exact ⟨y, h2.mem_iff.2 (k3 y hy).1, hy, hr⟩
  · exact absurd h1 k1
  · exfalso
    obtain ⟨x, hx, hC⟩ := h2
    refine k3.noRound C ⟨x, k2.mem_iff.2 hx, hC⟩ (fun x hx => ?_)
    obtain ⟨_, y, hy, hr⟩ := h3 x hx
    exact ⟨y, k2.mem_iff.2 (h3 y hy).1, hy, hr⟩
  · exact ⟨rfl, rfl⟩
end
end Go.Proofs.Ytpgcokkmhlhnpaa

namespace Go.Proofs.Ytpgcokkmhlhnpaa
set_option linter.unusedVariables false

def RelZ (a : List (List Nat)) (x y : Int) : Prop := hasM a x y = true
theorem RelZ.nat {n : Nat} {a : List (List Nat)} (hG : Good n a) {x y : Int} (h : RelZ a x y) : ∃ i j : Nat, x = (i : Int) ∧ y = (j : Int) ∧ i < n ∧ j < n ∧ Rel a i j := by
  unfold RelZ hasM at h
  rw [Bool.and_eq_true, decide_eq_true_eq] at h
  obtain ⟨i, rfl⟩ := Int.eq_ofNat_of_zero_le h.1
  have hy : 0 ≤ y := by
    rcases Int.lt_or_le y 0 with h0 | h0
    · rw [hasR_out _ _ (.inl h0)] at h; cases h.2
    · exact h0
  obtain ⟨j, rfl⟩ := Int.eq_ofNat_of_zero_le hy
  have hr : Rel a i j := by unfold Rel hasM; rw [Bool.and_eq_true, decide_eq_true_eq]; exact h
  exact ⟨i, j, rfl, rfl, (hG.has_lt hr).1, (hG.has_lt hr).2, hr⟩
/-- all numbers of a matrix -/
def allZ (n : Nat) : List Int := (List.range n).map (fun (i : Nat) => (i : Int))
theorem allZ_len (n : Nat) : (allZ n).length = n := by simp [allZ]
theorem allZ_succ (n : Nat) : allZ (n + 1) = allZ n ++ [(n : Int)] := by simp [allZ, List.range_succ]
theorem allZ_mem {n : Nat} {x : Int} : x ∈ allZ n ↔ 0 ≤ x ∧ x < n := by
  unfold allZ
  rw [List.mem_map]
  constructor
  · rintro ⟨i, hi, rfl⟩
    have := List.mem_range.1 hi
    omega
  · rintro ⟨h0, h1⟩
    exact ⟨x.toNat, List.mem_range.2 (by omega), by omega⟩
section
variable {n : Nat} {a c : List (List Nat)}
end
/-- are numbers unlike, and those below their count? -/
def PermB (l : List Int) (n : Int) : Prop := (l.length : Int) = n ∧ (∀ x ∈ l, 0 ≤ x ∧ x < (l.length : Int)) ∧ l.Nodup
end Go.Proofs.Ytpgcokkmhlhnpaa

namespace Go.Proofs.Ytpgcokkmhlhnpaa
set_option linter.unusedVariables false

section
variable {r : Nat → Nat → Prop}
theorem nodup_lt {n : Nat} {l : List Nat} (h : l.Nodup) (hl : ∀ x ∈ l, x < n) : l.length ≤ n := by
  have := h.length_le_of_subset (l₂ := List.range n) (fun x hx => List.mem_range.2 (hl x hx))
  simpa using this
end
end Go.Proofs.Ytpgcokkmhlhnpaa

namespace Go.Proofs.Ytpgcokkmhlhnpaa
open Go.RowKit
set_option linter.unusedVariables false

/-- how something lies in memory -/
structure Enc (α : Type) where
  cells : α → List Value
  sz : Nat
  pos : 0 < sz
  len : ∀ x, (cells x).length = sz
  one : ∀ x u, u ∈ cells x → u.oneCell' = true
  ok : α → Prop
section
variable {α : Type} {E : Enc α}
def Enc.all (E : Enc α) (xs : List α) : List Value := xs.flatMap E.cells
theorem Enc.all_cons (E : Enc α) (x : α) (xs : List α) : E.all (x :: xs) = E.cells x ++ E.all xs := rfl
theorem Enc.all_len (E : Enc α) (xs : List α) : (E.all xs).length = xs.length * E.sz := by
  induction xs with
  | nil => simp [Enc.all]
  | cons x xs ih => rw [E.all_cons, List.length_append, E.len, ih, List.length_cons, Nat.succ_mul]; omega
theorem Enc.all_append (E : Enc α) (a b : List α) : E.all (a ++ b) = E.all a ++ E.all b := List.flatMap_append
theorem Enc.all_single (E : Enc α) (x : α) : E.all [x] = E.cells x := by simp [Enc.all]
theorem Enc.all_at {xs : List α} {k : Nat} {x : α} (h : xs[k]? = some x) {r : Nat} (hr : r < E.sz) : (E.all xs)[k * E.sz + r]? = (E.cells x)[r]? := by
  induction xs generalizing k with
  | nil => simp at h
  | cons y xs ih =>
    rw [E.all_cons]
    cases k with
    | zero =>
      simp at h; subst h
      rw [Nat.zero_mul, Nat.zero_add, List.getElem?_append_left (by rw [E.len]; exact hr)]
    | succ k =>
      have h' : xs[k]? = some x := by simpa using h
      have e : (k + 1) * E.sz + r = E.sz + (k * E.sz + r) := by rw [Nat.succ_mul]; omega
      rw [e, List.getElem?_append_right (by rw [E.len]; omega), E.len, Nat.add_sub_cancel_left]
      exact ih h'
theorem Enc.all_one (E : Enc α) (xs : List α) : ∀ u ∈ E.all xs, u.oneCell' = true := by
  intro u hu
  obtain ⟨x, _, h⟩ := List.mem_flatMap.1 hu
  exact E.one x u h
/-- the slice '.slice A n c' reads as xs -/
def LAt (E : Enc α) (w : World) (A : Option Addr) (n : Nat) (xs : List α) : Prop :=
  xs.length = n ∧ (∀ x ∈ xs, E.ok x) ∧ (0 < n → ∃ b off, A = some ⟨b, off, none⟩ ∧ b < w.heap.size ∧ ∀ (j : Nat) (u : Value), (E.all xs)[j]? = some u → w.cell? ⟨b, off + j, none⟩ = some u)
variable {w w' : World} {A : Option Addr} {n : Nat} {xs : List α}
theorem LAt.len (h : LAt E w A n xs) : xs.length = n := h.1
theorem LAt.okAll (h : LAt E w A n xs) : ∀ x ∈ xs, E.ok x := h.2.1
theorem LAt.below (h : LAt E w A n xs) (hb : Below w.heap.size w w') : LAt E w' A n xs :=
  ⟨h.1, h.2.1, fun hn => by
    obtain ⟨b, off, e, hbl, hc⟩ := h.2.2 hn
    exact ⟨b, off, e, Nat.lt_of_lt_of_le hbl hb.size, fun j u hu => (hb.cell (p := ⟨b, off + j, none⟩) hbl).trans (hc j u hu)⟩⟩
theorem LAt.nil (E : Enc α) (w : World) (A : Option Addr) : LAt E w A 0 [] := ⟨rfl, fun x h => (by cases h), fun h => absurd h (by omega)⟩
theorem LAt.at_ {k : Nat} (h : LAt E w A n xs) (hk : k < n) : ∃ b off x, A = some ⟨b, off, none⟩ ∧ b < w.heap.size ∧ xs[k]? = some x ∧ E.ok x ∧ ∀ (r : Nat) (u : Value), (E.cells x)[r]? = some u → w.cell? ⟨b, off + k * E.sz + r, none⟩ = some u := by
  obtain ⟨b, off, e, hb, hc⟩ := h.2.2 (by omega)
  have hl : k < xs.length := by rw [h.1]; exact hk
  have ho := List.getElem?_eq_getElem hl
  refine ⟨b, off, xs[k], e, hb, ho, h.2.1 _ (List.getElem_mem hl), fun r u hu => ?_⟩
  have hr : r < E.sz := by rw [← E.len xs[k]]; exact (List.getElem?_eq_some_iff.1 hu).1
  have := hc (k * E.sz + r) u (by rw [Enc.all_at ho hr]; exact hu)
  rwa [← Nat.add_assoc] at this
theorem LAt.of_own {base : Nat} {e : TypeId} {v : Value} (h : w.ownsRow base e E.sz v n (E.all xs)) (ho : ∀ x ∈ xs, E.ok x) (hl : xs.length = n) : ∃ A c, v = .slice A n c ∧ n ≤ c ∧ c ≤ 9223372036854775807 ∧ LAt E w A n xs := by
  rcases h.2 with ⟨rfl, rfl⟩ | ⟨g, cap, cur, rfl, hbg, hg, hnc, hcm, hcs, htake⟩
  · have : xs = [] := List.eq_nil_of_length_eq_zero hl
    subst this
    exact ⟨none, 0, rfl, Nat.le_refl _, by omega, LAt.nil _ _ _⟩
  · refine ⟨_, _, rfl, hnc, by unfold maxLen at hcm; exact hcm, hl, ho, fun _ => ⟨g, 0, rfl, (Array.getElem?_eq_some_iff.1 hg).1, fun j u hu => ?_⟩⟩
    rw [Nat.zero_add, cell_of_row w g j cur e (0, 0) hg]
    have hj : j < n * E.sz := by
      have := (List.getElem?_eq_some_iff.1 hu).1
      rw [E.all_len, hl] at this
      exact this
    rw [← htake, List.getElem?_take_of_lt hj] at hu
    simpa using hu
theorem LAt.of_blk {g : Nat} {t : TypeId} (h : Blk w g t (E.all xs)) (ho : ∀ x ∈ xs, E.ok x) (hn : xs.length = n) : LAt E w (some ⟨g, 0, none⟩) n xs :=
  ⟨hn, ho, fun _ => ⟨g, 0, rfl, h.lt, fun j u hu => by rw [Nat.zero_add, h.cell]; exact hu⟩⟩
/-- 'append(s, xs...)': s the call's own, xs whatever reads -/
theorem run_append_L {P : Program} (w : World) (base : Nat) (t ty e : TypeId) (i : TypeInfo) (z : Value) (by_ : Nat) (ht : P.underlying t = some (.slice e)) (hi : P.info? e = some i) (hz : i.zero = some z)
    (hsize : i.size = E.sz) (hby : i.bytes = by_) (hzs : z.cells.size = E.sz) (v : Value) (n : Nat) (os : List α) (hown : w.ownsRow base e E.sz v n (E.all os))
    (A : Option Addr) (m c : Nat) (news : List α) (hr : LAt E w A m news) (hb : n + m ≤ maxLen) (hbytes : (n + m) * by_ ≤ 140737488355328) (hbase : base ≤ w.heap.size) :
    ∃ v' w', (Builtin.append_ #[t, t] ty #[v, .slice A m c]).run P w = .ok v' w' ∧ w'.ownsRow base e E.sz v' (n + m) (E.all (os ++ news)) ∧ Below base w w' ∧ w.grownBy w' v.ownBlock ∧ (v'.ownBlock = v.ownBlock ∨ v'.ownBlock = some w.heap.size) := by
  rcases A with _ | ad
  · have hm : m = 0 := by
      rcases Nat.eq_zero_or_pos m with h0 | h0
      · exact h0
      · obtain ⟨_, _, hh, _⟩ := hr.2.2 h0
        cases hh
    subst hm
    have hn : news = [] := List.eq_nil_of_length_eq_zero hr.1
    subst hn
    have hrun := run_append_nothing (P := P) (w := w) base t ty e i E.sz ht hi v n (E.all os) hown c
    exact ⟨v, w, hrun, by simpa using hown, Below.refl _ _, World.grownBy.refl w _, .inl rfl⟩
  · have hcells : ∀ j u, (E.all news)[j]? = some u → w.cell? (ad.add j) = some u := by
      intro j u hu
      have hj : 0 < m := by
        rcases Nat.eq_zero_or_pos m with h0 | h0
        · subst h0; rw [List.eq_nil_of_length_eq_zero hr.1] at hu; simp [Enc.all] at hu
        · exact h0
      obtain ⟨b, off, hh, _, hc⟩ := hr.2.2 hj
      injection hh with hh
      subst hh
      have he : (⟨b, off, none⟩ : Addr).add j = ⟨b, off + j, none⟩ := by unfold Addr.add; split <;> simp_all
      rw [he]; exact hc j u hu
    obtain ⟨v', w', hrun, h2, h3, _, h5⟩ := run_append_own_at (P := P) w base t ty e i z E.sz by_ ht hi hz hsize hby hzs E.pos v n (E.all os) hown ad m c (E.all news) (by rw [E.all_len, hr.1]) hcells (E.all_one news) hb hbytes hbase
    rw [← E.all_append] at h2
    exact ⟨v', w', hrun, h2, (Below.refl _ _).grown h3 hbase (own_lt_block hown), h3, h5⟩
theorem wpList_append_L {P : Program} {ops : Array Oper} {rest : List Oper} {o : Oper} {a : Act} {Q : Exit → Act → World → Prop} (hgd : o.guard = none) (s x : Operand) (t : TypeId)
    (ho : o.op = .call { callee := .builtin .append, args := #[s, x], argTypes := #[t, t] })
    (base : Nat) (e : TypeId) (i : TypeInfo) (z : Value) (by_ : Nat) (ht : P.underlying t = some (.slice e)) (hi : P.info? e = some i) (hz : i.zero = some z)
    (hsize : i.size = E.sz) (hby : i.bytes = by_) (hzs : z.cells.size = E.sz)
    (v : Value) (n : Nat) (os : List α) (hs : a.eval s = v) (hown : w.ownsRow base e E.sz v n (E.all os))
    (A : Option Addr) (m c : Nat) (news : List α) (hx : a.eval x = .slice A m c) (hr : LAt E w A m news)
    (hb : n + m ≤ maxLen) (hbytes : (n + m) * by_ ≤ 140737488355328) (hbase : base ≤ w.heap.size)
    (h : ∀ v' w', w'.ownsRow base e E.sz v' (n + m) (E.all (os ++ news)) → Below base w w' → w.grownBy w' v.ownBlock → (v'.ownBlock = v.ownBlock ∨ v'.ownBlock = some w.heap.size) → wpList P ops Q rest (a.put o.dst v') w') :
    wpList P ops Q (o :: rest) a w := by
  obtain ⟨v', w', hrun, h2, h3, h4, h5⟩ := run_append_L (P := P) w base t o.type e i z by_ ht hi hz hsize hby hzs v n os hown A m c news hr hb hbytes hbase
  refine wpList_plain hgd fun K hK => ?_
  unfold Oper.wp execOp
  simp only [ho, resolve, invoke, builtin, Sem.run_bind, Sem.run_pure, Result.andThen_ok, List.map_toArray, List.map_cons, List.map_nil, hs, hx, hrun]
  exact hK _ _ (h v' w' h2 h3 h4 h5)
end
/-- a literal of one element, behind which it is appended -/
theorem LAt.lit1 {α : Type} {E : Enc α} (w : World) (t : TypeId) (x : α) (hx : E.ok x) : LAt E (w.alloc (.cells (E.cells x).toArray t)) (some ⟨w.heap.size, 0, none⟩) 1 [x] :=
  LAt.of_blk (t := t) (by have := Blk.new w t (E.all [x]); rw [E.all_single] at this ⊢; exact this) (fun y hy => by rw [List.mem_singleton.1 hy]; exact hx) rfl

/-! ### texts, numbers, items -/
def encS : Enc ByteArray := { cells := fun s => [.string s], sz := 1, pos := by decide, len := fun _ => rfl, one := fun x u h => by simp at h; subst h; rfl, ok := fun s => s.size ≤ 9223372036854775807 }
def encI : Enc Int := { cells := fun z => [.int .i64 z], sz := 1, pos := by decide, len := fun _ => rfl, one := fun x u h => by simp at h; subst h; rfl, ok := fun z => -9223372036854775808 ≤ z ∧ z < 9223372036854775808 }
/-- an item: its session, its place in it, whether it writes, its variable's number, its value -/
structure It where
  se : Int
  pl : Int
  wr : Bool
  va : Int
  vl : Int
deriving DecidableEq
structure It.Ok (i : It) : Prop where
  s0 : -9223372036854775808 ≤ i.se
  s1 : i.se < 9223372036854775808
  p0 : -9223372036854775808 ≤ i.pl
  p1 : i.pl < 9223372036854775808
  v0 : -9223372036854775808 ≤ i.va
  v1 : i.va < 9223372036854775808
  x0 : -9223372036854775808 ≤ i.vl
  x1 : i.vl < 9223372036854775808
def encT : Enc It := { cells := fun i => [.int .i64 i.se, .int .i64 i.pl, .bool i.wr, .int .i64 i.va, .int .i64 i.vl], sz := 5, pos := by decide, len := fun _ => rfl, one := fun x u h => by simp only [List.mem_cons, List.not_mem_nil, or_false] at h; rcases h with rfl | rfl | rfl | rfl | rfl <;> rfl, ok := It.Ok }
theorem LAt.int {w : World} {A : Option Addr} {n k : Nat} {xs : List Int} (h : LAt encI w A n xs) (hk : k < n) : ∃ b off z, A = some ⟨b, off, none⟩ ∧ b < w.heap.size ∧ xs[k]? = some z ∧ (-9223372036854775808 ≤ z ∧ z < 9223372036854775808) ∧ w.cell? ⟨b, off + k, none⟩ = some (.int .i64 z) := by
  obtain ⟨b, off, s, e, hb, hs, hok, hc⟩ := h.at_ hk
  exact ⟨b, off, s, e, hb, hs, hok, by have := hc 0 _ rfl; simpa [encI] using this⟩
/-- the facts of a history -/
structure Fac where
  vars : List ByteArray
  items : List It
  frm : List Int
deriving DecidableEq
/-- where facts lie: three slices -/
structure FV where
  A : Option Addr
  n : Nat
  c : Nat
  B : Option Addr
  m : Nat
  d : Nat
  C : Option Addr
  k : Nat
  e : Nat
structure FactsAt (w : World) (v : FV) (f : Fac) : Prop where
  vs : LAt encS w v.A v.n f.vars
  vc : v.n ≤ v.c
  vm : v.c ≤ 9223372036854775807
  is : LAt encT w v.B v.m f.items
  ic : v.m ≤ v.d
  im : v.d ≤ 9223372036854775807
  fs : LAt encI w v.C v.k f.frm
  fc : v.k ≤ v.e
  fm : v.e ≤ 9223372036854775807
end Go.Proofs.Ytpgcokkmhlhnpaa

namespace Go.Proofs.Ytpgcokkmhlhnpaa
open Go.RowKit
set_option linter.unusedVariables false

/-- an operation: does it write, its variable, its value -/
abbrev OpT := Bool × ByteArray × Int
section
variable {w w' : World} {A : Option Addr} {n : Nat} {os : List OpT} {hs : List (List OpT)} {v : Value}
end

/-! ### how many there are -/
end Go.Proofs.Ytpgcokkmhlhnpaa

namespace Go.Proofs.Ytpgcokkmhlhnpaa
open Go.RowKit
set_option linter.unusedVariables false

section
variable {P : Program} {w : World}
end

/-! ### numbers and spots -/

/-! ### histories of literals -/
def RetBool (b : Bool) (w : World) (e : Ending) (w' : World) : Prop := e = .returned (.bool b) ∧ Below w.heap.size w w'

end Go.Proofs.Ytpgcokkmhlhnpaa

namespace Go.Proofs.Ytpgcokkmhlhnpaa
set_option linter.unusedVariables false

end Go.Proofs.Ytpgcokkmhlhnpaa

namespace Go.Proofs.Ytpgcokkmhlhnpaa
set_option linter.unusedVariables false

end Go.Proofs.Ytpgcokkmhlhnpaa

namespace Go.Proofs.Ytpgcokkmhlhnpaa
set_option linter.unusedVariables false

end Go.Proofs.Ytpgcokkmhlhnpaa

namespace Go.Proofs.Ytpgcokkmhlhnpaa
set_option linter.unusedVariables false

end Go.Proofs.Ytpgcokkmhlhnpaa

namespace Go.Proofs.Ytpgcokkmhlhnpaa
set_option linter.unusedVariables false

end Go.Proofs.Ytpgcokkmhlhnpaa

namespace Go.Proofs.Ytpgcokkmhlhnpaa
set_option linter.unusedVariables false

/-! ### how many reads read from a write -/
end Go.Proofs.Ytpgcokkmhlhnpaa

namespace Go.Proofs.Ytpgcokkmhlhnpaa
open Go.RowKit
set_option linter.unusedVariables false

/-- facts f, told by the slices v, lie in the variable g; of what was there in w nothing has turned -/
structure FBox (w : World) (g : Nat) (v : FV) (f : Fac) (wr : World) : Prop where
  f : FactsAt wr v f
  k : Blk wr g 27 [.slice v.A v.n v.c, .slice v.B v.m v.d, .slice v.C v.k v.e]
  o : Below w.heap.size w wr
section
variable {w wr w' : World} {g : Nat} {v : FV} {f : Fac}
end

/-! ### facts stored into a variable of facts -/
section
variable {w w0 : World} {g k : Nat} {t : TypeId} {cs : List Value} {v u : FV} {f : Fac}
end

/-! ### an item in a variable -/
end Go.Proofs.Ytpgcokkmhlhnpaa

namespace Go.Proofs.Ytpgcokkmhlhnpaa
open Go.RowKit
set_option linter.unusedVariables false
end Go.Proofs.Ytpgcokkmhlhnpaa

namespace Go.Proofs.Ytpgcokkmhlhnpaa
open Go.RowKit
set_option linter.unusedVariables false

end Go.Proofs.Ytpgcokkmhlhnpaa

namespace Go.Proofs.Ytpgcokkmhlhnpaa
open Go.RowKit
set_option linter.unusedVariables false

section
variable {w w' : World} {g : Nat} {t : TypeId} {x y : Int}
end

end Go.Proofs.Ytpgcokkmhlhnpaa

namespace Go.Proofs.Ytpgcokkmhlhnpaa
open Go.RowKit
set_option linter.unusedVariables false

theorem list_eq {α : Type} {s t : List α} (hl : s.length = t.length) (h : ∀ k, k < s.length → s[k]? = t[k]?) : s = t :=
  List.ext_getElem? (fun k => by
    by_cases hk : k < s.length
    · exact h k hk
    · rw [List.getElem?_eq_none (by omega), List.getElem?_eq_none (by omega)])
set_option maxRecDepth 100000 in
set_option maxHeartbeats 1000000 in
theorem ref2_IntsL (A B : Option Addr) (n c m d : Nat) (s t : List Int) (w : World) (hX : LAt encI w A n s) (hY : LAt encI w B m t) (hn : n ≤ 9223372036854775807) (hm : m ≤ 9223372036854775807) :
    Calls Try.prog 13 #[.slice A n c, .slice B m d] w fun e w' => e = .returned (.bool (decide (s = t))) ∧ ∃ q, w' = w.drewN q := by
  -- two slices that read as s, t; $at gives a cell; eyewitnessref02.Ints the function; $T the type's name
  have hXl := hX.len
  have hYl := hY.len
  by_cases hnm : n = m
  · subst hnm
    have hee : ((n : Int) != (n : Int)) = false := by simp
    replace hX := Lib.hid hX
    replace hY := Lib.hid hY
    replace hXl := Lib.hid hXl
    replace hYl := Lib.hid hYl
    go_enter Try.func13, Try.ntmps13
    go_wp2_with fail
    go_loopw [5] (fun t' wr => ∃ j q : Nat, j ≤ n ∧ t' = .int .i64 j ∧ Hid (∀ i, i < j → s[i]? = t[i]?) ∧ wr = w.drewN q) (fun t' _ => n - (intOf t').toNat)
    case atStart => exact ⟨0, 0, Nat.zero_le _, rfl, Lib.hid (fun i hi => absurd hi (by omega)), rfl⟩
    case round =>
      obtain ⟨j, q2, hj, rfl, hin, rfl⟩ := hrel
      by_cases hjl : j < n
      · have hjl' : (j : Int) < (n : Int) := by omega
        obtain ⟨b3, off3, x, rfl, hb3, hx, hok3, x0⟩ := hX.out.int hjl
        obtain ⟨b4, off4, y, rfl, hb4, hy, hok4, y0⟩ := hY.out.int hjl
        by_cases hxy : x = y
        · have e1 : (x == y) = true := by rw [hxy]; simp
          have e1' : (x != y) = false := by rw [hxy]; simp
          have hin' : Hid (∀ i, i < j + 1 → s[i]? = t[i]?) := Lib.hid (fun i hi => by
            rcases Nat.lt_succ_iff_lt_or_eq.1 hi with h1 | h1
            · exact hin.out i h1
            · subst h1; rw [hx, hy, hxy])
          clear hx hy hjl hxy
          go_wp2_with fail
          go_quiet (fail)
          go_wp2_with fail
          exact ⟨⟨j + 1, _, by omega, by go_num, hin', rfl⟩, by simp [intOf]; omega⟩
        · have hno : Hid (decide (s = t) = false) := Lib.hid (decide_eq_false (fun e => by subst e; rw [hx] at hy; injection hy with hy; exact hxy hy))
          have e1 : (x == y) = false := by rw [beq_eq_false_iff_ne]; exact hxy
          have e1' : (x != y) = true := by rw [bne_iff_ne]; exact hxy
          clear hx hy hjl hxy
          go_wp2_with fail
          go_quiet (fail)
          go_wp2_with fail
          go_ret
          exact ⟨by rw [hno.out]; rfl, _, by rw [World.drewN_drewN]⟩
      · have hjn : j = n := by omega
        have hres := Lib.hid (decide_eq_true (list_eq (s := s) (t := t) (by rw [hXl.out, hYl.out]) (by rw [hXl.out, ← hjn]; exact hin.out)))
        have hlt' : ¬ (j : Int) < (n : Int) := by omega
        clear hin hjl hjn
        go_wp2_with fail
        go_ret
        exact ⟨by rw [hres.out]; rfl, _, rfl⟩
  · have hee : ((n : Int) != (m : Int)) = true := by simp; omega
    have hres : Hid (decide (s = t) = false) := Lib.hid (decide_eq_false (fun e => by subst e; omega))
    clear hnm hX hY
    replace hXl := Lib.hid hXl
    replace hYl := Lib.hid hYl
    go_enter Try.func13, Try.ntmps13
    go_wp2_with fail
    go_ret
    exact ⟨by rw [hres.out]; rfl, 0, rfl⟩

end Go.Proofs.Ytpgcokkmhlhnpaa

namespace Go.Proofs.Ytpgcokkmhlhnpaa
open Go.RowKit
set_option linter.unusedVariables false

theorem Blk.not_row {w : World} {g : Nat} {t e : TypeId} {cs : List Value} {base size n : Nat} {v : Value} {xs : List Value} (h : Blk w g t cs) (hte : t ≠ e) (hr : w.ownsRow base e size v n xs) : v.ownBlock ≠ some g := by
  rcases hr.2 with ⟨rfl, _⟩ | ⟨k, cap, cur, rfl, _, hk, _⟩
  · intro h; cases h
  · intro he
    have : k = g := by simpa [Value.ownBlock] using he
    subst this
    rw [show w.heap[k]? = _ from h] at hk
    injection hk with hk
    injection hk with _ h2 _
    exact hte h2

end Go.Proofs.Ytpgcokkmhlhnpaa

namespace Go.Proofs.Ytpgcokkmhlhnpaa
open Go.RowKit
set_option linter.unusedVariables false

end Go.Proofs.Ytpgcokkmhlhnpaa

namespace Go.Proofs.Ytpgcokkmhlhnpaa
open Go.RowKit
set_option linter.unusedVariables false
end Go.Proofs.Ytpgcokkmhlhnpaa

namespace Go.Proofs.Ytpgcokkmhlhnpaa
open Go.RowKit
set_option linter.unusedVariables false

end Go.Proofs.Ytpgcokkmhlhnpaa

namespace Go.Proofs.Ytpgcokkmhlhnpaa
open Go.RowKit
set_option linter.unusedVariables false

theorem ref3_HasG (A : Option Addr) (n c : Nat) (a : List (List Nat)) (hG : Good n a) (i j : Int) (w : World) (hr : RowsAt w A n a) :
    Calls Try.prog 24 #[.agg #[.int .i64 (n : Int), .slice A n c], .int .i64 i, .int .i64 j] w (RetB (hasM a i j) w) := by
  have h := ref3_Has A n c a i j w hr hG.le (fun k xs hx => by have := hG.small xs (List.mem_of_getElem? hx); omega)
  rwa [hG.in_has] at h

end Go.Proofs.Ytpgcokkmhlhnpaa

namespace Go.Proofs.Ytpgcokkmhlhnpaa
open Go.RowKit
set_option linter.unusedVariables false
theorem getD_of {l : List Int} {q : Nat} {z : Int} (h : l[q]? = some z) : l.getD q 0 = z := by rw [List.getD_eq_getElem?_getD, h]; rfl
end Go.Proofs.Ytpgcokkmhlhnpaa

namespace Go.Proofs.Ytpgcokkmhlhnpaa
open Go.RowKit
set_option linter.unusedVariables false

section
variable {w w' : World} {base : Nat} {t : TypeId} {v : Value} {zs : List Nat}
end
section
variable {P : Program}
end

/-! ### how many are not seen yet -/

/-! ### the search -/
section
variable {n : Nat} {a : List (List Nat)} {i : Nat} {bs : List Bool} {zs : List Nat}
end

end Go.Proofs.Ytpgcokkmhlhnpaa

namespace Go.Proofs.Ytpgcokkmhlhnpaa
open Go.RowKit
set_option linter.unusedVariables false

end Go.Proofs.Ytpgcokkmhlhnpaa

namespace Go.Proofs.Ytpgcokkmhlhnpaa
open Go.RowKit
set_option linter.unusedVariables false
/-- a call that answers whether p -/
def RetIff (p : Prop) (w : World) (e : Ending) (w' : World) : Prop := ∃ b : Bool, e = .returned (.bool b) ∧ (b = true ↔ p) ∧ Below w.heap.size w w'
def FineZ (n : Nat) (zs : List Int) : Prop := (∀ z ∈ zs, 0 ≤ z ∧ z < (n : Int)) ∧ zs.Nodup
theorem fine_at {n : Nat} {zs : List Int} (h : FineZ n zs) {q : Nat} {z : Int} (hz : zs[q]? = some z) : 0 ≤ z ∧ z < (n : Int) := h.1 z (List.mem_of_getElem? hz)
theorem nodup_at {zs : List Int} (h : zs.Nodup) {p q : Nat} {z : Int} (hp : zs[p]? = some z) (hq : zs[q]? = some z) : p = q := by
  obtain ⟨h1, e1⟩ := List.getElem?_eq_some_iff.1 hp
  obtain ⟨h2, e2⟩ := List.getElem?_eq_some_iff.1 hq
  rcases Nat.lt_trichotomy p q with hlt | he | hlt
  · exact absurd (e1.trans e2.symm) (List.pairwise_iff_getElem.1 h p q h1 h2 hlt)
  · exact he
  · exact absurd (e2.trans e1.symm) (List.pairwise_iff_getElem.1 h q p h2 h1 hlt)
end Go.Proofs.Ytpgcokkmhlhnpaa

namespace Go.Proofs.Ytpgcokkmhlhnpaa
open Go.RowKit
set_option linter.unusedVariables false
section
variable {W0 wr w' : World} {g1 n : Nat} {ds : List Int}
end
section
variable {r : Nat → Nat → Prop} {j s n x k : Nat} {ds : List Int}
end
end Go.Proofs.Ytpgcokkmhlhnpaa

namespace Go.Proofs.Ytpgcokkmhlhnpaa
open Go.RowKit
set_option linter.unusedVariables false
end Go.Proofs.Ytpgcokkmhlhnpaa

namespace Go.Proofs.Ytpgcokkmhlhnpaa
open Go.RowKit

section
variable {gb : Nat → Prop} {P : Program} {ops : Array Oper} {md : Region.Mode} {Q : Exit → Act → World → Prop}

/-! ### the steps -/
section
variable {tail : List Oper} {rest : List (Bool × Nat)} {a : Act} {w : World} {i : Nat} {o : Oper}
end
end
end Go.Proofs.Ytpgcokkmhlhnpaa

namespace Go.Proofs.Ytpgcokkmhlhnpaa
open Go.RowKit
set_option linter.unusedVariables false
section
variable {r : Int → Int → Prop}
/-- the first numbers of a first order; L: those that are left -/
def FirstPre (r : Int → Int → Prop) : List Int → List Int → Prop
  | [], _ => True
  | x :: O, L => (∀ y ∈ x :: (O ++ L), ¬ r y x) ∧ (∀ y ∈ O ++ L, y < x → ∃ z ∈ x :: (O ++ L), r z y) ∧ FirstPre r O L
theorem FirstPre.done : ∀ {O : List Int}, FirstPre r O [] → FirstO r O
  | [], _ => trivial
  | x :: O, h => by
    obtain ⟨h1, h2, h3⟩ := h
    rw [List.append_nil] at h1 h2
    exact ⟨h1, h2, FirstPre.done h3⟩
theorem FirstPre.snoc {x : Int} {L L' : List Int} (hp : L'.Perm (x :: L)) (hf : ∀ y ∈ L', ¬ r y x) (hl : ∀ y ∈ L', y < x → ∃ z ∈ L', r z y) : ∀ {O : List Int}, FirstPre r O L' → FirstPre r (O ++ [x]) L
  | [], _ => ⟨fun y hy => hf y (hp.mem_iff.2 hy), fun y hy hlt => by
      obtain ⟨z, hz, hr⟩ := hl y (hp.mem_iff.2 (List.mem_cons.2 (.inr hy))) hlt
      exact ⟨z, hp.mem_iff.1 hz, hr⟩, trivial⟩
  | u :: O, h => by
    obtain ⟨h1, h2, h3⟩ := h
    have hm : ∀ y, y ∈ O ++ [x] ++ L ↔ y ∈ O ++ L' := fun y => by
      rw [List.mem_append, List.mem_append, List.mem_append, hp.mem_iff, List.mem_singleton, List.mem_cons, or_assoc]
    refine ⟨fun y hy => ?_, fun y hy hlt => ?_, FirstPre.snoc hp hf hl h3⟩
    · refine h1 y ?_
      rcases List.mem_cons.1 hy with rfl | hy
      · simp
      · exact List.mem_cons.2 (.inr ((hm y).1 hy))
    · obtain ⟨z, hz, hr⟩ := h2 y ((hm y).1 hy) hlt
      refine ⟨z, ?_, hr⟩
      rcases List.mem_cons.1 hz with rfl | hz
      · simp
      · exact List.mem_cons.2 (.inr ((hm z).2 hz))
def FreeL (r : Int → Int → Prop) (L : List Int) (x : Int) : Prop := ∀ y ∈ L, ¬ r y x
theorem not_free {L : List Int} {x : Int} (h : ¬ FreeL r L x) : ∃ y ∈ L, r y x := Classical.byContradiction fun hn => h fun y hy hr => hn ⟨y, hy, hr⟩
/-- what is laid in order, what is left -/
structure SortS (r : Int → Int → Prop) (zs O L : List Int) : Prop where
  p : (O ++ L).Perm zs
  f : FirstPre r O L
theorem SortS.done {n : Nat} {zs O : List Int} (h : SortS r zs O []) (hF : FineZ n zs) : SortIs r n zs O 0 := .inr (.inl ⟨hF, rfl, by have := h.p; rwa [List.append_nil] at this, h.f.done⟩)
end
/-- a call's answer: numbers in order, or why there are none -/
def RetSort (r : Int → Int → Prop) (n : Nat) (zs : List Int) (w : World) (e : Ending) (w' : World) : Prop :=
  ∃ (D : Option Addr) (m c : Nat) (l : List Int) (E : Int), e = .returned (.tuple #[.slice D m c, .int .i64 E]) ∧ LAt encI w' D m l ∧ m ≤ c ∧ c ≤ 9223372036854775807 ∧ SortIs r n zs l E ∧ Below w.heap.size w w'
/-- .. numbers of the call's own -/
def RetSortO (r : Int → Int → Prop) (n : Nat) (zs : List Int) (w : World) (e : Ending) (w' : World) : Prop :=
  ∃ (v : Value) (l : List Int) (E : Int), e = .returned (.tuple #[v, .int .i64 E]) ∧ w'.ownsRow w.heap.size 3 1 v l.length (encI.all l) ∧ SortIs r n zs l E ∧ Below w.heap.size w w'
theorem RetSortO.ret {r : Int → Int → Prop} {n : Nat} {zs : List Int} {w w' : World} {e : Ending} (hz : ∀ z ∈ zs, encI.ok z) (h : RetSortO r n zs w e w') : RetSort r n zs w e w' := by
  obtain ⟨v, l, E, rfl, ho, hS, hb⟩ := h
  have hok : ∀ z ∈ l, encI.ok z := fun z hx => by
    rcases hS with ⟨_, rfl, _⟩ | ⟨_, _, hp, _⟩ | ⟨_, _, rfl, _⟩
    · cases hx
    · exact hz z (hp.mem_iff.1 hx)
    · cases hx
  obtain ⟨A, c, rfl, h1, h2, h3⟩ := LAt.of_own (E := encI) ho hok rfl
  exact ⟨A, l.length, c, l, E, rfl, h3, h1, h2, hS, hb⟩
theorem info_int15 : (Try.prog.info? 3).map (fun i => (i.zero, i.size, i.bytes)) = some (some (.int .i64 0), 1, 8) := by kernel_rfl
end Go.Proofs.Ytpgcokkmhlhnpaa

namespace Go.Proofs.Ytpgcokkmhlhnpaa
open Go.RowKit
set_option linter.unusedVariables false

/-! ### counts by bits -/
/-- the count of the bit b -/
def cntC : List Nat → Nat → Nat
  | [], _ => 0
  | c :: cs, b => (c.testBit b).toNat + 2 * cntC cs b
/-- a word is xored in, what f makes of it goes on -/
def goC (f : Nat → Nat → Nat) : List Nat → Nat → List Nat
  | [], _ => []
  | c :: cs, x => (c ^^^ x) :: goC f cs (f c x)
/-- nothing is left behind the last word -/
def fitC (f : Nat → Nat → Nat) : List Nat → Nat → Prop
  | [], x => x = 0
  | c :: cs, x => fitC f cs (f c x)
def moreF (c x : Nat) : Nat := x &&& (18446744073709551615 - (c ^^^ x))
def lessF (c x : Nat) : Nat := x &&& (c ^^^ x)
theorem moreF_kept (c x : Nat) : moreF c x ≤ x := Nat.and_le_left
theorem lessF_kept (c x : Nat) : lessF c x ≤ x := Nat.and_le_left
theorem moreF_bit (c x b : Nat) (hb : b < 64) (hc : c < 18446744073709551616) (hx : x < 18446744073709551616) : (moreF c x).testBit b = (x.testBit b && c.testBit b) := by
  have hcx : c ^^^ x < 2 ^ 64 := Nat.xor_lt_two_pow (by simpa using hc) (by simpa using hx)
  unfold moreF
  have e : 18446744073709551615 - (c ^^^ x) = 2 ^ 64 - ((c ^^^ x) + 1) := by omega
  rw [e, Nat.testBit_and, Nat.testBit_two_pow_sub_succ hcx, Nat.testBit_xor, decide_eq_true hb]
  cases x.testBit b <;> cases c.testBit b <;> rfl
theorem lessF_bit (c x b : Nat) : (lessF c x).testBit b = (x.testBit b && !c.testBit b) := by
  unfold lessF
  rw [Nat.testBit_and, Nat.testBit_xor]
  cases x.testBit b <;> cases c.testBit b <;> rfl
theorem goC_len (f : Nat → Nat → Nat) : ∀ (cs : List Nat) (x : Nat), (goC f cs x).length = cs.length
  | [], _ => rfl
  | c :: cs, x => by simp only [goC, List.length_cons, goC_len f cs]
theorem goC_w64 {f : Nat → Nat → Nat} (hf : ∀ c x, f c x ≤ x) : ∀ {cs : List Nat} {x : Nat}, W64 cs → x < 18446744073709551616 → W64 (goC f cs x)
  | [], _, _, _ => fun y hy => by cases hy
  | c :: cs, x, h, hx => fun y hy => by
    rcases List.mem_cons.1 hy with rfl | hy
    · have : c ^^^ x < 2 ^ 64 := Nat.xor_lt_two_pow (by simpa using h c (by simp)) (by simpa using hx)
      simpa using this
    · exact goC_w64 hf (fun z hz => h z (List.mem_cons.2 (.inr hz))) (Nat.lt_of_le_of_lt (hf c x) hx) y hy
theorem goC_zero {f : Nat → Nat → Nat} (hf : ∀ c x, f c x ≤ x) : ∀ cs : List Nat, goC f cs 0 = cs
  | [] => rfl
  | c :: cs => by
    have h0 : f c 0 = 0 := Nat.le_zero.1 (hf c 0)
    simp only [goC, h0, goC_zero hf cs, Nat.xor_zero]
theorem zero_of_bits {x : Nat} (hx : x < 18446744073709551616) (h : ∀ b, b < 64 → x.testBit b = false) : x = 0 := by
  apply Nat.eq_of_testBit_eq; intro b
  rw [Nat.zero_testBit]
  rcases Nat.lt_or_ge b 64 with hb | hb
  · exact h b hb
  · exact bit_out hx hb
theorem cntC_more : ∀ {cs : List Nat} {x b : Nat}, W64 cs → x < 18446744073709551616 → b < 64 → cntC cs b + (x.testBit b).toNat < 2 ^ cs.length → cntC (goC moreF cs x) b = cntC cs b + (x.testBit b).toNat
  | [], x, b, _, _, _, h => by
    simp only [cntC, List.length_nil] at h ⊢
    simp only [goC, cntC]
    omega
  | c :: cs, x, b, hw, hx, hb, h => by
    have hc := hw c (by simp)
    have hm := moreF_bit c x b hb hc hx
    have h1 : cntC cs b + ((moreF c x).testBit b).toNat < 2 ^ cs.length := by
      rw [hm]
      simp only [cntC, List.length_cons, Nat.pow_succ] at h
      revert h
      cases x.testBit b <;> cases c.testBit b <;> simp <;> omega
    have ih := cntC_more (cs := cs) (x := moreF c x) (b := b) (fun z hz => hw z (List.mem_cons.2 (.inr hz))) (Nat.lt_of_le_of_lt (moreF_kept c x) hx) hb h1
    simp only [goC, cntC, ih, hm, Nat.testBit_xor]
    cases x.testBit b <;> cases c.testBit b <;> simp <;> omega
theorem cntC_less : ∀ {cs : List Nat} {x b : Nat}, (x.testBit b = true → 0 < cntC cs b) → cntC (goC lessF cs x) b + (x.testBit b).toNat = cntC cs b
  | [], x, b, h => by
    simp only [goC, cntC] at h ⊢
    cases hx : x.testBit b with
    | false => rfl
    | true => exact absurd (h hx) (Nat.lt_irrefl 0)
  | c :: cs, x, b, h => by
    have hm := lessF_bit c x b
    have ih := cntC_less (cs := cs) (x := lessF c x) (b := b) (fun hl => by
      rw [hm, Bool.and_eq_true] at hl
      have := h hl.1
      simp only [cntC] at this
      have h2 := hl.2
      cases hcb : c.testBit b with
      | true => rw [hcb] at h2; cases h2
      | false => rw [hcb] at this; simp at this; omega)
    simp only [goC, cntC, hm, Nat.testBit_xor] at ih ⊢
    revert ih
    cases x.testBit b <;> cases c.testBit b <;> simp <;> omega
theorem fitC_more : ∀ {cs : List Nat} {x : Nat}, W64 cs → x < 18446744073709551616 → (∀ b, b < 64 → x.testBit b = true → cntC cs b + 1 < 2 ^ cs.length) → fitC moreF cs x
  | [], x, _, hx, h => zero_of_bits hx fun b hb => by
    cases hxb : x.testBit b with
    | false => rfl
    | true => have := h b hb hxb; simp [cntC] at this
  | c :: cs, x, hw, hx, h => by
    have hc := hw c (by simp)
    refine fitC_more (cs := cs) (fun z hz => hw z (List.mem_cons.2 (.inr hz))) (Nat.lt_of_le_of_lt (moreF_kept c x) hx) fun b hb hl => ?_
    rw [moreF_bit c x b hb hc hx, Bool.and_eq_true] at hl
    have := h b hb hl.1
    simp only [cntC, hl.2, Bool.toNat_true, List.length_cons, Nat.pow_succ] at this
    omega
theorem fitC_less : ∀ {cs : List Nat} {x : Nat}, x < 18446744073709551616 → (∀ b, b < 64 → x.testBit b = true → 0 < cntC cs b) → fitC lessF cs x
  | [], x, hx, h => zero_of_bits hx fun b hb => by
    cases hxb : x.testBit b with
    | false => rfl
    | true => exact absurd (h b hb hxb) (Nat.lt_irrefl 0)
  | c :: cs, x, hx, h => by
    refine fitC_less (cs := cs) (Nat.lt_of_le_of_lt (lessF_kept c x) hx) fun b hb hl => ?_
    rw [lessF_bit, Bool.and_eq_true] at hl
    have := h b hb hl.1
    simp only [cntC] at this
    have h2 := hl.2
    cases hcb : c.testBit b with
    | true => rw [hcb] at h2; cases h2
    | false => rw [hcb] at this; simp at this; omega
/-- the words together -/
def orC : List Nat → Nat
  | [] => 0
  | c :: cs => c ||| orC cs
def noneC (cs : List Nat) : Nat := 18446744073709551615 - orC cs
theorem orC_lt : ∀ {cs : List Nat}, W64 cs → orC cs < 18446744073709551616
  | [], _ => by simp [orC]
  | c :: cs, h => by
    have : c ||| orC cs < 2 ^ 64 := Nat.or_lt_two_pow (by simpa using h c (by simp)) (by simpa using orC_lt fun z hz => h z (List.mem_cons.2 (.inr hz)))
    simpa [orC] using this
theorem orC_bit : ∀ (cs : List Nat) (b : Nat), (orC cs).testBit b = !decide (cntC cs b = 0)
  | [], b => by simp [orC, cntC]
  | c :: cs, b => by
    have e : cntC (c :: cs) b = (c.testBit b).toNat + 2 * cntC cs b := rfl
    rw [show orC (c :: cs) = c ||| orC cs from rfl, Nat.testBit_or, orC_bit cs b]
    rcases Bool.eq_false_or_eq_true (c.testBit b) with h | h
    · rw [h, Bool.toNat_true] at e
      rw [h, Bool.true_or, decide_eq_false (show ¬ cntC (c :: cs) b = 0 by omega)]; rfl
    · rw [h, Bool.toNat_false] at e
      rw [h, Bool.false_or]
      by_cases h0 : cntC cs b = 0
      · rw [decide_eq_true h0, decide_eq_true (show cntC (c :: cs) b = 0 by omega)]
      · rw [decide_eq_false h0, decide_eq_false (show ¬ cntC (c :: cs) b = 0 by omega)]
theorem noneC_lt (cs : List Nat) : noneC cs < 18446744073709551616 := by unfold noneC; omega
theorem noneC_bit {cs : List Nat} (h : W64 cs) {b : Nat} (hb : b < 64) : (noneC cs).testBit b = decide (cntC cs b = 0) := by
  have hl : orC cs < 2 ^ 64 := by simpa using orC_lt h
  unfold noneC
  rw [show 18446744073709551615 - orC cs = 2 ^ 64 - (orC cs + 1) by omega, Nat.testBit_two_pow_sub_succ hl, orC_bit, decide_eq_true hb]
  simp
theorem noneC_xor {cs : List Nat} (h : W64 cs) : bits BinOp.xor IntKind.u64 IntKind.u64.max ((orC cs : Nat) : Int) = ((noneC cs : Nat) : Int) := by
  have hl := orC_lt h
  have hl2 : orC cs < 2 ^ 64 := by simpa using hl
  have e : IntKind.u64.max = ((18446744073709551615 : Nat) : Int) := rfl
  rw [e, u64_xor_nat _ _ (by omega) hl]
  congr 1
  unfold noneC
  apply Nat.eq_of_testBit_eq; intro b
  rw [Nat.testBit_xor, show 18446744073709551615 - orC cs = 2 ^ 64 - (orC cs + 1) by omega, Nat.testBit_two_pow_sub_succ hl2, show (18446744073709551615 : Nat) = 2 ^ 64 - 1 by decide, Nat.testBit_two_pow_sub_one]
  rcases Nat.lt_or_ge b 64 with hb | hb
  · rw [decide_eq_true hb]; cases (orC cs).testBit b <;> rfl
  · rw [decide_eq_false (by omega), bit_out hl hb]; rfl
theorem orC_snoc (cs : List Nat) (c : Nat) : orC (cs ++ [c]) = orC cs ||| c := by
  induction cs with
  | nil => simp [orC]
  | cons d cs ih => simp only [List.cons_append, orC, ih, Nat.or_assoc]

/-! ### rows of counts -/
structure DimC (nw : Nat) (css : List (List Nat)) : Prop where
  len : css.length = nw
  row : ∀ c ∈ css, c.length = 13 ∧ W64 c
def cntQ (css : List (List Nat)) (j : Nat) : Nat := cntC (css.getD (j / 64) []) (j % 64)
theorem flat_len {css : List (List Nat)} (h : ∀ c ∈ css, c.length = 13) : css.flatten.length = 13 * css.length := by
  induction css with
  | nil => rfl
  | cons c css ih =>
    rw [List.flatten_cons, List.length_append, h c (by simp), ih (fun d hd => h d (List.mem_cons.2 (.inr hd))), List.length_cons]; omega
theorem flat_parts {css : List (List Nat)} {k : Nat} {c : List Nat} (h : css[k]? = some c) : css.flatten = (css.take k).flatten ++ c ++ (css.drop (k + 1)).flatten := by
  have hk := (List.getElem?_eq_some_iff.1 h)
  have e : css = css.take k ++ c :: css.drop (k + 1) := by
    rw [← hk.2, List.getElem_cons_drop, List.take_append_drop]
  conv => lhs; rw [e]
  rw [List.flatten_append, List.flatten_cons, List.append_assoc]
theorem flat_set {css : List (List Nat)} {k : Nat} {c d : List Nat} (h : css[k]? = some c) : (css.set k d).flatten = (css.take k).flatten ++ d ++ (css.drop (k + 1)).flatten := by
  have hk := (List.getElem?_eq_some_iff.1 h).1
  have h2 : (css.set k d)[k]? = some d := by rw [List.getElem?_set, if_pos rfl, if_pos hk]
  rw [flat_parts h2, List.take_set_of_le (Nat.le_refl _), List.drop_set_of_lt (by omega)]
theorem DimC.set {nw k : Nat} {css : List (List Nat)} (h : DimC nw css) {d : List Nat} (hd : d.length = 13 ∧ W64 d) : DimC nw (css.set k d) :=
  ⟨by rw [List.length_set]; exact h.len, fun c hc => by
    rcases List.mem_or_eq_of_mem_set hc with h1 | rfl
    · exact h.row c h1
    · exact hd⟩
theorem DimC.at_ {nw k : Nat} {css : List (List Nat)} (h : DimC nw css) (hk : k < nw) : ∃ c, css[k]? = some c ∧ css.getD k [] = c ∧ c.length = 13 ∧ W64 c := by
  have hl : k < css.length := by rw [h.len]; exact hk
  have h1 : css[k]? = some css[k] := List.getElem?_eq_getElem hl
  exact ⟨css[k], h1, getD_at h1, h.row _ (List.getElem_mem hl)⟩
theorem DimC.take_len {nw k : Nat} {css : List (List Nat)} (h : DimC nw css) (hk : k ≤ nw) : (css.take k).flatten.length = 13 * k := by
  rw [flat_len (fun c hc => (h.row c (List.mem_of_mem_take hc)).1), List.length_take, h.len, Nat.min_eq_left hk]
theorem DimC.zero (nw : Nat) : DimC nw (List.replicate nw (List.replicate 13 0)) := ⟨by simp, fun c hc => by
  rw [(List.mem_replicate.1 hc).2]
  exact ⟨by simp, fun x hx => by rw [(List.mem_replicate.1 hx).2]; omega⟩⟩
theorem cntC_zeros (n b : Nat) : cntC (List.replicate n 0) b = 0 := by
  induction n with
  | zero => rfl
  | succ n ih => simp [List.replicate_succ, cntC, ih]
theorem cntQ_zero (nw j : Nat) : cntQ (List.replicate nw (List.replicate 13 0)) j = 0 := by
  unfold cntQ
  rw [List.getD_eq_getElem?_getD, List.getElem?_replicate]
  split
  · exact cntC_zeros 13 _
  · rfl
theorem getD_set_at {α : Type} {l : List α} {k : Nat} {d : α} (hk : k < l.length) (x : α) (q : Nat) : (l.set k x).getD q d = if q = k then x else l.getD q d := by
  rw [List.getD_eq_getElem?_getD, List.getElem?_set]
  by_cases h : k = q
  · subst h; rw [if_pos rfl, if_pos hk, if_pos rfl]; rfl
  · rw [if_neg h, if_neg (fun e => h e.symm), ← List.getD_eq_getElem?_getD]
end Go.Proofs.Ytpgcokkmhlhnpaa
