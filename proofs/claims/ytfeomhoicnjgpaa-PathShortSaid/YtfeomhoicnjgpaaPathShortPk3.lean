/- A region that draws its order, walked by a plan (XPlan), whose last head results stand beside one another: behind the plan's calls come values that hang on no memory ('extract': a call's second result), which may come up between the stores behind; then a tail. What lies ahead of the tail is found by what waits for what. No function of the program is named here. Contracts of the document's own answers for matrices: Of. Plain facts of matrices that may be: parts of one another, together, whether a pair is there. Words for memory: a variable that holds a matrix, with its rows. No function of the program is named here. Plain mathematics of what follows from pairs: hulls, as the least closed ones. Nothing of the program is named. Plain mathematics of layer 14: ways, first paths, how far a number is. Nothing of the program is named. Plain mathematics of a search breadth first: why the path by which a number is met first is the first path. Nothing of the program is named. A queue of numbers of a call's own: 'q = q[1:]', 'q = append(q, x)'. No function of the program is named here. And the search over a matrix's pairs, as plain mathematics. A search breadth first over a matrix, its memory: who isn't met as a row of bits, from whom as numbers, the queue. No function of the program is named. -/
import Derived.Test.YtfeomhoicnjgpaaPathShortPk2
import Derived.ArgAppend
import Derived.Test.YtfeomhoicnjgpaaPathShortPk1
namespace Go.Proofs.Ytfeomhoicnjgpaa
open Go.RowKit

section
variable {P : Program} {ops : Array Oper} {md : Region.Mode} {Q : Exit → Act → World → Prop}

/-- does t wait for i, through others too? -/
def awaitsB (md : Region.Mode) (ops : Array Oper) : Nat → Nat → Nat → Bool
  | 0, _, _ => false
  | f + 1, t, i => match ops[t]? with
    | none => false
    | some o => o.after.any fun e => Region.binds md e && (e.on == i || awaitsB md ops f e.on i)
theorem awaits_listed {n : Nat} {listed : Array Bool} (inv : HeadInv md ops n listed) : ∀ (f t i : Nat) (o : Oper), ops[t]? = some o →
    (∀ e ∈ o.after, Region.binds md e = true → listed.getD e.on false = true) → awaitsB md ops f t i = true → listed.getD i false = true
  | 0, _, _, _, _, _, h => by simp [awaitsB] at h
  | f + 1, t, i, o, ho, hall, h => by
    simp only [awaitsB, ho] at h
    obtain ⟨e, he, hb⟩ := Array.any_eq_true'.1 h
    simp only [Bool.and_eq_true, Bool.or_eq_true, beq_iff_eq] at hb
    have h1 := hall e he hb.1
    rcases hb.2 with h2 | h2
    · rw [← h2]; exact h1
    · cases ho2 : ops[e.on]? with
      | none => cases f with
        | zero => simp [awaitsB] at h2
        | succ f => simp [awaitsB, ho2] at h2
      | some o2 => exact awaits_listed inv f e.on i o2 ho2 (fun e' he' hb' => inv.closed _ _ ho2 h1 e' he' hb') h2
/-- each operation behind the first n waits for each of them -/
def lateB (md : Region.Mode) (ops : Array Oper) (n : Nat) : Bool :=
  (List.range ops.size).all fun t => decide (t < n) || (List.range n).all fun i => awaitsB md ops ops.size t i
theorem late_waits {n : Nat} (h : lateB md ops n = true) (listed : Array Bool) (inv : HeadInv md ops n listed) (i : Nat) (hin : i < n) (hun : listed.getD i true = false) (t : Nat) (ht : n ≤ t) : t ∉ Region.ready md ops listed := by
  intro hr
  obtain ⟨_, ot, hot, hall⟩ := mem_ready.1 hr
  have htl := (Array.getElem?_eq_some_iff.1 hot).1
  have h1 := List.all_eq_true.1 h t (List.mem_range.2 htl)
  simp only [Bool.or_eq_true, decide_eq_true_eq] at h1
  rcases h1 with h1 | h1
  · omega
  · have h2 := List.all_eq_true.1 h1 i (List.mem_range.2 hin)
    have h3 := awaits_listed inv _ t i ot hot hall h2
    rw [getD_both hun] at h3
    cases h3

/-- the second half's check -/
def planT (md : Region.Mode) (ops : Array Oper) (m : Nat) : List Nat → Array Bool → Bool
  | [], listed => Region.seqB md ops (ops.size - m) m listed
  | i :: rest, listed => (Region.ready md ops listed).contains i && Region.free md ops listed i && planT md ops m rest (listed.setIfInBounds i true)
def planH (md : Region.Mode) (ops : Array Oper) (n m : Nat) (pl2 : List Nat) : List (Bool × Nat) → Array Bool → Bool
  | [], listed => (Region.ready md ops listed).all (fun j => decide (n ≤ j)) && planT md ops m pl2 listed
  | (b, i) :: rest, listed => decide (i < n) && (if b then (Region.ready md ops listed).contains i && Region.free md ops listed i else decide (Region.ready md ops listed = [i])) && planH md ops n m pl2 rest (listed.setIfInBounds i true)
def planAllT (md : Region.Mode) (ops : Array Oper) (n : Nat) (pl : List (Bool × Nat)) (m : Nat) (pl2 : List Nat) : Bool :=
  Region.noSelect ops && decide (pl.length = n) && decide (n + pl2.length = m) && decide (m ≤ ops.size) && lateB md ops n && planH md ops n m pl2 pl (Array.replicate ops.size false)

/-- the walk of the second half -/
def wpPlanT (P : Program) (ops : Array Oper) (Q : Exit → Act → World → Prop) (tail : List Oper) : List Nat → Act → World → Prop
  | [], a, w => wpList P ops Q tail a w
  | i :: rest, a, w => ∃ o v, ops[i]? = some o ∧ Yields P ops o v a ∧ wpPlanT P ops Q tail rest (a.put o.dst v) w
/-- the walk of the first half -/
def wpPlanE (P : Program) (ops : Array Oper) (Q : Exit → Act → World → Prop) (tail : List Oper) (pl2 : List Nat) : List (Bool × Nat) → Act → World → Prop
  | [], a, w => wpPlanT P ops Q tail pl2 a w
  | (true, i) :: rest, a, w => ∃ o v, ops[i]? = some o ∧ YieldsIf P ops (fun x => Below w.heap.size w x) o v a ∧ wpPlanE P ops Q tail pl2 rest (a.put o.dst v) w
  | (false, i) :: rest, a, w => wpOp P ops Q i (fun a' w' => Below w.heap.size w w' ∧ wpPlanE P ops Q tail pl2 rest a' w') a w

theorem wpAny_planT {m : Nat} {tail : List Oper} (htail : ∀ j, tail[j]? = ops[m + j]?) (hlen : tail.length = ops.size - m) (hsel : Region.noSelect ops = true) (hQ : ∀ c a d v w, Q (.panic c) (a.put d v) w → Q (.panic c) a w) :
    ∀ (pl2 : List Nat) (listed : Array Bool) (a : Act) (w : World), planT md ops m pl2 listed = true → wpPlanT P ops Q tail pl2 a w → wpAny P md ops Q (pl2.length + (ops.size - m)) listed a w
  | [], listed, a, w, hB, h => by
    rw [List.length_nil, Nat.zero_add, ← hlen]
    exact wpAny_of_seq tail m listed a w htail (by rw [hlen]; exact hB) h
  | i :: rest, listed, a, w, hB, h => by
    simp only [planT, Bool.and_eq_true] at hB
    obtain ⟨⟨hr, hf⟩, hB'⟩ := hB
    obtain ⟨o, v, ho, hy, h'⟩ := h
    rw [List.length_cons, show rest.length + 1 + (ops.size - m) = (rest.length + (ops.size - m)) + 1 by omega]
    exact wpAny_take ho hsel hf hr (fun c a w => hQ c a o.dst v w) hy (wpAny_planT htail hlen hsel hQ rest _ _ _ hB' h')

theorem wpAnyR_planE {n m : Nat} {tail : List Oper} {pl2 : List Nat} (hsel : Region.noSelect ops = true) (hQ : ∀ c a d v w, Q (.panic c) (a.put d v) w → Q (.panic c) a w)
    (hlate : ∀ listed, HeadInv md ops n listed → ∀ i, i < n → listed.getD i true = false → ∀ t, n ≤ t → t ∉ Region.ready md ops listed) :
    ∀ (pl : List (Bool × Nat)) (listed : Array Bool) (a : Act) (w : World), HeadInv md ops n listed → planH md ops n m pl2 pl listed = true → wpPlanE P ops Q tail pl2 pl a w →
    wpAnyR P md ops Q n (fun listed' a' w' => ((Region.ready md ops listed').all (fun j => decide (n ≤ j)) = true ∧ planT md ops m pl2 listed' = true) ∧ wpPlanT P ops Q tail pl2 a' w') pl.length listed a w
  | [], listed, a, w, _, hB, h => ⟨by simpa [planH] using hB, h⟩
  | (true, i) :: rest, listed, a, w, inv, hB, h => by
    simp only [planH, if_true, Bool.and_eq_true, decide_eq_true_eq] at hB
    obtain ⟨⟨hin, hr, hf⟩, hB'⟩ := hB
    obtain ⟨o, v, ho, hy, h'⟩ := h
    have hr' : i ∈ Region.ready md ops listed := by simpa using hr
    exact wpAnyR_first ho (Region.noSelect_spec hsel) (fun c a w => hQ c a o.dst v w) (fun l hl hu => hlate l hl i hin hu) hin (fun listed' a' w' hL j hj => by simpa using List.all_eq_true.1 hL.1.1 j hj) rest.length listed a w inv (Region.free_spec ho hf) hr' hy
      (wpAnyR_planE hsel hQ hlate rest _ _ _ (inv.set hr' hin) hB' h')
  | (false, i) :: rest, listed, a, w, inv, hB, h => by
    simp only [planH, Bool.false_eq_true, if_false, Bool.and_eq_true, decide_eq_true_eq] at hB
    obtain ⟨⟨hin, hr⟩, hB'⟩ := hB
    have hr' : i ∈ Region.ready md ops listed := by rw [hr]; simp
    refine ⟨by rw [hr]; simp, fun j hj => ?_⟩
    rw [hr] at hj
    have hji : j = i := by simpa using hj
    subst hji
    exact ⟨hin, wpOp_mono (fun a' w' h3 => ⟨h3.1, wpAnyR_planE hsel hQ hlate rest _ a' w' (inv.set hr' hin) hB' h3.2⟩) h⟩

theorem wp_region_planT {id : Nat} {a : Act} {w : World} {l : List Oper} (n : Nat) (pl : List (Bool × Nat)) (m : Nat) (pl2 : List Nat) (hm : P.follows .mixedOrders = true) (hB : planAllT .any l.toArray n pl m pl2 = true)
    (h : ∀ W : World, Hid (W = w.drew) → wpPlanE P l.toArray (NoPanic Q) (l.drop m) pl2 pl a W) : (Code.region id l.toArray true).wp P Q a w := by
  refine wp_region_noPanic ?_
  have hQ : ∀ c a d v w, NoPanic Q (.panic c) (a.put d v) w → NoPanic Q (.panic c) a w := fun _ _ _ _ _ h => h
  simp only [planAllT, Bool.and_eq_true, decide_eq_true_eq] at hB
  obtain ⟨⟨⟨⟨⟨hsel, hlen⟩, hnm⟩, hmz⟩, hlate⟩, hpl⟩ := hB
  have hdl : (l.drop m).length = l.toArray.size - m := by simp
  have inv0 : HeadInv .any l.toArray n (Array.replicate l.toArray.size false) :=
    ⟨by simp, fun j oj _ hl => (by rw [getD_replicate_false] at hl; cases hl), fun t _ ht => getD_in (by simpa using ht) (getD_replicate_false _ _)⟩
  have H := wpAnyR_planE (md := .any) (m := m) hsel hQ (fun listed inv i hin hun t ht => late_waits hlate listed inv i hin hun t ht) pl _ a w.drew inv0 hpl (h w.drew (Lib.hid rfl))
  refine wp_region_any hm ?_
  have := wpAny_of_R (Q := NoPanic Q) (g := pl2.length + (l.toArray.size - m)) (fun listed a' w' hL =>
    wpAny_planT (md := .any) (fun j => by simp [List.getElem?_drop]) hdl hsel hQ pl2 listed a' w' hL.1.2 hL.2) _ _ _ _ H
  rw [hlen, show n + (pl2.length + (l.toArray.size - m)) = l.toArray.size by omega] at this
  exact this

/-! ### the steps -/
section
variable {tail : List Oper} {pl2 : List Nat} {rest : List (Bool × Nat)} {a : Act} {w : World} {i : Nat} {o : Oper}
theorem wpPlanE_float {v : Value} (hi : ops[i]? = some o) (hw : Region.wanted o (yielded ops a.tmps) = true)
    (hy : ∀ w' : World, (∀ p, (w.cell? p).isSome = true → w'.cell? p = w.cell? p) → (execOp a.eval o).run P w' = .ok (.value v) w') (h : ∀ K : Act → Prop, (∀ a', wpPlanE P ops Q tail pl2 rest a' w → K a') → K (a.put o.dst v)) : wpPlanE P ops Q tail pl2 ((true, i) :: rest) a w :=
  ⟨o, v, hi, .inl ⟨hw, fun w' hb => hy w' (fun p hp => by
    have hlt : p.block < w.heap.size := by
      cases hc : w.cell? p with
      | none => rw [hc] at hp; cases hp
      | some u => exact block_lt_of_cell hc
    exact hb.cell hlt)⟩, h _ (fun _ h => h)⟩
theorem wpPlanE_only (hi : ops[i]? = some o) (hw : Region.wanted o (yielded ops a.tmps) = true)
    (h : ∀ K : Act → World → Prop, (∀ a' w', Below w.heap.size w w' → wpPlanE P ops Q tail pl2 rest a' w' → K a' w') → o.wp P a w K Q) : wpPlanE P ops Q tail pl2 ((false, i) :: rest) a w := by
  show wpOp P ops Q i _ a w
  unfold wpOp
  simp only [hi, hw, if_true]
  exact .inl (h _ (fun a' w' hb hp => ⟨hb, hp⟩))
theorem wpPlanE_nil (h : wpPlanT P ops Q tail pl2 a w) : wpPlanE P ops Q tail pl2 [] a w := h
theorem wpPlanT_float {v : Value} {rest : List Nat} (hi : ops[i]? = some o) (hw : Region.wanted o (yielded ops a.tmps) = true)
    (hy : ∀ w' : World, (execOp a.eval o).run P w' = .ok (.value v) w') (h : ∀ K : Act → Prop, (∀ a', wpPlanT P ops Q tail rest a' w → K a') → K (a.put o.dst v)) : wpPlanT P ops Q tail (i :: rest) a w :=
  ⟨o, v, hi, .inl ⟨hw, hy⟩, h _ (fun _ h => h)⟩
theorem wpPlanT_nil (h : wpList P ops Q tail a w) : wpPlanT P ops Q tail [] a w := h
end
end
end Go.Proofs.Ytfeomhoicnjgpaa

namespace Go.Proofs.Ytfeomhoicnjgpaa
open Go.RowKit
set_option linter.unusedVariables false

theorem Row.putB {w : World} {M : Nat} {t : TypeId} {N : Int} {A : Option Addr} {n c : Nat} (hM : MatB w M t N A n c) {B : Option Addr} {m : Nat} {xs : List Nat} (h : Row w B m xs) (x y : Value) :
    Row ((w.setCell ⟨M, 0, none⟩ x).setCell ⟨M, 1, none⟩ y) B m xs := by
  rcases Nat.eq_zero_or_pos m with rfl | hm
  · rw [List.eq_nil_of_length_eq_zero h.len]; exact Row.nil _ _
  · have hne : ∀ ad, B = some ad → ad.block ≠ M := by
      intro ad e hb
      obtain ⟨b, off, x, e2, _, _, _, hc⟩ := h.at_ hm
      rw [e] at e2
      cases e2
      have hb' : b = M := hb
      subst hb'
      rw [Blk.cell hM] at hc
      match off + 0, hc with
      | 0, hc => simp at hc
      | 1, hc => simp at hc
      | k + 2, hc => simp at hc
    exact (h.setCell hne x).setCell hne y
theorem RowsAt.putB {w : World} {M : Nat} {t : TypeId} {N : Int} {A : Option Addr} {n c : Nat} (hM : MatB w M t N A n c) {B : Option Addr} {m : Nat} {xss : List (List Nat)} (h : RowsAt w B m xss) (hne : 0 < m → ∀ ad, B = some ad → ad.block ≠ M) (x y : Value) :
    RowsAt ((w.setCell ⟨M, 0, none⟩ x).setCell ⟨M, 1, none⟩ y) B m xss := by
  obtain ⟨vs, h1, h2⟩ := h
  refine ⟨vs, ?_, h2.1, fun i v xs a b => ?_⟩
  · rcases Nat.eq_zero_or_pos m with rfl | hm
    · rw [h1.of_nil]; exact Rd.nil _ _
    · exact (h1.setCell (hne hm) x).setCell (hne hm) y
  · obtain ⟨B', m', c', e, hr⟩ := h2.2 i v xs a b
    exact ⟨B', m', c', e, hr.putB hM x y⟩
theorem RowsAt.block_lt {w : World} {A : Option Addr} {n : Nat} {xss : List (List Nat)} (h : RowsAt w A n xss) (hn : 0 < n) : ∀ ad, A = some ad → ad.block < w.heap.size := by
  intro ad e
  obtain ⟨vs, h1, _⟩ := h
  obtain ⟨b, off, e2, hb, _⟩ := h1.2 hn
  rw [e] at e2; cases e2; exact hb
/-- what is known of m and the error at each round's head -/
def OfS (R M n : Nat) (ps : List (Int × Int)) (k : Nat) (wr : World) (er N' : Int) (A' : Option Addr) (n' c' : Nat) : Prop :=
  (er = 0 ∧ N' = n ∧ n' = n ∧ RowsAt wr A' n' (foldP n (ps.take k)) ∧ n' ≤ c' ∧ (∀ x ∈ ps.take k, okP n x = true) ∧ (0 < n' → ∀ ad, A' = some ad → R < ad.block ∧ ad.block ≠ M)) ∨ (er = 1 ∧ ∃ x ∈ ps, okP n x = false)
set_option maxHeartbeats 400000 in
theorem ref3_Of_big (n : Int) (h : n < 0 ∨ 4097 ≤ n) (A : Option Addr) (m c : Nat) (hm : m ≤ 1073741824) (w : World) :
    Calls Try.prog 40 #[.int .i64 n, .slice A m c] w (RetMat 0 [] 1 w) := by
  have hN := Lib.hid (ref3_New_no n h)
  obtain ⟨W0, hW0⟩ : ∃ W0, W0 = w.alloc (.cells #[.int .i64 0, .slice none 0 0] 39) := ⟨_, rfl⟩
  have ha : Below w.heap.size w W0 := by rw [hW0]; exact (Below.refl _ _).alloc (Nat.le_refl _) _
  have hB : MatB W0 w.heap.size 39 0 none 0 0 := by rw [hW0]; exact MatB.new w _
  replace ha := Lib.hid ha
  replace hB := Lib.hid hB
  clear h
  go_enter Try.func40, Try.ntmps40
  go_wp2_with fail
  rw [← hW0]
  clear hW0
  refine (hN.out _).mono ?_; rintro e w1 ⟨C, p, q, rfl, _, _, hb1⟩
  obtain ⟨W2, hW2⟩ : ∃ W2, W2 = w1.alloc (.cells #[.int .i64 0, .slice C p q] 39) := ⟨_, rfl⟩
  have hb2 : Below w1.heap.size w1 W2 := by rw [hW2]; exact (Below.refl _ _).alloc (Nat.le_refl _) _
  have hbb := Lib.hid (below_trans2 (below_trans2 ha.out hb1) hb2)
  have hB1 := (hB.out.below_ hb1).below_ hb2
  have f20 := hB1.c0
  have f21 := hB1.c1
  have g20 := hB1.frozen 0
  have g21 := hB1.frozen 1
  have hcc := hB1.two (.int .i64 0) (.slice none 0 0)
  have hc1 := Lib.hid hcc.1
  have hc2 := Lib.hid hcc.2
  clear hb1 hb2 hcc hB1
  go_wp2_with fail
  rw [← hW2]
  clear hW2
  by_cases hm0 : 0 < m
  · go_loop [7, 8] (fun e i => e = .int .i64 1 ∧ i = .int .i64 0) (fun _ _ => 0)
    case atStart => exact ⟨rfl, rfl⟩
    case round =>
      obtain ⟨rfl, rfl⟩ := hrel
      go_wp2_with fail
      exact bodyPost_ret (v := .tuple #[.agg #[.int .i64 0, .slice none 0 0], .int .i64 1]) (by simp [results, Try.results40, go_sem, hc1.out, hc2.out]) rfl ⟨none, 0, 0, rfl, RowsAt.nil _ _, Nat.le_refl _, (hbb.out.setCell (by simp) _).setCell (by simp) _⟩
  · obtain rfl : m = 0 := by omega
    go_loop [7, 8] (fun e i => e = .int .i64 1 ∧ i = .int .i64 0) (fun _ _ => 0)
    case atStart => exact ⟨rfl, rfl⟩
    case round =>
      obtain ⟨rfl, rfl⟩ := hrel
      go_wp2_with fail
      exact bodyPost_ret (v := .tuple #[.agg #[.int .i64 0, .slice none 0 0], .int .i64 1]) (by simp [results, Try.results40, go_sem, hc1.out, hc2.out]) rfl ⟨none, 0, 0, rfl, RowsAt.nil _ _, Nat.le_refl _, (hbb.out.setCell (by simp) _).setCell (by simp) _⟩

set_option maxRecDepth 100000 in
set_option maxHeartbeats 2000000 in
theorem ref3_Of_in (n : Nat) (hn : n ≤ 4096) (A : Option Addr) (m c : Nat) (ps : List (Int × Int)) (w : World) (hp : PairsAt w A m ps) (hm : m ≤ 1073741824) :
    Calls Try.prog 40 #[.int .i64 (n : Int), .slice A m c] w (RetMat (ofN n ps) (ofM n ps) (ofE n ps) w) := by
  have hN := Lib.hid (ref3_NewF n hn)
  have hin : belowZ (n : Int) 4097 = true := belowZ_yes (by omega) (by omega)
  obtain ⟨W0, hW0⟩ : ∃ W0, W0 = w.alloc (.cells #[.int .i64 0, .slice none 0 0] 39) := ⟨_, rfl⟩
  have ha : Below w.heap.size w W0 := by rw [hW0]; exact (Below.refl _ _).alloc (Nat.le_refl _) _
  have hB : MatB W0 w.heap.size 39 0 none 0 0 := by rw [hW0]; exact MatB.new w _
  have hyes : Hid (ps.all (okP n) = true → ofN n ps = n ∧ ofM n ps = foldP n ps ∧ ofE n ps = 0) := Lib.hid (fun h => by unfold ofN ofM ofE ofOk; rw [hin, h]; simp)
  have hno : Hid (∀ p ∈ ps, okP n p = false → ofN n ps = 0 ∧ ofM n ps = [] ∧ ofE n ps = 1) := Lib.hid (fun p hp h => by
    have : ps.all (okP n) = false := List.all_eq_false.2 ⟨p, hp, by rw [h]; simp⟩
    unfold ofN ofM ofE ofOk; rw [hin, this]; simp)
  replace ha := Lib.hid ha
  replace hB := Lib.hid hB
  replace hp := Lib.hid hp
  clear hin
  go_enter Try.func40, Try.ntmps40
  go_wp2_with fail
  rw [← hW0]
  clear hW0
  refine (hN.out _).mono ?_; rintro e w1 ⟨C, p, q, rfl, hrows, hcap, hb1, hfarC0⟩
  have hpn : p = n := by rw [← hrows.len]; exact (DimM.new n).1
  subst hpn
  have hsz0 := hB.out.lt
  have hfarC : Hid (∀ ad, C = some ad → w.heap.size < ad.block) := Lib.hid (fun ad e => by have := hfarC0 ad e; omega)
  clear hfarC0 hsz0
  obtain ⟨M, hM⟩ : ∃ M, M = w1.heap.size := ⟨_, rfl⟩
  obtain ⟨W2, hW2⟩ : ∃ W2, W2 = w1.alloc (.cells #[.int .i64 p, .slice C p q] 39) := ⟨_, rfl⟩
  have hb2 : Below w1.heap.size w1 W2 := by rw [hW2]; exact (Below.refl _ _).alloc (Nat.le_refl _) _
  have hbb : Below w.heap.size w W2 := below_trans2 (below_trans2 ha.out hb1) hb2
  have hS : OfS w.heap.size M p ps 0 W2 0 p C p q := .inl ⟨rfl, rfl, rfl, by rw [List.take_zero, foldP_nil]; exact hrows.below hb2, hcap, by simp, fun h0 ad e => by have := hrows.block_lt h0 ad e; have := hfarC.out ad e; omega⟩
  have hR : MatB W2 w.heap.size 39 0 none 0 0 := (hB.out.below_ hb1).below_ hb2
  have hL : MatB W2 M 39 p C p q := by rw [hW2, hM]; exact MatB.new w1 _
  have hMw : w.heap.size < M := by have h1 := (hB.out.below_ hb1).lt; omega
  replace hbb := Lib.hid hbb
  replace hS := Lib.hid hS
  replace hR := Lib.hid hR
  replace hL := Lib.hid hL
  clear hrows hb1 hb2 hN hcap hfarC
  go_wp2_with fail
  rw [← hW2, ← hM]
  clear hW2 hM
  go_loopw [7, 8] (fun e i wr => ∃ (k : Nat) (er N' : Int) (A' : Option Addr) (n' c' : Nat), k ≤ m ∧ e = .int .i64 er ∧ i = .int .i64 k ∧ Hid (OfS w.heap.size M p ps k wr er N' A' n' c') ∧ Hid (MatB wr w.heap.size 39 0 none 0 0) ∧ Hid (MatB wr M 39 N' A' n' c') ∧ Hid (Below w.heap.size w wr)) (fun _ i _ => m - (intOf i).toNat)
  case atStart => exact ⟨0, 0, _, _, _, _, Nat.zero_le _, rfl, rfl, hS, hR, hL, hbb⟩
  case round =>
    obtain ⟨k, er, N', A', n', c', hk, rfl, rfl, hSr, hRr, hLr, hbr⟩ := hrel
    clear hS hR hL hbb
    rcases hSr.out with ⟨e0, e1, e2, hrr, hcap, hall, hfar⟩ | ⟨e1, x, hx, hxf⟩
    · subst e0 e1
      obtain rfl : p = n' := e2.symm
      by_cases hlt : k < m
      · obtain ⟨b, off, ⟨x, y⟩, rfl, hbl, hx, ⟨⟨x1, x2⟩, ⟨y1, y2⟩⟩, hc1, hc2⟩ := (hp.out.below hbr.out).at_ hlt
        simp only at x1 x2 y1 y2 hc1 hc2
        have hok1 : okP p (x, y) = true → ∀ z ∈ ps.take (k + 1), okP p z = true := fun h z hz => by
          rw [List.take_succ_eq_append_getElem (List.getElem?_eq_some_iff.1 hx).1, (List.getElem?_eq_some_iff.1 hx).2] at hz
          rcases List.mem_append.1 hz with h5 | h5
          · exact hall z h5
          · rw [List.mem_singleton.1 h5]; exact h
        have hfold := foldP_snoc p ps k _ hx
        have hmem := List.mem_of_getElem? hx
        have hdim := DimM.fold p (ps.take k)
        have hlr : ∀ xs ∈ foldP p (ps.take k), xs.length ≤ 1024 := fun xs hxs => by
          obtain ⟨i, hi⟩ := List.getElem?_of_mem hxs
          have := hdim.2 i xs hi
          have := words_le hn
          omega
        have l0 := hLr.out.c0
        have l1 := hLr.out.c1
        have hk0 : (0 : Int) ≤ (k : Int) := by omega
        have hkm : (k : Int) < (m : Int) := by omega
        have hcall : Hid (∀ W, RowsAt W A' p (foldP p (ps.take k)) → ∃ (N2 : Int) (xss2 : List (List Nat)) (er2 : Int), Calls Try.prog 52 #[.agg #[.int .i64 (p : Int), .slice A' p c'], .int .i64 x, .int .i64 y] W (RetMatF N2 xss2 er2 W) ∧ ((er2 = 0 ∧ N2 = p ∧ xss2 = foldP p (ps.take (k + 1)) ∧ ∀ z ∈ ps.take (k + 1), okP p z = true) ∨ (er2 = 1 ∧ ∃ z ∈ ps, okP p z = false))) := Lib.hid (fun W hW => by
          rcases Bool.eq_false_or_eq_true (okP p (x, y)) with hok | hok
          · exact ⟨_, _, _, ref3_SetF (p : Int) A' p c' _ x y W hW rfl hn hlr hok, .inl ⟨rfl, rfl, hfold.symm, hok1 hok⟩⟩
          · exact ⟨_, _, _, ref3_Set_noF (p : Int) A' p c' x y W hok, .inr ⟨rfl, _, hmem, hok⟩⟩)
        replace hrr := Lib.hid hrr
        clear hx hok1 hfold hmem hdim hlr hall hSr
        go_wp2_with fail
        refine wp_region_planT 13 [(true, 0), (true, 1), (true, 2), (true, 3), (true, 4), (true, 5), (true, 6), (true, 7), (true, 8), (true, 9), (true, 10), (false, 11), (true, 12)] 15 [13, 14] (by kernel_rfl) (by kernel_rfl) (fun W hW => ?_)
        have p0 : W.cell? ⟨M, 0, none⟩ = some (.int .i64 p) := by rw [hW.out]; exact l0
        have p1 : W.cell? ⟨M, 1, none⟩ = some (.slice A' p c') := by rw [hW.out]; exact l1
        have p2 : W.cell? ⟨b, off + k * 2, none⟩ = some (.int .i64 x) := by rw [hW.out]; exact hc1
        have p3 : W.cell? ⟨b, off + k * 2 + 1, none⟩ = some (.int .i64 y) := by rw [hW.out]; exact hc2
        obtain ⟨N2, xss2, er2, hC, hdone⟩ := hcall.out W (by rw [hW.out]; exact hrr.out)
        have hRW := Lib.hid (show MatB W w.heap.size 39 0 none 0 0 by rw [hW.out]; exact Blk.drew hRr.out)
        have hLW := Lib.hid (show MatB W M 39 p A' p c' by rw [hW.out]; exact Blk.drew hLr.out)
        have hbW := Lib.hid (show Below w.heap.size w W by rw [hW.out]; exact hbr.out.drew)
        replace hC := Lib.hid hC
        replace hdone := Lib.hid hdone
        clear l0 l1 hc1 hc2 hRr hLr hbr hrr hcall
        simp only [List.drop_succ_cons, List.drop_zero]
        iterate 11
          refine wpPlanE_float (v := ?_) rfl (by rfl) (fun w' hw' => ?_) (fun K hK => ?_)
          rotate_left
          · (go_simp; try with_reducible rfl)
          go_simp
          refine hK _ ?_
          clear hK K
        refine wpPlanE_only rfl (by rfl) (fun K hK => ?_)
        go_simp
        refine hC.out.mono ?_
        rintro e w4 ⟨C2, n2, c2, rfl, hrows2, hcap2, hb4, hfar2⟩
        refine hK _ _ hb4 ?_
        clear hK K p0 p1 p2 p3
        have hR4 := Lib.hid (hRW.out.below_ hb4)
        have hL4 := hLW.out.below_ hb4
        have hbb4 := below_trans2 hbW.out hb4
        iterate 1
          refine wpPlanE_float (v := ?_) rfl (by rfl) (fun w' hw' => ?_) (fun K hK => ?_)
          rotate_left
          · (go_simp; try with_reducible rfl)
          go_simp
          refine hK _ ?_
          clear hK K
        refine wpPlanE_nil ?_
        iterate 2
          refine wpPlanT_float (v := ?_) rfl (by rfl) (fun w' => ?_) (fun K hK => ?_)
          rotate_left
          · (go_simp; try with_reducible rfl)
          go_simp
          refine hK _ ?_
          clear hK K
        refine wpPlanT_nil ?_
        have f0 := hL4.c0
        have f1 := hL4.c1
        have g0 := hL4.frozen 0
        have g1 := hL4.frozen 1
        have hLf := Lib.hid (hL4.put N2 C2 n2 c2)
        have hRf := Lib.hid ((hR4.out.farB (p := ⟨M, 0, none⟩) (by simp <;> omega) (.int .i64 N2)).farB (p := ⟨M, 1, none⟩) (by simp <;> omega) (.slice C2 n2 c2))
        have hbf := Lib.hid ((hbb4.setCell (p := ⟨M, 0, none⟩) (by simp <;> omega) (.int .i64 N2)).setCell (p := ⟨M, 1, none⟩) (by simp <;> omega) (.slice C2 n2 c2))
        have hMW : M < W.heap.size := hLW.out.lt
        have hrows5 := Lib.hid (hrows2.putB hL4 (fun _ ad e => by have := hfar2 ad e; omega) (.int .i64 N2) (.slice C2 n2 c2))
        have hS5 : Hid (OfS w.heap.size M p ps (k + 1) ((w4.setCell ⟨M, 0, none⟩ (.int .i64 N2)).setCell ⟨M, 1, none⟩ (.slice C2 n2 c2)) er2 N2 C2 n2 c2) := Lib.hid (by
          rcases hdone.out with ⟨d0, d1, d2, d3⟩ | ⟨d0, d1⟩
          · subst d0 d1 d2
            have hl := hrows5.out.len
            rw [(DimM.fold p (ps.take (k + 1))).1] at hl
            exact .inl ⟨rfl, rfl, hl.symm, hrows5.out, hcap2, d3, fun _ ad e => by have := hfar2 ad e; omega⟩
          · exact .inr ⟨d0, d1⟩)
        clear hrows2 hrows5 hdone hfar2
        replace hL4 := Lib.hid hL4
        clear hb4 hbb4
        go_wp2_with fail
        refine NoPanic.normal ?_
        go_wp2_with fail
        go_roundw
        case rel => exact ⟨k + 1, er2, N2, C2, n2, c2, by omega, rfl, rfl, hS5, hRf, hLf, hbf⟩
        case measure => simp [intOf]; omega
      · obtain rfl : k = m := by omega
        have hfull : ps.take k = ps := by rw [← hp.out.1]; exact List.take_length
        rw [hfull] at hrr hall
        obtain ⟨y1, y2, y3⟩ := hyes.out (List.all_eq_true.2 hall)
        have l0 := hLr.out.c0
        have l1 := hLr.out.c1
        have f0 := hRr.out.c0
        have f1 := hRr.out.c1
        have g0 := hRr.out.frozen 0
        have g1 := hRr.out.frozen 1
        have hcc := hRr.out.two (.int .i64 p) (.slice A' p c')
        have hc1 := Lib.hid hcc.1
        have hc2 := Lib.hid hcc.2
        have hfin : Below w.heap.size w ((wr.setCell ⟨w.heap.size, 0, none⟩ (.int .i64 p)).setCell ⟨w.heap.size, 1, none⟩ (.slice A' p c')) := (hbr.out.setCell (by simp) _).setCell (by simp) _
        have hrf := Lib.hid (hrr.putB hRr.out (fun h0 ad e => by have := (hfar h0 ad e).1; omega) (.int .i64 p) (.slice A' p c'))
        replace y1 := Lib.hid y1
        replace y2 := Lib.hid y2
        replace y3 := Lib.hid y3
        replace hfin := Lib.hid hfin
        clear hcc hall hSr hfull hfar hrr
        go_wp2_with fail
        exact bodyPost_ret (v := .tuple #[.agg #[.int .i64 p, .slice A' p c'], .int .i64 0]) (by simp [results, Try.results40, go_sem, hc1.out, hc2.out]) rfl ⟨A', p, c', by rw [y1.out, y3.out], by rw [y2.out]; exact hrf.out, hcap, hfin.out⟩
    · subst e1
      obtain ⟨y1, y2, y3⟩ := hno.out x hx hxf
      have f0 := hRr.out.c0
      have f1 := hRr.out.c1
      have g0 := hRr.out.frozen 0
      have g1 := hRr.out.frozen 1
      have hcc := hRr.out.two (.int .i64 0) (.slice none 0 0)
      have hc1 := Lib.hid hcc.1
      have hc2 := Lib.hid hcc.2
      replace y1 := Lib.hid y1
      replace y2 := Lib.hid y2
      replace y3 := Lib.hid y3
      have hfin : Below w.heap.size w ((wr.setCell ⟨w.heap.size, 0, none⟩ (.int .i64 0)).setCell ⟨w.heap.size, 1, none⟩ (.slice none 0 0)) := (hbr.out.setCell (by simp) _).setCell (by simp) _
      replace hfin := Lib.hid hfin
      clear hcc hSr hx hxf
      by_cases hlt : k < m
      · go_wp2_with fail
        exact bodyPost_ret (v := .tuple #[.agg #[.int .i64 0, .slice none 0 0], .int .i64 1]) (by simp [results, Try.results40, go_sem, hc1.out, hc2.out]) rfl ⟨none, 0, 0, by rw [y1.out, y3.out], by rw [y2.out]; exact RowsAt.nil _ _, Nat.le_refl _, hfin.out⟩
      · obtain rfl : k = m := by omega
        go_wp2_with fail
        exact bodyPost_ret (v := .tuple #[.agg #[.int .i64 0, .slice none 0 0], .int .i64 1]) (by simp [results, Try.results40, go_sem, hc1.out, hc2.out]) rfl ⟨none, 0, 0, by rw [y1.out, y3.out], by rw [y2.out]; exact RowsAt.nil _ _, Nat.le_refl _, hfin.out⟩
theorem ref3_Of (n : Int) (A : Option Addr) (m c : Nat) (ps : List (Int × Int)) (w : World) (hp : PairsAt w A m ps) (hm : m ≤ 1073741824) :
    Calls Try.prog 40 #[.int .i64 n, .slice A m c] w (RetMat (ofN n ps) (ofM n ps) (ofE n ps) w) := by
  by_cases h : 0 ≤ n ∧ n < 4097
  · obtain ⟨k, rfl⟩ := Int.eq_ofNat_of_zero_le h.1
    exact ref3_Of_in k (by omega) A m c ps w hp hm
  · have hb := belowZ_no (i := n) (n := 4097) (by omega)
    have h0 : ofOk n ps = false := by unfold ofOk; rw [hb]; rfl
    have h1 : ofN n ps = 0 ∧ ofM n ps = [] ∧ ofE n ps = 1 := by unfold ofN ofM ofE; rw [h0]; simp
    rw [h1.1, h1.2.1, h1.2.2]
    exact ref3_Of_big n (by omega) A m c hm w

end Go.Proofs.Ytfeomhoicnjgpaa

namespace Go.Proofs.Ytfeomhoicnjgpaa
open Go.RowKit
set_option linter.unusedVariables false

theorem Good.in_has {n : Nat} {a : List (List Nat)} (h : Good n a) (i j : Int) : (inM (n : Int) i j && hasM a i j) = hasM a i j := by
  cases hh : hasM a i j with
  | false => rw [Bool.and_false]
  | true =>
    have h0 : 0 ≤ i := by
      refine Decidable.byContradiction fun hc => ?_
      rw [hasM_out (.inl (by omega))] at hh; cases hh
    obtain ⟨k, rfl⟩ := Int.eq_ofNat_of_zero_le h0
    have h1 : 0 ≤ j := by
      refine Decidable.byContradiction fun hc => ?_
      by_cases hk : k < a.length
      · rw [hasM_in (List.getElem?_eq_getElem hk), hasR_out _ _ (.inl (by omega))] at hh; cases hh
      · rw [hasM_out (.inr (by omega))] at hh; cases hh
    obtain ⟨q, rfl⟩ := Int.eq_ofNat_of_zero_le h1
    obtain ⟨h2, h3⟩ := h.has_lt hh
    rw [Bool.and_true]
    unfold inM; simp; omega

end Go.Proofs.Ytfeomhoicnjgpaa

namespace Go.Proofs.Ytfeomhoicnjgpaa
open Go.RowKit
set_option linter.unusedVariables false

/-- block g is a variable that holds the matrix of N and xss -/
def MatK (w : World) (g : Nat) (t : TypeId) (N : Int) (A : Option Addr) (n c : Nat) (xss : List (List Nat)) : Prop := MatB w g t N A n c ∧ RowsAt w A n xss
section
variable {w w' : World} {g : Nat} {t : TypeId} {N : Int} {A : Option Addr} {n c : Nat} {xss : List (List Nat)}
theorem MatK.below (h : MatK w g t N A n c xss) (hb : Below w.heap.size w w') : MatK w' g t N A n c xss := ⟨h.1.below_ hb, h.2.below hb⟩
theorem MatK.new (w : World) (t : TypeId) (hr : RowsAt w A n xss) : MatK (w.alloc (.cells #[.int .i64 N, .slice A n c] t)) w.heap.size t N A n c xss := ⟨MatB.new w t, hr.below ((Below.refl _ _).alloc (Nat.le_refl _) _)⟩
theorem MatK.drew (h : MatK w g t N A n c xss) : MatK w.drew g t N A n c xss := ⟨Blk.drew h.1, h.2⟩
theorem below_alloc (w : World) (o : Obj) : Below w.heap.size w (w.alloc o) := (Below.refl _ _).alloc (Nat.le_refl _) _
end

theorem cut_five {T1 T2 T3 T4 T5 : Type} {Goal F : T1 → T2 → T3 → T4 → T5 → Prop} {R : Prop} (h1 : (∀ a b c d e, F a b c d e → Goal a b c d e) → R) (h2 : ∀ a b c d e, F a b c d e → Goal a b c d e) : R := h1 h2

end Go.Proofs.Ytfeomhoicnjgpaa

namespace Go.Proofs.Ytfeomhoicnjgpaa
open Go.RowKit
set_option linter.unusedVariables false

/-- what follows from r -/
inductive Conn (r : Nat → Nat → Prop) : Nat → Nat → Prop where
  | one {i j : Nat} (h : r i j) : Conn r i j
  | step {i j k : Nat} (h : Conn r i j) (h2 : r j k) : Conn r i k
theorem Conn.trans {r : Nat → Nat → Prop} {i j k : Nat} (h1 : Conn r i j) (h2 : Conn r j k) : Conn r i k := by
  induction h2 with
  | one h => exact .step h1 h
  | step _ h ih => exact .step ih h

/-- the relation of a matrix -/
def Rel (a : List (List Nat)) (i j : Nat) : Prop := hasM a (i : Int) (j : Int) = true
theorem Good.rel_lt {n : Nat} {a : List (List Nat)} (h : Good n a) : ∀ i j, Rel a i j → i < n ∧ j < n := fun _ _ h1 => h.has_lt h1

end Go.Proofs.Ytfeomhoicnjgpaa

namespace Go.Proofs.Ytfeomhoicnjgpaa
set_option linter.unusedVariables false

/-- the numbers behind i of a way from i to j -/
def Way (r : Nat → Nat → Prop) : Nat → Nat → List Nat → Prop
  | i, j, [] => i = j
  | i, j, k :: l => r i k ∧ Way r k j l
section
variable {r : Nat → Nat → Prop}
theorem Way.append : ∀ {i k j : Nat} {l l' : List Nat}, Way r i k l → Way r k j l' → Way r i j (l ++ l')
  | i, k, j, [], l', h, h' => by
    have h : i = k := h
    subst h; exact h'
  | i, k, j, x :: l, l', h, h' => ⟨h.1, Way.append h.2 h'⟩
theorem Way.split : ∀ {i j : Nat} {l l' : List Nat}, Way r i j (l ++ l') → ∃ k, Way r i k l ∧ Way r k j l'
  | i, j, [], l', h => ⟨i, rfl, h⟩
  | i, j, x :: l, l', h => by
    obtain ⟨k, h1, h2⟩ := Way.split (l := l) h.2
    exact ⟨k, ⟨h.1, h1⟩, h2⟩
theorem Way.last : ∀ {i j : Nat} {l : List Nat} (h : Way r i j l) (hne : l ≠ []), l.getLast hne = j
  | i, j, [x], h, _ => h.2
  | i, j, x :: y :: l, h, _ => by rw [List.getLast_cons (by simp)]; exact Way.last h.2 (by simp)
theorem Way.at_mid {i j k : Nat} {a b : List Nat} (h : Way r i j (a ++ k :: b)) : Way r i k (a ++ [k]) ∧ Way r k j b := by
  obtain ⟨m, h1, h2⟩ := Way.split h
  exact ⟨h1.append (show Way r m k [k] from ⟨h2.1, rfl⟩), h2.2⟩
theorem Way.conn : ∀ {i j : Nat} {l : List Nat}, Way r i j l → l ≠ [] → Conn r i j
  | i, j, [x], h, _ => by
    have h2 : x = j := h.2
    subst h2; exact .one h.1
  | i, j, x :: y :: l, h, _ => (Conn.one h.1).trans (Way.conn h.2 (by simp))
theorem Way.lt {n : Nat} (hr : ∀ i j, r i j → i < n ∧ j < n) : ∀ {i j : Nat} {l : List Nat}, Way r i j l → ∀ x ∈ l, x < n
  | i, j, [], h, x, hx => by cases hx
  | i, j, y :: l, h, x, hx => by
    rcases List.mem_cons.1 hx with rfl | hx
    · exact (hr _ _ h.1).2
    · exact Way.lt hr h.2 x hx
/-- a way that comes by a number twice can be cut -/
theorem Way.cut : ∀ {i j : Nat} {l : List Nat}, Way r i j l → ¬ (i :: l).Nodup → ∃ l', Way r i j l' ∧ l'.length < l.length
  | i, j, [], h, hn => absurd (by simp) hn
  | i, j, k :: l, h, hn => by
    by_cases hi : i ∈ k :: l
    · obtain ⟨a, b, e⟩ := List.append_of_mem hi
      rw [e] at h
      refine ⟨b, (Way.at_mid h).2, ?_⟩
      rw [e, List.length_append, List.length_cons]; omega
    · have hn2 : ¬ (k :: l).Nodup := fun h' => hn (List.nodup_cons.2 ⟨hi, h'⟩)
      obtain ⟨l', h1, h2⟩ := Way.cut h.2 hn2
      exact ⟨k :: l', ⟨h.1, h1⟩, by simp only [List.length_cons]; omega⟩
theorem nodup_lt {n : Nat} {l : List Nat} (h : l.Nodup) (hl : ∀ x ∈ l, x < n) : l.length ≤ n := by
  have := h.length_le_of_subset (l₂ := List.range n) (fun x hx => List.mem_range.2 (hl x hx))
  simpa using this
/-- the first path: the numbers behind i -/
structure First (r : Nat → Nat → Prop) (i j : Nat) (l : List Nat) : Prop where
  way : Way r i j l
  ne : l ≠ []
  least : ∀ l', Way r i j l' → l' ≠ [] → l.length < l'.length ∨ (l.length = l'.length ∧ (l = l' ∨ l < l'))
theorem First.unique {i j : Nat} {l l' : List Nat} (h : First r i j l) (k : First r i j l') : l = l' := by
  rcases h.least l' k.way k.ne with h1 | ⟨h1, h2⟩ <;> rcases k.least l h.way h.ne with k1 | ⟨k1, k2⟩
  · omega
  · omega
  · omega
  · rcases h2 with h2 | h2
    · exact h2
    · rcases k2 with k2 | k2
      · exact k2.symm
      · exact absurd k2 (List.lt_asymm h2)
theorem First.nodup {i j : Nat} {l : List Nat} (h : First r i j l) : l.Nodup := by
  cases l with
  | nil => simp
  | cons k l =>
    refine Classical.byContradiction fun hn => ?_
    obtain ⟨l', h1, h2⟩ := Way.cut h.way.2 hn
    rcases h.least (k :: l') ⟨h.way.1, h1⟩ (by simp) with h3 | ⟨h3, _⟩ <;> simp only [List.length_cons] at h3 <;> omega
theorem First.notMid {i j : Nat} {a b : List Nat} (h : First r i j (a ++ i :: b)) : b = [] := by
  refine Classical.byContradiction fun hb => ?_
  have h1 := (Way.at_mid h.way).2
  rcases h.least b h1 hb with h3 | ⟨h3, _⟩ <;> simp only [List.length_append, List.length_cons] at h3 <;> omega
theorem First.len {n i j : Nat} {l : List Nat} (hr : ∀ i j, r i j → i < n ∧ j < n) (h : First r i j l) : l.length ≤ n := nodup_lt h.nodup (h.way.lt hr)
end
end Go.Proofs.Ytfeomhoicnjgpaa

namespace Go.Proofs.Ytfeomhoicnjgpaa
set_option linter.unusedVariables false

/-- a list is no later than another one: it is shorter, or of one length and no greater number by number -/
def leP (l l' : List Nat) : Prop := l.length < l'.length ∨ (l.length = l'.length ∧ (l = l' ∨ l < l'))
theorem leP.refl (l : List Nat) : leP l l := .inr ⟨rfl, .inl rfl⟩
theorem leP.nil (l : List Nat) : leP [] l := by
  cases l with
  | nil => exact leP.refl _
  | cons x l => exact .inl (by simp)
theorem leP.trans {a b c : List Nat} (h : leP a b) (k : leP b c) : leP a c := by
  rcases h with h | ⟨h, h2⟩ <;> rcases k with k | ⟨k, k2⟩
  · exact .inl (by omega)
  · exact .inl (by omega)
  · exact .inl (by omega)
  · refine .inr ⟨by omega, ?_⟩
    rcases h2 with rfl | h2
    · exact k2
    · rcases k2 with rfl | k2
      · exact .inr h2
      · exact .inr (List.lt_trans h2 k2)
theorem lt_app : ∀ {l l' : List Nat}, l.length = l'.length → l < l' → ∀ x y : List Nat, l ++ x < l' ++ y
  | [], [], _, h, x, y => absurd h (by simp)
  | a :: l, b :: l', hl, h, x, y => by
    rw [List.cons_append, List.cons_append]
    rcases List.cons_lt_cons_iff.1 h with h1 | ⟨h1, h2⟩
    · exact List.cons_lt_cons_iff.2 (.inl h1)
    · exact List.cons_lt_cons_iff.2 (.inr ⟨h1, lt_app (by simpa using hl) h2 x y⟩)
theorem app_lt : ∀ (l : List Nat) {x y : List Nat}, x < y → l ++ x < l ++ y
  | [], _, _, h => h
  | a :: l, _, _, h => List.cons_lt_cons_iff.2 (.inr ⟨rfl, app_lt l h⟩)
theorem leP.snoc {l l' : List Nat} (h : leP l l') (y : Nat) : leP (l ++ [y]) (l' ++ [y]) := by
  rcases h with h | ⟨h, h2⟩
  · exact .inl (by simp; omega)
  · refine .inr ⟨by simp; omega, ?_⟩
    rcases h2 with rfl | h2
    · exact .inl rfl
    · exact .inr (lt_app h h2 _ _)
theorem leP.step {l l' : List Nat} (h : leP l l') (hne : l ≠ l') (y z : Nat) : leP (l ++ [y]) (l' ++ [z]) := by
  rcases h with h | ⟨h, h2⟩
  · exact .inl (by simp; omega)
  · refine .inr ⟨by simp; omega, ?_⟩
    rcases h2 with rfl | h2
    · exact absurd rfl hne
    · exact .inr (lt_app h h2 _ _)
theorem leP.last (l : List Nat) {y z : Nat} (h : y ≤ z) : leP (l ++ [y]) (l ++ [z]) := by
  refine .inr ⟨by simp, ?_⟩
  rcases Nat.lt_or_ge y z with h1 | h1
  · exact .inr (app_lt l (List.cons_lt_cons_iff.2 (.inl h1)))
  · exact .inl (by rw [show y = z by omega])
theorem leP.pre (l l' : List Nat) : leP l (l ++ l') := by
  cases l' with
  | nil => rw [List.append_nil]; exact leP.refl _
  | cons x l' => exact .inl (by simp)
theorem First.of_le {r : Nat → Nat → Prop} {i j : Nat} {l : List Nat} (hw : Way r i j l) (hne : l ≠ []) (h : ∀ l', Way r i j l' → l' ≠ [] → leP l l') : First r i j l := ⟨hw, hne, h⟩
theorem Way.snoc {r : Nat → Nat → Prop} {i k j : Nat} {l : List Nat} (h : Way r i k l) (h2 : r k j) : Way r i j (l ++ [j]) := h.append ⟨h2, rfl⟩
theorem Way.snoc_inv {r : Nat → Nat → Prop} {i j : Nat} {l : List Nat} (h : Way r i j l) (hne : l ≠ []) : ∃ k l', l = l' ++ [j] ∧ Way r i k l' ∧ r k j := by
  obtain ⟨l', x, rfl⟩ : ∃ l' x, l = l' ++ [x] := ⟨l.dropLast, l.getLast hne, (List.dropLast_concat_getLast hne).symm⟩
  obtain ⟨k, h1, h2⟩ := Way.split h
  have h3 : x = j := h2.2
  subst h3
  exact ⟨k, l', rfl, h1, h2.1⟩
/-- a way out of a set crosses its border -/
theorem Way.leave {r : Nat → Nat → Prop} {D : Nat → Prop} : ∀ {i j : Nat} {l : List Nat}, Way r i j l → D i → ¬ D j → ∃ l1 u l2 v, l = l1 ++ u :: l2 ∧ Way r i v l1 ∧ D v ∧ r v u ∧ ¬ D u
  | i, j, [], h, hi, hj => by
    have h : i = j := h
    subst h; exact absurd hi hj
  | i, j, k :: l, h, hi, hj => by
    by_cases hk : D k
    · obtain ⟨l1, u, l2, v, e, h1, h2, h3, h4⟩ := Way.leave h.2 hk hj
      exact ⟨k :: l1, u, l2, v, by rw [e]; rfl, ⟨h.1, h1⟩, h2, h3, h4⟩
    · exact ⟨[], k, l, i, rfl, rfl, hi, h.1, hk⟩

section
variable {r : Nat → Nat → Prop} {n x : Nat} {T D : Nat → Prop} {p : Nat → List Nat} {q : List (Nat × List Nat)}
/-- how two items of the queue stand to one another -/
def QRel (b : Nat) (a c : Nat × List Nat) : Prop := leP a.2 c.2 ∧ a.2 ≠ c.2 ∧ ∀ y, b ≤ y → leP c.2 (a.2 ++ [y])
/-- between two steps: T are met (by the paths p), D were taken off the queue, q is it -/
structure BfsQ (r : Nat → Nat → Prop) (n x : Nat) (T D : Nat → Prop) (p : Nat → List Nat) (q : List (Nat × List Nat)) : Prop where
  met : ∀ y, T y → y < n ∧ First r x y (p y)
  done : ∀ z y, D z → r z y → T y
  all : ∀ u, T u → D u ∨ (u, p u) ∈ q
  start : D x ∨ q = [(x, [])]
  inq : ∀ a ∈ q, a.1 < n ∧ ((T a.1 ∧ a.2 = p a.1) ∨ (a = (x, []) ∧ ¬ D x ∧ q = [(x, [])]))
  sorted : q.Pairwise (QRel 0)
/-- within a step: (z, l) was taken off, its pairs below b were followed -/
structure BfsS (r : Nat → Nat → Prop) (n x : Nat) (T D : Nat → Prop) (p : Nat → List Nat) (q : List (Nat × List Nat)) (z : Nat) (l : List Nat) (b : Nat) : Prop where
  met : ∀ y, T y → y < n ∧ First r x y (p y)
  done : ∀ z y, D z → r z y → T y
  all : ∀ u, T u → D u ∨ (u = z ∧ l = p u) ∨ (u, p u) ∈ q
  start : D x ∨ (z = x ∧ l = [])
  inq : ∀ a ∈ q, a.1 < n ∧ T a.1 ∧ a.2 = p a.1
  sorted : q.Pairwise (QRel 0)
  scanned : ∀ y, y < b → r z y → T y
  lt : z < n
  item : (T z ∧ l = p z) ∨ (z = x ∧ l = [])
  way : Way r x z l
  ord : ∀ a ∈ q, QRel b (z, l) a
theorem BfsQ.begin (hx : x < n) : BfsQ r n x (fun _ => False) (fun _ => False) p [(x, [])] :=
  ⟨fun y h => h.elim, fun z y h => h.elim, fun u h => h.elim, .inr rfl, fun a ha => by
    rw [List.mem_singleton.1 ha]; exact ⟨hx, .inr ⟨rfl, id, rfl⟩⟩, List.pairwise_singleton _ _⟩
theorem BfsQ.pop {z : Nat} {l : List Nat} (h : BfsQ r n x T D p ((z, l) :: q)) : BfsS r n x T D p q z l 0 := by
  have h0 := h.inq (z, l) (List.mem_cons_self ..)
  have hs := List.pairwise_cons.1 h.sorted
  refine ⟨h.met, h.done, fun u hu => ?_, ?_, fun a ha => ?_, hs.2, fun y hy => by omega, h0.1, ?_, ?_, hs.1⟩
  · rcases h.all u hu with h1 | h1
    · exact .inl h1
    · rcases List.mem_cons.1 h1 with h2 | h2
      · injection h2 with h3 h4
        exact .inr (.inl ⟨h3, h4.symm⟩)
      · exact .inr (.inr h2)
  · rcases h.start with h1 | h1
    · exact .inl h1
    · injection h1 with h2 _
      injection h2 with h3 h4
      exact .inr ⟨h3, h4⟩
  · have h1 := h.inq a (List.mem_cons_of_mem _ ha)
    refine ⟨h1.1, ?_⟩
    rcases h1.2 with h2 | ⟨_, _, h4⟩
    · exact h2
    · injection h4 with _ h5
      rw [h5] at ha; cases ha
  · rcases h0.2 with h1 | ⟨h1, _⟩
    · exact .inl h1
    · injection h1 with h2 h3
      exact .inr ⟨h2, h3⟩
  · rcases h0.2 with ⟨h1, h2⟩ | ⟨h1, _⟩
    · have h2 : l = p z := h2
      rw [h2]; exact (h.met z h1).2.way
    · injection h1 with h2 h3
      subst h2; subst h3; exact rfl
theorem BfsS.weaken {z b b' : Nat} {l : List Nat} (h : BfsS r n x T D p q z l b) (hb : b ≤ b') (hs : ∀ y, y < b' → r z y → T y) : BfsS r n x T D p q z l b' :=
  ⟨h.met, h.done, h.all, h.start, h.inq, h.sorted, hs, h.lt, h.item, h.way, fun a ha => ⟨(h.ord a ha).1, (h.ord a ha).2.1, fun y hy => (h.ord a ha).2.2 y (by omega)⟩⟩
/-- the item is no later than any way to a number from which one that isn't met is reached in one step -/
theorem BfsS.key {z b v y : Nat} {l l' : List Nat} (h : BfsS r n x T D p q z l b) (hv : r v y) (hy : ¬ T y) (hw : Way r x v l') : leP l l' := by
  rcases h.start with hx | ⟨_, rfl⟩
  · have hvD : ¬ D v := fun hd => hy (h.done v y hd hv)
    obtain ⟨l1, u, l2, v', rfl, h1, h2, h3, h4⟩ := Way.leave hw hx hvD
    have huT := h.done v' u h2 h3
    have hle : leP (p u) (l1 ++ [u]) := (h.met u huT).2.least _ (h1.snoc h3) (by simp)
    have hlu : leP l (p u) := by
      rcases h.all u huT with h5 | ⟨_, h5⟩ | h5
      · exact absurd h5 h4
      · rw [h5]; exact leP.refl _
      · exact (h.ord _ h5).1
    have e : l1 ++ u :: l2 = (l1 ++ [u]) ++ l2 := by simp
    rw [e]
    exact (hlu.trans hle).trans (leP.pre _ _)
  · exact leP.nil _
theorem BfsS.first {z b y : Nat} {l : List Nat} (h : BfsS r n x T D p q z l b) (hzy : r z y) (hy : ¬ T y) : First r x y (l ++ [y]) :=
  First.of_le (h.way.snoc hzy) (by simp) (fun l' hw hne => by
    obtain ⟨k, l'', rfl, h1, h2⟩ := hw.snoc_inv hne
    exact (h.key h2 hy h1).snoc y)
def putP (p : Nat → List Nat) (y : Nat) (m : List Nat) : Nat → List Nat := fun u => if u = y then m else p u
theorem putP_at (p : Nat → List Nat) (y : Nat) (m : List Nat) : putP p y m y = m := if_pos rfl
theorem putP_ne {p : Nat → List Nat} {y u : Nat} {m : List Nat} (h : u ≠ y) : putP p y m u = p u := if_neg h
theorem BfsS.push {z b y : Nat} {l : List Nat} (h : BfsS r n x T D p q z l b) (hby : b ≤ y) (hs : ∀ y', y' < y → r z y' → T y') (hzy : r z y) (hy : ¬ T y) (hyn : y < n) :
    BfsS r n x (fun u => T u ∨ u = y) D (putP p y (l ++ [y])) (q ++ [(y, l ++ [y])]) z l (y + 1) := by
  have hne : ∀ u, T u → u ≠ y := fun u hu e => hy (e ▸ hu)
  have hF := h.first hzy hy
  have hzl : T z → l = p z → l ≠ l ++ [y] := fun _ _ e => by simp at e
  have hmy : ∀ a ∈ q, a.2 ≠ l ++ [y] := fun a ha e => by
    obtain ⟨h1, h2, h3⟩ := h.inq a ha
    have h4 := (h.met a.1 h2).2
    have h5 := h4.way.last h4.ne
    have h6 := (h.way.snoc hzy).last (by simp)
    rw [h3] at e
    have : a.1 = y := by rw [← h5, ← h6]; congr 1
    exact hne _ h2 this
  refine ⟨?_, ?_, ?_, h.start, ?_, ?_, ?_, h.lt, ?_, h.way, ?_⟩
  · intro u hu
    rcases hu with hu | rfl
    · rw [putP_ne (hne u hu)]; exact h.met u hu
    · rw [putP_at]; exact ⟨hyn, hF⟩
  · intro z' y' h1 h2; exact .inl (h.done z' y' h1 h2)
  · intro u hu
    rcases hu with hu | rfl
    · rw [putP_ne (hne u hu)]
      rcases h.all u hu with h1 | h1 | h1
      · exact .inl h1
      · exact .inr (.inl h1)
      · exact .inr (.inr (List.mem_append.2 (.inl h1)))
    · rw [putP_at]; exact .inr (.inr (List.mem_append.2 (.inr (List.mem_singleton.2 rfl))))
  · intro a ha
    rcases List.mem_append.1 ha with ha | ha
    · obtain ⟨h1, h2, h3⟩ := h.inq a ha
      exact ⟨h1, .inl h2, by rw [putP_ne (hne _ h2)]; exact h3⟩
    · rw [List.mem_singleton.1 ha]; exact ⟨hyn, .inr rfl, (putP_at _ _ _).symm⟩
  · rw [List.pairwise_append]
    refine ⟨h.sorted, List.pairwise_singleton _ _, fun a ha c hc => ?_⟩
    rw [List.mem_singleton.1 hc]
    obtain ⟨h1, h2, h3⟩ := h.ord a ha
    exact ⟨h3 y hby, hmy a ha, fun y' _ => h1.step h2 y y'⟩
  · intro y' hy' h1
    rcases Nat.lt_or_ge y' y with h2 | h2
    · exact .inl (hs y' h2 h1)
    · exact .inr (by omega)
  · rcases h.item with ⟨h1, h2⟩ | h1
    · exact .inl ⟨.inl h1, by rw [putP_ne (hne _ h1)]; exact h2⟩
    · exact .inr h1
  · intro a ha
    rcases List.mem_append.1 ha with ha | ha
    · obtain ⟨h1, h2, h3⟩ := h.ord a ha
      exact ⟨h1, h2, fun y' hy' => h3 y' (by omega)⟩
    · rw [List.mem_singleton.1 ha]
      exact ⟨leP.pre _ _, fun e => by simp at e, fun y' hy' => leP.last l (by omega)⟩
theorem BfsS.next {z b : Nat} {l : List Nat} (hr : ∀ i j, r i j → i < n ∧ j < n) (hb : n ≤ b) (h : BfsS r n x T D p q z l b) : BfsQ r n x T (fun u => D u ∨ u = z) p q := by
  refine ⟨h.met, fun z' y h1 h2 => ?_, fun u hu => ?_, ?_, fun a ha => ?_, h.sorted⟩
  · rcases h1 with h1 | rfl
    · exact h.done z' y h1 h2
    · exact h.scanned y (by have := (hr _ _ h2).2; omega) h2
  · rcases h.all u hu with h1 | ⟨h1, _⟩ | h1
    · exact .inl (.inl h1)
    · exact .inl (.inr h1)
    · exact .inr h1
  · rcases h.start with h1 | ⟨h1, _⟩
    · exact .inl (.inl h1)
    · exact .inl (.inr h1.symm)
  · have h1 := h.inq a ha
    exact ⟨h1.1, .inl h1.2⟩
/-- nothing is left in the queue: what isn't met isn't reached -/
theorem BfsQ.none (h : BfsQ r n x T D p []) {j : Nat} (hj : ¬ T j) : ¬ Conn r x j := fun hc => by
  have hx : D x := by
    rcases h.start with h1 | h1
    · exact h1
    · cases h1
  have hall : ∀ y, Conn r x y → T y := fun y hy => by
    induction hy with
    | one h1 => exact h.done _ _ hx h1
    | step _ h1 ih =>
      rcases h.all _ ih with h2 | h2
      · exact h.done _ _ h2 h1
      · cases h2
  exact hj (hall j hc)

/-- fm tells from which number each one was met -/
def FromOk (x : Nat) (T : Nat → Prop) (fm : Nat → Nat) (p : Nat → List Nat) : Prop :=
  ∀ y, T y → (fm y = x ∧ p y = [y]) ∨ (T (fm y) ∧ fm y ≠ x ∧ p y = p (fm y) ++ [y])
theorem FromOk.push {fm fm' : Nat → Nat} {z b y : Nat} {l : List Nat} (hf : FromOk x T fm p) (h : BfsS r n x T D p q z l b) (hzy : r z y) (hy : ¬ T y) (h1 : fm' y = z) (h2 : ∀ u, u ≠ y → fm' u = fm u) :
    FromOk x (fun u => T u ∨ u = y) fm' (putP p y (l ++ [y])) := by
  have hne : ∀ u, T u → u ≠ y := fun u hu e => hy (e ▸ hu)
  intro u hu
  by_cases e : u = y
  · subst e
    rw [h1, putP_at]
    rcases h.item with ⟨h3, h4⟩ | ⟨h3, h4⟩
    · by_cases hzx : z = x
      · rcases h.start with h5 | ⟨_, h5⟩
        · exact absurd (h.done x u h5 (hzx ▸ hzy)) hy
        · exact .inl ⟨hzx, by rw [h5]; rfl⟩
      · exact .inr ⟨.inl h3, hzx, by rw [putP_ne (hne _ h3), ← h4]⟩
    · exact .inl ⟨h3, by rw [h4]; rfl⟩
  · have hu' : T u := by
      rcases hu with hu | hu
      · exact hu
      · exact absurd hu e
    rw [h2 u e, putP_ne e]
    rcases hf u hu' with h3 | ⟨h3, h4, h5⟩
    · exact .inl h3
    · exact .inr ⟨.inl h3, h4, by rw [putP_ne (hne _ h3)]; exact h5⟩
/-- going back from number to number -/
theorem FromOk.back {fm : Nat → Nat} (hf : FromOk x T fm p) : ∀ (m : Nat) (y : Nat), (p y).length ≤ m → T y → ∀ k, k < (p y).length → T ((p y).getD k 0) ∧ fm ((p y).getD k 0) = (x :: p y).getD k 0
  | 0, y, hm, hy, k, hk => by omega
  | m + 1, y, hm, hy, k, hk => by
    rcases hf y hy with ⟨h1, h2⟩ | ⟨h1, h2, h3⟩
    · rw [h2] at hk ⊢
      have : k = 0 := by simpa using hk
      subst this
      exact ⟨by simpa using hy, by simpa using h1⟩
    · rw [h3] at hk hm ⊢
      simp only [List.length_append, List.length_cons, List.length_nil] at hk hm
      rcases Nat.lt_or_ge k (p (fm y)).length with h4 | h4
      · have ih := FromOk.back hf m (fm y) (by omega) h1 k h4
        have e1 : (p (fm y) ++ [y]).getD k 0 = (p (fm y)).getD k 0 := by
          rw [List.getD_eq_getElem?_getD, List.getElem?_append_left h4, ← List.getD_eq_getElem?_getD]
        have e2 : (x :: (p (fm y) ++ [y])).getD k 0 = (x :: p (fm y)).getD k 0 := by
          rw [← List.cons_append, List.getD_eq_getElem?_getD, List.getElem?_append_left (by simp; omega), ← List.getD_eq_getElem?_getD]
        rw [e1, e2]; exact ih
      · have hk' : k = (p (fm y)).length := by omega
        have e1 : (p (fm y) ++ [y]).getD k 0 = y := by
          rw [List.getD_eq_getElem?_getD, List.getElem?_append_right h4, hk']; simp
        refine ⟨by rw [e1]; exact hy, ?_⟩
        rw [e1, ← List.cons_append, List.getD_eq_getElem?_getD, List.getElem?_append_left (by simp; omega), ← List.getD_eq_getElem?_getD]
        -- the last number of the path to fm y
        have hlast : ∀ y', T y' → (x :: p y').getD (p y').length 0 = y' := fun y' hy' => by
          rcases hf y' hy' with ⟨_, h5⟩ | ⟨_, _, h5⟩ <;> rw [h5] <;> simp
        rw [hk', hlast _ h1]
theorem FromOk.last {fm : Nat → Nat} (hf : FromOk x T fm p) {y : Nat} (hy : T y) : p y ≠ [] ∧ (x :: p y).getD (p y).length 0 = y := by
  rcases hf y hy with ⟨_, h5⟩ | ⟨_, _, h5⟩ <;> rw [h5] <;> simp
end
end Go.Proofs.Ytfeomhoicnjgpaa

namespace Go.Proofs.Ytfeomhoicnjgpaa
open Go.RowKit
set_option linter.unusedVariables false

/-- a slice somewhere in a block of the call's own, that reads as the numbers zs -/
def QN (w : World) (base : Nat) (t : TypeId) (v : Value) (zs : List Nat) : Prop :=
  ∃ g off cap cs, v = .slice (some ⟨g, off, none⟩) zs.length cap ∧ base ≤ g ∧ w.heap[g]? = some (.cells cs t (0, 0)) ∧ zs.length ≤ cap ∧ cap ≤ maxLen ∧ off + cap ≤ cs.size ∧ ∀ (j z : Nat), zs[j]? = some z → cs[off + j]? = some (.int .i64 (z : Int))
def qlen : Value → Nat
  | .slice _ n _ => n
  | _ => 0
section
variable {w w' : World} {base : Nat} {t : TypeId} {v : Value} {zs : List Nat}
theorem cell_cells {w : World} {g : Nat} {cs : Array Value} {t : TypeId} {fr : Nat × Nat} (h : w.heap[g]? = some (.cells cs t fr)) (i : Nat) : w.cell? ⟨g, i, none⟩ = cs[i]? := cell_of_row w g i cs t fr h
theorem frozen_cells {w : World} {g : Nat} {cs : Array Value} {t : TypeId} (h : w.heap[g]? = some (.cells cs t (0, 0))) (i : Nat) : w.frozen? ⟨g, i, none⟩ = false := by simp [World.frozen?, h]
theorem QN.qlen_ (h : QN w base t v zs) : qlen v = zs.length := by obtain ⟨g, off, cap, cs, rfl, _⟩ := h; rfl
theorem QN.of_own {n : Nat} (h : w.ownsRow base t 1 v n (zs.map natv)) (h0 : 0 < n) : QN w base t v zs := by
  have hl : zs.length = n := by have := h.1; simpa using this
  rcases h.2 with ⟨h1, h2⟩ | ⟨g, cap, cur, rfl, hbg, hg, hnc, hcm, hcs, htake⟩
  · omega
  · refine ⟨g, 0, cap, cur, by rw [hl], hbg, hg, by omega, hcm, by omega, fun j z hj => ?_⟩
    have hjl := (List.getElem?_eq_some_iff.1 hj).1
    have : (zs.map natv)[j]? = some (natv z) := by rw [List.getElem?_map, hj]; rfl
    rw [← htake, List.getElem?_take_of_lt (by omega)] at this
    rw [Nat.zero_add]
    simpa [natv] using this
theorem QN.lt (h : QN w base t v zs) : ∀ g, v.ownBlock = some g → base ≤ g ∧ g < w.heap.size := by
  obtain ⟨g, off, cap, cs, rfl, hb, hg, _⟩ := h
  intro k hk
  have : g = k := by simpa [Value.ownBlock] using hk
  subst this
  exact ⟨hb, (Array.getElem?_eq_some_iff.1 hg).1⟩
theorem QN.below (h : QN w base t v zs) (hb : Below w.heap.size w w') : QN w' base t v zs := by
  obtain ⟨g, off, cap, cs, hv, h1, hg, r⟩ := h
  exact ⟨g, off, cap, cs, hv, h1, (hb.block g (Array.getElem?_eq_some_iff.1 hg).1).trans hg, r⟩
theorem QN.far (h : QN w base t v zs) {p : Addr} (hp : v.ownBlock ≠ some p.block) (u : Value) : QN (w.setCell p u) base t v zs := by
  obtain ⟨g, off, cap, cs, rfl, h1, hg, r⟩ := h
  refine ⟨g, off, cap, cs, rfl, h1, ?_, r⟩
  rw [Below.heap_setCell w p u g (fun e => hp (by rw [← e]; rfl))]; exact hg
/-- 'q[0]', 'q[1:]' -/
theorem QN.pop {z : Nat} (h : QN w base t v (z :: zs)) : ∃ g off cap, v = .slice (some ⟨g, off, none⟩) (zs.length + 1) cap ∧ w.cell? ⟨g, off, none⟩ = some (.int .i64 (z : Int)) ∧ zs.length + 1 ≤ cap ∧
    (cap = 1 → QN w base t (.slice (some ⟨g, off, none⟩) zs.length 0) zs) ∧ (cap ≠ 1 → QN w base t (.slice (some ⟨g, off + 1, none⟩) zs.length (cap - 1)) zs) := by
  obtain ⟨g, off, cap, cs, hv, h1, hg, hl, hm, hs, hc⟩ := h
  have hl' : zs.length + 1 ≤ cap := by simpa using hl
  refine ⟨g, off, cap, by rw [hv]; simp, ?_, hl', fun hc1 => ?_, fun hc1 => ?_⟩
  · rw [cell_cells hg]
    have := hc 0 z rfl
    simpa using this
  · have : zs = [] := List.eq_nil_of_length_eq_zero (by omega)
    subst this
    exact ⟨g, off, 0, cs, rfl, h1, hg, Nat.le_refl _, by omega, by omega, fun j z h => by simp at h⟩
  · refine ⟨g, off + 1, cap - 1, cs, rfl, h1, hg, by omega, by omega, by omega, fun j z' hj => ?_⟩
    have := hc (j + 1) z' (by simpa using hj)
    rw [show off + 1 + j = off + (j + 1) by omega]; exact this
end
section
variable {P : Program}
end

/-! ### how many are not seen yet -/

/-! ### the search -/
section
variable {n : Nat} {a : List (List Nat)} {i : Nat} {bs : List Bool} {zs : List Nat}
end

end Go.Proofs.Ytfeomhoicnjgpaa

namespace Go.Proofs.Ytfeomhoicnjgpaa
open Go.RowKit
set_option linter.unusedVariables false

/-! ### rows of bits -/
theorem pop_off (x i : Nat) (hi : i < 64) (hx : x.testBit i = true) : pop (offN x i) + 1 = pop x := by
  rw [pop_bits, pop_bits]
  have hnd : (bitsOf x).Nodup := List.Nodup.sublist List.filter_sublist List.nodup_range
  have hm : i ∈ bitsOf x := List.mem_filter.2 ⟨List.mem_range.2 hi, hx⟩
  have he : bitsOf (offN x i) = (bitsOf x).erase i := by
    rw [List.Nodup.erase_eq_filter hnd]
    unfold bitsOf
    rw [List.filter_filter]
    apply List.filter_congr
    intro j hj
    rw [offN_bit x i j hi (List.mem_range.1 hj), Bool.and_comm]
    congr 1
    by_cases h : j = i
    · subst h; simp
    · simp [h]
  rw [he, List.length_erase_of_mem hm]
  have : 0 < (bitsOf x).length := List.length_pos_of_mem hm
  omega
theorem countR_off {ls : List Nat} {k L i : Nat} (h : ls[k]? = some L) (hi : i < 64) (hL : L.testBit i = true) : countR (ls.set k (offN L i)) + 1 = countR ls := by
  unfold countR
  rw [List.map_set]
  have h1 := sum_set (ls.map pop) k (pop (offN L i)) (pop L) (by rw [List.getElem?_map, h]; rfl)
  have h2 := pop_off L i hi hL
  omega
theorem hasR_off {ls : List Nat} {k L i : Nat} (h : ls[k]? = some L) (hi : i < 64) (u : Nat) : hasR (ls.set k (offN L i)) (u : Int) = (hasR ls (u : Int) && decide (u ≠ 64 * k + i)) := by
  have hk : k < ls.length := (List.getElem?_eq_some_iff.1 h).1
  rw [hasR_nat, hasR_nat]
  by_cases e : u / 64 = k
  · have e1 : (ls.set k (offN L i)).getD (u / 64) 0 = offN L i := by
      rw [List.getD_eq_getElem?_getD, e, List.getElem?_set, if_pos rfl, if_pos hk]; rfl
    have e2 : ls.getD (u / 64) 0 = L := by rw [e]; exact Row.get h
    rw [e1, e2, offN_bit L i (u % 64) hi (by omega)]
    congr 1
    rw [decide_eq_decide]; omega
  · have e1 : (ls.set k (offN L i)).getD (u / 64) 0 = ls.getD (u / 64) 0 := by
      rw [List.getD_eq_getElem?_getD, List.getElem?_set, if_neg (by omega), ← List.getD_eq_getElem?_getD]
    rw [e1, decide_eq_true (show u ≠ 64 * k + i by omega), Bool.and_true]
/-- the first k words' lowest bits, of n in all, nothing behind -/
def leftK (n N k : Nat) : List Nat := (List.range N).map fun j => if j < k then 2 ^ (min (n - 64 * j) 64) - 1 else 0
theorem leftK_zero (n N : Nat) : leftK n N 0 = List.replicate N 0 := by
  unfold leftK; apply List.ext_getElem (by simp); intro i _ _; simp
theorem leftK_set (n N k : Nat) : (leftK n N k).set k (2 ^ (min (n - 64 * k) 64) - 1) = leftK n N (k + 1) := by
  unfold leftK; rw [map_range_set]
  apply List.map_congr_left; intro j _
  by_cases hj : j = k
  · subst hj; simp
  · rw [if_neg hj]
    by_cases h2 : j < k
    · rw [if_pos h2, if_pos (by omega)]
    · rw [if_neg h2, if_neg (by omega)]
theorem leftK_len (n N k : Nat) : (leftK n N k).length = N := by simp [leftK]
theorem leftK_lt (n N k : Nat) : W64 (leftK n N k) := fun x hx => by
  unfold leftK at hx
  obtain ⟨j, _, rfl⟩ := List.mem_map.1 hx
  split
  · have : 2 ^ (min (n - 64 * j) 64) ≤ 2 ^ 64 := Nat.pow_le_pow_right (by omega) (by omega)
    have := Nat.two_pow_pos (min (n - 64 * j) 64)
    omega
  · omega
theorem leftK_has (n N : Nat) (hN : n ≤ 64 * N) (u : Nat) : hasR (leftK n N N) (u : Int) = decide (u < n) := by
  rw [hasR_nat]
  by_cases h : u / 64 < N
  · have e : (leftK n N N).getD (u / 64) 0 = 2 ^ (min (n - 64 * (u / 64)) 64) - 1 := by
      unfold leftK
      rw [List.getD_eq_getElem?_getD, List.getElem?_map, List.getElem?_range h]
      simp [h]
    rw [e, Nat.testBit_two_pow_sub_one, decide_eq_decide]; omega
  · rw [getD_out _ _ (by rw [leftK_len]; omega), Nat.zero_testBit, eq_comm, decide_eq_false_iff_not]; omega
theorem leftK_count (n N : Nat) (hN : n ≤ 64 * N) : countR (leftK n N N) = n := by
  rw [countR_list]
  unfold listN
  rw [leftK_len]
  have h1 : (List.range (64 * N)).filter (fun i : Nat => hasR (leftK n N N) (i : Int)) = List.range n := by
    have e : (List.range (64 * N)).filter (fun i : Nat => hasR (leftK n N N) (i : Int)) = (List.range (64 * N)).filter fun i => decide (i < n) := List.filter_congr (fun i _ => leftK_has n N hN i)
    rw [e]
    obtain ⟨d, hd⟩ : ∃ d, 64 * N = n + d := ⟨64 * N - n, by omega⟩
    rw [hd, List.range_add, List.filter_append]
    rw [List.filter_eq_self.2 (fun a ha => by simpa using List.mem_range.1 ha), List.filter_eq_nil_iff.2 (fun a ha => by
      obtain ⟨j, _, rfl⟩ := List.mem_map.1 ha
      simp), List.append_nil]
  rw [h1, List.length_range]

/-! ### the search -/
/-- a number that was met -/
def metL (n : Nat) (ls : List Nat) (u : Nat) : Prop := u < n ∧ hasR ls (u : Int) = false
structure SzB (n N : Nat) (ls fs zs : List Nat) : Prop where
  ll : ls.length = (wordsZ (n : Int)).toNat
  lw : W64 ls
  lb : ∀ u : Nat, hasR ls (u : Int) = true → u < n
  fl : fs.length = n
  fb : ∀ y ∈ fs, y < n
  cnt : countR ls + zs.length = N
  le : N ≤ n + 1
structure BfsM (n : Nat) (a : List (List Nat)) (x N : Nat) (ls fs zs : List Nat) : Prop where
  ex : ∃ D p q, BfsQ (Rel a) n x (metL n ls) D p q ∧ FromOk x (metL n ls) (fun y => fs.getD y 0) p ∧ q.map (·.1) = zs
  sz : SzB n N ls fs zs
structure BfsN (n : Nat) (a : List (List Nat)) (x N z b : Nat) (ls fs zs : List Nat) : Prop where
  ex : ∃ D p q l, BfsS (Rel a) n x (metL n ls) D p q z l b ∧ FromOk x (metL n ls) (fun y => fs.getD y 0) p ∧ q.map (·.1) = zs
  sz : SzB n N ls fs zs
section
variable {n : Nat} {a : List (List Nat)} {x N z b : Nat} {ls fs zs : List Nat}
theorem words_le64 (n : Nat) : n ≤ 64 * (wordsZ (n : Int)).toNat := by unfold wordsZ; split <;> omega
theorem BfsM.start (hx : x < n) : BfsM n a x (n + 1) (leftK n (wordsZ (n : Int)).toNat (wordsZ (n : Int)).toNat) (List.replicate n 0) [x] := by
  have hm : metL n (leftK n (wordsZ (n : Int)).toNat (wordsZ (n : Int)).toNat) = fun _ => False := funext fun u => propext ⟨fun h => by
    have h2 := h.2
    rw [leftK_has n _ (words_le64 n), decide_eq_false_iff_not] at h2
    exact h2 h.1, fun h => h.elim⟩
  refine ⟨⟨fun _ => False, fun _ => [], [(x, [])], ?_, ?_, rfl⟩, leftK_len _ _ _, leftK_lt _ _ _, fun u hu => ?_, by simp, fun y hy => by rw [(List.mem_replicate.1 hy).2]; omega, by rw [leftK_count n _ (words_le64 n)]; rfl, Nat.le_refl _⟩
  · rw [hm]; exact BfsQ.begin hx
  · rw [hm]; exact fun y h => h.elim
  · rw [leftK_has n _ (words_le64 n)] at hu
    exact of_decide_eq_true hu
theorem BfsM.pop (h : BfsM n a x N ls fs (z :: zs)) : z < n ∧ ∃ N', N = N' + 1 ∧ BfsN n a x N' z 0 ls fs zs := by
  obtain ⟨D, p, q, hq, hf, hz⟩ := h.ex
  cases q with
  | nil => cases hz
  | cons e q =>
    obtain ⟨z', l⟩ := e
    simp only [List.map_cons] at hz
    injection hz with h1 h2
    subst h1
    have hp := hq.pop
    have hc := h.sz.cnt
    simp only [List.length_cons] at hc
    exact ⟨hp.lt, countR ls + zs.length, by omega, ⟨D, p, q, l, hp, hf, h2⟩, h.sz.ll, h.sz.lw, h.sz.lb, h.sz.fl, h.sz.fb, rfl, by have := h.sz.le; omega⟩
theorem BfsN.weaken {b' : Nat} (h : BfsN n a x N z b ls fs zs) (hb : b ≤ b') (hs : ∀ y, y < b' → Rel a z y → metL n ls y) : BfsN n a x N z b' ls fs zs := by
  obtain ⟨D, p, q, l, hq, hf, hz⟩ := h.ex
  exact ⟨⟨D, p, q, l, hq.weaken hb hs, hf, hz⟩, h.sz⟩
theorem BfsN.scanned (h : BfsN n a x N z b ls fs zs) : ∀ y, y < b → Rel a z y → metL n ls y := by
  obtain ⟨D, p, q, l, hq, hf, hz⟩ := h.ex
  exact hq.scanned
theorem BfsN.push (h : BfsN n a x N z b ls fs zs) {k L i : Nat} (hk : ls[k]? = some L) (hi : i < 64) (hL : L.testBit i = true) (hzy : Rel a z (64 * k + i)) (hs : ∀ y, y < 64 * k + i → Rel a z y → metL n ls y) :
    BfsN n a x N z (64 * k + i + 1) (ls.set k (offN L i)) (fs.set (64 * k + i) z) (zs ++ [64 * k + i]) := by
  obtain ⟨D, p, q, l, hq, hf, hz⟩ := h.ex
  have hset : hasR ls ((64 * k + i : Nat) : Int) = true := by
    rw [hasR_nat, show (64 * k + i) / 64 = k by omega, show (64 * k + i) % 64 = i by omega, Row.get hk]; exact hL
  have hyn := h.sz.lb _ hset
  have hy : ¬ metL n ls (64 * k + i) := fun hm => by rw [hm.2] at hset; cases hset
  have hby : b ≤ 64 * k + i := by
    rcases Nat.lt_or_ge (64 * k + i) b with h1 | h1
    · exact absurd (hq.scanned _ h1 hzy) hy
    · exact h1
  have hT : metL n (ls.set k (offN L i)) = fun u => metL n ls u ∨ u = 64 * k + i := funext fun u => propext (by
    unfold metL
    rw [hasR_off hk hi, Bool.and_eq_false_iff, decide_eq_false_iff_not]
    constructor
    · rintro ⟨h1, h2 | h2⟩
      · exact .inl ⟨h1, h2⟩
      · exact .inr (by omega)
    · rintro (⟨h1, h2⟩ | h2)
      · exact ⟨h1, .inl h2⟩
      · exact ⟨by omega, .inr (by omega)⟩)
  refine ⟨⟨D, putP p (64 * k + i) (l ++ [64 * k + i]), q ++ [(64 * k + i, l ++ [64 * k + i])], l, ?_, ?_, by simp [hz]⟩, by rw [List.length_set]; exact h.sz.ll, fun y hy => ?_, fun u hu => ?_, by rw [List.length_set]; exact h.sz.fl, fun y hy => ?_, ?_, h.sz.le⟩
  · rw [hT]; exact hq.push hby hs hzy hy hyn
  · rw [hT]
    refine hf.push hq hzy hy ?_ (fun u hu => ?_)
    · show (fs.set (64 * k + i) z).getD (64 * k + i) 0 = z
      rw [List.getD_eq_getElem?_getD, List.getElem?_set, if_pos rfl, if_pos (by rw [h.sz.fl]; exact hyn)]; rfl
    · show (fs.set (64 * k + i) z).getD u 0 = fs.getD u 0
      rw [List.getD_eq_getElem?_getD, List.getElem?_set, if_neg (fun e => hu e.symm), ← List.getD_eq_getElem?_getD]
  · rcases List.mem_or_eq_of_mem_set hy with h1 | rfl
    · exact h.sz.lw y h1
    · exact offN_lt L i (h.sz.lw L (List.mem_of_getElem? hk))
  · rw [hasR_off hk hi, Bool.and_eq_true] at hu
    exact h.sz.lb u hu.1
  · rcases List.mem_or_eq_of_mem_set hy with h1 | rfl
    · exact h.sz.fb y h1
    · exact hq.lt
  · have h1 := countR_off hk hi hL
    have h2 := h.sz.cnt
    rw [List.length_append, List.length_cons, List.length_nil]; omega
theorem BfsN.next (hG : Good n a) (hb : n ≤ b) (h : BfsN n a x N z b ls fs zs) : BfsM n a x N ls fs zs := by
  obtain ⟨D, p, q, l, hq, hf, hz⟩ := h.ex
  exact ⟨⟨_, p, q, BfsS.next hG.rel_lt hb hq, hf, hz⟩, h.sz⟩
theorem BfsM.none (h : BfsM n a x N ls fs []) {j : Nat} (hj : j < n) (hh : hasR ls (j : Int) = true) : ¬ Conn (Rel a) x j := by
  obtain ⟨D, p, q, hq, hf, hz⟩ := h.ex
  have : q = [] := List.map_eq_nil_iff.1 hz
  subst this
  exact hq.none (fun hm => by rw [hm.2] at hh; cases hh)
/-- what is known behind the search of the numbers that were met -/
structure WayOk (n x : Nat) (T : Nat → Prop) (fs : List Nat) (p : Nat → List Nat) : Prop where
  from_ : FromOk x T (fun y => fs.getD y 0) p
  lt : ∀ y, T y → y < n
  fl : fs.length = n
  fb : ∀ y ∈ fs, y < n
  len : ∀ y, T y → (p y).length ≤ n
theorem BfsM.found (hG : Good n a) (h : BfsM n a x N ls fs zs) {j : Nat} (hj : j < n) (hh : hasR ls (j : Int) = false) : ∃ (T : Nat → Prop) (p : Nat → List Nat), WayOk n x T fs p ∧ T j ∧ First (Rel a) x j (p j) := by
  obtain ⟨D, p, q, hq, hf, hz⟩ := h.ex
  exact ⟨metL n ls, p, ⟨hf, fun y hy => hy.1, h.sz.fl, h.sz.fb, fun y hy => (hq.met y hy).2.len hG.rel_lt⟩, ⟨hj, hh⟩, (hq.met j ⟨hj, hh⟩).2⟩
/-- an earlier number that is in the row and still there isn't met -/
theorem metL_of {k L W j : Nat} (hk : ls[k]? = some L) (hj : j < 64) (hn : 64 * k + j < n) (h : (W &&& L).testBit j = false) (hW : W.testBit j = true) : metL n ls (64 * k + j) := by
  refine ⟨hn, ?_⟩
  rw [hasR_nat, show (64 * k + j) / 64 = k by omega, show (64 * k + j) % 64 = j by omega, Row.get hk]
  rw [Nat.testBit_and, hW, Bool.true_and] at h
  exact h
end

/-! ### memory -/
/-- 'q = append(q, x)': the queue's block is the old one or new -/
theorem run_append_q2 {P : Program} (w : World) (base : Nat) (t ty e : TypeId) (i : TypeInfo) (z : Value) (ht : P.underlying t = some (.slice e)) (hi : P.info? e = some i) (hz : i.zero = some z) (hsize : i.size = 1) (hby : i.bytes = 8) (hzs : z.cells.size = 1)
    {v : Value} {zs : List Nat} (hq : QN w base e v zs) (ad : Addr) (c x : Nat) (hx : w.cell? ad = some (.int .i64 (x : Int))) (hn : zs.length ≤ 1073741824) (hbase : base ≤ w.heap.size) :
    ∃ v' w', (Builtin.append_ #[t, t] ty #[v, .slice (some ad) 1 c]).run P w = .ok v' w' ∧ QN w' base e v' (zs ++ [x]) ∧ w.grownBy w' v.ownBlock ∧ (v'.ownBlock = v.ownBlock ∨ ∃ k, v'.ownBlock = some k ∧ w.heap.size ≤ k) := by
  obtain ⟨g, off, cap, cs, rfl, hb, hg, hl, hm, hs, hc⟩ := hq
  have hnews : ∀ j u, [Value.int .i64 (x : Int)][j]? = some u → w.cell? (ad.add j) = some u := fun j u hj => by
    match j, hj with
    | 0, hj =>
      have ha : ad.add 0 = ad := by obtain ⟨b, o, s⟩ := ad; unfold Addr.add; split <;> simp_all
      rw [ha, hx]
      simpa using hj
    | j + 1, hj => simp at hj
  by_cases hr : zs.length + 1 ≤ cap
  · have hcell : (w.cell? ⟨g, off + zs.length, none⟩).isSome = true := by
      rw [cell_cells hg, Array.getElem?_eq_getElem (by omega)]; rfl
    have hrun := run_append_room_cells (P := P) w t ty e i ht hi g off zs.length cap ad 1 c [.int .i64 (x : Int)] (by rw [hsize]; rfl) hnews (by simp [Value.oneCell']) hr
      (fun j hj => by
        have : j = 0 := by simpa using hj
        subst this
        rw [hsize]; simpa using hcell)
      (fun j hj => frozen_cells hg _)
    rw [hsize, Nat.mul_one] at hrun
    have hset : w.setCells g (off + zs.length) [.int .i64 (x : Int)] = w.setCell ⟨g, off + zs.length, none⟩ (.int .i64 (x : Int)) := rfl
    rw [hset] at hrun
    refine ⟨_, _, hrun, ⟨g, off, cap, cs.set! (off + zs.length) (.int .i64 (x : Int)), by simp, hb, ?_, by simpa using hr, hm, by simpa using hs, fun j z' hj => ?_⟩, ?_, .inl rfl⟩
    · simp [World.setCell, Array.getElem?_modify, hg]
    · simp only [Array.set!_eq_setIfInBounds, Array.getElem?_setIfInBounds]
      rcases Nat.lt_or_ge j zs.length with hj' | hj'
      · rw [List.getElem?_append_left hj'] at hj
        rw [if_neg (by omega)]
        exact hc j z' hj
      · rw [List.getElem?_append_right hj'] at hj
        have hj0 : j - zs.length = 0 := by
          have := (List.getElem?_eq_some_iff.1 hj).1
          simpa using this
        rw [hj0] at hj
        simp at hj
        rw [if_pos (by omega), if_pos (by omega), hj]
    · exact ⟨rfl, rfl, rfl, by simp, fun k hk hne => Below.heap_setCell w _ _ k (by
        intro e'
        apply hne
        have e2 : k = g := e'
        rw [e2]; rfl)⟩
  · obtain ⟨v', w', hrun, hown, hgrow⟩ := run_append_arg_grows (P := P) w t ty e i z 1 8 ht hi hz hsize hby hzs (by omega) ⟨g, off, none⟩ zs.length cap (zs.map natv) (by simp)
      (fun j u hj => by
        rw [List.getElem?_map] at hj
        cases hh : zs[j]? with
        | none => rw [hh] at hj; cases hj
        | some y =>
          rw [hh] at hj
          have ha : (⟨g, off, none⟩ : Addr).add j = ⟨g, off + j, none⟩ := by unfold Addr.add; split <;> simp_all
          rw [ha, cell_cells hg, hc j y hh]
          simpa [natv] using hj)
      ad 1 c [.int .i64 (x : Int)] rfl hnews (by omega) (by unfold maxLen; omega) (by omega)
    have hnew : ∃ k, v'.ownBlock = some k ∧ w.heap.size ≤ k := by
      rcases hown.2 with ⟨h1, h2⟩ | ⟨k, cap', cur, hv, hk, _⟩
      · omega
      · exact ⟨k, by rw [hv]; rfl, hk⟩
    refine ⟨v', w', hrun, ?_, ⟨hgrow.os, hgrow.tape, hgrow.output, hgrow.size, fun k hk _ => hgrow.block k hk (by simp)⟩, .inr hnew⟩
    have h2 : w'.ownsRow base e 1 v' (zs.length + 1) ((zs ++ [x]).map natv) := by
      rw [List.map_append]
      exact own_base hown hbase
    exact QN.of_own h2 (by omega)
theorem wpList_append_q2 {P : Program} (w : World) {ops : Array Oper} {rest : List Oper} {o : Oper} {a : Act} {Q : Exit → Act → World → Prop} (hgd : o.guard = none) (s x : Operand) (t : TypeId)
    (ho : o.op = .call { callee := .builtin .append, args := #[s, x], argTypes := #[t, t] })
    (base : Nat) (e : TypeId) (i : TypeInfo) (z : Value) (ht : P.underlying t = some (.slice e)) (hi : P.info? e = some i) (hz : i.zero = some z) (hsize : i.size = 1) (hby : i.bytes = 8) (hzs : z.cells.size = 1)
    {v : Value} {zs : List Nat} (hs : a.eval s = v) (hq : QN w base e v zs) (ad : Addr) (c y : Nat) (hx : a.eval x = .slice (some ad) 1 c) (hy : w.cell? ad = some (.int .i64 (y : Int))) (hn : zs.length ≤ 1073741824) (hbase : base ≤ w.heap.size)
    (hK : ∀ v' w', QN w' base e v' (zs ++ [y]) → w.grownBy w' v.ownBlock → (v'.ownBlock = v.ownBlock ∨ ∃ k, v'.ownBlock = some k ∧ w.heap.size ≤ k) → wpList P ops Q rest (a.put o.dst v') w') : wpList P ops Q (o :: rest) a w := by
  refine wpList_plain hgd fun K hK' => ?_
  obtain ⟨v', w', hrun, h1, h2, h3⟩ := run_append_q2 (P := P) w base t o.type e i z ht hi hz hsize hby hzs hq ad c y hy hn hbase
  unfold Oper.wp
  simp [execOp, ho, resolve, invoke, builtin, hs, hx, hrun, Result.andThen]
  exact hK' _ _ (hK v' w' h1 h2 h3)
theorem Blk.type_ne {w : World} {g k : Nat} {t t' : TypeId} {cs cs' : List Value} (h : Blk w g t cs) (h' : Blk w k t' cs') (ht : t ≠ t') : g ≠ k := fun e => by
  subst e
  unfold Blk at h h'
  rw [h] at h'
  injection h' with h'
  injection h' with _ h2
  exact ht h2
theorem QN.type_ne {w : World} {base k : Nat} {t t' : TypeId} {v : Value} {zs : List Nat} {cs' : List Value} (h : QN w base t v zs) (h' : Blk w k t' cs') (ht : t ≠ t') : v.ownBlock ≠ some k := by
  obtain ⟨g, off, cap, cs, rfl, hb, hg, _⟩ := h
  intro e
  have e2 : g = k := by simpa [Value.ownBlock] using e
  subst e2
  unfold Blk at h'
  rw [hg] at h'
  injection h' with h'
  injection h' with _ h2
  exact ht h2
end Go.Proofs.Ytfeomhoicnjgpaa
