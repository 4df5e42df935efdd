/- Plain mathematics of layer 12: the matrix of a history's sessions is closed, doesn't go round, and has n (n - 1) / 2 pairs of each session. Nothing of the program is named. Plain mathematics of layer 10: writes of values, differentiated facts. Nothing of the program is named. Plain mathematics of layer 11: what reads read from. Nothing of the program is named. Plain mathematics of layer 13: writes and their reads, the edges, causal order. Nothing of the program is named. Plain mathematics of layer 17: conflicts, in order, and the hull of a matrix with them. Nothing of the program is named. Plain mathematics of layer 18: what an operation has seen, round by round. Nothing of the program is named. Plain mathematics of layer 16: what is ahead of an operation. Nothing of the program is named. A queue of numbers of a call's own: 'q = q[1:]', 'q = append(q, x)'. No function of the program is named here. And the search over a matrix's pairs, as plain mathematics. Contracts of package hull: place, below, Closed, Loop. Contracts of the document's own answers of layer 4: Closed, Loop. Contract of the document's own answer: Reach (a search with a queue). Contracts of the document's own answers of layer 4: Close, Add. Contracts of the document's own answers for matrices: Pairs. Contracts of the document's own answers for matrices: Turn. -/
import Derived.Test.YtjhjojklfdjmdaaGreatBadTellsPk2
import Derived.Test.YtjhjojklfdjmdaaGreatBadTellsPk3
import Derived.Test.YtjhjojklfdjmdaaGreatBadTellsPk1
import Derived.ArgAppend
namespace Go.Proofs.YtjhjojklfdjmdaaGreat
set_option maxRecDepth 100000
set_option maxHeartbeats 8000000
open Go.RowKit
set_option linter.unusedVariables false

theorem mem_rowPo {is : List It} {a n : Nat} {i j : Nat} : ((i : Int), (j : Int)) ∈ rowPo is a n ↔ i = a ∧ j < n ∧ aheadF is a j = true := by
 unfold rowPo;rw [List.mem_map]
 constructor
 ·rintro ⟨k, hk, he⟩
  obtain ⟨h1, h2⟩ := List.mem_filter.1 hk;have h1 := List.mem_range.1 h1;injection he with e1 e2;have e1 : a = i := by omega
  have e2 : k = j := by omega
  subst e1; subst e2;exact ⟨rfl, h1, h2⟩
 ·rintro ⟨rfl, h1, h2⟩
  exact ⟨j, List.mem_filter.2 ⟨List.mem_range.2 h1, h2⟩, rfl⟩
theorem mem_uptoPo {is : List It} {n m : Nat} {i j : Nat} : ((i : Int), (j : Int)) ∈ uptoPo is n m ↔ i < m ∧ j < n ∧ aheadF is i j = true := by
 unfold uptoPo;rw [List.mem_flatMap]
 constructor
 ·rintro ⟨a, ha, h⟩
  obtain ⟨rfl, h1, h2⟩ := mem_rowPo.1 h;exact ⟨List.mem_range.1 ha, h1, h2⟩
 ·rintro ⟨h0, h1, h2⟩
  exact ⟨i, List.mem_range.2 h0, mem_rowPo.2 ⟨rfl, h1, h2⟩⟩
theorem uptoPo_ok (is : List It) (n m : Nat) (h : m ≤ n) : ∀ x ∈ uptoPo is n m, okP (n : Int) x = true := fun x hx => by
 unfold uptoPo at hx;obtain ⟨a, ha, h1⟩ := List.mem_flatMap.1 hx;have ha := List.mem_range.1 ha;unfold rowPo at h1;obtain ⟨k, hk, rfl⟩ := List.mem_map.1 h1;have hk := List.mem_range.1 (List.mem_filter.1 hk).1;unfold okP inM
 simp; omega
theorem poM_good {is : List It} (h : is.length ≤ 4096) : Good is.length (poM is) ∧ ∀ i j : Nat, hasM (poM is) (i : Int) (j : Int) = aheadF is i j := by
 obtain ⟨h1, h2⟩ := foldP_facts h (uptoPo is is.length is.length) (uptoPo_ok is _ _ (Nat.le_refl _));refine ⟨h1, fun i j => ?_⟩;unfold poM;rw [h2 i j, Bool.eq_iff_iff, decide_eq_true_eq, mem_uptoPo]
 constructor
 ·exact fun h => h.2.2
 ·intro h
  have := aheadF_in h;exact ⟨by omega, by omega, h⟩

def hitW (v val : Int) (x : It) : Bool := x.wr && (decide (x.va = v) && decide (x.vl = val))
def writeF (is : List It) (v val : Int) : Option Nat := is.findIdx? (hitW v val)
theorem writeF_at {is : List It} {v val : Int} {k : Nat} {x : It} (hx : is[k]? = some x) (h : hitW v val x = true) (hn : ∀ j, j < k → ∀ y, is[j]? = some y → hitW v val y = false) : writeF is v val = some k := by
 obtain ⟨hk, he⟩ := List.getElem?_eq_some_iff.1 hx;unfold writeF;rw [List.findIdx?_eq_some_iff_getElem];exact ⟨hk, by rw [he]; exact h, fun j hj => by rw [hn j hj _ (List.getElem?_eq_getElem (by omega))]; simp⟩
theorem writeF_none {is : List It} {v val : Int} (hn : ∀ (j : Nat) (y : It), is[j]? = some y → hitW v val y = false) : writeF is v val = none := by
 unfold writeF;rw [List.findIdx?_eq_none_iff];intro x hx;obtain ⟨j, hj, e⟩ := List.mem_iff_getElem.1 hx;exact hn j x (by rw [← e]; exact List.getElem?_eq_getElem hj)
theorem writeF_some {is : List It} {v val : Int} {k : Nat} (h : writeF is v val = some k) : ∃ x, is[k]? = some x ∧ hitW v val x = true ∧ ∀ (j : Nat) (y : It), j < k → is[j]? = some y → hitW v val y = false := by
 unfold writeF at h;rw [List.findIdx?_eq_some_iff_getElem] at h;obtain ⟨hk, h1, h2⟩ := h;refine ⟨is[k], List.getElem?_eq_getElem hk, h1, fun j y hj hy => ?_⟩;obtain ⟨hjl, e⟩ := List.getElem?_eq_some_iff.1 hy;have := h2 j hj;rw [e] at this
 simpa using this
def stepC (is : List It) (j : Nat) : Option (Int × Int × Int) :=
 match is[j]? with
 | none => none
 | some x => if x.wr = false then none else if x.vl = 0 then some (j, j, 5) else if (writeF is x.va x.vl).getD 0 < j then some (((writeF is x.va x.vl).getD 0 : Nat), j, 4) else none
def checkF (is : List It) : Int × Int × Int := ((List.range is.length).findSome? (stepC is)).getD (0, 0, 0)
theorem range_first {n j : Nat} {α : Type} {f : Nat → Option α} {a : α} (hj : j < n) (h : f j = some a) (hn : ∀ i, i < j → f i = none) : (List.range n).findSome? f = some a := by
 rw [List.findSome?_eq_some_iff];refine ⟨List.range j, j, List.range' (j + 1) (n - j - 1), ?_, h, fun x hx => hn x (by simpa using hx)⟩;rw [List.range_eq_range', List.range_eq_range', show n = j + (n - j) by omega, ← List.range'_append_1, show j + (n - j) - j - 1 = n - j - 1 by omega]
 congr 1
 rw [show n - j = (n - j - 1) + 1 by omega, List.range'_succ]
 simp
theorem checkF_at {is : List It} {j : Nat} {r : Int × Int × Int} (h : stepC is j = some r) (hn : ∀ i, i < j → stepC is i = none) : checkF is = r := by
 have hj : j < is.length := by
  rcases Nat.lt_or_ge j is.length with h1 | h1
  ·exact h1
  ·unfold stepC at h; rw [List.getElem?_eq_none h1] at h; cases h
 unfold checkF;rw [range_first hj h hn]; rfl
theorem checkF_none {is : List It} (hn : ∀ i, i < is.length → stepC is i = none) : checkF is = (0, 0, 0) := by
 unfold checkF;have : (List.range is.length).findSome? (stepC is) = none := by
  rw [List.findSome?_eq_none_iff];exact fun x hx => hn x (by simpa using hx)
 rw [this]; rfl

def fromOne (is : List It) (x : It) : Int := if x.wr = true then -3 else if x.vl = 0 then -1 else match writeF is x.va x.vl with | some w => (w : Int) | none => -2
def fromF (is : List It) : List Int := is.map (fromOne is)
def fillF (f : Fac) : Fac := ⟨f.vars, f.items, fromF f.items⟩
def readN (frm : List Int) (w : Int) (n : Nat) : List Nat := (List.range n).filter fun i => decide (0 ≤ w) && decide (frm.getD i 0 = w)
def readF (frm : List Int) (w : Int) (n : Nat) : List Int := (readN frm w n).map fun (i : Nat) => (i : Int)
theorem fromF_len (is : List It) : (fromF is).length = is.length := List.length_map _
theorem fromF_at {is : List It} {k : Nat} {x : It} (h : is[k]? = some x) : (fromF is)[k]? = some (fromOne is x) := by unfold fromF; rw [List.getElem?_map, h]; rfl
theorem fromF_take {is : List It} {k : Nat} {x : It} (h : is[k]? = some x) : (fromF is).take (k + 1) = (fromF is).take k ++ [fromOne is x] := by
 rw [List.take_add_one, fromF_at h]; rfl
theorem fromOne_range (is : List It) (x : It) : -3 ≤ fromOne is x ∧ fromOne is x < (is.length : Int) := by
 unfold fromOne
 split
 ·omega
 ·split
  ·omega
  ·cases h : writeF is x.va x.vl with
   | none => simp only; omega
   | some w =>
    obtain ⟨y, hy, _⟩ := writeF_some h;have := (List.getElem?_eq_some_iff.1 hy).1
    simp only; omega
theorem readN_succ (frm : List Int) (w : Int) (n : Nat) : readN frm w (n + 1) = if (decide (0 ≤ w) && decide (frm.getD n 0 = w)) = true then readN frm w n ++ [n] else readN frm w n := by
 unfold readN;rw [List.range_succ, List.filter_append]
 split
 ·rename_i h; rw [List.filter_cons_of_pos (by exact h)]; rfl
 ·rename_i h; rw [List.filter_cons_of_neg (by exact h)]; simp
theorem readF_succ (frm : List Int) (w : Int) (n : Nat) : readF frm w (n + 1) = if (decide (0 ≤ w) && decide (frm.getD n 0 = w)) = true then readF frm w n ++ [(n : Int)] else readF frm w n := by
 unfold readF;rw [readN_succ]
 split
 ·simp
 ·rfl
theorem readF_len (frm : List Int) (w : Int) (n : Nat) : (readF frm w n).length ≤ n := by
 unfold readF readN;rw [List.length_map];exact Nat.le_trans (List.length_filter_le _ _) (by simp)
theorem readF_ok (frm : List Int) (w : Int) (n : Nat) : ∀ z ∈ readF frm w n, 0 ≤ z ∧ z < (n : Int) := fun z hz => by
 unfold readF at hz;obtain ⟨i, hi, rfl⟩ := List.mem_map.1 hz;unfold readN at hi;have := List.mem_range.1 (List.mem_filter.1 hi).1
 omega

/-! ### how many reads read from a write -/
theorem readF_at {frm : List Int} {w : Int} {n q : Nat} {z : Int} (h : (readF frm w n)[q]? = some z) : 0 ≤ w ∧ 0 ≤ z ∧ z < (n : Int) ∧ frm.getD z.toNat 0 = w := by
 unfold readF at h;rw [List.getElem?_map] at h
 cases ha : (readN frm w n)[q]? with
 | none => rw [ha] at h; cases h
 | some a =>
  rw [ha] at h;have h : some (a : Int) = some z := h;injection h with h;have hm := List.mem_of_getElem? ha;unfold readN at hm;obtain ⟨h1, h2⟩ := List.mem_filter.1 hm;rw [Bool.and_eq_true, decide_eq_true_eq, decide_eq_true_eq] at h2;have := List.mem_range.1 h1;subst h;exact ⟨h2.1, by omega, by omega, by rw [Int.toNat_natCast]; exact h2.2⟩

def rfPs (frm : List Int) (i : Nat) : List (Int × Int) := ((List.range i).filter fun k => decide (0 ≤ frm.getD k 0)).map fun (k : Nat) => (frm.getD k 0, (k : Int))
def rfM (n : Nat) (frm : List Int) : List (List Nat) := foldP n (rfPs frm frm.length)
def edgeM (f : Fac) : List (List Nat) := orM (poM f.items) (rfM f.items.length f.frm)
def coM (f : Fac) : List (List Nat) := closeK (edgeM f) f.items.length
theorem rfPs_succ (frm : List Int) (i : Nat) : rfPs frm (i + 1) = if 0 ≤ frm.getD i 0 then rfPs frm i ++ [(frm.getD i 0, (i : Int))] else rfPs frm i := by
 unfold rfPs;rw [List.range_succ, List.filter_append]
 split
 ·rename_i h; rw [List.filter_cons_of_pos (by exact decide_eq_true h)]; simp
 ·rename_i h; rw [List.filter_cons_of_neg (by simpa using h)]; simp
theorem mem_rfPs {frm : List Int} {n i j : Nat} : ((i : Int), (j : Int)) ∈ rfPs frm n ↔ j < n ∧ frm.getD j 0 = (i : Int) := by
 unfold rfPs;rw [List.mem_map]
 constructor
 ·rintro ⟨k, hk, he⟩
  obtain ⟨h1, h2⟩ := List.mem_filter.1 hk;have h1 := List.mem_range.1 h1;injection he with e1 e2;have e2 : k = j := by omega
  subst e2;exact ⟨h1, e1⟩
 ·rintro ⟨h1, h2⟩
  exact ⟨j, List.mem_filter.2 ⟨List.mem_range.2 h1, by rw [h2]; exact decide_eq_true (by omega)⟩, by rw [h2]⟩
structure WholeF (f : Fac) : Prop where
 len : f.frm.length = f.items.length
 lt : ∀ z ∈ f.frm, z < (f.items.length : Int)
theorem fillF_whole (f : Fac) : WholeF (fillF f) := ⟨fromF_len _, fun z hz => by
 have hz : z ∈ f.items.map (fromOne f.items) := hz;obtain ⟨x, -, rfl⟩ := List.mem_map.1 hz;exact (fromOne_range _ _).2⟩
theorem rfPs_ok {f : Fac} (hw : WholeF f) : ∀ x ∈ rfPs f.frm f.frm.length, okP (f.items.length : Int) x = true := fun x hx => by
 unfold rfPs at hx;obtain ⟨k, hk, rfl⟩ := List.mem_map.1 hx;obtain ⟨h1, h2⟩ := List.mem_filter.1 hk;have h1 := List.mem_range.1 h1;have h2 := of_decide_eq_true h2;have h3 := hw.len;have h4 : f.frm.getD k 0 < (f.items.length : Int) := hw.lt _ (by rw [List.getD_eq_getElem?_getD, List.getElem?_eq_getElem h1]; exact List.getElem_mem h1);unfold okP inM;simp only [Bool.and_eq_true, decide_eq_true_eq]
 omega
theorem rfM_good {f : Fac} (hw : WholeF f) (h : f.items.length ≤ 4096) : Good f.items.length (rfM f.items.length f.frm) ∧ ∀ i j : Nat, Rel (rfM f.items.length f.frm) i j ↔ j < f.items.length ∧ f.frm.getD j 0 = (i : Int) := by
 obtain ⟨h1, h2⟩ := foldP_facts h (rfPs f.frm f.frm.length) (rfPs_ok hw);refine ⟨h1, fun i j => ?_⟩;unfold Rel rfM;rw [h2 i j, decide_eq_true_eq, mem_rfPs, hw.len]
theorem orM_at {a b : List (List Nat)} {i : Nat} {r s : List Nat} (hr : a[i]? = some r) (hs : b[i]? = some s) : (orM a b)[i]? = some (orR r s) := by
 have hi := (List.getElem?_eq_some_iff.1 hr).1;unfold orM;rw [List.getElem?_map, List.getElem?_range hi, Option.map_some, getD_at hr, getD_at hs]
theorem orM_good {n : Nat} {a b : List (List Nat)} (ha : Good n a) (hb : Good n b) : Good n (orM a b) ∧ ∀ i j : Nat, Rel (orM a b) i j ↔ Rel a i j ∨ Rel b i j := by
 have hat : ∀ i, i < n → ∃ r s, a[i]? = some r ∧ b[i]? = some s ∧ (orM a b)[i]? = some (orR r s) := fun i hi => by
  obtain ⟨r, hr, -, -⟩ := ha.at_ hi;obtain ⟨s, hs, -, -⟩ := hb.at_ hi;exact ⟨r, s, hr, hs, orM_at hr hs⟩
 have hG : Good n (orM a b) := by
  refine ⟨ha.le, by rw [orM_len, ha.len], fun x hx => ?_⟩;obtain ⟨i, hi⟩ := List.getElem?_of_mem hx;have hil : i < n := by
   have := (List.getElem?_eq_some_iff.1 hi).1
   rwa [orM_len, ha.len] at this
  obtain ⟨r, s, hr, hs, ho⟩ := hat i hil;rw [ho] at hi;injection hi with hi;subst hi;have h1 := ha.row r (List.mem_of_getElem? hr);have h2 := hb.row s (List.mem_of_getElem? hs);have hl : (orR r s).length = r.length := by rw [orR_len, h1.2.2.1, h2.2.2.1]; omega
  refine ⟨orR_w64 h1.1 h2.1, by rw [hl]; exact h1.2.1, by rw [hl]; exact h1.2.2.1, fun j hj => ?_⟩;rw [hasR_orR, h1.2.2.2 j hj, h2.2.2.2 j hj]; rfl
 refine ⟨hG, fun i j => ?_⟩;unfold Rel;by_cases hi : i < n
 ·obtain ⟨r, s, hr, hs, ho⟩ := hat i hi
  rw [hasM_in ho, hasM_in hr, hasM_in hs, hasR_orR, Bool.or_eq_true]
 ·rw [hasM_out (.inr (by rw [orM_len, ha.len]; omega)), hasM_out (.inr (by rw [ha.len]; omega)), hasM_out (.inr (by rw [hb.len]; omega))]; simp
theorem edgeM_good {f : Fac} (hw : WholeF f) (h : f.items.length ≤ 4096) : Good f.items.length (edgeM f) ∧ ∀ i j : Nat, Rel (edgeM f) i j ↔ aheadF f.items i j = true ∨ (j < f.items.length ∧ f.frm.getD j 0 = (i : Int)) := by
 have hp := poM_good h;have hr := rfM_good hw h;have ho := orM_good hp.1 hr.1;refine ⟨ho.1, fun i j => ?_⟩;rw [show edgeM f = orM (poM f.items) (rfM f.items.length f.frm) from rfl, ho.2, hr.2];unfold Rel;rw [hp.2]
theorem coM_hull {f : Fac} (hw : WholeF f) (h : f.items.length ≤ 4096) : IsHull f.items.length (Rel (edgeM f)) (coM f) := closeK_hull (edgeM_good hw h).1

structure Ed where
 w1 : Int
 w2 : Int
 rd : Int
deriving DecidableEq
structure Ed.Ok (e : Ed) : Prop where
 a0 : -9223372036854775808 ≤ e.w1
 a1 : e.w1 < 9223372036854775808
 b0 : -9223372036854775808 ≤ e.w2
 b1 : e.w2 < 9223372036854775808
 r0 : -9223372036854775808 ≤ e.rd
 r1 : e.rd < 9223372036854775808
def encE : Enc Ed := { cells := fun e => [.int .i64 e.w1, .int .i64 e.w2, .int .i64 e.rd], sz := 3, pos := by decide, len := fun _ => rfl, one := fun x u h => by simp only [List.mem_cons, List.not_mem_nil, or_false] at h; rcases h with rfl | rfl | rfl <;> rfl, ok := Ed.Ok }
theorem LAt.edge {w : World} {A : Option Addr} {n k : Nat} {xs : List Ed} (h : LAt encE w A n xs) (hk : k < n) : ∃ b off x, A = some ⟨b, off, none⟩ ∧ b < w.heap.size ∧ xs[k]? = some x ∧ Ed.Ok x ∧
  w.cell? ⟨b, off + k * 3, none⟩ = some (.int .i64 x.w1) ∧ w.cell? ⟨b, off + k * 3 + 1, none⟩ = some (.int .i64 x.w2) ∧ w.cell? ⟨b, off + k * 3 + 2, none⟩ = some (.int .i64 x.rd) := by
 obtain ⟨b, off, x, e, hb, hx, hok, hc⟩ := h.at_ hk;exact ⟨b, off, x, e, hb, hx, hok, hc 0 _ rfl, hc 1 _ rfl, hc 2 _ rfl⟩
def RetEL (xs : List Ed) (w : World) (e : Ending) (w' : World) : Prop := ∃ A n c, e = .returned (.slice A n c) ∧ LAt encE w' A n xs ∧ n ≤ c ∧ c ≤ 9223372036854775807 ∧ Below w.heap.size w w'

def bothW (is : List It) (a b : Nat) : Bool := match is[a]?, is[b]? with | some x, some y => x.wr && y.wr && decide (x.va = y.va) | _, _ => false
theorem bothW_at {is : List It} {a b : Nat} {x y : It} (hx : is[a]? = some x) (hy : is[b]? = some y) : bothW is a b = (x.wr && y.wr && decide (x.va = y.va)) := by unfold bothW; rw [hx, hy]
def clB (f : Fac) (M : List (List Nat)) (a b r : Nat) : Bool := (decide (a ≠ b) && bothW f.items a b) && decide (f.frm.getD r 0 = (b : Int)) && hasM M (a : Int) (r : Int)
def eR (f : Fac) (M : List (List Nat)) (a b n : Nat) : List Ed := ((List.range n).filter (clB f M a b)).map fun (r : Nat) => (⟨(a : Int), (b : Int), (r : Int)⟩ : Ed)
def eB (f : Fac) (M : List (List Nat)) (a n k : Nat) : List Ed := (List.range k).flatMap fun b => eR f M a b n
def eA (f : Fac) (M : List (List Nat)) (n k : Nat) : List Ed := (List.range k).flatMap fun a => eB f M a n n
def edgesF (f : Fac) (M : List (List Nat)) : List Ed := eA f M f.items.length f.items.length
theorem eR_succ (f : Fac) (M : List (List Nat)) (a b n : Nat) : eR f M a b (n + 1) = if clB f M a b n = true then eR f M a b n ++ [⟨(a : Int), (b : Int), (n : Int)⟩] else eR f M a b n := by
 unfold eR;rw [List.range_succ, List.filter_append]
 split
 ·rename_i h; rw [List.filter_cons_of_pos h]; simp
 ·rename_i h; rw [List.filter_cons_of_neg h]; simp
theorem eR_zero (f : Fac) (M : List (List Nat)) (a b : Nat) : eR f M a b 0 = [] := rfl
theorem eB_zero (f : Fac) (M : List (List Nat)) (a n : Nat) : eB f M a n 0 = [] := rfl
theorem eA_zero (f : Fac) (M : List (List Nat)) (n : Nat) : eA f M n 0 = [] := rfl
theorem eB_succ (f : Fac) (M : List (List Nat)) (a n k : Nat) : eB f M a n (k + 1) = eB f M a n k ++ eR f M a k n := by
 unfold eB; rw [List.range_succ, List.flatMap_append]; simp
theorem eA_succ (f : Fac) (M : List (List Nat)) (n k : Nat) : eA f M n (k + 1) = eA f M n k ++ eB f M k n n := by
 unfold eA; rw [List.range_succ, List.flatMap_append]; simp
theorem eR_len (f : Fac) (M : List (List Nat)) (a b n : Nat) : (eR f M a b n).length ≤ n := by
 unfold eR; rw [List.length_map]; exact Nat.le_trans (List.length_filter_le _ _) (by rw [List.length_range]; exact Nat.le_refl _)
theorem eB_len (f : Fac) (M : List (List Nat)) (a n : Nat) : ∀ k, (eB f M a n k).length ≤ k * n
 | 0 => by simp [eB_zero]
 | k + 1 => by rw [eB_succ, List.length_append, Nat.succ_mul]; have := eB_len f M a n k; have := eR_len f M a k n; omega
theorem eA_len (f : Fac) (M : List (List Nat)) (n : Nat) : ∀ k, (eA f M n k).length ≤ k * (n * n)
 | 0 => by simp [eA_zero]
 | k + 1 => by rw [eA_succ, List.length_append, Nat.succ_mul]; have := eA_len f M n k; have := eB_len f M k n n; omega
theorem mem_eR {f : Fac} {M : List (List Nat)} {a b n : Nat} {x : Ed} : x ∈ eR f M a b n ↔ ∃ r : Nat, r < n ∧ x = ⟨(a : Int), (b : Int), (r : Int)⟩ ∧ clB f M a b r = true := by
 unfold eR;rw [List.mem_map]
 constructor
 ·rintro ⟨r, hr, rfl⟩
  obtain ⟨h1, h2⟩ := List.mem_filter.1 hr;exact ⟨r, List.mem_range.1 h1, rfl, h2⟩
 ·rintro ⟨r, h1, rfl, h2⟩
  exact ⟨r, List.mem_filter.2 ⟨List.mem_range.2 h1, h2⟩, rfl⟩
theorem mem_eB {f : Fac} {M : List (List Nat)} {a n k : Nat} {x : Ed} : x ∈ eB f M a n k ↔ ∃ b r : Nat, b < k ∧ r < n ∧ x = ⟨(a : Int), (b : Int), (r : Int)⟩ ∧ clB f M a b r = true := by
 unfold eB;rw [List.mem_flatMap]
 constructor
 ·rintro ⟨b, hb, hx⟩
  obtain ⟨r, h1, h2, h3⟩ := mem_eR.1 hx;exact ⟨b, r, List.mem_range.1 hb, h1, h2, h3⟩
 ·rintro ⟨b, r, hb, h1, h2, h3⟩
  exact ⟨b, List.mem_range.2 hb, mem_eR.2 ⟨r, h1, h2, h3⟩⟩
theorem mem_eA {f : Fac} {M : List (List Nat)} {n k : Nat} {x : Ed} : x ∈ eA f M n k ↔ ∃ a b r : Nat, a < k ∧ b < n ∧ r < n ∧ x = ⟨(a : Int), (b : Int), (r : Int)⟩ ∧ clB f M a b r = true := by
 unfold eA;rw [List.mem_flatMap]
 constructor
 ·rintro ⟨a, ha, hx⟩
  obtain ⟨b, r, h0, h1, h2, h3⟩ := mem_eB.1 hx;exact ⟨a, b, r, List.mem_range.1 ha, h0, h1, h2, h3⟩
 ·rintro ⟨a, b, r, ha, h0, h1, h2, h3⟩
  exact ⟨a, List.mem_range.2 ha, mem_eB.2 ⟨b, r, h0, h1, h2, h3⟩⟩
theorem mem_edgesF {f : Fac} {M : List (List Nat)} {x : Ed} : x ∈ edgesF f M ↔ ∃ a b r : Nat, a < f.items.length ∧ b < f.items.length ∧ r < f.items.length ∧ x = ⟨(a : Int), (b : Int), (r : Int)⟩ ∧ clB f M a b r = true := mem_eA
theorem edgesF_ok {f : Fac} {M : List (List Nat)} (h : f.items.length ≤ 1048576) : ∀ x ∈ edgesF f M, Ed.Ok x := fun x hx => by
 obtain ⟨a, b, r, h1, h2, h3, rfl, -⟩ := mem_edgesF.1 hx;exact ⟨by simp only; omega, by simp only; omega, by simp only; omega, by simp only; omega, by simp only; omega, by simp only; omega⟩
def edP (l : List Ed) : List (Int × Int) := l.map fun e => (e.w1, e.w2)
theorem edP_ok {f : Fac} {M : List (List Nat)} : ∀ p ∈ edP (edgesF f M), okP (f.items.length : Int) p = true := fun p hp => by
 unfold edP at hp;obtain ⟨x, hx, rfl⟩ := List.mem_map.1 hp;obtain ⟨a, b, r, h1, h2, h3, rfl, -⟩ := mem_edgesF.1 hx;unfold okP inM;simp only [Bool.and_eq_true, decide_eq_true_eq]
 omega
def cfX (f : Fac) (M : List (List Nat)) : List (List Nat) := (edP (edgesF f M)).foldl setP M
def cfM (f : Fac) (M : List (List Nat)) : List (List Nat) := closeK (cfX f M) f.items.length
theorem cfX_good {f : Fac} {M : List (List Nat)} (hG : Good f.items.length M) : Good f.items.length (cfX f M) := (fold_facts _ M hG edP_ok).1
theorem cfX_rel {f : Fac} {M : List (List Nat)} (hG : Good f.items.length M) (i j : Nat) : Rel (cfX f M) i j ↔ Rel M i j ∨ ((i : Int), (j : Int)) ∈ edP (edgesF f M) := by
 unfold Rel cfX;rw [(fold_facts _ M hG edP_ok).2, Bool.or_eq_true, decide_eq_true_eq]
theorem cfM_hull {f : Fac} {M : List (List Nat)} (hG : Good f.items.length M) : IsHull f.items.length (Rel (cfX f M)) (cfM f M) := closeK_hull (cfX_good hG)
def loopB (n : Nat) (X : List (List Nat)) : Bool := (List.range n).any fun i => hasM X (i : Int) (i : Int)
theorem loopB_iff {n : Nat} {X : List (List Nat)} : loopB n X = true ↔ ∃ i, i < n ∧ Rel X i i := by
 unfold loopB Rel;rw [List.any_eq_true]
 constructor
 ·rintro ⟨i, h1, h2⟩; exact ⟨i, List.mem_range.1 h1, h2⟩
 ·rintro ⟨i, h1, h2⟩; exact ⟨i, List.mem_range.2 h1, h2⟩
theorem edP_take {l : List Ed} {q : Nat} {x : Ed} (h : l[q]? = some x) (M : List (List Nat)) : (edP (l.take (q + 1))).foldl setP M = setM ((edP (l.take q)).foldl setP M) x.w1 x.w2 := by
 have hq := (List.getElem?_eq_some_iff.1 h).1;unfold edP;rw [List.take_succ_eq_append_getElem hq, List.map_append, List.foldl_append, (List.getElem?_eq_some_iff.1 h).2]
 rfl
theorem edP_take_good {f : Fac} {M X : List (List Nat)} (hG : Good f.items.length M) (q : Nat) : Good f.items.length ((edP ((edgesF f X).take q)).foldl setP M) :=
 (fold_facts _ M hG (fun p hp => by
  unfold edP at hp;obtain ⟨x, hx, rfl⟩ := List.mem_map.1 hp;exact edP_ok (f := f) (M := X) _ (List.mem_map.2 ⟨x, List.mem_of_mem_take hx, rfl⟩))).1
theorem edgesF_at {f : Fac} {M : List (List Nat)} {q : Nat} {x : Ed} (h : (edgesF f M)[q]? = some x) : inM (f.items.length : Int) x.w1 x.w2 = true := edP_ok (f := f) (M := M) (x.w1, x.w2) (List.mem_map.2 ⟨x, List.mem_of_getElem? h, rfl⟩)

/-! ### what a round finds -/
def nwG (f : Fac) (X : List (List Nat)) (a b : Nat) : Bool := decide (a ≠ b) && bothW f.items a b && !(hasM X (a : Int) (b : Int))
def nwK (f : Fac) (X : List (List Nat)) (a b : Nat) (r : Int) : Bool := decide (f.frm.getD r.toNat 0 = (b : Int)) && hasM X (a : Int) r
def nwO (f : Fac) (X : List (List Nat)) (kept : List Int) (a b : Nat) : Option Ed := if nwG f X a b = true then (kept.find? (nwK f X a b)).map (fun r => ⟨(a : Int), (b : Int), r⟩) else none
def nwB (f : Fac) (X : List (List Nat)) (kept : List Int) (a k : Nat) : List Ed := (List.range k).flatMap fun b => (nwO f X kept a b).toList
def nwA (f : Fac) (X : List (List Nat)) (kept : List Int) (n k : Nat) : List Ed := (List.range k).flatMap fun a => nwB f X kept a n
def newF (f : Fac) (X : List (List Nat)) (kept : List Int) : List Ed := nwA f X kept f.items.length f.items.length
section
variable {f : Fac} {X : List (List Nat)} {kept : List Int}
theorem nwB_zero (a : Nat) : nwB f X kept a 0 = [] := rfl
theorem nwA_zero (n : Nat) : nwA f X kept n 0 = [] := rfl
theorem nwB_succ (a k : Nat) : nwB f X kept a (k + 1) = nwB f X kept a k ++ (nwO f X kept a k).toList := by
 unfold nwB; rw [List.range_succ, List.flatMap_append]; simp
theorem nwA_succ (n k : Nat) : nwA f X kept n (k + 1) = nwA f X kept n k ++ nwB f X kept k n := by
 unfold nwA; rw [List.range_succ, List.flatMap_append]; simp
theorem nwO_len (a b : Nat) : (nwO f X kept a b).toList.length ≤ 1 := by cases nwO f X kept a b <;> simp
theorem nwB_len (a : Nat) : ∀ k, (nwB f X kept a k).length ≤ k
 | 0 => by simp [nwB_zero]
 | k + 1 => by rw [nwB_succ, List.length_append]; have := nwB_len a k; have := nwO_len (f := f) (X := X) (kept := kept) a k; omega
theorem nwA_len (n : Nat) : ∀ k, (nwA f X kept n k).length ≤ k * n
 | 0 => by simp [nwA_zero]
 | k + 1 => by rw [nwA_succ, List.length_append, Nat.succ_mul]; have := nwA_len n k; have := nwB_len (f := f) (X := X) (kept := kept) k n; omega
theorem nwO_some {a b : Nat} {x : Ed} (h : nwO f X kept a b = some x) : nwG f X a b = true ∧ x.w1 = (a : Int) ∧ x.w2 = (b : Int) ∧ x.rd ∈ kept ∧ nwK f X a b x.rd = true := by
 unfold nwO at h
 split at h
 ·rename_i hg
  cases hr : kept.find? (nwK f X a b) with
  | none => rw [hr] at h; cases h
  | some r =>
   rw [hr] at h;simp only [Option.map_some, Option.some.injEq] at h;subst h;exact ⟨hg, rfl, rfl, List.mem_of_find?_eq_some hr, List.find?_some hr⟩
 ·cases h
theorem mem_nwB {a k : Nat} {x : Ed} : x ∈ nwB f X kept a k ↔ ∃ b, b < k ∧ nwO f X kept a b = some x := by
 unfold nwB;rw [List.mem_flatMap]
 constructor
 ·rintro ⟨b, hb, hx⟩; exact ⟨b, List.mem_range.1 hb, by rwa [Option.mem_toList] at hx⟩
 ·rintro ⟨b, hb, hx⟩; exact ⟨b, List.mem_range.2 hb, by rwa [Option.mem_toList]⟩
theorem mem_nwA {n k : Nat} {x : Ed} : x ∈ nwA f X kept n k ↔ ∃ a b, a < k ∧ b < n ∧ nwO f X kept a b = some x := by
 unfold nwA;rw [List.mem_flatMap]
 constructor
 ·rintro ⟨a, ha, hx⟩
  obtain ⟨b, hb, h⟩ := mem_nwB.1 hx;exact ⟨a, b, List.mem_range.1 ha, hb, h⟩
 ·rintro ⟨a, b, ha, hb, h⟩; exact ⟨a, List.mem_range.2 ha, mem_nwB.2 ⟨b, hb, h⟩⟩
theorem mem_newF {x : Ed} : x ∈ newF f X kept ↔ ∃ a b, a < f.items.length ∧ b < f.items.length ∧ nwO f X kept a b = some x := mem_nwA
theorem newF_some {x : Ed} (h : x ∈ newF f X kept) : ∃ a b : Nat, a < f.items.length ∧ b < f.items.length ∧ x.w1 = (a : Int) ∧ x.w2 = (b : Int) ∧ a ≠ b ∧ bothW f.items a b = true ∧ ¬ Rel X a b ∧ x.rd ∈ kept ∧ f.frm.getD x.rd.toNat 0 = (b : Int) ∧ hasM X (a : Int) x.rd = true := by
 obtain ⟨a, b, ha, hb, h⟩ := mem_newF.1 h;obtain ⟨h1, h2, h3, h4, h5⟩ := nwO_some h;unfold nwG at h1;unfold nwK at h5;simp only [Bool.and_eq_true, Bool.not_eq_true', decide_eq_true_eq] at h1 h5;exact ⟨a, b, ha, hb, h2, h3, h1.1.1, h1.1.2, by unfold Rel; rw [h1.2]; simp, h4, h5.1, h5.2⟩
theorem newF_nil : newF f X kept = [] ↔ ∀ a b, a < f.items.length → b < f.items.length → a ≠ b → bothW f.items a b = true → ∀ r ∈ kept, f.frm.getD r.toNat 0 = (b : Int) → hasM X (a : Int) r = true → Rel X a b := by
 constructor
 ·intro h a b ha hb hne hbo r hr h1 h2
  cases hx : hasM X (a : Int) (b : Int) with
  | true => exact hx
  | false =>
   exfalso
   have hg : nwG f X a b = true := by unfold nwG; rw [decide_eq_true hne, hbo, hx]; rfl
   cases hf : kept.find? (nwK f X a b) with
   | none =>
    have := List.find?_eq_none.1 hf r hr;unfold nwK at this;rw [decide_eq_true h1, h2] at this;simp at this
   | some q =>
    have : (⟨(a : Int), (b : Int), q⟩ : Ed) ∈ newF f X kept := mem_newF.2 ⟨a, b, ha, hb, by unfold nwO; rw [if_pos hg, hf]; rfl⟩;rw [h] at this
    cases this
 ·intro h
  refine List.eq_nil_iff_forall_not_mem.2 (fun x hx => ?_);obtain ⟨a, b, ha, hb, -, -, hne, hbo, hn, hr, h1, h2⟩ := newF_some hx;exact hn (h a b ha hb hne hbo x.rd hr h1 h2)
theorem nwB_nodup (a : Nat) : ∀ k, (edP (nwB f X kept a k)).Nodup
 | 0 => by simp [nwB_zero, edP]
 | k + 1 => by
  unfold edP;rw [nwB_succ, List.map_append];refine List.nodup_append.2 ⟨nwB_nodup a k, ?_, fun p hp q hq e => ?_⟩
  ·cases nwO f X kept a k <;> simp
  ·obtain ⟨x, hx, rfl⟩ := List.mem_map.1 hp
   obtain ⟨y, hy, rfl⟩ := List.mem_map.1 hq;rw [Option.mem_toList] at hy;obtain ⟨b, hb, hx⟩ := mem_nwB.1 hx;obtain ⟨-, -, h1, -, -⟩ := nwO_some hx;obtain ⟨-, -, h2, -, -⟩ := nwO_some hy;injection e with e1 e2
   omega
theorem nwA_nodup (n : Nat) : ∀ k, (edP (nwA f X kept n k)).Nodup
 | 0 => by simp [nwA_zero, edP]
 | k + 1 => by
  unfold edP;rw [nwA_succ, List.map_append];refine List.nodup_append.2 ⟨nwA_nodup n k, nwB_nodup k n, fun p hp q hq e => ?_⟩;obtain ⟨x, hx, rfl⟩ := List.mem_map.1 hp;obtain ⟨y, hy, rfl⟩ := List.mem_map.1 hq;obtain ⟨a, b, ha, -, hx⟩ := mem_nwA.1 hx;obtain ⟨b', -, hy⟩ := mem_nwB.1 hy;obtain ⟨-, h1, -, -, -⟩ := nwO_some hx;obtain ⟨-, h2, -, -, -⟩ := nwO_some hy;injection e with e1 e2
  omega
theorem newF_ok : ∀ p ∈ edP (newF f X kept), okP (f.items.length : Int) p = true := fun p hp => by
 obtain ⟨x, hx, rfl⟩ := List.mem_map.1 hp;obtain ⟨a, b, ha, hb, h1, h2, -⟩ := newF_some hx;unfold okP inM;simp only [h1, h2, Bool.and_eq_true, decide_eq_true_eq]
 omega
end
/-! ### the rounds -/
def seX (f : Fac) (kept : List Int) (B : List (List Nat)) : Nat → List (List Nat)
 | 0 => B
 | k + 1 => closeK ((edP (newF f (seX f kept B k) kept)).foldl setP (seX f kept B k)) f.items.length
def seL (f : Fac) (kept : List Int) (B : List (List Nat)) : Nat → List Ed
 | 0 => []
 | k + 1 => seL f kept B k ++ newF f (seX f kept B k) kept
def SeenIs (f : Fac) (kept : List Int) (B : List (List Nat)) (k : Nat) : Prop := (∀ j, j < k → newF f (seX f kept B j) kept ≠ []) ∧ newF f (seX f kept B k) kept = []
section
variable {f : Fac} {kept : List Int} {B : List (List Nat)}
theorem SeenIs.unique {j k : Nat} (h : SeenIs f kept B j) (h' : SeenIs f kept B k) : j = k := by
 rcases Nat.lt_trichotomy j k with h1 | h1 | h1
 ·exact absurd h.2 (h'.1 j h1)
 ·exact h1
 ·exact absurd h'.2 (h.1 k h1)
theorem seX_good (hB : Good f.items.length B) : ∀ k, Good f.items.length (seX f kept B k)
 | 0 => hB
 | k + 1 => (closeK_hull (fold_facts _ _ (seX_good hB k) newF_ok).1).1
theorem seX_hull (hB : Good f.items.length B) (k : Nat) : IsHull f.items.length (Rel ((edP (newF f (seX f kept B k) kept)).foldl setP (seX f kept B k))) (seX f kept B (k + 1)) := closeK_hull (fold_facts _ _ (seX_good hB k) newF_ok).1
theorem seX_rel (hB : Good f.items.length B) (k i j : Nat) : Rel ((edP (newF f (seX f kept B k) kept)).foldl setP (seX f kept B k)) i j ↔ Rel (seX f kept B k) i j ∨ ((i : Int), (j : Int)) ∈ edP (newF f (seX f kept B k) kept) := by
 unfold Rel;rw [(fold_facts _ _ (seX_good hB k) newF_ok).2, Bool.or_eq_true, decide_eq_true_eq]
theorem seX_step (hB : Good f.items.length B) (k i j : Nat) (h : Rel (seX f kept B k) i j) : Rel (seX f kept B (k + 1)) i j :=
 ((seX_hull hB k).2 i j).2 (.one ((seX_rel hB k i j).2 (.inl h)))
theorem seX_new (hB : Good f.items.length B) (k i j : Nat) (h : ((i : Int), (j : Int)) ∈ edP (newF f (seX f kept B k) kept)) : Rel (seX f kept B (k + 1)) i j :=
 ((seX_hull hB k).2 i j).2 (.one ((seX_rel hB k i j).2 (.inr h)))
theorem seX_base (hB : Good f.items.length B) (i j : Nat) (h : Rel B i j) : ∀ k, Rel (seX f kept B k) i j
 | 0 => h
 | k + 1 => seX_step hB k i j (seX_base hB i j h k)
theorem seX_closed (hB : Good f.items.length B) (hc : ClosedM B) : ∀ k, ClosedM (seX f kept B k)
 | 0 => hc
 | k + 1 => (seX_hull hB k).closed
theorem seL_pairs (hB : Good f.items.length B) : ∀ k, ∀ x ∈ seL f kept B k, ∃ a b : Nat, a < f.items.length ∧ b < f.items.length ∧ x.w1 = (a : Int) ∧ x.w2 = (b : Int) ∧ bothW f.items a b = true ∧ Rel (seX f kept B k) a b
 | 0, x, h => by cases h
 | k + 1, x, h => by
  rcases List.mem_append.1 h with h | h
  ·obtain ⟨a, b, ha, hb, e1, e2, hbo, hr⟩ := seL_pairs hB k x h
   exact ⟨a, b, ha, hb, e1, e2, hbo, seX_step hB k a b hr⟩
  ·obtain ⟨a, b, ha, hb, e1, e2, hne, hbo, -⟩ := newF_some h
   exact ⟨a, b, ha, hb, e1, e2, hbo, seX_new hB k a b (List.mem_map.2 ⟨x, h, by rw [e1, e2]⟩)⟩
theorem seL_nodup (hB : Good f.items.length B) : ∀ k, (edP (seL f kept B k)).Nodup
 | 0 => by simp [seL, edP]
 | k + 1 => by
  unfold edP;rw [seL, List.map_append];refine List.nodup_append.2 ⟨seL_nodup hB k, nwA_nodup _ _, fun p hp q hq e => ?_⟩;obtain ⟨x, hx, rfl⟩ := List.mem_map.1 hp;obtain ⟨y, hy, rfl⟩ := List.mem_map.1 hq;obtain ⟨a, b, ha, hb, e1, e2, hbo, hr⟩ := seL_pairs hB k x hx;obtain ⟨a', b', ha', hb', e1', e2', -, -, hno, -⟩ := newF_some hy;injection e with e3 e4;obtain rfl : a = a' := by omega
  obtain rfl : b = b' := by omega
  exact hno hr
theorem seL_ge : ∀ k, (∀ j, j < k → newF f (seX f kept B j) kept ≠ []) → k ≤ (seL f kept B k).length
 | 0, _ => Nat.zero_le _
 | k + 1, h => by
  have h1 := seL_ge k (fun j hj => h j (by omega));have h2 := List.length_pos_iff.2 (h k (by omega));rw [seL, List.length_append]
  omega
end
def wrB (is : List It) (i : Nat) : Bool := match is[i]? with | some x => x.wr | none => false
def cntW (is : List It) (i : Nat) : Nat := (List.range i).countP (wrB is)
theorem cntW_le (is : List It) (i : Nat) : cntW is i ≤ i := by
 unfold cntW;exact Nat.le_trans List.countP_le_length (by rw [List.length_range]; exact Nat.le_refl _)
theorem bothW_wr {is : List It} {a b : Nat} (h : bothW is a b = true) : wrB is a = true ∧ wrB is b = true := by
 unfold bothW at h;unfold wrB
 cases hx : is[a]? with
 | none => rw [hx] at h; simp at h
 | some x =>
  cases hy : is[b]? with
  | none => rw [hx, hy] at h; simp at h
  | some y =>
   rw [hx, hy] at h;simp only [Bool.and_eq_true] at h;exact ⟨h.1.1, h.1.2⟩
theorem prod_len {α β γ : Type} (g : α → β → γ) (m : List β) : ∀ l : List α, (l.flatMap fun a => m.map (g a)).length = l.length * m.length
 | [] => by simp
 | a :: l => by rw [List.flatMap_cons, List.length_append, prod_len g m l, List.length_map, List.length_cons, Nat.succ_mul]; omega
theorem seL_len {f : Fac} {kept : List Int} {B : List (List Nat)} (hB : Good f.items.length B) (k : Nat) : (seL f kept B k).length ≤ cntW f.items f.items.length * cntW f.items f.items.length := by
 have h := (seL_nodup (kept := kept) hB k).length_le_of_subset (l₂ := ((List.range f.items.length).filter (wrB f.items)).flatMap fun (a : Nat) => ((List.range f.items.length).filter (wrB f.items)).map ((fun (a b : Nat) => ((a : Int), (b : Int))) a)) (fun p hp => by
  obtain ⟨x, hx, rfl⟩ := List.mem_map.1 hp;obtain ⟨a, b, ha, hb, e1, e2, hbo, -⟩ := seL_pairs hB k x hx;obtain ⟨w1, w2⟩ := bothW_wr hbo;exact List.mem_flatMap.2 ⟨a, List.mem_filter.2 ⟨List.mem_range.2 ha, w1⟩, List.mem_map.2 ⟨b, List.mem_filter.2 ⟨List.mem_range.2 hb, w2⟩, by rw [e1, e2]⟩⟩)
 rw [prod_len, ← List.countP_eq_length_filter] at h;unfold edP at h;rw [List.length_map] at h;exact h
theorem seL_okE {f : Fac} {kept : List Int} {B : List (List Nat)} (hB : Good f.items.length B) (hk : ∀ r ∈ kept, 0 ≤ r ∧ r < (f.items.length : Int)) (hl : f.items.length ≤ 1048576) : ∀ k, ∀ x ∈ seL f kept B k, Ed.Ok x
 | 0, x, h => by cases h
 | k + 1, x, h => by
  rcases List.mem_append.1 h with h | h
  ·exact seL_okE hB hk hl k x h
  ·obtain ⟨a, b, ha, hb, e1, e2, -, -, -, hr, -⟩ := newF_some h
   have := hk _ hr;exact ⟨by omega, by omega, by omega, by omega, by omega, by omega⟩
theorem newF_okE {f : Fac} {kept : List Int} {X : List (List Nat)} (hk : ∀ r ∈ kept, 0 ≤ r ∧ r < (f.items.length : Int)) (hl : f.items.length ≤ 1048576) : ∀ x ∈ newF f X kept, Ed.Ok x := fun x h => by
 obtain ⟨a, b, ha, hb, e1, e2, -, -, -, hr, -⟩ := newF_some h;have := hk _ hr;exact ⟨by omega, by omega, by omega, by omega, by omega, by omega⟩

def colN (a : List (List Nat)) (o : Int) (n : Nat) : List Nat := (List.range n).filter fun i => hasM a (i : Int) o
def colF (a : List (List Nat)) (o : Int) (n : Nat) : List Int := (colN a o n).map fun (i : Nat) => (i : Int)
def wihN (a : List (List Nat)) (o : Int) (n : Nat) : List Nat := (List.range n).filter fun i => decide ((i : Int) = o) || hasM a (i : Int) o
def wihF (a : List (List Nat)) (o : Int) (n : Nat) : List Int := (wihN a o n).map fun (i : Nat) => (i : Int)
def wihO (a : List (List Nat)) (o : Int) (n : Nat) : List Int := if 0 ≤ o ∧ o < (n : Int) then wihF a o n else []
def wrOK (is : List It) (v z : Int) : Bool := decide (0 ≤ z) && (match is[z.toNat]? with | some x => x.wr && decide (x.va = v) | none => false)
def wrsF (is : List It) (v : Int) (l : List Int) : List Int := l.filter (wrOK is v)
def rdOK (is : List It) (z : Int) : Bool := match is[z.toNat]? with | some x => !x.wr | none => false
def keptF (is : List It) (l : List Int) : List Int := l.filter (rdOK is)
theorem colF_succ (a : List (List Nat)) (o : Int) (n : Nat) : colF a o (n + 1) = if hasM a (n : Int) o = true then colF a o n ++ [(n : Int)] else colF a o n := by
 unfold colF colN;rw [List.range_succ, List.filter_append]
 split
 ·rename_i h; rw [List.filter_cons_of_pos (by exact h)]; simp
 ·rename_i h; rw [List.filter_cons_of_neg (by exact h)]; simp
theorem wihF_succ (a : List (List Nat)) (o : Int) (n : Nat) : wihF a o (n + 1) = if (decide ((n : Int) = o) || hasM a (n : Int) o) = true then wihF a o n ++ [(n : Int)] else wihF a o n := by
 unfold wihF wihN;rw [List.range_succ, List.filter_append]
 split
 ·rename_i h; rw [List.filter_cons_of_pos (by exact h)]; simp
 ·rename_i h; rw [List.filter_cons_of_neg (by exact h)]; simp
theorem colF_len (a : List (List Nat)) (o : Int) (n : Nat) : (colF a o n).length ≤ n := by
 unfold colF colN; rw [List.length_map]; exact Nat.le_trans (List.length_filter_le _ _) (by simp)
theorem wihF_len (a : List (List Nat)) (o : Int) (n : Nat) : (wihF a o n).length ≤ n := by
 unfold wihF wihN; rw [List.length_map]; exact Nat.le_trans (List.length_filter_le _ _) (by simp)
theorem colF_ok (a : List (List Nat)) (o : Int) (n : Nat) : ∀ z ∈ colF a o n, 0 ≤ z ∧ z < (n : Int) := fun z hz => by
 unfold colF colN at hz;obtain ⟨i, hi, rfl⟩ := List.mem_map.1 hz;have := List.mem_range.1 (List.mem_filter.1 hi).1
 omega
theorem wihF_ok (a : List (List Nat)) (o : Int) (n : Nat) : ∀ z ∈ wihF a o n, 0 ≤ z ∧ z < (n : Int) := fun z hz => by
 unfold wihF wihN at hz;obtain ⟨i, hi, rfl⟩ := List.mem_map.1 hz;have := List.mem_range.1 (List.mem_filter.1 hi).1
 omega
theorem wihO_ok (a : List (List Nat)) (o : Int) (n : Nat) : ∀ z ∈ wihO a o n, 0 ≤ z ∧ z < (n : Int) := fun z hz => by
 unfold wihO at hz
 split at hz
 ·exact wihF_ok a o n z hz
 ·cases hz
theorem filter_take {p : Int → Bool} {l : List Int} {k : Nat} {z : Int} (h : l[k]? = some z) : (l.take (k + 1)).filter p = if p z = true then (l.take k).filter p ++ [z] else (l.take k).filter p := by
 have h1 := List.take_succ_eq_append_getElem (List.getElem?_eq_some_iff.1 h).1;rw [(List.getElem?_eq_some_iff.1 h).2] at h1;rw [h1, List.filter_append]
 split
 ·rename_i h; rw [List.filter_cons_of_pos (by exact h)]; simp
 ·rename_i h; rw [List.filter_cons_of_neg (by exact h)]; simp
theorem wrOK_at {is : List It} {v z : Int} {x : It} (h0 : 0 ≤ z) (h : is[z.toNat]? = some x) : wrOK is v z = (x.wr && decide (x.va = v)) := by
 unfold wrOK; rw [decide_eq_true h0, h]; rfl
theorem wrOK_out {is : List It} {v z : Int} (h : z < 0 ∨ (is.length : Int) ≤ z) : wrOK is v z = false := by
 unfold wrOK;by_cases h0 : 0 ≤ z
 ·rw [List.getElem?_eq_none (by omega)]; simp
 ·rw [decide_eq_false h0]; rfl
theorem rdOK_at {is : List It} {z : Int} {x : It} (h : is[z.toNat]? = some x) : rdOK is z = !x.wr := by unfold rdOK; rw [h]


def QN (w : World) (base : Nat) (t : TypeId) (v : Value) (zs : List Nat) : Prop :=
 ∃ g off cap cs, v = .slice (some ⟨g, off, none⟩) zs.length cap ∧ base ≤ g ∧ w.heap[g]? = some (.cells cs t (0, 0)) ∧ zs.length ≤ cap ∧ cap ≤ maxLen ∧ off + cap ≤ cs.size ∧ ∀ (j z : Nat), zs[j]? = some z → cs[off + j]? = some (.int .i64 (z : Int))
def qlen : Value → Nat
 | .slice _ n _ => n
 | _ => 0
section
variable {w w' : World} {base : Nat} {t : TypeId} {v : Value} {zs : List Nat}
theorem cell_cells {w : World} {g : Nat} {cs : Array Value} {t : TypeId} {fr : Nat × Nat} (h : w.heap[g]? = some (.cells cs t fr)) (i : Nat) : w.cell? ⟨g, i, none⟩ = cs[i]? := cell_of_row w g i cs t fr h
theorem frozen_cells {w : World} {g : Nat} {cs : Array Value} {t : TypeId} (h : w.heap[g]? = some (.cells cs t (0, 0))) (i : Nat) : w.frozen? ⟨g, i, none⟩ = false := by simp [World.frozen?, h]
theorem QN.qlen_ (h : QN w base t v zs) : qlen v = zs.length := by obtain ⟨g, off, cap, cs, rfl, _⟩ := h; rfl
theorem QN.of_own {n : Nat} (h : w.ownsRow base t 1 v n (zs.map natv)) (h0 : 0 < n) : QN w base t v zs := by
 have hl : zs.length = n := by have := h.1; simpa using this
 rcases h.2 with ⟨h1, h2⟩ | ⟨g, cap, cur, rfl, hbg, hg, hnc, hcm, hcs, htake⟩
 ·omega
 ·refine ⟨g, 0, cap, cur, by rw [hl], hbg, hg, by omega, hcm, by omega, fun j z hj => ?_⟩
  have hjl := (List.getElem?_eq_some_iff.1 hj).1;have : (zs.map natv)[j]? = some (natv z) := by rw [List.getElem?_map, hj]; rfl
  rw [← htake, List.getElem?_take_of_lt (by omega)] at this;rw [Nat.zero_add]
  simpa [natv] using this
theorem QN.lt (h : QN w base t v zs) : ∀ g, v.ownBlock = some g → base ≤ g ∧ g < w.heap.size := by
 obtain ⟨g, off, cap, cs, rfl, hb, hg, _⟩ := h;intro k hk;have : g = k := by simpa [Value.ownBlock] using hk
 subst this;exact ⟨hb, (Array.getElem?_eq_some_iff.1 hg).1⟩
theorem QN.below (h : QN w base t v zs) (hb : Below w.heap.size w w') : QN w' base t v zs := by
 obtain ⟨g, off, cap, cs, hv, h1, hg, r⟩ := h;exact ⟨g, off, cap, cs, hv, h1, (hb.block g (Array.getElem?_eq_some_iff.1 hg).1).trans hg, r⟩
theorem QN.far (h : QN w base t v zs) {p : Addr} (hp : v.ownBlock ≠ some p.block) (u : Value) : QN (w.setCell p u) base t v zs := by
 obtain ⟨g, off, cap, cs, rfl, h1, hg, r⟩ := h;refine ⟨g, off, cap, cs, rfl, h1, ?_, r⟩;rw [Below.heap_setCell w p u g (fun e => hp (by rw [← e]; rfl))]; exact hg
theorem QN.pop {z : Nat} (h : QN w base t v (z :: zs)) : ∃ g off cap, v = .slice (some ⟨g, off, none⟩) (zs.length + 1) cap ∧ w.cell? ⟨g, off, none⟩ = some (.int .i64 (z : Int)) ∧ zs.length + 1 ≤ cap ∧
  (cap = 1 → QN w base t (.slice (some ⟨g, off, none⟩) zs.length 0) zs) ∧ (cap ≠ 1 → QN w base t (.slice (some ⟨g, off + 1, none⟩) zs.length (cap - 1)) zs) := by
 obtain ⟨g, off, cap, cs, hv, h1, hg, hl, hm, hs, hc⟩ := h;have hl' : zs.length + 1 ≤ cap := by simpa using hl
 refine ⟨g, off, cap, by rw [hv]; simp, ?_, hl', fun hc1 => ?_, fun hc1 => ?_⟩
 ·rw [cell_cells hg]
  have := hc 0 z rfl
  simpa using this
 ·have : zs = [] := List.eq_nil_of_length_eq_zero (by omega)
  subst this;exact ⟨g, off, 0, cs, rfl, h1, hg, Nat.le_refl _, by omega, by omega, fun j z h => by simp at h⟩
 ·refine ⟨g, off + 1, cap - 1, cs, rfl, h1, hg, by omega, by omega, by omega, fun j z' hj => ?_⟩
  have := hc (j + 1) z' (by simpa using hj);rw [show off + 1 + j = off + (j + 1) by omega]; exact this
theorem QN.nil (h : QN w base t v []) : ∃ g off cap, v = .slice (some ⟨g, off, none⟩) 0 cap := by
 obtain ⟨g, off, cap, cs, hv, _⟩ := h;exact ⟨g, off, cap, by simpa using hv⟩
end
section
variable {P : Program}
theorem run_append_q (w : World) (base : Nat) (t ty e : TypeId) (i : TypeInfo) (z : Value) (ht : P.underlying t = some (.slice e)) (hi : P.info? e = some i) (hz : i.zero = some z) (hsize : i.size = 1) (hby : i.bytes = 8) (hzs : z.cells.size = 1)
  {v : Value} {zs : List Nat} (hq : QN w base e v zs) (ad : Addr) (c x : Nat) (hx : w.cell? ad = some (.int .i64 (x : Int))) (hn : zs.length ≤ 1073741824) (hbase : base ≤ w.heap.size) :
  ∃ v' w', (Builtin.append_ #[t, t] ty #[v, .slice (some ad) 1 c]).run P w = .ok v' w' ∧ QN w' base e v' (zs ++ [x]) ∧ w.grownBy w' v.ownBlock := by
 obtain ⟨g, off, cap, cs, rfl, hb, hg, hl, hm, hs, hc⟩ := hq;have hnews : ∀ j u, [Value.int .i64 (x : Int)][j]? = some u → w.cell? (ad.add j) = some u := fun j u hj => by
  match j, hj with
  | 0, hj =>
   have ha : ad.add 0 = ad := by obtain ⟨b, o, s⟩ := ad; unfold Addr.add; split <;> simp_all
   rw [ha, hx]
   simpa using hj
  | j + 1, hj => simp at hj
 by_cases hr : zs.length + 1 ≤ cap
 ·have hcell : (w.cell? ⟨g, off + zs.length, none⟩).isSome = true := by
   rw [cell_cells hg, Array.getElem?_eq_getElem (by omega)]; rfl
  have hrun := run_append_room_cells (P := P) w t ty e i ht hi g off zs.length cap ad 1 c [.int .i64 (x : Int)] (by rw [hsize]; rfl) hnews (by simp [Value.oneCell']) hr
   (fun j hj => by
    have : j = 0 := by simpa using hj
    subst this;rw [hsize]; simpa using hcell)
   (fun j hj => frozen_cells hg _)
  rw [hsize, Nat.mul_one] at hrun;have hset : w.setCells g (off + zs.length) [.int .i64 (x : Int)] = w.setCell ⟨g, off + zs.length, none⟩ (.int .i64 (x : Int)) := rfl;rw [hset] at hrun;refine ⟨_, _, hrun, ⟨g, off, cap, cs.set! (off + zs.length) (.int .i64 (x : Int)), by simp, hb, ?_, by simpa using hr, hm, by simpa using hs, fun j z' hj => ?_⟩, ?_⟩
  ·simp [World.setCell, Array.getElem?_modify, hg]
  ·simp only [Array.set!_eq_setIfInBounds, Array.getElem?_setIfInBounds]
   rcases Nat.lt_or_ge j zs.length with hj' | hj'
   ·rw [List.getElem?_append_left hj'] at hj
    rw [if_neg (by omega)];exact hc j z' hj
   ·rw [List.getElem?_append_right hj'] at hj
    have hj0 : j - zs.length = 0 := by
     have := (List.getElem?_eq_some_iff.1 hj).1
     simpa using this
    rw [hj0] at hj;simp at hj;rw [if_pos (by omega), if_pos (by omega), hj]
  ·exact ⟨rfl, rfl, rfl, by simp, fun k hk hne => Below.heap_setCell w _ _ k (by
    intro e'
    apply hne
    have e2 : k = g := e';rw [e2]; rfl)⟩
 ·obtain ⟨v', w', hrun, hown, hgrow⟩ := run_append_arg_grows (P := P) w t ty e i z 1 8 ht hi hz hsize hby hzs (by omega) ⟨g, off, none⟩ zs.length cap (zs.map natv) (by simp)
   (fun j u hj => by
    rw [List.getElem?_map] at hj
    cases hh : zs[j]? with
    | none => rw [hh] at hj; cases hj
    | some y =>
     rw [hh] at hj;have ha : (⟨g, off, none⟩ : Addr).add j = ⟨g, off + j, none⟩ := by unfold Addr.add; split <;> simp_all
     rw [ha, cell_cells hg, hc j y hh]
     simpa [natv] using hj)
   ad 1 c [.int .i64 (x : Int)] rfl hnews (by omega) (by unfold maxLen; omega) (by omega)
  refine ⟨v', w', hrun, ?_, ⟨hgrow.os, hgrow.tape, hgrow.output, hgrow.size, fun k hk _ => hgrow.block k hk (by simp)⟩⟩;have h2 : w'.ownsRow base e 1 v' (zs.length + 1) ((zs ++ [x]).map natv) := by
   rw [List.map_append];exact own_base hown hbase
  exact QN.of_own h2 (by omega)
theorem wpList_append_q (w : World) {ops : Array Oper} {rest : List Oper} {o : Oper} {a : Act} {Q : Exit → Act → World → Prop} (hgd : o.guard = none) (s x : Operand) (t : TypeId)
  (ho : o.op = .call { callee := .builtin .append, args := #[s, x], argTypes := #[t, t] })
  (base : Nat) (e : TypeId) (i : TypeInfo) (z : Value) (ht : P.underlying t = some (.slice e)) (hi : P.info? e = some i) (hz : i.zero = some z) (hsize : i.size = 1) (hby : i.bytes = 8) (hzs : z.cells.size = 1)
  {v : Value} {zs : List Nat} (hs : a.eval s = v) (hq : QN w base e v zs) (ad : Addr) (c y : Nat) (hx : a.eval x = .slice (some ad) 1 c) (hy : w.cell? ad = some (.int .i64 (y : Int))) (hn : zs.length ≤ 1073741824) (hbase : base ≤ w.heap.size)
  (hK : ∀ v' w', QN w' base e v' (zs ++ [y]) → w.grownBy w' v.ownBlock → wpList P ops Q rest (a.put o.dst v') w') : wpList P ops Q (o :: rest) a w := by
 refine wpList_plain hgd fun K hK' => ?_;obtain ⟨v', w', hrun, h1, h2⟩ := run_append_q (P := P) w base t o.type e i z ht hi hz hsize hby hzs hq ad c y hy hn hbase;unfold Oper.wp
 simp [execOp, ho, resolve, invoke, builtin, hs, hx, hrun, Result.andThen]
 exact hK' _ _ (hK v' w' h1 h2)
end

/-! ### how many are not seen yet -/
def zeroOf : Bool → Nat
 | true => 0
 | false => 1
def unseen (bs : List Bool) : Nat := (bs.map zeroOf).sum
theorem unseen_set {bs : List Bool} {j : Nat} (h : bs[j]? = some false) : unseen (bs.set j true) + 1 = unseen bs := by
 unfold unseen;rw [List.map_set];have := sum_set (bs.map zeroOf) j (zeroOf true) (zeroOf false) (by rw [List.getElem?_map, h]; rfl)
 simpa [zeroOf] using this
theorem unseen_all (n : Nat) : unseen (List.replicate n false) = n := by
 unfold unseen
 induction n with
 | zero => rfl
 | succ n ih => rw [List.replicate_succ, List.map_cons, List.sum_cons, ih]; simp [zeroOf]; omega
def zeroV : Value → Nat
 | .bool false => 1
 | _ => 0
def unseenW (w : World) (g : Nat) : Nat := match w.heap[g]? with
 | some (.cells cs _ _) => (cs.toList.map zeroV).sum
 | _ => 0
theorem unseenW_blk {w : World} {g : Nat} {t : TypeId} {bs : List Bool} (h : Blk w g t (bs.map .bool)) : unseenW w g = unseen bs := by
 unfold Blk at h;unfold unseenW unseen;rw [h];simp only [List.map_map]
 congr 1
 apply List.map_congr_left
 intro b _
 cases b <;> rfl

/-! ### the search -/
structure ReachI (n : Nat) (a : List (List Nat)) (i : Nat) (E : Nat → Nat → Prop) (bs : List Bool) (zs : List Nat) : Prop where
 len : bs.length = n
 seen : ∀ x : Nat, bs[x]? = some true → Conn (Rel a) i x
 todo : ∀ z ∈ zs, z < n ∧ (z = i ∨ Conn (Rel a) i z)
 done : ∀ x y : Nat, (x = i ∨ bs[x]? = some true) → Rel a x y → bs[y]? = some true ∨ x ∈ zs ∨ E x y
section
variable {n : Nat} {a : List (List Nat)} {i : Nat} {bs : List Bool} {zs : List Nat}
theorem ReachI.start (hi : i < n) : ReachI n a i (fun _ _ => False) (List.replicate n false) [i] :=
 ⟨by simp, fun x h => by rw [List.getElem?_replicate] at h; split at h <;> simp at h, fun z hz => by rw [List.mem_singleton.1 hz]; exact ⟨hi, .inl rfl⟩, fun x y h _ => by
  rcases h with rfl | h
  ·exact .inr (.inl (List.mem_singleton.2 rfl))
  ·rw [List.getElem?_replicate] at h; split at h <;> simp at h⟩
theorem ReachI.pop {z : Nat} (h : ReachI n a i (fun _ _ => False) bs (z :: zs)) : ReachI n a i (fun x y => x = z ∧ 0 ≤ y) bs zs :=
 ⟨h.len, h.seen, fun y hy => h.todo y (List.mem_cons_of_mem _ hy), fun x y h1 h2 => by
  rcases h.done x y h1 h2 with h3 | h3 | h3
  ·exact .inl h3
  ·rcases List.mem_cons.1 h3 with rfl | h4
   ·exact .inr (.inr ⟨rfl, Nat.zero_le _⟩)
   ·exact .inr (.inl h4)
  ·exact h3.elim⟩
theorem ReachI.skip {z j : Nat} (h : ReachI n a i (fun x y => x = z ∧ j ≤ y) bs zs) (hj : ¬ Rel a z j ∨ bs[j]? = some true) : ReachI n a i (fun x y => x = z ∧ j + 1 ≤ y) bs zs :=
 ⟨h.len, h.seen, h.todo, fun x y h1 h2 => by
  rcases h.done x y h1 h2 with h3 | h3 | ⟨rfl, h4⟩
  ·exact .inl h3
  ·exact .inr (.inl h3)
  ·rcases Nat.lt_or_ge j y with h5 | h5
   ·exact .inr (.inr ⟨rfl, h5⟩)
   ·obtain rfl : j = y := by omega
    rcases hj with hj | hj
    ·exact absurd h2 hj
    ·exact .inl hj⟩
theorem ReachI.push {z j : Nat} (h : ReachI n a i (fun x y => x = z ∧ j ≤ y) bs zs) (hz : z = i ∨ Conn (Rel a) i z) (hj : Rel a z j) (hjn : j < n) : ReachI n a i (fun x y => x = z ∧ j + 1 ≤ y) (bs.set j true) (zs ++ [j]) := by
 have hc : Conn (Rel a) i j := by
  rcases hz with rfl | hz
  ·exact .one hj
  ·exact .step hz hj
 have hjs : (bs.set j true)[j]? = some true := by rw [List.getElem?_set, if_pos rfl, if_pos (by rw [h.len]; exact hjn)]
 have old : ∀ x : Nat, (bs.set j true)[x]? = some true → x = j ∨ bs[x]? = some true := fun x hx => by
  rw [List.getElem?_set] at hx;by_cases e : j = x
  ·exact .inl e.symm
  ·rw [if_neg e] at hx; exact .inr hx
 have new : ∀ x : Nat, bs[x]? = some true → (bs.set j true)[x]? = some true := fun x hx => by
  by_cases e : j = x
  ·subst e; exact hjs
  ·rw [List.getElem?_set, if_neg e]; exact hx
 refine ⟨by rw [List.length_set]; exact h.len, fun x hx => ?_, fun y hy => ?_, fun x y h1 h2 => ?_⟩
 ·rcases old x hx with rfl | hx
  ·exact hc
  ·exact h.seen x hx
 ·rcases List.mem_append.1 hy with hy | hy
  ·exact h.todo y hy
  ·rw [List.mem_singleton.1 hy]; exact ⟨hjn, .inr hc⟩
 ·have h1' : x = j ∨ (x = i ∨ bs[x]? = some true) := by
   rcases h1 with h1 | h1
   ·exact .inr (.inl h1)
   ·rcases old x h1 with h3 | h3
    ·exact .inl h3
    ·exact .inr (.inr h3)
  rcases h1' with rfl | h1'
  ·exact .inr (.inl (List.mem_append.2 (.inr (List.mem_singleton.2 rfl))))
  ·rcases h.done x y h1' h2 with h3 | h3 | ⟨rfl, h4⟩
   ·exact .inl (new y h3)
   ·exact .inr (.inl (List.mem_append.2 (.inl h3)))
   ·rcases Nat.lt_or_ge j y with h5 | h5
    ·exact .inr (.inr ⟨rfl, h5⟩)
    ·obtain rfl : j = y := by omega
     exact .inl hjs
theorem ReachI.next {z : Nat} (hG : Good n a) (h : ReachI n a i (fun x y => x = z ∧ n ≤ y) bs zs) : ReachI n a i (fun _ _ => False) bs zs :=
 ⟨h.len, h.seen, h.todo, fun x y h1 h2 => by
  rcases h.done x y h1 h2 with h3 | h3 | ⟨rfl, h4⟩
  ·exact .inl h3
  ·exact .inr (.inl h3)
  ·exact absurd (hG.has_lt h2).2 (by omega)⟩
theorem ReachI.all (h : ReachI n a i (fun _ _ => False) bs []) (x : Nat) : bs[x]? = some true ↔ Conn (Rel a) i x := by
 refine ⟨h.seen x, fun hc => ?_⟩
 induction hc with
 | one h1 =>
  rcases h.done i _ (.inl rfl) h1 with h2 | h2 | h2
  ·exact h2
  ·cases h2
  ·exact h2.elim
 | step _ h1 ih =>
  rcases h.done _ _ (.inr ih) h1 with h2 | h2 | h2
  ·exact h2
  ·cases h2
  ·exact h2.elim
end


theorem hull_place (m : Nat) (hm : m ≤ 1073741824) (w : World) :
  Calls Tryz.prog 48 #[.int .i64 (m : Int)] w fun e w' => e = .returned (.tuple #[.int .i64 ((m / 64 : Nat) : Int), .int .u64 ((p2 (m % 64) : Nat) : Int)]) ∧ w = w' := by
 have hA := Hd (i64_and_63 m (by omega));have hB := Hd (word_BitN (m % 64) (by omega) w)
 go_enter Tryz.func48, Tryz.ntmps48
 go_wp2_with fail;rw [hA.out];refine hB.out.mono ?_; rintro e w' ⟨rfl, rfl⟩;go_wp2_with fail;exact bodyPost_ret (v := .tuple #[.int .i64 ((m / 64 : Nat) : Int), .int .u64 ((p2 (m % 64) : Nat) : Int)]) (by simp [results, Tryz.results48, go_sem]) rfl ⟨rfl, rfl⟩
theorem below_u64 (i n : Int) (h1 : -9223372036854775808 ≤ i) (h2 : i < 9223372036854775808) (h0 : 0 ≤ n) (hn : n ≤ 4611686018427387904) : decide (IntKind.u64.wrap i < n) = belowZ i n := by
 by_cases h : 0 ≤ i
 ·have e1 : IntKind.u64.wrap i = i := by rw [IntKind.wrap_u64]; omega
  rw [e1];unfold belowZ;rw [decide_eq_true h, Bool.true_and]
 ·rw [belowZ_no (.inl (by omega))]
  refine decide_eq_false ?_;rw [IntKind.wrap_u64]; omega
theorem hull_below (i n : Int) (h1 : -9223372036854775808 ≤ i) (h2 : i < 9223372036854775808) (h0 : 0 ≤ n) (hn : n ≤ 4611686018427387904) (w : World) :
  Calls Tryz.prog 146 #[.int .i64 i, .int .i64 n] w fun e w' => e = .returned (.bool (belowZ i n)) ∧ w = w' := by
 have H := Hd (below_u64 i n h1 h2 h0 hn)
 go_enter Tryz.func146, Tryz.ntmps146
 go_wp2
 go_ret;rw [← H.out]; exact ⟨rfl, rfl⟩

def LoopIs (n : Nat) (a : List (List Nat)) (r : Int) (b : Bool) : Prop := (b = true ∧ ∃ i : Nat, r = (i : Int) ∧ i < n ∧ Rel a i i ∧ ∀ j, j < i → ¬ Rel a j j) ∨ (b = false ∧ r = 0 ∧ ∀ i, i < n → ¬ Rel a i i)
def RetLoop (n : Nat) (a : List (List Nat)) (w : World) (e : Ending) (w' : World) : Prop := ∃ r b, e = .returned (.tuple #[.int .i64 r, .bool b]) ∧ LoopIs n a r b ∧ Below w.heap.size w w'
theorem hull_Loop (A : Option Addr) (n c : Nat) (a : List (List Nat)) (w : World) (hr : RowsAt w A n a) (hn : n ≤ 4096) (hl : ∀ xs ∈ a, xs.length ≤ 1024) :
  Calls Tryz.prog 53 #[.agg #[.int .i64 (n : Int), .slice A n c]] w (RetLoop n a w) := by
 obtain ⟨W0, hW0⟩ : ∃ W0, W0 = w.alloc (.cells #[.int .i64 n, .slice A n c] 57) := ⟨_, rfl⟩;have ha : Below w.heap.size w W0 := by rw [hW0]; exact bAl _ _
 have hB : MatB W0 w.heap.size 57 n A n c := by rw [hW0]; exact MatB.new w _
 have l0 := hB.c0;have l1 := hB.c1;have hr' := Hd (hr.below ha);have hC := Hd (fun (k : Nat) (hk : k < n) W (hW : RowsAt W A n a) => mat_Has (n: Int) A n c a (k: Int) (k: Int) W hW (by omega) (fun xs hx => by have := hl xs hx; omega) (by omega) (by omega) (by omega) (by omega));replace ha := Hd ha;replace hB := Hd hB;clear hr hl
 go_enter Tryz.func53, Tryz.ntmps53
 go_wp2_with fail;rw [← hW0];clear hW0;go_wp2_with fail;clear l0 l1
 go_loopw [7] (fun i wr => ∃ k : Nat, k ≤ n ∧ i = .int .i64 k ∧ Hid (∀ j, j < k → ¬ Rel a j j) ∧ Hid (Below W0.heap.size W0 wr)) (fun i _ => n - (intOf i).toNat)
 case atStart => exact ⟨0, Nat.zero_le _, rfl, Hd (fun j hj => absurd hj (by omega)), Hd (Below.refl _ _)⟩
 case round =>
  obtain ⟨k, hk, rfl, hall, hbr⟩ := hrel;have l0 := (hB.out.below_ hbr.out).c0;have l1 := (hB.out.below_ hbr.out).c1;by_cases hlt : k < n
  ·have hCk := Hd (hC.out k hlt wr (hr'.out.below hbr.out))
   go_wp2_with fail;refine hCk.out.mono ?_; rintro e w1 ⟨rfl, hb1⟩;have hb01 := Hd (bT2 hbr.out hb1);clear hb1 l0 l1 hCk
   cases hh : hasM a (k : Int) (k : Int) with
   | true =>
    have hres : Hid (LoopIs n a (k : Int) true) := Hd (.inl ⟨rfl, k, rfl, hlt, hh, hall.out⟩);go_wp2_with fail;exact bodyPost_ret (v := .tuple #[.int .i64 (k : Int), .bool true]) (by simp [results, Tryz.results53, go_sem]) rfl ⟨_, _, rfl, hres.out, bT2 ha.out hb01.out⟩
   | false =>
    have hall' : Hid (∀ j, j < k + 1 → ¬ Rel a j j) := Hd (fun j hj => by
     rcases Nat.lt_succ_iff_lt_or_eq.1 hj with h1 | h1
     ·exact hall.out j h1
     ·subst h1
      unfold Rel;rw [hh]; simp)
    clear hall;go_wp2_with fail
    go_roundw
    case rel => exact ⟨k + 1, by omega, by go_num, hall', hb01⟩
    case measure => simp [intOf]; omega
  ·have hres : Hid (LoopIs n a 0 false) := Hd (.inr ⟨rfl, rfl, fun i hi => hall.out i (by omega)⟩)
   go_wp2_with fail;exact bodyPost_ret (v := .tuple #[.int .i64 0, .bool false]) (by simp [results, Tryz.results53, go_sem]) rfl ⟨_, _, rfl, hres.out, bT2 ha.out hbr.out⟩


theorem ref3_HasG (A : Option Addr) (n c : Nat) (a : List (List Nat)) (hG : Good n a) (i j : Int) (w : World) (hr : RowsAt w A n a) :
  Calls Tryz.prog 70 #[.agg #[.int .i64 (n : Int), .slice A n c], .int .i64 i, .int .i64 j] w (RetB (hasM a i j) w) := by
 have h := ref3_Has A n c a i j w hr hG.le (fun k xs hx => by have := hG.small xs (List.mem_of_getElem? hx); omega)
 rwa [hG.in_has] at h
theorem ref4_Loop (A : Option Addr) (n c : Nat) (a : List (List Nat)) (w : World) (hr : RowsAt w A n a) (hG : Good n a) :
  Calls Tryz.prog 67 #[.agg #[.int .i64 (n : Int), .slice A n c]] w (RetLoop n a w) := by
 have hnn : n ≤ 4096 := hG.le;have hl : True := trivial;obtain ⟨W0, hW0⟩ : ∃ W0, W0 = w.alloc (.cells #[.int .i64 n, .slice A n c] 57) := ⟨_, rfl⟩;have ha : Below w.heap.size w W0 := by rw [hW0]; exact bAl _ _
 have hB : MatB W0 w.heap.size 57 n A n c := by rw [hW0]; exact MatB.new w _
 have l0 := hB.c0;have l1 := hB.c1;have hr' := Hd (hr.below ha);have hC := Hd (fun (k : Nat) (hk : k < n) W (hW : RowsAt W A n a) => ref3_HasG A n c a hG (k: Int) (k: Int) W hW);replace ha := Hd ha;replace hB := Hd hB;clear hr hl
 go_enter Tryz.func67, Tryz.ntmps67
 go_wp2_with fail;rw [← hW0];clear hW0;go_wp2_with fail;clear l0 l1
 go_loopw [4] (fun i wr => ∃ k : Nat, k ≤ n ∧ i = .int .i64 k ∧ Hid (∀ j, j < k → ¬ Rel a j j) ∧ Hid (Below W0.heap.size W0 wr)) (fun i _ => n - (intOf i).toNat)
 case atStart => exact ⟨0, Nat.zero_le _, rfl, Hd (fun j hj => absurd hj (by omega)), Hd (Below.refl _ _)⟩
 case round =>
  obtain ⟨k, hk, rfl, hall, hbr⟩ := hrel;have l0 := (hB.out.below_ hbr.out).c0;have l1 := (hB.out.below_ hbr.out).c1;by_cases hlt : k < n
  ·have hCk := Hd (hC.out k hlt wr (hr'.out.below hbr.out))
   go_wp2_with fail;refine hCk.out.mono ?_; rintro e w1 ⟨rfl, hb1⟩;have hb01 := Hd (bT2 hbr.out hb1);clear hb1 l0 l1 hCk
   cases hh : hasM a (k : Int) (k : Int) with
   | true =>
    have hres : Hid (LoopIs n a (k : Int) true) := Hd (.inl ⟨rfl, k, rfl, hlt, hh, hall.out⟩);go_wp2_with fail;exact bodyPost_ret (v := .tuple #[.int .i64 (k : Int), .bool true]) (by simp [results, Tryz.results67, go_sem]) rfl ⟨_, _, rfl, hres.out, bT2 ha.out hb01.out⟩
   | false =>
    have hall' : Hid (∀ j, j < k + 1 → ¬ Rel a j j) := Hd (fun j hj => by
     rcases Nat.lt_succ_iff_lt_or_eq.1 hj with h1 | h1
     ·exact hall.out j h1
     ·subst h1
      unfold Rel;rw [hh]; simp)
    clear hall;go_wp2_with fail
    go_roundw
    case rel => exact ⟨k + 1, by omega, by go_num, hall', hb01⟩
    case measure => simp [intOf]; omega
  ·have hres : Hid (LoopIs n a 0 false) := Hd (.inr ⟨rfl, rfl, fun i hi => hall.out i (by omega)⟩)
   go_wp2_with fail;exact bodyPost_ret (v := .tuple #[.int .i64 0, .bool false]) (by simp [results, Tryz.results67, go_sem]) rfl ⟨_, _, rfl, hres.out, bT2 ha.out hbr.out⟩


theorem info_bool : (Tryz.prog.info? 4).map (fun i => (i.zero, i.size, i.bytes)) = some (some (.bool false), 1, 1) := by kernel_rfl
theorem mk_bool (kl kc : IntKind) (n c : Nat) (hnc : n ≤ c) (hc : c ≤ 35184372088832) (W : World) :
  (Instr.makeSlice 130 (.int kl (n : Int)) (.int kc (c : Int))).run Tryz.prog W = .ok (.slice (some ⟨W.heap.size, 0, none⟩) n c) (W.alloc (.cells (zeros c (.bool false)) 4)) := by
 obtain ⟨i, hi, hz0, hz1, hz2⟩ := info_parts info_bool;exact run_make_one _ _ i _ Tryz.underlying130 hi hz0 hz1 rfl kl kc n c hnc (by rw [hz2]; omega) (by omega) W
structure StR (w : World) (n : Nat) (A : Option Addr) (c : Nat) (v : Value) (bs : List Bool) (zs : List Nat) (wr : World) : Prop where
 q : QN wr (w.heap.size + 2) 3 v zs
 b : Blk wr (w.heap.size + 1) 4 (bs.map .bool)
 m : MatB wr w.heap.size 57 n A n c
 bel : Below w.heap.size w wr
 big : w.heap.size + 2 ≤ wr.heap.size
theorem StR.later {w : World} {n : Nat} {A : Option Addr} {c : Nat} {v : Value} {bs : List Bool} {zs : List Nat} {wr w' : World} (h : StR w n A c v bs zs wr) (hb : Below wr.heap.size wr w') : StR w n A c v bs zs w' :=
 ⟨h.q.below hb, h.b.below hb h.b.lt, h.m.below_ hb, bT2 h.bel hb, Nat.le_trans h.big hb.size⟩
def reachL (bs : List Bool) (k : Nat) : List Nat := (List.range k).filter fun x => bs[x]? == some true
theorem reachL_yes {bs : List Bool} {k : Nat} (h : bs[k]? = some true) : reachL bs (k + 1) = reachL bs k ++ [k] := by
 unfold reachL; rw [List.range_succ, List.filter_append]; simp [h]
theorem reachL_no {bs : List Bool} {k : Nat} (h : bs[k]? = some false) : reachL bs (k + 1) = reachL bs k := by
 unfold reachL; rw [List.range_succ, List.filter_append]; simp [h]
theorem reachL_len (bs : List Bool) (k : Nat) : (reachL bs k).length ≤ k := by
 have := List.length_filter_le (fun x => bs[x]? == some true) (List.range k)
 simpa [reachL] using this
theorem reachL_mem (bs : List Bool) (k x : Nat) : x ∈ reachL bs k ↔ x < k ∧ bs[x]? = some true := by
 unfold reachL; rw [List.mem_filter, List.mem_range, beq_iff_eq]
def RetReach (n : Nat) (a : List (List Nat)) (i : Nat) (w : World) (e : Ending) (w' : World) : Prop :=
 ∃ (B : Option Addr) (m d : Nat) (l : List Nat), e = .returned (.slice B m d) ∧ Ints w' B m (l.map Int.ofNat) ∧ (∀ x : Nat, x ∈ l ↔ x < n ∧ Conn (Rel a) i x) ∧ l.length ≤ n ∧ (∀ ad, B = some ad → w.heap.size ≤ ad.block) ∧ Below w.heap.size w w'
theorem ref4_Reach (A : Option Addr) (n c : Nat) (a : List (List Nat)) (i : Nat) (w : World) (hr : RowsAt w A n a) (hG : Good n a) (hin : i < n) :
    Calls Tryz.prog 74 #[.agg #[.int .i64 (n : Int), .slice A n c], .int .i64 (i : Int)] w (RetReach n a i w) := by
  have hnn : n ≤ 4096 := hG.le;obtain ⟨i0, hi, hz0, hz1, hz2⟩ := info_parts info_int;replace hi := Hd hi;replace hz0 := Hd hz0;replace hz1 := Hd hz1;replace hz2 := Hd hz2;have hmk := mk_bool .i64 .i64 n n (Nat.le_refl _) (by omega);obtain ⟨W0, hW0⟩ : ∃ W0, W0 = w.alloc (.cells #[.int .i64 n, .slice A n c] 57) := ⟨_, rfl⟩;obtain ⟨W1, hW1⟩ : ∃ W1, W1 = W0.alloc (.cells (zeros n (.bool false)) 4) := ⟨_, rfl⟩;obtain ⟨W2, hW2⟩ : ∃ W2, W2 = W1.alloc (.cells #[.int .i64 (i : Int)] 3) := ⟨_, rfl⟩;have b0 : Below w.heap.size w W0 := by rw [hW0]; exact bAl _ _
  have b1 : Below W0.heap.size W0 W1 := by rw [hW1]; exact bAl _ _
  have b2 : Below W1.heap.size W1 W2 := by rw [hW2]; exact bAl _ _
  have hs0 : W0.heap.size = w.heap.size + 1 := by rw [hW0]; simp
  have hs1 : W1.heap.size = w.heap.size + 2 := by rw [hW1]; simp [hs0]
  have hs2 : W2.heap.size = w.heap.size + 3 := by rw [hW2]; simp [hs1]
  have hB0 : MatB W0 w.heap.size 57 n A n c := by rw [hW0]; exact MatB.new w _
  have l0 := hB0.c0;have hSt : Hid (StR w n A c (.slice (some ⟨w.heap.size + 2, 0, none⟩) 1 1) (List.replicate n false) [i] W2) := Hd
    { q := ⟨w.heap.size + 2, 0, 1, #[.int .i64 (i : Int)], rfl, Nat.le_refl _, by rw [hW2, ← hs1]; exact heap_alloc_new _ _, Nat.le_refl _, by unfold maxLen; omega, by simp, fun j z hj => by
        match j, hj with
        | 0, hj => simp at hj; subst hj; rfl
        | j + 1, hj => simp at hj⟩
      b := by
        have h : Blk W1 (w.heap.size + 1) 4 ((List.replicate n false).map .bool) := by
          rw [hW1, ← hs0, List.map_replicate];exact Blk.new W0 _ _
        exact h.below b2 h.lt
      m := (hB0.below_ b1).below_ b2
      bel := bT2 (bT2 b0 b1) b2
      big := by omega }
  have hR : Hid (ReachI n a i (fun _ _ => False) (List.replicate n false) [i]) := Hd (ReachI.start hin);have hU : Hid (unseen (List.replicate n false) + [i].length ≤ n + 1) := Hd (by rw [unseen_all]; simp);have hH := Hd (fun (x y : Nat) W (hW : RowsAt W A n a) => ref3_HasG A n c a hG (x : Int) (y : Int) W hW);have hn1 := Hd (fun z bs zs => ReachI.next (n := n) (a := a) (i := i) (bs := bs) (zs := zs) (z := z) hG);replace hs0 := Hd hs0;replace hs1 := Hd hs1;replace hr := Hd hr;replace hG := Hd hG;clear b0 b1 b2 hB0 hs2;have p1 : W0.heap.size = w.heap.size + 1 := hs0.out;have p2 : W1.heap.size = w.heap.size + 2 := hs1.out
  go_enter Tryz.func74, Tryz.ntmps74
  go_wp2_with fail;rw [← hW0];clear hW0;go_wp2_with fail;rw [← hW1, ← hW2];clear hW1 hW2 hmk l0 p1 p2
  go_loopw [7] (fun v wr => ∃ (bs : List Bool) (zs : List Nat), Hid (ReachI n a i (fun _ _ => False) bs zs) ∧ Hid (unseen bs + zs.length ≤ n + 1) ∧ Hid (StR w n A c v bs zs wr)) (fun v wr => unseenW wr (w.heap.size + 1) + qlen v)
  case atStart => exact ⟨_, _, hR, hU, hSt⟩
  case round =>
    clear hR hU hSt;obtain ⟨bs, zs, hR, hU, hSt⟩ := hrel
    cases zs with
    | nil =>
      obtain ⟨g, off, cap, rfl⟩ := hSt.out.q.nil;have hall := Hd hR.out.all;have hbl := Hd hR.out.len;have hB := Hd hSt.out.b;have hMm := Hd hSt.out.m;have hbel := Hd hSt.out.bel;have hbig := Hd hSt.out.big;clear hR hU hSt;go_wp2_with fail
      go_loopw [5, 10] (fun l t wi => ∃ j : Nat, j ≤ n ∧ t = .int .i64 j ∧ Hid (wi.ownsRow (w.heap.size + 2) 3 1 l (reachL bs j).length ((reachL bs j).map natv)) ∧ Hid (Blk wi (w.heap.size + 1) 4 (bs.map .bool)) ∧ Hid (MatB wi w.heap.size 57 n A n c) ∧ Hid (Below w.heap.size w wi) ∧ Hid (w.heap.size + 2 ≤ wi.heap.size)) (fun _ t _ => n - (intOf t).toNat)
      case atStart => exact ⟨0, Nat.zero_le _, rfl, Hd (World.ownsRow_nil _ _ _ _), hB, hMm, hbel, hbig⟩
      case round =>
        clear hB hMm hbel hbig;obtain ⟨j, hj, rfl, hown, hB, hMm, hbel, hbig⟩ := hrel;have l0 := hMm.out.c0;by_cases hlt : j < n
        · obtain ⟨bj, hbj⟩ : ∃ b, bs[j]? = some b := ⟨_, List.getElem?_eq_getElem (by rw [hbl.out]; exact hlt)⟩
          have cb := Blk.cell hB.out j;rw [List.getElem?_map, hbj, Option.map_some] at cb;have hj0 : (0 : Int) ≤ (j : Int) := by omega
          have hjn : (j : Int) < (n : Int) := by omega
          have hrl := reachL_len bs j
          cases bj with
          | true =>
            have hy := Hd (reachL_yes hbj);replace hbj := Hd hbj;go_wp2_with (at_builtin; refine wpList_append_lies _ rfl (.tmp 58) (.tmp 60) _ rfl (w.heap.size + 2) 3 i0 _ 1 8 Tryz.underlying27 hi.out hz0.out hz1.out hz2.out rfl (by omega) _ _ _ (by rfl) (hown.out.alloc _) ⟨wr.heap.size, 0, none⟩ 1 1 [.int .i64 (j : Int)] rfl rfl (cell_one_new _ _ _) (by simp [Value.oneCell']) (by omega) (by unfold maxLen; omega) (by omega) (by have := hbig.out; simp; omega) _ rfl ?_; intro g2 cap2 w1 hown1 hgrow hat hlt1);have hB1 := Hd (Blk.grown (hB.out.alloc _) hgrow (fun e => by have := oLb hown.out _ e.symm; omega));have hM1 := Hd (Blk.grown (Blk.alloc hMm.out _) hgrow (fun e => by have := oLb hown.out _ e.symm; omega));have hb1 := Hd ((hbel.out.alloc hbel.out.size _).grown hgrow (by have := hbel.out.size; simp; omega) (fun k hk => by have := oLb hown.out k hk; omega));have hg1 : Hid (w.heap.size + 2 ≤ w1.heap.size) := Hd (by have := hgrow.size; have := hbig.out; simp at *; omega);clear hgrow hat hlt1 cb l0
            go_roundw
            case rel =>
              refine ⟨j + 1, by omega, by go_num, Hd ?_, hB1, hM1, hb1, hg1⟩;rw [hy.out, List.length_append, List.map_append];exact hown1
            case measure => simp [intOf]; omega
          | false =>
            have hy := Hd (reachL_no hbj);replace hbj := Hd hbj;go_wp2_with fail
            go_roundw
            case rel => exact ⟨j + 1, by omega, by go_num, Hd (by rw [hy.out]; exact hown.out), hB, hMm, hbel, hbig⟩
            case measure => simp [intOf]; omega
        · obtain rfl : j = n := by omega
          have hfr := Hd (fun k hk => oLb hown.out k hk);obtain ⟨A', c', rfl, hI⟩ := own_ints hown.out (fun x hx => by have := ((reachL_mem _ _ _).1 hx).1; omega);replace hI := Hd hI;clear hown;go_wp2_with fail;go_ret;exact ⟨_, _, _, reachL bs j, rfl, hI.out, fun x => by
            rw [reachL_mem, hall.out], reachL_len _ _, fun ad e => by subst e; have := hfr.out ad.block rfl; omega, hbel.out⟩
    | cons z zs =>
      obtain ⟨g, off, cap, rfl, hcz, hcap, hq1, hq2⟩ := hSt.out.q.pop;have hM : Hid (unseenW wr (w.heap.size + 1) = unseen bs) := Hd (unseenW_blk hSt.out.b);have hz := Hd (hR.out.todo z (List.mem_cons_self ..));have hRp := Hd hR.out.pop;have hzl : 0 < zs.length + 1 := by omega
      replace hq1 := Hd hq1;replace hq2 := Hd hq2;have hc1 : 1 ≤ cap := by omega
      clear hR;go_wp2_with fail
      · have hS : Hid (StR w n A c (.slice (some ⟨g, off, none⟩) zs.length 0) bs zs wr) := Hd { q := hq1.out (by first | rfl | assumption), b := hSt.out.b, m := hSt.out.m, bel := hSt.out.bel, big := hSt.out.big }
        clear hcz hSt hq1 hq2
        go_loopw [7, 9] (fun v t wi => ∃ (j : Nat) (bs' : List Bool) (zs' : List Nat), j ≤ n ∧ t = .int .i64 j ∧ Hid (ReachI n a i (fun x y => x = z ∧ j ≤ y) bs' zs') ∧ Hid (unseen bs' + zs'.length + 1 ≤ unseen bs + (zs.length + 1)) ∧ Hid (StR w n A c v bs' zs' wi)) (fun _ t _ => n - (intOf t).toNat)
        case atStart => exact ⟨0, bs, zs, Nat.zero_le _, rfl, hRp, Hd (by omega), hS⟩
        case round =>
          obtain ⟨j, bs', zs', hj, rfl, hR', hU', hS'⟩ := hrel;clear hS;have l0 := hS'.out.m.c0;have l1 := hS'.out.m.c1;by_cases hlt : j < n
          · have hC := Hd (hH.out z j wr (hr.out.below hS'.out.bel))
            go_wp2_with fail;refine hC.out.mono ?_; rintro e w1 ⟨rfl, hb1⟩;replace hS' := Hd (hS'.out.later hb1);clear hb1 hC l0 l1
            cases hh : hasM a (z : Int) (j : Int) with
            | false =>
              have hR2 := Hd (hR'.out.skip (.inl (by unfold Rel; rw [hh]; simp)));go_wp2_with fail
              go_roundw
              case rel => exact ⟨j + 1, bs', zs', by omega, by go_num, hR2, hU', hS'⟩
              case measure => simp [intOf]; omega
            | true =>
              have hbl : bs'.length = n := hR'.out.len;obtain ⟨bj, hbj⟩ : ∃ b, bs'[j]? = some b := ⟨_, List.getElem?_eq_getElem (by omega)⟩;have cb := Blk.cell hS'.out.b j;rw [List.getElem?_map, hbj, Option.map_some] at cb;have hj0 : (0 : Int) ≤ (j : Int) := by omega
              have hjn : (j : Int) < (n : Int) := by omega
              replace hbl := Hd hbl
              cases bj with
              | true =>
                have hR2 := Hd (hR'.out.skip (.inr hbj));replace hbj := Hd hbj;go_wp2_with fail
                go_roundw
                case rel => exact ⟨j + 1, bs', zs', by omega, by go_num, hR2, hU', hS'⟩
                case measure => simp [intOf]; omega
              | false =>
                have hR2 := Hd (hR'.out.push hz.out.2 (by unfold Rel; exact hh) hlt);have hun := Hd (unseen_set hbj);have fz := Blk.frozen hS'.out.b j;have hzs : zs'.length ≤ 1073741824 := by have := hU'.out; have := hU.out; simp at this; omega
                have hqw := Hd (hS'.out.q.far (p := ⟨w.heap.size + 1, j, none⟩) (fun e => by have := (hS'.out.q.lt _ e).1; simp at this) (.bool true));replace hbj := Hd hbj;go_wp2_with (at_builtin; refine wpList_append_q _ rfl (.tmp 44) (.tmp 46) _ rfl (w.heap.size + 2) 3 i0 _ Tryz.underlying27 hi.out hz0.out hz1.out hz2.out rfl (by rfl) (hqw.out.below (bAl _ _)) ⟨w1.heap.size, 0, none⟩ 1 j rfl (by have h := Blk.cell (Blk.new (w1.setCell ⟨w.heap.size + 1, j, none⟩ (.bool true)) 3 [.int .i64 (j : Int)]) 0; simpa using h) hzs (by have := hS'.out.big; simp; omega) ?_; intro v' w2 hq' hgrow);have hS2 : Hid (StR w n A c v' (bs'.set j true) (zs' ++ [j]) w2) := Hd
                  { q := hq'
                    b := by
                      rw [List.map_set];exact Blk.grown (((hS'.out.b.set_ j (.bool true))).alloc _) hgrow (fun e => by have := (hqw.out.lt _ e.symm).1; omega)
                    m := Blk.grown (((Blk.far hS'.out.m (p := ⟨w.heap.size + 1, j, none⟩) (by simp) (.bool true))).alloc _) hgrow (fun e => by have := (hqw.out.lt _ e.symm).1; omega)
                    bel := ((hS'.out.bel.setCell (p := ⟨w.heap.size + 1, j, none⟩) (by simp) (.bool true)).alloc (by have := hS'.out.big; simp; omega) _).grown hgrow (by have := hS'.out.big; simp; omega) (fun k hk => by have := (hqw.out.lt k hk).1; omega)
                    big := by have := hgrow.size; have := hS'.out.big; simp at *; omega }
                clear hq' hgrow hqw cb fz
                go_roundw
                case rel => exact ⟨j + 1, bs'.set j true, zs' ++ [j], by omega, by go_num, hR2, Hd (by have := hun.out; have := hU'.out; simp; omega), hS2⟩
                case measure => simp [intOf]; omega
          · obtain rfl : j = n := by omega
            have hR2 := Hd (hn1.out z bs' zs' hR'.out);have hU2 : Hid (unseen bs' + zs'.length ≤ j + 1) := Hd (by have := hU'.out; have := hU.out; simp at this; omega);go_wp2_with fail
            go_roundw
            case rel => exact ⟨bs', zs', hR2, hU2, hS'⟩
            case measure =>
              have h1 := unseenW_blk hS'.out.b;have h2 := hS'.out.q.qlen_;have h3 := hU'.out;rw [h1, h2, hM.out];simp only [qlen]
              omega
      · have hS : Hid (StR w n A c (.slice (some ⟨g, off + 1, none⟩) zs.length (cap - 1)) bs zs wr) := Hd { q := hq2.out (by assumption), b := hSt.out.b, m := hSt.out.m, bel := hSt.out.bel, big := hSt.out.big }
        clear hcz hSt hq1 hq2
        go_loopw [7, 9] (fun v t wi => ∃ (j : Nat) (bs' : List Bool) (zs' : List Nat), j ≤ n ∧ t = .int .i64 j ∧ Hid (ReachI n a i (fun x y => x = z ∧ j ≤ y) bs' zs') ∧ Hid (unseen bs' + zs'.length + 1 ≤ unseen bs + (zs.length + 1)) ∧ Hid (StR w n A c v bs' zs' wi)) (fun _ t _ => n - (intOf t).toNat)
        case atStart => exact ⟨0, bs, zs, Nat.zero_le _, rfl, hRp, Hd (by omega), hS⟩
        case round =>
          obtain ⟨j, bs', zs', hj, rfl, hR', hU', hS'⟩ := hrel;clear hS;have l0 := hS'.out.m.c0;have l1 := hS'.out.m.c1;by_cases hlt : j < n
          · have hC := Hd (hH.out z j wr (hr.out.below hS'.out.bel))
            go_wp2_with fail;refine hC.out.mono ?_; rintro e w1 ⟨rfl, hb1⟩;replace hS' := Hd (hS'.out.later hb1);clear hb1 hC l0 l1
            cases hh : hasM a (z : Int) (j : Int) with
            | false =>
              have hR2 := Hd (hR'.out.skip (.inl (by unfold Rel; rw [hh]; simp)));go_wp2_with fail
              go_roundw
              case rel => exact ⟨j + 1, bs', zs', by omega, by go_num, hR2, hU', hS'⟩
              case measure => simp [intOf]; omega
            | true =>
              have hbl : bs'.length = n := hR'.out.len;obtain ⟨bj, hbj⟩ : ∃ b, bs'[j]? = some b := ⟨_, List.getElem?_eq_getElem (by omega)⟩;have cb := Blk.cell hS'.out.b j;rw [List.getElem?_map, hbj, Option.map_some] at cb;have hj0 : (0 : Int) ≤ (j : Int) := by omega
              have hjn : (j : Int) < (n : Int) := by omega
              replace hbl := Hd hbl
              cases bj with
              | true =>
                have hR2 := Hd (hR'.out.skip (.inr hbj));replace hbj := Hd hbj;go_wp2_with fail
                go_roundw
                case rel => exact ⟨j + 1, bs', zs', by omega, by go_num, hR2, hU', hS'⟩
                case measure => simp [intOf]; omega
              | false =>
                have hR2 := Hd (hR'.out.push hz.out.2 (by unfold Rel; exact hh) hlt);have hun := Hd (unseen_set hbj);have fz := Blk.frozen hS'.out.b j;have hzs : zs'.length ≤ 1073741824 := by have := hU'.out; have := hU.out; simp at this; omega
                have hqw := Hd (hS'.out.q.far (p := ⟨w.heap.size + 1, j, none⟩) (fun e => by have := (hS'.out.q.lt _ e).1; simp at this) (.bool true));replace hbj := Hd hbj;go_wp2_with (at_builtin; refine wpList_append_q _ rfl (.tmp 44) (.tmp 46) _ rfl (w.heap.size + 2) 3 i0 _ Tryz.underlying27 hi.out hz0.out hz1.out hz2.out rfl (by rfl) (hqw.out.below (bAl _ _)) ⟨w1.heap.size, 0, none⟩ 1 j rfl (by have h := Blk.cell (Blk.new (w1.setCell ⟨w.heap.size + 1, j, none⟩ (.bool true)) 3 [.int .i64 (j : Int)]) 0; simpa using h) hzs (by have := hS'.out.big; simp; omega) ?_; intro v' w2 hq' hgrow);have hS2 : Hid (StR w n A c v' (bs'.set j true) (zs' ++ [j]) w2) := Hd
                  { q := hq'
                    b := by
                      rw [List.map_set];exact Blk.grown (((hS'.out.b.set_ j (.bool true))).alloc _) hgrow (fun e => by have := (hqw.out.lt _ e.symm).1; omega)
                    m := Blk.grown (((Blk.far hS'.out.m (p := ⟨w.heap.size + 1, j, none⟩) (by simp) (.bool true))).alloc _) hgrow (fun e => by have := (hqw.out.lt _ e.symm).1; omega)
                    bel := ((hS'.out.bel.setCell (p := ⟨w.heap.size + 1, j, none⟩) (by simp) (.bool true)).alloc (by have := hS'.out.big; simp; omega) _).grown hgrow (by have := hS'.out.big; simp; omega) (fun k hk => by have := (hqw.out.lt k hk).1; omega)
                    big := by have := hgrow.size; have := hS'.out.big; simp at *; omega }
                clear hq' hgrow hqw cb fz
                go_roundw
                case rel => exact ⟨j + 1, bs'.set j true, zs' ++ [j], by omega, by go_num, hR2, Hd (by have := hun.out; have := hU'.out; simp; omega), hS2⟩
                case measure => simp [intOf]; omega
          · obtain rfl : j = n := by omega
            have hR2 := Hd (hn1.out z bs' zs' hR'.out);have hU2 : Hid (unseen bs' + zs'.length ≤ j + 1) := Hd (by have := hU'.out; have := hU.out; simp at this; omega);go_wp2_with fail
            go_roundw
            case rel => exact ⟨bs', zs', hR2, hU2, hS'⟩
            case measure =>
              have h1 := unseenW_blk hS'.out.b;have h2 := hS'.out.q.qlen_;have h3 := hU'.out;rw [h1, h2, hM.out];simp only [qlen]
              omega


theorem RowsAt.farK {w : World} {C : Option Addr} {p g : Nat} {t : TypeId} {xss : List (List Nat)} {N : Int} {A : Option Addr} {n c : Nat} {yss : List (List Nat)} (h : RowsAt w C p xss) (hM : MatK w g t N A n c yss) (hn : 0 < n) : 0 < p → ∀ ad, C = some ad → ad.block ≠ g := by
 intro h0 ad e;obtain ⟨b, off, B, m, d, xs, e2, _, hx, hc, hr⟩ := h.at_ h0;rw [e] at e2
 cases e2
 intro hb;have hb' : b = g := hb;subst hb';rw [Blk.cell hM.1] at hc
 match off + 0, hc with
 | 0, hc => simp at hc
 | 1, hc =>
  simp at hc;obtain ⟨rfl, rfl, rfl⟩ := hc;obtain ⟨b3, o3, x, e3, _, _, _, h3⟩ := hr.at_ hn;obtain ⟨b4, o4, B4, m4, d4, xs4, e4, _, _, h4, _⟩ := hM.2.at_ hn;rw [e3] at e4
  cases e4
  rw [h3] at h4
  cases h4
 | k + 2, hc => simp at hc
theorem MatK.put2 {w : World} {g : Nat} {t : TypeId} {N : Int} {A : Option Addr} {n c : Nat} (h : MatB w g t N A n c) {G : Nat} {t' : TypeId} {M : Int} {B : Option Addr} {m d : Nat} {yss : List (List Nat)} (k : MatK w G t' M B m d yss) (hne : G ≠ g) (hb : 0 < m → ∀ ad, B = some ad → ad.block ≠ g) (x y : Value) : MatK ((w.setCell ⟨g, 0, none⟩ x).setCell ⟨g, 1, none⟩ y) G t' M B m d yss :=
 ⟨(k.1.farB (p := ⟨g, 0, none⟩) (by simpa using hne) _).farB (p := ⟨g, 1, none⟩) (by simpa using hne) _, k.2.putB h hb _ _⟩
theorem Ints.setCell {w : World} {A : Option Addr} {n : Nat} {zs : List Int} {p : Addr} (h : Ints w A n zs) (hne : ∀ ad, A = some ad → ad.block ≠ p.block) (u : Value) : Ints (w.setCell p u) A n zs := ⟨h.1.setCell hne u, h.2⟩
theorem Conn.lt {n : Nat} {a : List (List Nat)} (hG : Good n a) {i j : Nat} (h : Conn (Rel a) i j) : i < n ∧ j < n := by
 induction h with
 | one h => exact hG.has_lt h
 | step _ h ih => exact ⟨ih.1, (hG.has_lt h).2⟩
def CloseR (n : Nat) (a : List (List Nat)) (i : Nat) (l : List Nat) (X : List (List Nat)) : Prop := Good n X ∧ ∀ x y : Nat, Rel X x y ↔ (x < i ∧ Conn (Rel a) x y) ∨ (x = i ∧ y ∈ l)
section
variable {n : Nat} {a X : List (List Nat)} {i : Nat} {l : List Nat}
theorem CloseR.start (hn : n ≤ 4096) : CloseR n a 0 [] (newM n) := ⟨Good.new hn, fun x y => by
 unfold Rel;rw [newM_has]
 constructor
 ·intro h; cases h
 ·rintro (⟨h, _⟩ | ⟨_, h⟩)
  ·omega
  ·cases h⟩
theorem CloseR.set (h : CloseR n a i l X) {y : Nat} (hi : i < n) (hy : y < n) : CloseR n a i (l ++ [y]) (setM X (i : Int) (y : Int)) := ⟨h.1.set hi hy, fun u v => by
 rw [rel_set h.1 hi hy, h.2];simp only [List.mem_append, List.mem_singleton]
 constructor
 ·rintro ((h1 | ⟨h1, h2⟩) | ⟨h1, h2⟩)
  ·exact .inl h1
  ·exact .inr ⟨h1, .inl h2⟩
  ·exact .inr ⟨h1, .inr h2⟩
 ·rintro (h1 | ⟨h1, h2 | h2⟩)
  ·exact .inl (.inl h1)
  ·exact .inl (.inr ⟨h1, h2⟩)
  ·exact .inr ⟨h1, h2⟩⟩
theorem CloseR.next (h : CloseR n a i l X) (hG : Good n a) (hl : ∀ x : Nat, x ∈ l ↔ x < n ∧ Conn (Rel a) i x) : CloseR n a (i + 1) [] X := ⟨h.1, fun u v => by
 rw [h.2, hl]
 constructor
 ·rintro (⟨h1, h2⟩ | ⟨rfl, _, h2⟩)
  ·exact .inl ⟨by omega, h2⟩
  ·exact .inl ⟨by omega, h2⟩
 ·rintro (⟨h1, h2⟩ | ⟨_, h2⟩)
  ·rcases Nat.lt_succ_iff_lt_or_eq.1 h1 with h3 | h3
   ·exact .inl ⟨h3, h2⟩
   ·subst h3
    exact .inr ⟨rfl, (Conn.lt hG h2).2, h2⟩
  ·cases h2⟩
theorem CloseR.all (h : CloseR n a n [] X) (hG : Good n a) : X = closeK a n :=
 IsHull.unique (r := Rel a) ⟨h.1, fun u v => by
  rw [h.2]
  constructor
  ·rintro (⟨_, h2⟩ | ⟨_, h2⟩)
   ·exact h2
   ·cases h2
  ·intro h2
   exact .inl ⟨(Conn.lt hG h2).1, h2⟩⟩ (closeK_hull hG) fun _ _ => Iff.rfl
end
def RetMat1G (N : Int) (xss : List (List Nat)) (w : World) (e : Ending) (w' : World) : Prop :=
 ∃ A n c, e = .returned (.agg #[.int .i64 N, .slice A n c]) ∧ RowsG w.heap.size w' A n xss ∧ n ≤ c ∧ Below w.heap.size w w'
theorem ref4_CloseG (A : Option Addr) (n c : Nat) (a : List (List Nat)) (w : World) (hr : RowsAt w A n a) (hG : Good n a) (hn64 : n < 64) :
  Calls Tryz.prog 44 #[.agg #[.int .i64 (n : Int), .slice A n c]] w (RetMat1G (n : Int) (closeK a n) w) := by
 have hnn : n ≤ 4096 := hG.le;obtain ⟨W0, hW0⟩ : ∃ W0, W0 = (w.alloc (.cells #[.int .i64 n, .slice A n c] 57)).alloc (.cells #[.int .i64 0, .slice none 0 0] 57) := ⟨_, rfl⟩;have bb := Hd (show Below w.heap.size w W0 by rw [hW0]; exact ((Below.refl _ _).alloc (Nat.le_refl _) _).alloc (by simp) _);have k1 := Hd (show MatK W0 w.heap.size 57 n A n c a by rw [hW0]; exact (MatK.new w _ hr).below (bAl _ _));have m2 := Hd (show MatB W0 (w.heap.size + 1) 57 0 none 0 0 by rw [hW0]; exact MatB.new1 w _ _);have cN := Hd (fun W => ref3_NewG n hnn W);have cR := Hd (fun (i : Nat) (hi : i < n) W (hW : RowsAt W A n a) => ref4_Reach A n c a i W hW hG hi);have cS := Hd (fun (i y : Nat) (hi : i < n) (hy : y < n) C d X (hX : Good n X) W (hW : RowsG w.heap.size W C n X) (hs : w.heap.size ≤ W.heap.size) => ref3_SetG w.heap.size (n : Int) C n d X (i : Int) (y : Int) W hW hs rfl hnn (fun xs hx => by have := hX.small xs hx; omega) (by unfold inM; simp; omega));replace hG := Hd hG;clear hr;have qk10 := k1.out.1.c0;have qk11 := k1.out.1.c1
 go_enter Tryz.func44, Tryz.ntmps44
 go_wp2_with fail;rw [← hW0];clear hW0;go_wp2_with fail;refine (cN.out W0).mono ?_; rintro e w1 ⟨A3, n3, c3, rfl, s3, hc3, b, -⟩;have r3 := s3.at;obtain rfl : n = n3 := by have := r3.len; simp [newM] at this; omega
 replace s3 := s3.mono (show w.heap.size ≤ W0.heap.size from bb.out.size);replace m2 := Hd (m2.out.below b);obtain ⟨W1, hW1⟩ : ∃ W1, W1 = w1.alloc (.cells #[.int .i64 n, .slice A3 n c3] 57) := ⟨_, rfl⟩;obtain ⟨G3, hG3⟩ : ∃ G, G = w1.heap.size := ⟨_, rfl⟩;have ba : Below w1.heap.size w1 W1 := by rw [hW1]; exact bAl _ _
 have k3 := Hd (show MatK W1 G3 57 n A3 n c3 (newM n) from ⟨by rw [hW1, hG3]; exact MatB.new _ _, r3.below ba⟩);replace s3 := Hd (s3.below ba);have hlt := m2.out.lt;have h23 : w.heap.size + 1 < G3 := by omega
 replace m2 := Hd (m2.out.below ba);replace b := bT2 b ba;replace k1 := Hd (k1.out.below b);replace qk10 := k1.out.1.c0;replace qk11 := k1.out.1.c1;replace bb := Hd (bT2 bb.out b);clear b;rw [hW1] at qk10 qk11;clear ba r3 hlt;go_wp2_with fail;rw [← hW1, ← hG3];clear hW1 hG3 qk10 qk11
 go_loopw [5] (fun t wr => ∃ (i : Nat) (A3 : Option Addr) (c3 : Nat) (X : List (List Nat)), i ≤ n ∧ t = .int .i64 i ∧ Hid (CloseR n a i [] X) ∧ Hid (n ≤ c3) ∧ Hid (MatK wr w.heap.size 57 n A n c a) ∧ Hid (MatB wr (w.heap.size + 1) 57 0 none 0 0) ∧ Hid (MatK wr G3 57 n A3 n c3 X) ∧ Hid (RowsG w.heap.size wr A3 n X) ∧ Hid (Below w.heap.size w wr)) (fun t _ => n - (intOf t).toNat)
 case atStart => exact ⟨0, A3, c3, newM n, Nat.zero_le _, rfl, Hd (CloseR.start hnn), Hd hc3, k1, m2, k3, s3, bb⟩
 case round =>
  clear k1 m2 k3 s3 bb;obtain ⟨i, A3, c3, X, hi, rfl, hX, hc3', k1, m2, k3, s3, bb⟩ := hrel;have qk10 := k1.out.1.c0;have qk11 := k1.out.1.c1;by_cases hlt : i < n
  ·have cRi := Hd (cR.out i hlt wr k1.out.2)
   go_wp2_with fail;refine cRi.out.mono ?_; rintro e w2 ⟨B, m, d, l, rfl, hl, hmem, hll, hfr, b⟩;have hlm : l.length = m := by have := hl.len; simpa using this
   have h3 : G3 < wr.heap.size := k3.out.1.lt;have hfr3 : Hid (∀ ad, B = some ad → ad.block ≠ G3) := Hd (fun ad e => by have := hfr ad e; omega);replace m2 := Hd (m2.out.below b);replace s3 := Hd (s3.out.below b);replace k1 := Hd (k1.out.below b);replace qk10 := k1.out.1.c0;replace qk11 := k1.out.1.c1;replace k3 := Hd (k3.out.below b);replace qk30 := k3.out.1.c0;replace qk31 := k3.out.1.c1;replace bb := Hd (bT2 bb.out b);clear b;replace hl := Hd hl;replace hmem := Hd hmem;have hm64 : m ≤ 64 := by omega
   replace hlm := Hd hlm;clear cRi hfr h3 hll;go_wp2_with fail;clear qk10 qk11 qk30 qk31
   go_loopw [7] (fun t wr => ∃ (k : Nat) (A3 : Option Addr) (c3 : Nat) (X : List (List Nat)), k ≤ m ∧ t = .int .i64 k ∧ Hid (CloseR n a i (l.take k) X) ∧ Hid (n ≤ c3) ∧ Hid (MatK wr w.heap.size 57 n A n c a) ∧ Hid (MatB wr (w.heap.size + 1) 57 0 none 0 0) ∧ Hid (MatK wr G3 57 n A3 n c3 X) ∧ Hid (RowsG w.heap.size wr A3 n X) ∧ Hid (Below w.heap.size w wr) ∧ Hid (Ints wr B m (l.map Int.ofNat))) (fun t _ => m - (intOf t).toNat)
   case atStart => exact ⟨0, A3, c3, X, Nat.zero_le _, rfl, hX, hc3', k1, m2, k3, s3, bb, hl⟩
   case round =>
    clear hX hc3' k1 m2 k3 s3 bb hl;obtain ⟨k, A3, c3, X, hk, rfl, hX, hc3', k1, m2, k3, s3, bb, hl⟩ := hrel;by_cases hkm : k < m
    ·obtain ⟨b4, o4, x, rfl, hb4, hx, hx64, c4⟩ := hl.out.at_ hkm
     obtain ⟨y, hy, rfl⟩ : ∃ y : Nat, l[k]? = some y ∧ (y : Int) = x := by
      rw [List.getElem?_map] at hx
      cases hh : l[k]? with
      | none => rw [hh] at hx; cases hx
      | some y => rw [hh] at hx; exact ⟨y, rfl, by simpa using hx⟩
     have hyn : y < n := ((hmem.out y).1 (List.mem_of_getElem? hy)).1;have cSk := Hd (cS.out i y hlt hyn A3 c3 X hX.out.1);have hX2 := Hd (hX.out.set hlt hyn);rw [show l.take k ++ [y] = l.take (k + 1) by rw [List.take_succ_eq_append_getElem (List.getElem?_eq_some_iff.1 hy).1, (List.getElem?_eq_some_iff.1 hy).2]] at hX2;have hk0 : (0 : Int) ≤ (k : Int) := by omega
     have hkm' : (k : Int) < (m : Int) := by omega
     clear hx hx64 hy;have qk30 := k3.out.1.c0;have qk31 := k3.out.1.c1;go_wp2_with fail;refine wp_region_planT 8 [(true, 0), (true, 1), (true, 2), (true, 3), (true, 4), (true, 5), (false, 6), (true, 7)] 10 [8, 9] (by kernel_rfl) (by kernel_rfl) (fun W1 hW1 => ?_);replace k1 := Hd (show MatK W1 w.heap.size 57 n A n c a by rw [hW1.out]; exact k1.out.drew);replace s3 := Hd (show RowsG w.heap.size W1 A3 n X by rw [hW1.out]; exact s3.out.below (Below.refl _ _).drew);replace k3 := Hd (show MatK W1 G3 57 n A3 n c3 X by rw [hW1.out]; exact k3.out.drew);replace m2 := Hd (show MatB W1 (w.heap.size + 1) 57 0 none 0 0 by rw [hW1.out]; exact Blk.drew m2.out);replace bb := Hd (show Below w.heap.size w W1 by rw [hW1.out]; exact bb.out.drew);replace hl := Hd (show Ints W1 (some ⟨b4, o4, none⟩) m (l.map Int.ofNat) by rw [hW1.out]; exact hl.out);replace c4 : W1.cell? ⟨b4, o4 + k, none⟩ = some (.int .i64 (y : Int)) := by rw [hW1.out]; exact c4
     clear hW1 qk30 qk31;simp only [List.drop_succ_cons, List.drop_zero];have qk30 := k3.out.1.c0;have qk31 := k3.out.1.c1
     iterate 6
      refine wpEf (v := ?_) rfl (by rfl) (fun w' hw' => ?_) (fun K hK => ?_);rotate_left
      ·(go_simp; try with_reducible rfl)
      go_simp;refine hK _ ?_;clear hK K
     clear c4 qk30 qk31;refine wpPlanE_only rfl (by rfl) (fun K hK => ?_);go_simp;refine (cSk.out W1 s3.out bb.out.size).mono ?_;rintro e w3 ⟨D, nn, dd, rfl, sD, hcD, b, -⟩;have rD := sD.at;obtain rfl : n = nn := by have := rD.len; have := hX2.out.1.len; omega
     refine hK _ _ b ?_;clear hK K cSk;replace m2 := Hd (m2.out.below b);replace hl := Hd (hl.out.below b);replace k1 := Hd (k1.out.below b);replace k3 := Hd (k3.out.below b);replace bb := Hd (bT2 bb.out b);replace rD := Hd rD;replace sD := Hd sD;clear s3;replace hcD := Hd hcD;clear b
     iterate 1
      refine wpEf (v := ?_) rfl (by rfl) (fun w' hw' => ?_) (fun K hK => ?_);rotate_left
      ·(go_simp; try with_reducible rfl)
      go_simp;refine hK _ ?_;clear hK K
     refine wpPlanE_nil ?_
     iterate 2
      refine wpPlanT_float (v := ?_) rfl (by rfl) (fun w' => ?_) (fun K hK => ?_);rotate_left
      ·(go_simp; try with_reducible rfl)
      go_simp;refine hK _ ?_;clear hK K
     refine wpPlanT_nil ?_;have qk30 := k3.out.1.c0;have qk31 := k3.out.1.c1;have f0 := k3.out.1.frozen 0;have f1 := k3.out.1.frozen 1;go_wp2_with fail;refine NoPanic.normal ?_;clear f0 f1 qk30 qk31;obtain ⟨Wz, hWz⟩ : ∃ X : World, X = (w3.setCell ⟨G3, 0, none⟩ (.int .i64 n)).setCell ⟨G3, 1, none⟩ (.slice D n dd) := ⟨_, rfl⟩;rw [← hWz];have hn0 : 0 < n := by omega
     have k3' := Hd (show MatK Wz G3 57 n D n dd (setM X (i : Int) (y : Int)) by rw [hWz]; exact ⟨k3.out.1.put n D n dd, rD.out.putB k3.out.1 (rD.out.farK k3.out hn0) _ _⟩);have s3' := Hd (show RowsG w.heap.size Wz D n (setM X (i : Int) (y : Int)) by rw [hWz]; exact sD.out.putB k3.out.1 (rD.out.farK k3.out hn0) _ _);have k1' := Hd (show MatK Wz w.heap.size 57 n A n c a by rw [hWz]; exact MatK.put2 k3.out.1 k1.out (by omega) (k1.out.2.farK k3.out hn0) _ _);have m2' := Hd (show MatB Wz (w.heap.size + 1) 57 0 none 0 0 by rw [hWz]; exact (m2.out.farB (p := ⟨G3, 0, none⟩) (by simp <;> omega) _).farB (p := ⟨G3, 1, none⟩) (by simp <;> omega) _);have hl' := Hd (show Ints Wz (some ⟨b4, o4, none⟩) m (l.map Int.ofNat) by rw [hWz]; exact (hl.out.setCell (p := ⟨G3, 0, none⟩) (fun ad e => hfr3.out ad e) _).setCell (p := ⟨G3, 1, none⟩) (fun ad e => hfr3.out ad e) _);replace bb := Hd (show Below w.heap.size w Wz by rw [hWz]; exact (bb.out.setCell (p := ⟨G3, 0, none⟩) (by simp <;> omega) _).setCell (p := ⟨G3, 1, none⟩) (by simp <;> omega) _);clear hWz k1 k3 m2 hl rD sD;go_wp2_with fail
     go_roundw
     case rel => exact ⟨k + 1, D, dd, _, by omega, by go_num, hX2, hcD, k1', m2', k3', s3', bb, hl'⟩
     case measure => simp [intOf]; omega
    ·obtain rfl : k = m := by omega
     rw [List.take_of_length_le (by rw [hlm.out]; exact Nat.le_refl _)] at hX;have hX2 := Hd (hX.out.next hG.out hmem.out);clear hl;go_wp2_with fail
     go_roundw
     case rel => exact ⟨i + 1, A3, c3, X, by omega, by go_num, hX2, hc3', k1, m2, k3, s3, bb⟩
     case measure => simp [intOf]; omega
  ·obtain rfl : i = n := by omega
   have he := hX.out.all hG.out;have hone := hX.out.1.one hn64;replace he := Hd he;replace hone := Hd hone;have qk30 := k3.out.1.c0;have qk31 := k3.out.1.c1;have f0 := m2.out.c0;have f1 := m2.out.c1;have g0 := m2.out.frozen 0;have g1 := m2.out.frozen 1;clear hX;go_wp2_with fail;have hcc := m2.out.two (.int .i64 i) (.slice A3 i c3);have hc1 := hcc.1;have hc2 := hcc.2;clear hcc f0 f1 g0 g1;refine bodyPost_ret (v := .agg #[.int .i64 i, .slice A3 i c3]) (by simp [results, Tryz.results44, go_sem, hc1, hc2]) rfl ⟨_, _, _, rfl, ?_, hc3'.out, ?_⟩
   ·rw [← he.out]
    exact s3.out.putB m2.out (k3.out.2.farM m2.out hone.out) _ _
   ·exact (bb.out.setCell (p := ⟨w.heap.size + 1, 0, none⟩) (by simp) _).setCell (p := ⟨w.heap.size + 1, 1, none⟩) (by simp) _
theorem ref4_Close (A : Option Addr) (n c : Nat) (a : List (List Nat)) (w : World) (hr : RowsAt w A n a) (hG : Good n a) (hn64 : n < 64) :
  Calls Tryz.prog 44 #[.agg #[.int .i64 (n : Int), .slice A n c]] w (RetMat1 (n : Int) (closeK a n) w) :=
 (ref4_CloseG A n c a w hr hG hn64).mono fun _ _ ⟨A', n', c', h1, h2, h3, h4⟩ => ⟨A', n', c', h1, h2.at, h3, h4⟩

theorem ref4_has (A : Option Addr) (m c : Nat) (zs : List Int) (x : Int) (w : World) (hz : Ints w A m zs) (hm : m ≤ 1073741824) :
  Calls Tryz.prog 128 #[.slice A m c, .int .i64 x] w fun e w' => e = .returned (.bool (decide (x ∈ zs))) ∧ w = w' := by
 have hlen := Hd hz.len;replace hz := Hd hz
 go_enter Tryz.func128, Tryz.ntmps128
 go_wp2_with fail
 go_loop [5] (fun t => ∃ k : Nat, k ≤ m ∧ t = .int .i64 k ∧ Hid (x ∉ zs.take k)) (fun t => m - (intOf t).toNat)
 case atStart => exact ⟨0, Nat.zero_le _, rfl, Hd (by simp)⟩
 case round =>
  obtain ⟨k, hk, rfl, hall⟩ := hrel;by_cases hlt : k < m
  ·obtain ⟨b, off, y, rfl, hb, hy, hy64, hc⟩ := hz.out.at_ hlt
   have hk0 : (0 : Int) ≤ (k : Int) := by omega
   have hkm : (k : Int) < (m : Int) := by omega
   by_cases hyx : y = x
   ·subst hyx
    have hmem : decide (y ∈ zs) = true := decide_eq_true (List.mem_of_getElem? hy);replace hmem := Hd hmem;clear hy hall hy64;go_wp2_with fail;go_ret;rw [hmem.out]; exact ⟨rfl, rfl⟩
   ·have hne : (y == x) = false := beq_eq_false_iff_ne.2 hyx
    have hall' : Hid (x ∉ zs.take (k + 1)) := Hd (by
     rw [List.take_succ_eq_append_getElem (List.getElem?_eq_some_iff.1 hy).1, (List.getElem?_eq_some_iff.1 hy).2, List.mem_append, List.mem_singleton];rintro (h | h)
     ·exact hall.out h
     ·exact hyx h.symm)
    clear hy hall hy64;go_wp2_with fail
    go_round
    case rel => exact ⟨k + 1, by omega, by go_num, hall'⟩
    case measure => simp [intOf]; omega
  ·obtain rfl : k = m := by omega
   have hmem : decide (x ∈ zs) = false := decide_eq_false (by
    have h := hall.out
    rwa [List.take_of_length_le (by rw [hlen.out]; exact Nat.le_refl _)] at h)
   replace hmem := Hd hmem;clear hall;go_wp2_with fail;go_ret;rw [hmem.out]; exact ⟨rfl, rfl⟩


theorem ref3_Pairs (A : Option Addr) (n c : Nat) (xss : List (List Nat)) (w : World) (hr : RowsAt w A n xss) (hn : n ≤ 4096) (hl : ∀ (i : Nat) (xs : List Nat), xss[i]? = some xs → xs.length ≤ 1024) :
  Calls Tryz.prog 127 #[.agg #[.int .i64 (n : Int), .slice A n c]] w (RetPairs (pairsM xss) w) := by
 have hlen := hr.len;obtain ⟨i0, hi, hz0, hz1, hz2⟩ := info_parts info_pair;replace hi := Hd hi;replace hz0 := Hd hz0;replace hz1 := Hd hz1;replace hz2 := Hd hz2;obtain ⟨W0, hW0⟩ : ∃ W0, W0 = w.alloc (.cells #[.int .i64 n, .slice A n c] 57) := ⟨_, rfl⟩;have ha : Below w.heap.size w W0 := by rw [hW0]; exact (Below.refl _ _).alloc (Nat.le_refl _) _
 have hB : MatB W0 w.heap.size 57 n A n c := by rw [hW0]; exact MatB.new w _
 have hsl : ∀ k, k ≤ n → sumK xss k ≤ 268435456 := fun k hk => by
  have := sumK_le 1024 hl k;have : k * (64 * 1024) ≤ 4096 * 65536 := Nat.mul_le_mul (by omega) (by omega)
  omega
 have hok := Hd (pairsM_ok xss (by omega) (fun i xs hx => Nat.le_trans (hl i xs hx) (by omega)));have hs0 : w.heap.size + 1 ≤ W0.heap.size := by rw [hW0]; simp
 have hown0 : W0.ownsRow (w.heap.size + 1) 99 2 (.slice none 0 0) 0 [] := World.ownsRow_nil _ _ _ _;replace hB := Hd hB;replace ha := Hd ha;replace hown0 := Hd hown0;replace hr := Hd hr;replace hl := Hd hl;replace hlen := Hd hlen;replace hsl := Hd hsl
 go_enter Tryz.func127, Tryz.ntmps127
 go_wp2_with fail;rw [← hW0];clear hW0
 go_loopw [3, 4] (fun l i wr => ∃ q : Nat, q ≤ n ∧ i = .int .i64 q ∧ Hid (wr.ownsRow (w.heap.size + 1) 99 2 l (pairsK xss q).length (cellsP (pairsK xss q))) ∧ Hid (Below w.heap.size w wr) ∧ Hid (MatB wr w.heap.size 57 n A n c) ∧ Hid (w.heap.size + 1 ≤ wr.heap.size)) (fun _ i _ => n - (intOf i).toNat)
 case atStart => exact ⟨0, Nat.zero_le _, rfl, hown0, ha, hB, Hd hs0⟩
 case round =>
  obtain ⟨q, hq, rfl, hown, hbr, hBr, hsr⟩ := hrel;clear hown0 hB hs0 ha;have l0 := hBr.out.c0;have l1 := hBr.out.c1;by_cases hlt : q < n
  ·obtain ⟨b, off, B, m, d, xs, rfl, hbl, hx, hc, hxr⟩ := (hr.out.below hbr.out).at_ hlt
   have hm : m ≤ 1024 := by have := hxr.len; have := hl.out q xs hx; omega
   have hL := Hd (ref2_ListO B m d xs wr hxr (by omega));have hst := Hd (pairsK_succ hx);have hcl := Hd (listR_len xs);have hcount : countR xs ≤ 65536 := by have := countR_le xs; have := hxr.len; omega
   have hpl : (pairsK xss q).length ≤ 268435456 := by rw [pairsK_len]; exact hsl.out q hq
   clear hx hxr;go_wp2_with fail;refine hL.out.mono ?_; rintro e w1 ⟨C, y, z, rfl, hIo, hI64, hb1⟩;have hI := Ints.of_own hIo hI64;have hy : y ≤ 65536 := by have := hI.len; rw [hcl.out] at this; omega
   have hlist := Hd hI.len;have hown1 := oBl hown.out hb1;have hbr1 := Hd (bT2 hbr.out hb1);have hB1 := Hd (MatB.below_ hBr.out hb1);have hib : wr.heap.size ≤ w1.heap.size := hb1.size;have hs1 := Hd (show w.heap.size + 1 ≤ w1.heap.size from Nat.le_trans hsr.out hib);replace hI64 := Hd hI64;clear hI hb1 hL l0 l1 hc;go_wp2_with fail
   go_loopw [3, 6] (fun l i wi => ∃ (u : Nat) (D : List (Int × Int)), u ≤ y ∧ i = .int .i64 u ∧ Hid (D = pairsK xss q ++ ((listR xs).take u).map fun j => ((q : Int), j)) ∧ wi.ownsRow (w.heap.size + 1) 99 2 l D.length (cellsP D) ∧ wi.ownsRow (w.heap.size + 1) 3 1 (.slice C y z) y ((listR xs).map i64v) ∧ Below w.heap.size w wi ∧ Hid (MatB wi w.heap.size 57 n (some ⟨b, off, none⟩) n c) ∧ Hid (w.heap.size + 1 ≤ wi.heap.size)) (fun _ i _ => y - (intOf i).toNat)
   case atStart => exact ⟨0, _, Nat.zero_le _, rfl, Hd (by simp), hown1, own_base hIo hsr.out, hbr1.out, hB1, hs1⟩
   case round =>
    obtain ⟨u, D, hu, rfl, hD, hownD, hIo', hbD, hBD, hsD⟩ := hrel;clear hown1 hIo hB1 hs1;have hDl : D.length ≤ 268500992 := by
     rw [hD.out, List.length_append, List.length_map, List.length_take]; omega
    by_cases hlu : u < y
    ·obtain ⟨b2, o2, x, rfl, hbl2, hx2, hx64, hc2⟩ := (Ints.of_own hIo' hI64.out).at_ hlu
     have hD2 : Hid (D ++ [((q : Int), x)] = pairsK xss q ++ ((listR xs).take (u + 1)).map fun j => ((q : Int), j)) := Hd (by
      rw [List.take_succ_eq_append_getElem (List.getElem?_eq_some_iff.1 hx2).1, (List.getElem?_eq_some_iff.1 hx2).2, hD.out]; simp)
     clear hx2 hx64 hD;have hsz := hsD.out;go_wp2_with (at_builtin; refine wpList_append_lies _ rfl (.tmp 25) (.tmp 32) _ rfl (w.heap.size + 1) 99 i0 _ 2 16 Tryz.underlying98 hi.out hz0.out hz1.out hz2.out rfl (by omega) _ _ _ (by rfl) (hownD.alloc _) ⟨wr.heap.size, 0, none⟩ 1 1 [.int .i64 (q : Int), .int .i64 x] rfl rfl (cell_two_new _ _ _ _) (by simp [Value.oneCell']) (by omega) (by unfold maxLen; omega) (by omega) (by simp; omega) _ rfl ?_; intro g cap w2 hown2 hgrow hat hlt1; have hb2 := (hbD.alloc hbD.size _).grown hgrow (by have := hbD.size; simp; omega) (fun g e => by have := oLb hownD g e; omega); have hB2 := Hd (Blk.grown (Blk.alloc hBD.out _) hgrow (fun e => by have := oLb hownD _ e.symm; omega)); have hs2 := Hd (show w.heap.size + 1 ≤ w2.heap.size by have := hgrow.size; simp at this; omega); have hIo2 := own_grown (oBl hIo' ((Below.refl _ _).alloc (Nat.le_refl _) _)) (oBl hownD ((Below.refl _ _).alloc (Nat.le_refl _) _)) (by decide) hgrow; clear hgrow hat hlt1)
     go_roundw
     case rel =>
      refine ⟨u + 1, D ++ [((q : Int), x)], by omega, by go_num, hD2, ?_, hIo2, hb2, hB2, hs2⟩;rw [List.length_append, cellsP_snoc];exact hown2
     case measure => simp [intOf]; omega
    ·have hDe : D = pairsK xss (q + 1) := by
      rw [hD.out, hst.out, List.take_of_length_le (by rw [hlist.out]; omega)]
     have hbr2 := Hd hbD;rw [hDe] at hownD;clear hDe hD hDl hbD hIo';go_wp2_with fail
     go_roundw
     case rel => exact ⟨q + 1, by omega, by go_num, Hd hownD, hbr2, hBD, hsD⟩
     case measure => simp [intOf]; omega
  ·obtain rfl : q = n := by omega
   have he : pairsK xss q = pairsM xss := by unfold pairsM; rw [hlen.out]
   have hown2 := hown.out;rw [he] at hown2;obtain ⟨A', c', rfl, hP⟩ := PairsAt.of_own hown2 hok.out;have hbf := hbr;clear he hown2 hown;go_wp2_with fail;go_ret;exact ⟨_, _, _, rfl, hP, hbf.out⟩


def turned (ps : List (Int × Int)) : List (Int × Int) := ps.map fun x => (x.2, x.1)

end Go.Proofs.YtjhjojklfdjmdaaGreat
