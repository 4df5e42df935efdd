/- Plain mathematics of layer 19: what the last read from a write of a session has seen is enough for its session. Nothing of the program is named. Plain mathematics of layer 19: the last reads from writes, session by session; the first pattern of the kinds 6 and 7 is found through them. Nothing of the program is named. Words for memory of layer 19: what the code looks for patterns in, lies in a block of its own. The code's own contract of layer 19: lastReads. The code's own contracts of layer 19: writes, missed, firstMissed, hasMissed, goesRound, seen. The code's own contracts of layer 19: seen. The code's own contracts of layer 19: thinAirRead, cyclicCO, writeCOInitRead, writeCORead. Plain mathematics of layer 17's own code: conflicts that are sought by W2 and R, and kept apart by W1; the hull of a matrix laid over another. Nothing of the program is named. The code's own contracts of layer 10: a map of first writes, Check, Write. The code's own contracts of layer 6, first half: names, slices.Grow, slices.Concat, slices.Equal, slices.EqualFunc at operations; Flat, Same. The contracts of slices.Equal at the parts of facts, and of the code's own Same. -/
import Derived.Test.YtjhjojklfdjmdaaGreatBadTellsPk11
import Derived.Test.YtjhjojklfdjmdaaGreatBadTellsPk8
import Derived.Test.YtjhjojklfdjmdaaGreatBadTellsPk10
import Derived.Test.YtjhjojklfdjmdaaGreatBadTellsPk2
import Derived.Test.YtjhjojklfdjmdaaGreatBadTellsPk4
import Derived.Test.YtjhjojklfdjmdaaGreatBadTellsPk5
import Derived.Maps.OwnSet
import Derived.Maps.OwnOps
import Derived.DeepKeys4
import Derived.Lib.AppendZeros
import Derived.RangeFuncRecord
set_option linter.unusedVariables false
namespace Go.Proofs.YtjhjojklfdjmdaaGreat
set_option maxRecDepth 100000
set_option maxHeartbeats 8000000
open Go.RowKit

def missB (f : Fac) (o : Nat) : Bool := (earlyF f (seenM f (coM f) o) 6 (keptO f o)).isSome
def gorB (f : Fac) (o : Nat) : Bool := loopB f.items.length (seenM f (coM f) o)
def PastP (f : Fac) (o j : Nat) : Prop := j = o ∨ Rel (coM f) j o
theorem max_ex {P : Nat → Prop} : ∀ (n : Nat), (∃ q, q ≤ n ∧ P q) → ∃ q, q ≤ n ∧ P q ∧ ∀ r, q < r → r ≤ n → ¬ P r
 | 0, ⟨q, hq, hp⟩ => ⟨q, hq, hp, fun r h1 h2 => by omega⟩
 | n + 1, ⟨q, hq, hp⟩ => by
  by_cases h : P (n + 1)
  ·exact ⟨n + 1, Nat.le_refl _, h, fun r h1 h2 => by omega⟩
  ·obtain ⟨q', h1, h2, h3⟩ := max_ex n ⟨q, by
    rcases Nat.lt_or_ge q (n + 1) with h4 | h4
    ·omega
    ·obtain rfl : q = n + 1 := by omega
     exact absurd hp h, hp⟩
   refine ⟨q', by omega, h2, fun r h4 h5 => ?_⟩;rcases Nat.lt_or_ge r (n + 1) with h6 | h6
   ·exact h3 r h4 (by omega)
   ·obtain rfl : r = n + 1 := by omega
    exact h
section
variable {f : Fac}
theorem co_ahead (hw : WholeF f) (h : f.items.length ≤ 4096) {i j : Nat} (hij : aheadF f.items (i : Int) (j : Int) = true) : Rel (coM f) i j :=
 ((coM_hull hw h).2 i j).2 (.one (((edgeM_good hw h).2 i j).2 (.inl hij)))
theorem co_from (hw : WholeF f) (h : f.items.length ≤ 4096) {i j : Nat} (hj : j < f.items.length) (hij : f.frm.getD j 0 = (i : Int)) : Rel (coM f) i j :=
 ((coM_hull hw h).2 i j).2 (.one (((edgeM_good hw h).2 i j).2 (.inr ⟨hj, hij⟩)))
theorem co_next (hw : WholeF f) (h : f.items.length ≤ 4096) (hN : Nbr f.items) {i j : Nat} {x y : It} (hx : f.items[i]? = some x) (hy : f.items[j]? = some y) (hse : x.se = y.se) (hij : i < j) : Rel (coM f) i j :=
 co_ahead hw h (by rw [hN.ahead hx hy, decide_eq_true hse, decide_eq_true hij]; rfl)
theorem kept19 (hN : Nbr f.items) {o x : Nat} {z : It} (ho : f.items[o]? = some z) : (x : Int) ∈ keptO f o ↔ ∃ y, f.items[x]? = some y ∧ y.wr = false ∧ y.se = z.se ∧ x ≤ o := by
 unfold keptO keptF pastF pastN;rw [List.mem_filter, List.mem_map]
 constructor
 ·rintro ⟨⟨r, hr, e⟩, h2⟩
  obtain rfl : r = x := by omega
  obtain ⟨h3, h4⟩ := List.mem_filter.1 hr;have hrl := List.mem_range.1 h3;have hy := List.getElem?_eq_getElem (l := f.items) hrl;rw [rdOK_at (by rw [Int.toNat_natCast]; exact hy)] at h2;rw [Bool.or_eq_true, decide_eq_true_eq] at h4;refine ⟨_, hy, by simpa using h2, ?_⟩;rcases h4 with h | h
  ·obtain rfl : r = o := by omega
   rw [hy] at ho; injection ho with ho;exact ⟨by rw [ho], Nat.le_refl _⟩
  ·rw [hN.ahead hy ho, Bool.and_eq_true, decide_eq_true_eq, decide_eq_true_eq] at h
   exact ⟨h.1, by omega⟩
 ·rintro ⟨y, hy, hwr, hse, hle⟩
  have hrl := (List.getElem?_eq_some_iff.1 hy).1;refine ⟨⟨x, List.mem_filter.2 ⟨List.mem_range.2 hrl, ?_⟩, rfl⟩, ?_⟩
  ·rw [Bool.or_eq_true, decide_eq_true_eq]
   by_cases h : x = o
   ·exact .inl (by omega)
   ·refine .inr ?_
    rw [hN.ahead hy ho, Bool.and_eq_true, decide_eq_true_eq, decide_eq_true_eq];exact ⟨hse, by omega⟩
  ·rw [rdOK_at (by rw [Int.toNat_natCast]; exact hy), hwr]; rfl
theorem keptO_int {o : Nat} {z : Int} (h : z ∈ keptO f o) : 0 ≤ z ∧ z < (f.items.length : Int) := by
 unfold keptO keptF at h;exact pastF_ok _ _ _ z (List.mem_filter.1 h).1
theorem keptO_rise {o : Nat} : (keptO f o).Pairwise (fun a b => a < b) := by
 unfold keptO keptF pastF pastN;refine List.Pairwise.filter _ (List.Pairwise.map _ (fun x y h => ?_) (List.Pairwise.filter _ List.pairwise_lt_range))
 omega
theorem seX_leastR {kept : List Int} {B : List (List Nat)} (hB : Good f.items.length B) {R : Nat → Nat → Prop} (hR : Trans2 R) (hs : ∀ i j, Rel B i j → R i j) (hr : ∀ r ∈ kept, 0 ≤ r)
  (hn : ∀ a b r : Nat, a ≠ b → bothW f.items a b = true → (r : Int) ∈ kept → f.frm.getD r 0 = (b : Int) → R a r → R a b) : ∀ k i j, Rel (seX f kept B k) i j → R i j
 | 0, i, j, h => hs i j h
 | k + 1, i, j, h => by
  have ih := seX_leastR hB hR hs hr hn k;refine Conn.least hR (fun a b hab => ?_) (((seX_hull hB k).2 i j).1 h);rcases (seX_rel hB k a b).1 hab with h1 | h1
  ·exact ih a b h1
  ·obtain ⟨x, hx, e⟩ := List.mem_map.1 h1
   obtain ⟨p, q, hp, hq, e1, e2, hne, hbo, -, hrk, hfr, hha⟩ := newF_some hx;injection e with e3 e4;obtain rfl : p = a := by omega
   obtain rfl : q = b := by omega
   obtain ⟨r, hr'⟩ := Int.eq_ofNat_of_zero_le (hr _ hrk);rw [hr'] at hha hrk hfr;rw [Int.toNat_natCast] at hfr;exact hn p q r hne hbo hrk hfr (ih p r hha)
theorem seenM_closed (hw : WholeF f) (h : f.items.length ≤ 4096) (o : Nat) : ClosedM (seenM f (coM f) o) := seX_closed (base_good hw h o).1 (base_good hw h o).2 _
theorem seenM_good (hw : WholeF f) (h : f.items.length ≤ 4096) (o : Nat) : Good f.items.length (seenM f (coM f) o) := seX_good (base_good hw h o).1 _
theorem seenM_base (hw : WholeF f) (h : f.items.length ≤ 4096) {o : Nat} (ho : o < f.items.length) {i j : Nat} (hij : Rel (coM f) i j) (hj : PastP f o j) : Rel (seenM f (coM f) o) i j := by
 refine seX_base (base_good hw h o).1 i j ?_ _;have hlt := ((coM_hull hw h).1).rel_lt i j hij;refine ((within_facts (coM_hull hw h).1 _).2 i j).2 ⟨hij, ?_, ?_⟩
 ·rw [wihO_mem ho]
  refine ⟨hlt.1, .inr ?_⟩;rcases hj with rfl | h1
  ·exact hij
  ·exact co_closed hw h _ _ _ hij h1
 ·rw [wihO_mem ho]; exact ⟨hlt.2, hj⟩
theorem seenM_rule (hw : WholeF f) (h : f.items.length ≤ 4096) {o : Nat} {a b r : Nat} (hne : a ≠ b) (hbo : bothW f.items a b = true) (hr : (r : Int) ∈ keptO f o) (hfr : f.frm.getD r 0 = (b : Int)) (har : Rel (seenM f (coM f) o) a r) : Rel (seenM f (coM f) o) a b := by
 obtain ⟨x, y, hx, hy, -, -, -⟩ : ∃ x y, f.items[a]? = some x ∧ f.items[b]? = some y ∧ x.wr = true ∧ y.wr = true ∧ x.va = y.va := by
  unfold bothW at hbo
  cases hx : f.items[a]? with
  | none => rw [hx] at hbo; cases hbo
  | some x =>
   cases hy : f.items[b]? with
   | none => rw [hx, hy] at hbo; cases hbo
   | some y =>
    rw [hx, hy] at hbo;simp only [Bool.and_eq_true, decide_eq_true_eq] at hbo;exact ⟨x, y, rfl, rfl, hbo.1.1, hbo.1.2, hbo.2⟩
 exact newF_nil.1 (seenK_is (kept := keptO f o) (base_good hw h o).1).2 a b (List.getElem?_eq_some_iff.1 hx).1 (List.getElem?_eq_some_iff.1 hy).1 hne hbo (r : Int) hr (by rw [Int.toNat_natCast]; exact hfr) har
theorem seenM_least (hw : WholeF f) (h : f.items.length ≤ 4096) {o : Nat} (ho : o < f.items.length) {R : Nat → Nat → Prop} (hR : Trans2 R) (hs : ∀ i j, Rel (coM f) i j → PastP f o j → R i j)
  (hn : ∀ a b r : Nat, a ≠ b → bothW f.items a b = true → (r : Int) ∈ keptO f o → f.frm.getD r 0 = (b : Int) → R a r → R a b) {i j : Nat} (hij : Rel (seenM f (coM f) o) i j) : R i j := by
 refine seX_leastR (base_good hw h o).1 hR (fun i j hb => ?_) (fun r hr => (keptO_int hr).1) hn _ i j hij;have hb := ((within_facts (coM_hull hw h).1 _).2 i j).1 hb;rw [wihO_mem ho, wihO_mem ho] at hb;exact hs i j hb.1 hb.2.2.2
variable {o p : Nat} {x y : It}
theorem seenM_dom (hw : WholeF f) (h : f.items.length ≤ 4096) (hN : Nbr f.items) (ho : f.items[o]? = some x) {i j : Nat} (hij : Rel (seenM f (coM f) o) i j) : PastP f o i ∧ PastP f o j := by
 have hol := (List.getElem?_eq_some_iff.1 ho).1;have hdown : ∀ i j, Rel (coM f) i j → PastP f o j → PastP f o i := fun i j h1 h2 => by
  rcases h2 with rfl | h2
  ·exact .inr h1
  ·exact .inr (co_closed hw h _ _ _ h1 h2)
 refine seenM_least hw h hol (R := fun i j => PastP f o i ∧ PastP f o j) (fun i j k h1 h2 => ⟨h1.1, h2.2⟩) (fun i j h1 h2 => ⟨hdown i j h1 h2, h2⟩) (fun a b r _ _ hr hfr har => ?_) hij;refine ⟨har.1, ?_⟩;obtain ⟨z, hz, -, hse, hle⟩ := (kept19 hN ho).1 hr;exact hdown b r (co_from hw h (List.getElem?_eq_some_iff.1 hz).1 hfr) har.2
theorem seenM_mono (hw : WholeF f) (h : f.items.length ≤ 4096) (hN : Nbr f.items) (ho : f.items[o]? = some x) (hp : f.items[p]? = some y) (hse : x.se = y.se) (hle : o ≤ p) {i j : Nat} (hij : Rel (seenM f (coM f) o) i j) : Rel (seenM f (coM f) p) i j := by
 have hol := (List.getElem?_eq_some_iff.1 ho).1;have hpl := (List.getElem?_eq_some_iff.1 hp).1;refine seenM_least hw h hol (R := Rel (seenM f (coM f) p)) (seenM_closed hw h p) (fun i j h1 h2 => seenM_base hw h hpl h1 ?_) (fun a b r hne hbo hr hfr har => seenM_rule hw h hne hbo ?_ hfr har) hij
 ·rcases Nat.lt_or_ge o p with hlt | hge
  ·have hop := co_next hw h hN ho hp hse hlt
   rcases h2 with rfl | h2
   ·exact .inr hop
   ·exact .inr (co_closed hw h _ _ _ h2 hop)
  ·obtain rfl : o = p := by omega
   exact h2
 ·obtain ⟨z, hz, hwr, hs, hl⟩ := (kept19 hN ho).1 hr
  exact (kept19 hN hp).2 ⟨z, hz, hwr, hs.trans hse, by omega⟩
theorem seenM_up (hw : WholeF f) (h : f.items.length ≤ 4096) (hN : Nbr f.items) (ho : f.items[o]? = some x) (hp : f.items[p]? = some y) (hse : x.se = y.se) (hle : o ≤ p) (hno : ∀ q, o < q → q ≤ p → f.frm.getD q 0 < 0) {i j : Nat} (hij : Rel (seenM f (coM f) p) i j) :
  Rel (seenM f (coM f) o) i j ∨ (¬ PastP f o j ∧ ∃ k, (i = k ∨ Rel (seenM f (coM f) o) i k) ∧ Rel (coM f) k j) := by
 have hol := (List.getElem?_eq_some_iff.1 ho).1;have hpl := (List.getElem?_eq_some_iff.1 hp).1;have hdown : ∀ i j, Rel (coM f) i j → PastP f o j → PastP f o i := fun i j h1 h2 => by
  rcases h2 with rfl | h2
  ·exact .inr h1
  ·exact .inr (co_closed hw h _ _ _ h1 h2)
 refine seenM_least hw h hpl (R := fun i j => Rel (seenM f (coM f) o) i j ∨ (¬ PastP f o j ∧ ∃ k, (i = k ∨ Rel (seenM f (coM f) o) i k) ∧ Rel (coM f) k j)) (fun i j k h1 h2 => ?_) (fun i j h1 h2 => ?_) (fun a b r hne hbo hr hfr har => ?_) hij
 ·rcases h1 with h1 | ⟨hnj, q, hq, h1⟩
  ·rcases h2 with h2 | ⟨hnk, q2, hq2, h2⟩
   ·exact .inl (seenM_closed hw h o _ _ _ h1 h2)
   ·refine .inr ⟨hnk, q2, .inr ?_, h2⟩
    rcases hq2 with rfl | hq2
    ·exact h1
    ·exact seenM_closed hw h o _ _ _ h1 hq2
  ·rcases h2 with h2 | ⟨hnk, q2, hq2, h2⟩
   ·exact absurd (seenM_dom hw h hN ho h2).1 hnj
   ·rcases hq2 with rfl | hq2
    ·exact .inr ⟨hnk, q, hq, co_closed hw h _ _ _ h1 h2⟩
    ·exact absurd (seenM_dom hw h hN ho hq2).1 hnj
 ·by_cases hj : PastP f o j
  ·exact .inl (seenM_base hw h hol h1 hj)
  ·exact .inr ⟨hj, i, .inl rfl, h1⟩
 ·obtain ⟨z, hz, hwr, hs, hl⟩ := (kept19 hN hp).1 hr
  have hro : r ≤ o := by
   rcases Nat.lt_or_ge o r with h1 | h1
   ·have := hno r h1 hl
    omega
   ·exact h1
  have hpr : PastP f o r := by
   rcases Nat.lt_or_ge r o with h1 | h1
   ·exact .inr (co_next hw h hN hz ho (hs.trans hse.symm) h1)
   ·exact .inl (by omega)
  rcases har with har | ⟨hnr, -⟩
  ·exact .inl (seenM_rule hw h hne hbo ((kept19 hN ho).2 ⟨z, hz, hwr, hs.trans hse.symm, hro⟩) hfr har)
  ·exact absurd hpr hnr
theorem seenM_co (hw : WholeF f) (h : f.items.length ≤ 4096) (hN : Nbr f.items) (hp : f.items[p]? = some y) (hno : ∀ (q : Nat) (z : It), q ≤ p → f.items[q]? = some z → z.se = y.se → f.frm.getD q 0 < 0) {i j : Nat} (hij : Rel (seenM f (coM f) p) i j) : Rel (coM f) i j := by
 have hpl := (List.getElem?_eq_some_iff.1 hp).1;refine seenM_least hw h hpl (R := Rel (coM f)) (co_closed hw h) (fun i j h1 _ => h1) (fun a b r hne hbo hr hfr har => ?_) hij;obtain ⟨z, hz, hwr, hs, hl⟩ := (kept19 hN hp).1 hr;have := hno r z hl hz hs
 omega
theorem mem_ahead_iff {X : List (List Nat)} {r : Nat} {z : Int} {yr : It} (hr : f.items[r]? = some yr) : z ∈ aheadW f X (r : Int) ↔ ∃ q : Nat, z = (q : Int) ∧ q < f.items.length ∧ Rel X q r ∧ wrOK f.items yr.va (q : Int) = true := by
 unfold aheadW wrsF colF colN;rw [List.mem_filter, List.mem_map, vaF_at hr]
 constructor
 ·rintro ⟨⟨q, hq, rfl⟩, h2⟩
  obtain ⟨h3, h4⟩ := List.mem_filter.1 hq;exact ⟨q, rfl, List.mem_range.1 h3, h4, h2⟩
 ·rintro ⟨q, rfl, h1, h2, h3⟩
  exact ⟨⟨q, List.mem_filter.2 ⟨List.mem_range.2 h1, h2⟩, rfl⟩, h3⟩
theorem early_iff {X : List (List Nat)} {k : Int} {reads : List Int} (hrd : ∀ r ∈ reads, 0 ≤ r ∧ r < (f.items.length : Int)) :
  (earlyF f X k reads).isSome = true ↔ ∃ (r q : Nat) (yr : It), (r : Int) ∈ reads ∧ f.items[r]? = some yr ∧ f.frm.getD r 0 = -1 ∧ Rel X q r ∧ q < f.items.length ∧ wrOK f.items yr.va (q : Int) = true := by
 unfold earlyF;rw [List.findSome?_isSome_iff]
 constructor
 ·rintro ⟨r, hr, h⟩
  obtain ⟨h0, h1⟩ := hrd r hr;obtain ⟨r, rfl⟩ := Int.eq_ofNat_of_zero_le h0;rw [Int.toNat_natCast] at h
  split at h
  ·rename_i hf
   rw [Option.isSome_map] at h;have hy := List.getElem?_eq_getElem (l := f.items) (i := r) (by omega)
   cases ha : (aheadW f X (r : Int)).head? with
   | none => rw [ha] at h; cases h
   | some z =>
    obtain ⟨q, rfl, h3, h4, h5⟩ := (mem_ahead_iff hy).1 (List.mem_of_head? ha);exact ⟨r, q, _, hr, hy, hf, h4, h3, h5⟩
  ·cases h
 ·rintro ⟨r, q, yr, hr, hy, hf, h4, h3, h5⟩
  refine ⟨(r : Int), hr, ?_⟩;rw [Int.toNat_natCast, if_pos hf, Option.isSome_map];have hm := (mem_ahead_iff (X := X) (z := (q : Int)) hy).2 ⟨q, rfl, h3, h4, h5⟩
  cases hh : (aheadW f X (r : Int)).head? with
  | none => rw [List.head?_eq_none_iff.1 hh] at hm; cases hm
  | some z => rfl
theorem missB_iff : missB f o = true ↔ ∃ (r q : Nat) (yr : It), (r : Int) ∈ keptO f o ∧ f.items[r]? = some yr ∧ f.frm.getD r 0 = -1 ∧ Rel (seenM f (coM f) o) q r ∧ q < f.items.length ∧ wrOK f.items yr.va (q : Int) = true :=
 early_iff fun r hr => keptO_int hr
theorem gorB_iff : gorB f o = true ↔ ∃ i, i < f.items.length ∧ Rel (seenM f (coM f) o) i i := loopB_iff
theorem missB_mono (hw : WholeF f) (h : f.items.length ≤ 4096) (hN : Nbr f.items) (ho : f.items[o]? = some x) (hp : f.items[p]? = some y) (hse : x.se = y.se) (hle : o ≤ p) (hm : missB f o = true) : missB f p = true := by
 obtain ⟨r, q, yr, h1, h2, h3, h4, h5, h6⟩ := missB_iff.1 hm;obtain ⟨z, hz, hwr, hs, hl⟩ := (kept19 hN ho).1 h1;exact missB_iff.2 ⟨r, q, yr, (kept19 hN hp).2 ⟨z, hz, hwr, hs.trans hse, by omega⟩, h2, h3, seenM_mono hw h hN ho hp hse hle h4, h5, h6⟩
theorem gorB_mono (hw : WholeF f) (h : f.items.length ≤ 4096) (hN : Nbr f.items) (ho : f.items[o]? = some x) (hp : f.items[p]? = some y) (hse : x.se = y.se) (hle : o ≤ p) (hm : gorB f o = true) : gorB f p = true := by
 obtain ⟨i, h1, h2⟩ := gorB_iff.1 hm;exact gorB_iff.2 ⟨i, h1, seenM_mono hw h hN ho hp hse hle h2⟩
theorem last_read (hp : f.items[p]? = some y) : (∃ (o : Nat) (x : It), o ≤ p ∧ f.items[o]? = some x ∧ x.se = y.se ∧ 0 ≤ f.frm.getD o 0 ∧ ∀ (q : Nat) (z : It), o < q → q ≤ p → f.items[q]? = some z → z.se = y.se → f.frm.getD q 0 < 0) ∨ ∀ (q : Nat) (z : It), q ≤ p → f.items[q]? = some z → z.se = y.se → f.frm.getD q 0 < 0 := by
 rcases Classical.em (∃ o, o ≤ p ∧ ∃ x, f.items[o]? = some x ∧ x.se = y.se ∧ 0 ≤ f.frm.getD o 0) with h | h
 ·obtain ⟨o, h1, ⟨x, h2, h3, h4⟩, h5⟩ := max_ex p h
  refine .inl ⟨o, x, h1, h2, h3, h4, fun q z hq hqp hz hs => ?_⟩;rcases Int.lt_or_le (f.frm.getD q 0) 0 with h6 | h6
  ·exact h6
  ·exact absurd ⟨z, hz, hs, h6⟩ (h5 q hq hqp)
 ·refine .inr fun q z hq hz hs => ?_
  rcases Int.lt_or_le (f.frm.getD q 0) 0 with h6 | h6
  ·exact h6
  ·exact absurd ⟨q, hq, z, hz, hs, h6⟩ h
theorem between_se (hN : Nbr f.items) (ho : f.items[o]? = some x) (hp : f.items[p]? = some y) (hse : x.se = y.se) {q : Nat} (h1 : o ≤ q) (h2 : q ≤ p) : ∃ z, f.items[q]? = some z ∧ z.se = y.se := by
 have hz := List.getElem?_eq_getElem (l := f.items) (i := q) (by have := (List.getElem?_eq_some_iff.1 hp).1; omega);refine ⟨_, hz, ?_⟩;have h3 := hN.le h1 ho hz;have h4 := hN.le h2 hz hp
 omega
theorem gorB_desc (hw : WholeF f) (h : f.items.length ≤ 4096) (hN : Nbr f.items) (hk2 : kindF f 2 = none) (hp : f.items[p]? = some y) (hm : gorB f p = true) : ∃ (o : Nat) (x : It), o ≤ p ∧ f.items[o]? = some x ∧ x.se = y.se ∧ 0 ≤ f.frm.getD o 0 ∧ gorB f o = true := by
 obtain ⟨i, h1, h2⟩ := gorB_iff.1 hm;rcases last_read hp with ⟨o, x, hop, hx, hse, hfr, hno⟩ | hno
 ·refine ⟨o, x, hop, hx, hse, hfr, gorB_iff.2 ⟨i, h1, ?_⟩⟩
  rcases seenM_up hw h hN hx hp hse hop (fun q hq hqp => by
   obtain ⟨z, hz, hs⟩ := between_se hN hx hp hse (by omega) hqp;exact hno q z hq hqp hz hs) h2 with h3 | ⟨h3, k, h4, h5⟩
  ·exact h3
  ·rcases h4 with rfl | h4
   ·exact absurd h5 (no_round hw h hk2 _)
   ·exact absurd (seenM_dom hw h hN hx h4).1 h3
 ·exact absurd (seenM_co hw h hN hp hno h2) (no_round hw h hk2 _)
theorem missB_desc (hw : WholeF f) (h : f.items.length ≤ 4096) (hN : Nbr f.items) (hfr : f.frm = fromF f.items) (hk2 : kindF f 2 = none) (hk3 : kindF f 3 = none) (hp : f.items[p]? = some y) (hm : missB f p = true) : ∃ (o : Nat) (x : It), o ≤ p ∧ f.items[o]? = some x ∧ x.se = y.se ∧ 0 ≤ f.frm.getD o 0 ∧ missB f o = true := by
 obtain ⟨r, q, yr, h1, h2, h3, h4, h5, h6⟩ := missB_iff.1 hm;obtain ⟨z, hz, hwr, hs, hl⟩ := (kept19 hN hp).1 h1;rw [h2] at hz; injection hz with hz; subst hz;rcases last_read hp with ⟨o, x, hop, hx, hse, hfo, hno⟩ | hno
 ·have hor : r ≤ o := by
   rcases Nat.lt_or_ge o r with hlt | hge
   ·exfalso
    have hcr := co_next hw h hN hx h2 (hse.trans hs.symm) hlt;refine no_early hk3 h2 h3 h6 ?_;rcases seenM_up hw h hN hx hp hse hop (fun q hq hqp => by
     obtain ⟨z, hz, hs⟩ := between_se hN hx hp hse (by omega) hqp;exact hno q z hq hqp hz hs) h4 with h7 | ⟨h7, k, h8, h9⟩
    ·rcases (seenM_dom hw h hN hx h7).2 with rfl | h8
     ·omega
     ·exact absurd (co_closed hw h _ _ _ hcr h8) (no_round hw h hk2 _)
    ·rcases h8 with rfl | h8
     ·exact h9
     ·rcases (seenM_dom hw h hN hx h8).1 with rfl | h10
      ·exact hcr
      ·exact co_closed hw h _ _ _ h10 hcr
   ·exact hge
  refine ⟨o, x, hop, hx, hse, hfo, missB_iff.2 ⟨r, q, yr, (kept19 hN hx).2 ⟨yr, h2, hwr, hs.trans hse.symm, hor⟩, h2, h3, ?_, h5, h6⟩⟩;have hpr : PastP f o r := by
   rcases Nat.lt_or_ge r o with h1 | h1
   ·exact .inr (co_next hw h hN h2 hx (hs.trans hse.symm) h1)
   ·exact .inl (by omega)
  rcases seenM_up hw h hN hx hp hse hop (fun q hq hqp => by
   obtain ⟨z, hz, hs⟩ := between_se hN hx hp hse (by omega) hqp;exact hno q z hq hqp hz hs) h4 with h7 | ⟨h7, -⟩
  ·exact h7
  ·exact absurd hpr h7
 ·exact absurd (seenM_co hw h hN hp hno h4) (no_early hk3 h2 h3 h6)
end

def seZ (f : Fac) (z : Int) : Int := match f.items[z.toNat]? with | some x => x.se | none => 0
def ldS (f : Fac) (l : List Int) (r : Nat) : List Int := if f.frm.getD r 0 < 0 then l else match l.getLast? with | none => [(r : Int)] | some z => if seZ f z = seZ f (r : Int) then l.dropLast ++ [(r : Int)] else l ++ [(r : Int)]
def ldF (f : Fac) : Nat → List Int
 | 0 => []
 | k + 1 => ldS f (ldF f k) k
structure LdIs (f : Fac) (k : Nat) (l : List Int) : Prop where
 inn : ∀ z ∈ l, ∃ (q : Nat) (y : It), z = (q : Int) ∧ q < k ∧ f.items[q]? = some y ∧ 0 ≤ f.frm.getD q 0
 ord : l.Pairwise (fun a b => seZ f a < seZ f b)
 all : ∀ (q : Nat) (y : It), q < k → f.items[q]? = some y → 0 ≤ f.frm.getD q 0 → ∃ p : Nat, (p : Int) ∈ l ∧ q ≤ p ∧ seZ f (p : Int) = y.se
section
variable {f : Fac}
theorem seZ_at {q : Nat} {y : It} (h : f.items[q]? = some y) : seZ f (q : Int) = y.se := by unfold seZ; rw [Int.toNat_natCast, h]
theorem ldS_len (l : List Int) (r : Nat) : (ldS f l r).length ≤ l.length + 1 := by
 unfold ldS
 split
 ·omega
 ·split
  ·simp
  ·split
   ·rw [List.length_append, List.length_dropLast, List.length_singleton]; omega
   ·rw [List.length_append]; simp
theorem ldF_len : ∀ k, (ldF f k).length ≤ k
 | 0 => Nat.le_refl _
 | k + 1 => by
  have h1 := ldF_len k;have h2 := ldS_len (f := f) (ldF f k) k
  show (ldS f (ldF f k) k).length ≤ k + 1
  omega
theorem ldF_is (hN : Nbr f.items) : ∀ k, k ≤ f.items.length → LdIs f k (ldF f k)
 | 0, _ => ⟨fun z hz => absurd hz List.not_mem_nil, List.Pairwise.nil, fun q y hq => absurd hq (Nat.not_lt_zero _)⟩
 | k + 1, hk => by
  have ih := ldF_is hN k (by omega)
  show LdIs f (k + 1) (ldS f (ldF f k) k)
  generalize ldF f k = l at ih
  obtain ⟨x, hx⟩ : ∃ x, f.items[k]? = some x := ⟨_, List.getElem?_eq_getElem (by omega)⟩;have hsk := seZ_at hx;unfold ldS
  split
  ·rename_i hneg
   refine ⟨fun z hz => ?_, ih.ord, fun q y hq hy h0 => ?_⟩
   ·obtain ⟨q, y, e, h1, h2⟩ := ih.inn z hz
    exact ⟨q, y, e, by omega, h2⟩
   ·refine ih.all q y ?_ hy h0
    rcases Nat.lt_or_ge q k with h1 | h1
    ·exact h1
    ·obtain rfl : q = k := by omega
     omega
  ·rename_i hneg
   have hk0 : 0 ≤ f.frm.getD k 0 := by omega
   have hnew : ∃ (q : Nat) (y : It), (k : Int) = (q : Int) ∧ q < k + 1 ∧ f.items[q]? = some y ∧ 0 ≤ f.frm.getD q 0 := ⟨k, x, rfl, by omega, hx, hk0⟩
   split
   ·rename_i hl
    have hl := List.getLast?_eq_none_iff.1 hl;subst hl;refine ⟨fun z hz => ?_, List.pairwise_singleton _ _, fun q y hq hy h0 => ?_⟩
    ·rw [List.mem_singleton] at hz
     subst hz;exact hnew
    ·rcases Nat.lt_or_ge q k with h1 | h1
     ·obtain ⟨p, hp, -⟩ := ih.all q y h1 hy h0
      cases hp
     ·obtain rfl : q = k := by omega
      rw [hx] at hy; injection hy with hy;exact ⟨q, List.mem_singleton.2 rfl, Nat.le_refl _, by rw [hsk, hy]⟩
   ·rename_i z hl
    obtain ⟨l', rfl⟩ := List.getLast?_eq_some_iff.1 hl;obtain ⟨qz, yz, rfl, hqz, hyz, h0z⟩ := ih.inn z (by simp);have hsz := seZ_at hyz;have hle : yz.se ≤ x.se := by
     have := hN.le (show qz ≤ k by omega) hyz hx
     omega
    have hord := ih.ord;rw [List.pairwise_append] at hord;have hbef : ∀ w ∈ l', seZ f w < yz.se := fun w hw => by
     have := hord.2.2 w hw (qz : Int) (by simp)
     omega
    split
    ·rename_i hse
     rw [hsz, hsk] at hse;rw [List.dropLast_concat];refine ⟨fun z hz => ?_, ?_, fun q y hq hy h0 => ?_⟩
     ·rcases List.mem_append.1 hz with h1 | h1
      ·obtain ⟨q, y, e, h2, h3⟩ := ih.inn z (List.mem_append.2 (.inl h1))
       exact ⟨q, y, e, by omega, h3⟩
      ·rw [List.mem_singleton] at h1
       subst h1;exact hnew
     ·rw [List.pairwise_append]
      refine ⟨hord.1, List.pairwise_singleton _ _, fun w hw v hv => ?_⟩;rw [List.mem_singleton] at hv;subst hv;have := hbef w hw
      omega
     ·rcases Nat.lt_or_ge q k with h1 | h1
      ·obtain ⟨p, hp, hqp, hs⟩ := ih.all q y h1 hy h0
       rcases List.mem_append.1 hp with h2 | h2
       ·exact ⟨p, List.mem_append.2 (.inl h2), hqp, hs⟩
       ·rw [List.mem_singleton] at h2
        obtain rfl : p = qz := by omega
        exact ⟨k, by simp, by omega, by omega⟩
      ·obtain rfl : q = k := by omega
       rw [hx] at hy; injection hy with hy;exact ⟨q, by simp, Nat.le_refl _, by rw [hsk, hy]⟩
    ·rename_i hse
     rw [hsz, hsk] at hse;refine ⟨fun z hz => ?_, ?_, fun q y hq hy h0 => ?_⟩
     ·rcases List.mem_append.1 hz with h1 | h1
      ·obtain ⟨q, y, e, h2, h3⟩ := ih.inn z h1
       exact ⟨q, y, e, by omega, h3⟩
      ·rw [List.mem_singleton] at h1
       subst h1;exact hnew
     ·rw [List.pairwise_append]
      refine ⟨ih.ord, List.pairwise_singleton _ _, fun w hw v hv => ?_⟩;rw [List.mem_singleton] at hv;subst hv;rcases List.mem_append.1 hw with h1 | h1
      ·have := hbef w h1
       omega
      ·rw [List.mem_singleton] at h1
       subst h1
       omega
     ·rcases Nat.lt_or_ge q k with h1 | h1
      ·obtain ⟨p, hp, hqp, hs⟩ := ih.all q y h1 hy h0
       exact ⟨p, List.mem_append.2 (.inl hp), hqp, hs⟩
      ·obtain rfl : q = k := by omega
       rw [hx] at hy; injection hy with hy;exact ⟨q, by simp, Nat.le_refl _, by rw [hsk, hy]⟩
theorem read_of (hfr : f.frm = fromF f.items) {r : Nat} {y : It} (hy : f.items[r]? = some y) (h : -3 < f.frm.getD r 0) : y.wr = false := by
 rw [hfr, List.getD_eq_getElem?_getD, show (fromF f.items)[r]? = some (fromOne f.items y) from by unfold fromF; rw [List.getElem?_map, hy]; rfl] at h;have h : -3 < fromOne f.items y := h;unfold fromOne at h
 split at h
 ·omega
 ·rename_i h1; simpa using h1
structure SeenBy (f : Fac) (p : Nat → Bool) : Prop where
 mono : ∀ (o q : Nat) (x y : It), f.items[o]? = some x → f.items[q]? = some y → x.se = y.se → o ≤ q → p o = true → p q = true
 desc : ∀ (q : Nat) (y : It), f.items[q]? = some y → p q = true → ∃ (o : Nat) (x : It), o ≤ q ∧ f.items[o]? = some x ∧ x.se = y.se ∧ 0 ≤ f.frm.getD o 0 ∧ p o = true
theorem missB_by (hw : WholeF f) (h : f.items.length ≤ 4096) (hN : Nbr f.items) (hfr : f.frm = fromF f.items) (hk2 : kindF f 2 = none) (hk3 : kindF f 3 = none) : SeenBy f (missB f) :=
 ⟨fun _ _ _ _ h1 h2 h3 h4 h5 => missB_mono hw h hN h1 h2 h3 h4 h5, fun _ _ h1 h2 => missB_desc hw h hN hfr hk2 hk3 h1 h2⟩
theorem gorB_by (hw : WholeF f) (h : f.items.length ≤ 4096) (hN : Nbr f.items) (hk2 : kindF f 2 = none) : SeenBy f (gorB f) :=
 ⟨fun _ _ _ _ h1 h2 h3 h4 h5 => gorB_mono hw h hN h1 h2 h3 h4 h5, fun _ _ h1 h2 => gorB_desc hw h hN hk2 h1 h2⟩
variable {p : Nat → Bool}
theorem SeenBy.kept (hP : SeenBy f p) (hN : Nbr f.items) {L a b : Nat} {y : It} (hL : f.items[L]? = some y) (ha : (a : Int) ∈ keptO f L) (hb : (b : Int) ∈ keptO f L) (hab : a ≤ b) (h : p a = true) : p b = true := by
 obtain ⟨x, hx, -, hs, -⟩ := (kept19 hN hL).1 ha;obtain ⟨z, hz, -, ht, -⟩ := (kept19 hN hL).1 hb;exact hP.mono a b x z hx hz (hs.trans ht.symm) hab h
theorem SeenBy.none (hP : SeenBy f p) (hN : Nbr f.items) (h : ∀ z : Nat, (z : Int) ∈ ldF f f.items.length → p z = false) : ∀ o, o < f.items.length → p o = false := fun o ho => by
 cases hpo : p o with
 | false => rfl
 | true =>
  exfalso
  obtain ⟨q, x, hqo, hx, hse, h0, hpq⟩ := hP.desc o _ (List.getElem?_eq_getElem ho) hpo;obtain ⟨P, hPm, hqP, hs⟩ := (ldF_is hN _ (Nat.le_refl _)).all q x (by omega) hx h0;obtain ⟨P', y, e, hPl, hy, -⟩ := (ldF_is hN _ (Nat.le_refl _)).inn _ hPm;obtain rfl : P = P' := by omega
  rw [seZ_at hy] at hs;have h1 := hP.mono q P x y hx hy hs.symm hqP hpq;rw [h P hPm] at h1
  cases h1
theorem SeenBy.first (hP : SeenBy f p) (hN : Nbr f.items) (hfr : f.frm = fromF f.items) {i L : Nat} (hi : (ldF f f.items.length)[i]? = some (L : Int)) (hbef : ∀ (j z : Nat), j < i → (ldF f f.items.length)[j]? = some (z : Int) → p z = false)
  {o : Nat} (ho : (o : Int) ∈ keptO f L) (hleast : ∀ q : Nat, (q : Int) ∈ keptO f L → q < o → p q = false) : ∀ q, q < o → p q = false := fun q hq => by
 cases hpq : p q with
 | false => rfl
 | true =>
  exfalso
  have hld := ldF_is (f := f) hN _ (Nat.le_refl _);obtain ⟨L', yL, e, hLl, hyL, hL0⟩ := hld.inn _ (List.mem_of_getElem? hi);obtain rfl : L = L' := by omega
  have hol := keptO_int ho;obtain ⟨xo, hxo, hwo, hso, hoL⟩ := (kept19 hN hyL).1 ho;obtain ⟨s, x, hsq, hx, hse, h0, hps⟩ := hP.desc q _ (List.getElem?_eq_getElem (show q < f.items.length by omega)) hpq;obtain ⟨P, hPm, hsP, hsP'⟩ := hld.all s x (by omega) hx h0;obtain ⟨P', y, e2, hPl, hy, -⟩ := hld.inn _ hPm;obtain rfl : P = P' := by omega
  rw [seZ_at hy] at hsP';have hpP := hP.mono s P x y hx hy hsP'.symm hsP hps;obtain ⟨j, hj⟩ := List.getElem?_of_mem hPm;rcases Nat.lt_trichotomy j i with h1 | h1 | h1
  ·rw [hbef j P h1 hj] at hpP; cases hpP
  ·subst h1
   rw [hi] at hj;injection hj with hj;obtain rfl : L = P := by omega
   rw [hy] at hyL; injection hyL with hyL; subst hyL;have hks : (s : Int) ∈ keptO f L := (kept19 hN hy).2 ⟨x, hx, read_of hfr hx (by omega), hsP'.symm, hsP⟩;rw [hleast s hks (by omega)] at hps; cases hps
  ·obtain ⟨li, ei⟩ := List.getElem?_eq_some_iff.1 hi
   obtain ⟨lj, ej⟩ := List.getElem?_eq_some_iff.1 hj;have h2 := List.pairwise_iff_getElem.1 hld.ord i j li lj h1;rw [ei, ej, seZ_at hyL, seZ_at hy] at h2;have h3 := hN.le (show s ≤ o by omega) hx hxo
   omega
theorem kept_nat {L i : Nat} (hi : i < (keptO f L).length) : ∃ z : Nat, (keptO f L)[i]? = some (z : Int) ∧ ((keptO f L).getD i 0).toNat = z ∧ (z : Int) ∈ keptO f L := by
 have h1 := List.getElem?_eq_getElem hi;have hm := List.getElem_mem hi;obtain ⟨z, hz⟩ := Int.eq_ofNat_of_zero_le (keptO_int hm).1;rw [hz] at h1 hm;exact ⟨z, h1, by rw [List.getD_eq_getElem?_getD, h1]; rfl, hm⟩
theorem kept_lt {L i j : Nat} {a b : Nat} (ha : (keptO f L)[i]? = some (a : Int)) (hb : (keptO f L)[j]? = some (b : Int)) (hij : i < j) : a < b := by
 obtain ⟨li, ei⟩ := List.getElem?_eq_some_iff.1 ha;obtain ⟨lj, ej⟩ := List.getElem?_eq_some_iff.1 hb;have h := List.pairwise_iff_getElem.1 (keptO_rise (f := f) (o := L)) i j li lj hij;rw [ei, ej] at h
 omega
theorem kept_last (hN : Nbr f.items) {L : Nat} {y : It} (hy : f.items[L]? = some y) (hw : y.wr = false) : 0 < (keptO f L).length ∧ (keptO f L)[(keptO f L).length - 1]? = some (L : Int) := by
 have hm : (L : Int) ∈ keptO f L := (kept19 hN hy).2 ⟨y, hy, hw, rfl, Nat.le_refl _⟩;have h0 := List.length_pos_of_mem hm;obtain ⟨j, hj⟩ := List.getElem?_of_mem hm;have hjl := (List.getElem?_eq_some_iff.1 hj).1;refine ⟨h0, ?_⟩;rcases Nat.lt_or_ge j ((keptO f L).length - 1) with h1 | h1
 ·obtain ⟨z, hz, -, hzm⟩ := kept_nat (f := f) (L := L) (show (keptO f L).length - 1 < (keptO f L).length by omega)
  have h2 := kept_lt hj hz h1;obtain ⟨x, -, -, -, h3⟩ := (kept19 hN hy).1 hzm
  omega
 ·rw [show (keptO f L).length - 1 = j by omega]; exact hj
theorem findSome_first {α : Type} {g : Nat → Option α} {n z : Nat} (hz : z < n) (h : ∀ o, o < z → g o = none) (hs : (g z).isSome = true) : (List.range n).findSome? g = g z := by
 obtain ⟨x, hx⟩ := Option.isSome_iff_exists.1 hs;rw [hx, List.findSome?_eq_some_iff];refine ⟨List.range z, z, (List.range' (z + 1) (n - z - 1)), ?_, hx, fun a ha => h a (List.mem_range.1 ha)⟩;have : n = z + (1 + (n - z - 1)) := by omega
 conv => lhs; rw [this]
 rw [List.range_eq_range', List.range_eq_range', ← List.range'_append_1, show 1 + (n - z - 1) = (n - z - 1) + 1 by omega, List.range'_succ, Nat.zero_add]
theorem sees6_none (h : ∀ o, o < f.items.length → missB f o = false) : seesF f (coM f) 6 = none := by
 unfold seesF;rw [List.findSome?_eq_none_iff];intro o ho;rw [if_pos rfl, Option.map_eq_none_iff];have := h o (List.mem_range.1 ho);unfold missB at this
 simpa using this
theorem sees6_first {o : Nat} (ho : o < f.items.length) (h : ∀ q, q < o → missB f q = false) (hm : missB f o = true) : seesF f (coM f) 6 = (earlyF f (seenM f (coM f) o) 6 (keptO f o)).map fun x => { x with o := (o : Int) } := by
 unfold seesF;rw [findSome_first ho (fun q hq => ?_) ?_]
 ·rw [if_pos rfl]
 ·rw [if_pos rfl, Option.isSome_map]
  exact hm
 ·rw [if_pos rfl, Option.map_eq_none_iff]
  have := h q hq;unfold missB at this
  simpa using this
theorem gorB_find {o : Nat} : gorB f o = ((List.range f.items.length).find? fun (i : Nat) => hasM (seenM f (coM f) o) (i : Int) (i : Int)).isSome := by
 unfold gorB loopB;rw [Bool.eq_iff_iff, List.any_eq_true, List.find?_isSome]
theorem sees7_none (h : ∀ o, o < f.items.length → gorB f o = false) : seesF f (coM f) 7 = none := by
 unfold seesF;rw [List.findSome?_eq_none_iff];intro o ho;rw [if_neg (by decide), Option.map_eq_none_iff];have := h o (List.mem_range.1 ho);rw [gorB_find] at this
 simpa using this
theorem sees7_first {o : Nat} (ho : o < f.items.length) (h : ∀ q, q < o → gorB f q = false) (hm : gorB f o = true) : seesF f (coM f) 7 = ((List.range f.items.length).find? fun (i : Nat) => hasM (seenM f (coM f) o) (i : Int) (i : Int)).map fun (i : Nat) => ⟨7, -1, (i : Int), -1, (o : Int), -1, -1⟩ := by
 unfold seesF;rw [findSome_first ho (fun q hq => ?_) ?_]
 ·rw [if_neg (by decide)]
 ·rw [if_neg (by decide), Option.isSome_map, ← gorB_find]
  exact hm
 ·rw [if_neg (by decide), Option.map_eq_none_iff]
  have := h q hq;rw [gorB_find] at this
  simpa using this
end

structure But2 (g s : Nat) (w w' : World) : Prop where
 os : w'.os = w.os
 tape : w'.tape = w.tape
 output : w'.output = w.output
 size : w.heap.size ≤ w'.heap.size
 block : ∀ k, k < w.heap.size → k ≠ g → k ≠ s → w'.heap[k]? = w.heap[k]?
section
variable {g s : Nat} {w w' : World}
theorem But2.trans {a b c : World} (h : But2 g s a b) (k : But2 g s b c) : But2 g s a c :=
 ⟨k.os.trans h.os, k.tape.trans h.tape, k.output.trans h.output, Nat.le_trans h.size k.size, fun i hi hg hs => (k.block i (Nat.lt_of_lt_of_le hi h.size) hg hs).trans (h.block i hi hg hs)⟩
theorem But2.of (h : Below w.heap.size w w') : But2 g s w w' := ⟨h.os, h.tape, h.output, h.size, fun k hk _ _ => h.block k hk⟩
theorem But2.ofL (h : BelowB g w w') : But2 g s w w' := ⟨h.os, h.tape, h.output, h.size, fun k hk hg _ => h.block k hk hg⟩
theorem But2.ofR (h : BelowB s w w') : But2 g s w w' := ⟨h.os, h.tape, h.output, h.size, fun k hk _ hs => h.block k hk hs⟩
theorem But2.next {a : World} (h : But2 g s a w) (hb : Below w.heap.size w w') : But2 g s a w' := h.trans (But2.of hb)
theorem But2.set (h : But2 g s w w') (o : Nat) (u : Value) : But2 g s w (w'.setCell ⟨g, o, none⟩ u) :=
 ⟨h.os, h.tape, h.output, by rw [World.size_setCell]; exact h.size, fun k hk hg hs => (Below.heap_setCell w' ⟨g, o, none⟩ u k hg).trans (h.block k hk hg hs)⟩
end
theorem cut_four19 {T1 T2 T3 T4 : Type} {Goal F : T1 → T2 → T3 → T4 → Prop} {R : Prop} (h1 : (∀ a b c d, F a b c d → Goal a b c d) → R) (h2 : ∀ a b c d, F a b c d → Goal a b c d) : R := h1 h2
theorem cut_eight19 {T1 T2 T3 T4 T5 T6 T7 T8 : Type} {Goal F : T1 → T2 → T3 → T4 → T5 → T6 → T7 → T8 → Prop} {R : Prop} (h1 : (∀ a b c d e f g h, F a b c d e f g h → Goal a b c d e f g h) → R) (h2 : ∀ a b c d e f g h, F a b c d e f g h → Goal a b c d e f g h) : R := h1 h2
theorem BelowB.setG19 {g : Nat} {w w' : World} (h : BelowB g w w') (o : Nat) (u : Value) : BelowB g w (w'.setCell ⟨g, o, none⟩ u) :=
 ⟨h.os, h.tape, h.output, by rw [World.size_setCell]; exact h.size, fun k hk hg => (Below.heap_setCell w' ⟨g, o, none⟩ u k hg).trans (h.block k hk hg)⟩
structure EnvB (v : FV) (f : Fac) : Prop where
 hw : WholeF f
 hvm : v.m < 64
 hx : SeenX v f
 hil : f.items.length = v.m
section
variable {v : FV} {f : Fac}
theorem EnvB.n4 (h : EnvB v f) : f.items.length ≤ 4096 := by have := h.hvm; have := h.hil; omega
theorem EnvB.good (h : EnvB v f) : Good v.m (coM f) := by rw [← h.hil]; exact (coM_hull h.hw h.n4).1
theorem EnvB.closed (h : EnvB v f) : ClosedM (coM f) := co_closed h.hw h.n4
theorem EnvB.goodS (h : EnvB v f) (o : Nat) : Good v.m (seenM f (coM f) o) := by rw [← h.hil]; exact seenM_good h.hw h.n4 o
theorem EnvB.frl (h : EnvB v f) : f.frm.length = v.m := by have := h.hw.len; have := h.hil; omega
theorem EnvB.kl (h : EnvB v f) (o : Nat) : (keptO f o).length ≤ v.m := by rw [← h.hil]; exact keptF_len f.items (o : Int)
theorem EnvB.ko (h : EnvB v f) {o : Nat} {z : Int} (hz : z ∈ keptO f o) : 0 ≤ z ∧ z < (v.m : Int) := by rw [← h.hil]; exact keptO_int hz
end
def NoU19 (cs : List Value) : Prop := ∀ x ∈ cs, ∀ z : Int, x ≠ .int .u64 z
theorem Rd.keptB19 {w w' : World} {A : Option Addr} {n s : Nat} {vs : List Value} (h : Rd w A n vs) (hb : BelowB s w w') (hne : 0 < n → ∀ ad, A = some ad → ad.block ≠ s) : Rd w' A n vs :=
 ⟨h.1, fun hn => by
  obtain ⟨b, off, e, hb', hc⟩ := h.2 hn;exact ⟨b, off, e, Nat.lt_of_lt_of_le hb' hb.size, fun j u hu => (hb.cell (p := ⟨b, off + j, none⟩) hb' (show b ≠ s from hne hn _ e)).trans (hc j u hu)⟩⟩
theorem RowsAt.keptB19 {w w' : World} {A : Option Addr} {n s : Nat} {t : TypeId} {cs : List Value} {xss : List (List Nat)} (h : RowsAt w A n xss) (k : Blk w s t cs) (hcs : NoU19 cs) (hne : 0 < n → ∀ ad, A = some ad → ad.block ≠ s) (hb : BelowB s w w') : RowsAt w' A n xss := by
 obtain ⟨vs, h1, h2⟩ := h;refine ⟨vs, h1.keptB19 hb hne, h2.1, fun j v xs a b => ?_⟩;obtain ⟨B', m', c', e, hr⟩ := h2.2 j v xs a b;refine ⟨B', m', c', e, hr.1.keptB19 hb (fun h0 ad ea hbs => ?_), hr.2⟩;obtain ⟨b', off, x, hA, -, -, -, hc⟩ := hr.at_ h0;rw [ea] at hA;injection hA with hA;subst hA;have hbs : b' = s := hbs;subst hbs;rw [Nat.add_zero, k.cell] at hc;exact hcs _ (List.mem_of_getElem? hc) _ rfl
theorem RowsAt.farC19 {w : World} {C : Option Addr} {p g : Nat} {t : TypeId} {xss : List (List Nat)} {cs : List Value} (h : RowsAt w C p xss) (k : Blk w g t cs) (hcs : ∀ x ∈ cs, ∀ (A : Option Addr) (n c : Nat), x = .slice A n c → n = 0) (hl : ∀ xs ∈ xss, 0 < xs.length) : 0 < p → ∀ ad, C = some ad → ad.block ≠ g := by
 intro h0 ad e;obtain ⟨b, off, B, m, d, xs, e2, _, hx, hc, hr⟩ := h.at_ h0;rw [e] at e2
 cases e2
 intro hb;have hb' : b = g := hb;subst hb';rw [k.cell] at hc;have h1 := hcs _ (List.mem_of_getElem? hc) _ _ _ rfl;have h2 := hr.len;have h3 := hl xs (List.mem_of_getElem? hx)
 omega
theorem zero19 : ∀ x ∈ [Value.slice none 0 0, .slice none 0 0, .slice none 0 0, .int .i64 0, .slice none 0 0, .slice none 0 0], ∀ (A : Option Addr) (n c : Nat), x = .slice A n c → n = 0 := fun x hx A n c e => by
 simp only [List.mem_cons, List.not_mem_nil, or_false] at hx;rcases hx with rfl | rfl | rfl | rfl | rfl | rfl <;> first | (cases e; done) | (injection e with _ h _; exact h.symm)
theorem nou19 : NoU19 [Value.slice none 0 0, .slice none 0 0, .slice none 0 0, .int .i64 0, .slice none 0 0, .slice none 0 0] := fun x hx z e => by
 simp only [List.mem_cons, List.not_mem_nil, or_false] at hx;rcases hx with rfl | rfl | rfl | rfl | rfl | rfl <;> cases e
structure SrAt (w0 : World) (v : FV) (f : Fac) (A : Option Addr) (c s : Nat) (R : Value) (U : World) : Prop where
 keep : ∀ U', BelowB s w0 U' → FactsAt U' v f ∧ RowsAt U' A v.m (coM f)
 cap : v.m ≤ c
 o : BelowB s w0 U
 lt : s < w0.heap.size
 k : Blk U s 61 [.slice v.A v.n v.c, .slice v.B v.m v.d, .slice v.C v.k v.e, .int .i64 (v.m : Int), .slice A v.m c, R]
section
variable {w0 U U' : World} {v : FV} {f : Fac} {A : Option Addr} {c s : Nat} {R : Value}
theorem SrAt.fa (h : SrAt w0 v f A c s R U) : FactsAt U v f := (h.keep U h.o).1
theorem SrAt.mm (h : SrAt w0 v f A c s R U) : RowsAt U A v.m (coM f) := (h.keep U h.o).2
theorem SrAt.later (h : SrAt w0 v f A c s R U) (hb : Below U.heap.size U U') : SrAt w0 v f A c s R U' := ⟨h.keep, h.cap, h.o.trans (BelowB.of hb), h.lt, h.k.below hb h.k.lt⟩
theorem SrAt.but {g : Nat} (h : SrAt w0 v f A c s R U) (hb : BelowB g U U') (hg : g ≠ s) (h0 : w0.heap.size ≤ g) : SrAt w0 v f A c s R U' :=
 ⟨h.keep, h.cap, ⟨hb.os.trans h.o.os, hb.tape.trans h.o.tape, hb.output.trans h.o.output, Nat.le_trans h.o.size hb.size, fun k hk hs => (hb.block k (Nat.lt_of_lt_of_le hk h.o.size) (by omega)).trans (h.o.block k hk hs)⟩, h.lt, hb.blk h.k (Ne.symm hg)⟩
theorem SrAt.readers (h : SrAt w0 v f A c s R U) (R' : Value) : SrAt w0 v f A c s R' (U.setCell ⟨s, 5, none⟩ R') :=
 ⟨h.keep, h.cap, h.o.setG19 5 R', h.lt, h.k.set_ 5 R'⟩
theorem SrAt.c0 (h : SrAt w0 v f A c s R U) : U.cell? ⟨s, 0, none⟩ = some (.slice v.A v.n v.c) := h.k.cell 0
theorem SrAt.c1 (h : SrAt w0 v f A c s R U) : U.cell? ⟨s, 1, none⟩ = some (.slice v.B v.m v.d) := h.k.cell 1
theorem SrAt.c2 (h : SrAt w0 v f A c s R U) : U.cell? ⟨s, 2, none⟩ = some (.slice v.C v.k v.e) := h.k.cell 2
theorem SrAt.c3 (h : SrAt w0 v f A c s R U) : U.cell? ⟨s, 3, none⟩ = some (.int .i64 (v.m : Int)) := h.k.cell 3
theorem SrAt.c4 (h : SrAt w0 v f A c s R U) : U.cell? ⟨s, 4, none⟩ = some (.slice A v.m c) := h.k.cell 4
theorem SrAt.c5 (h : SrAt w0 v f A c s R U) : U.cell? ⟨s, 5, none⟩ = some R := h.k.cell 5
end
theorem own_fresh19 {w : World} {base size n m c : Nat} {e : TypeId} {D : Option Addr} {xs : List Value} (h : w.ownsRow base e size (.slice D m c) n xs) : ∀ ad, D = some ad → base ≤ ad.block := fun ad hd => by
 rcases h.2 with ⟨hv, -⟩ | ⟨g, cap, cur, hv, hbg, -⟩
 ·injection hv with h1 h2 h3
  rw [h1] at hd; cases hd
 ·injection hv with h1 h2 h3
  rw [h1] at hd; cases hd; exact hbg
theorem encI_all19 : ∀ xs : List Int, encI.all xs = xs.map fun z => Value.int .i64 z
 | [] => rfl
 | x :: xs => by rw [Enc.all_cons, encI_all19 xs]; rfl
theorem own_take19 {w : World} {base n c k : Nat} {e : TypeId} {D : Option Addr} {xs : List Int} (h : w.ownsRow base e 1 (.slice D n c) n (encI.all xs)) (hl : xs.length = n) (hk : k < n) : w.ownsRow base e 1 (.slice D k c) k (encI.all (xs.take k)) := by
 have he : encI.all (xs.take k) = (encI.all xs).take k := by rw [encI_all19, encI_all19, List.map_take]
 rcases h.2 with ⟨-, h0⟩ | ⟨g, cap, cur, hv, hbg, hg, hnc, hcm, hcs, htake⟩
 ·omega
 ·injection hv with h1 h2 h3
  subst h1; subst h3;refine ⟨?_, .inr ⟨g, c, cur, rfl, hbg, hg, by omega, hcm, hcs, ?_⟩⟩
  ·rw [he, List.length_take, h.1]; omega
  ·rw [he, ← htake, List.take_take]
   congr 1
   omega
section
variable {f : Fac}
theorem ldS_neg {l : List Int} {r : Nat} (h : f.frm.getD r 0 < 0) : ldS f l r = l := by unfold ldS; rw [if_pos h]
theorem ldS_nil {r : Nat} (h : ¬ f.frm.getD r 0 < 0) : ldS f [] r = [(r : Int)] := by unfold ldS; rw [if_neg h]; rfl
theorem ldS_same {l : List Int} {r : Nat} {z : Int} (h : ¬ f.frm.getD r 0 < 0) (hz : l[l.length - 1]? = some z) (hs : seZ f z = seZ f (r : Int)) : ldS f l r = l.take (l.length - 1) ++ [(r : Int)] := by
 unfold ldS;rw [if_neg h, List.getLast?_eq_getElem?, hz];simp only [hs, if_true, List.dropLast_eq_take]
theorem ldS_new {l : List Int} {r : Nat} {z : Int} (h : ¬ f.frm.getD r 0 < 0) (hz : l[l.length - 1]? = some z) (hs : seZ f z ≠ seZ f (r : Int)) : ldS f l r = l ++ [(r : Int)] := by
 unfold ldS;rw [if_neg h, List.getLast?_eq_getElem?, hz];simp only [if_neg hs]
end
theorem bad_lastReads {w0 : World} {v : FV} {f : Fac} {A : Option Addr} {c s : Nat} {R : Value} (U : World) (hE : EnvB v f) (hS : SrAt w0 v f A c s R U) :
  Calls Tryz.prog 90 #[.pointer (some ⟨s, 0, none⟩)] U (RetILF (ldF f v.m) U) := by
 have hvm := hE.hvm;have hkm : v.k = v.m := by have h1 := hS.fa.fs.len; have h2 := hE.frl; omega
 have hin := Hd (fun k (hk : k ≤ v.m) => (ldF_is hE.hx.nb k (by rw [hE.hil]; exact hk)).inn);obtain ⟨i0, hi, hz0, hz1, hz2⟩ := info_parts info_int16;replace hi := Hd hi;replace hz0 := Hd hz0;replace hz1 := Hd hz1;replace hz2 := Hd hz2;have hS0 := Hd hS;clear hE hS;have p0 := hS0.out.c0;have p1 := hS0.out.c1;have p2 := hS0.out.c2;have p3 := hS0.out.c3;have p4 := hS0.out.c4;have p5 := hS0.out.c5
 go_enter Tryz.func90, Tryz.ntmps90
 go_wp2_with fail;clear p0 p1 p2 p3 p4 p5;have hb0 := Hd (Below.refl U.heap.size U);obtain ⟨V2, hV2⟩ : ∃ V, V = U := ⟨_, rfl⟩
 go_loopw [3, 13] (fun u t wr => ∃ i : Nat, i ≤ v.k ∧ t = .int .i64 (i : Int) ∧ Hid (Below V2.heap.size V2 wr) ∧ Hid (wr.ownsRow V2.heap.size 3 1 u (ldF f i).length (encI.all (ldF f i)))) (fun _ t _ => v.k - (intOf t).toNat)
 case atStart => exact ⟨0, Nat.zero_le _, rfl, by rw [hV2]; exact hb0, Hd (World.ownsRow_nil _ _ _ _)⟩
 case round =>
  subst hV2;clear hb0;obtain ⟨i, hik, rfl, hb, hown⟩ := hrel;have hll := ldF_len (f := f) i;have hini := hin.out i (by omega);obtain ⟨xs, hxs⟩ : ∃ l, l = ldF f i := ⟨_, rfl⟩;have hnx : Hid (ldF f (i + 1) = ldS f xs i) := Hd (by rw [hxs]; rfl);rw [← hxs] at hown hll hini;replace hxs := Hd hxs;obtain ⟨L, hLl⟩ : ∃ L, L = xs.length := ⟨_, rfl⟩;rw [← hLl] at hown hll;replace hLl := Hd hLl;have hok : ∀ z ∈ xs, encI.ok z := fun z hz => by
   obtain ⟨q, y, rfl, hq, -⟩ := hini z hz;exact ⟨by omega, by omega⟩
  replace hS0 := Hd (hS0.out.later hb.out);by_cases hlt : i < v.k
  ·have hlt' : (i : Int) < (v.k : Int) := by omega
   have bi : 0 ≤ (i : Int) ∧ (i : Int) < (v.k : Int) := by omega
   obtain ⟨zb, zo, z, hzC, -, hz, -, k0⟩ := hS0.out.fa.fs.int hlt;have hgd : f.frm.getD i 0 = z := by rw [List.getD_eq_getElem?_getD, hz]; rfl
   rw [hzC];replace hlt := Hd hlt;replace hzC := Hd hzC;clear hz;by_cases hzn : z < 0
   ·have d0 : decide (z < 0) = true := decide_eq_true hzn
    have hst := Hd (ldS_neg (f := f) (l := xs) (r := i) (by rw [hgd]; exact hzn));replace hgd := Hd hgd;clear hini hok;go_wp2_with fail;exact ⟨⟨i + 1, by have := hlt.out; omega, by go_num, hb, Hd (by rw [hnx.out, hst.out, ← hLl.out]; exact hown.out)⟩, by have := hlt.out; simp [intOf]; omega⟩
   ·have d0 : decide (z < 0) = false := decide_eq_false hzn
    rw [← hgd] at hzn;replace hgd := Hd hgd;obtain ⟨D, d, rfl, hLd, hdm, hLA⟩ := LAt.of_own (E := encI) hown.out hok hLl.out.symm;obtain ⟨ib, io, x, hxB, -, hx, -, q0, -, -, -, -⟩ := hS0.out.fa.is.item (show i < v.m by omega);have hsx := seZ_at hx;have biv : 0 ≤ (i : Int) ∧ (i : Int) < (v.m : Int) := by omega
    rcases Nat.eq_zero_or_pos L with hL0 | hL0
    ·subst hL0
     have hxn : xs = [] := List.eq_nil_of_length_eq_zero hLl.out.symm;have hst := Hd (show ldS f xs i = xs ++ [(i : Int)] from by rw [hxn]; exact ldS_nil hzn);replace hok := Hd hok;clear hini hxn hx hsx hLA;go_wp2_with fail;refine wpRp 26 [(true, 0), (true, 1), (true, 2), (true, 3), (true, 4), (true, 5), (true, 6), (true, 7), (true, 8), (true, 9), (true, 10), (true, 11), (true, 12), (true, 13), (true, 14), (true, 15), (true, 16), (true, 17), (true, 18), (true, 19), (true, 20), (true, 21), (true, 22), (true, 23), (true, 24), (true, 25)] (by kernel_rfl) (by kernel_rfl) (fun V hV => ?_);have hU' : Below wr.heap.size wr V := by rw [hV.out]; exact (Below.refl _ _).drew
     have drw : ∀ p u, wr.cell? p = some u → V.cell? p = some u := fun p u h => by rw [hV.out]; exact h
     replace hS0 := Hd (hS0.out.later hU');replace hb := Hd (bT2 hb.out hU');clear hV;simp only [List.drop_succ_cons, List.drop_nil];have p0 := hS0.out.c0;have p1 := hS0.out.c1;have p2 := hS0.out.c2;have p3 := hS0.out.c3;have p4 := hS0.out.c4;have p5 := hS0.out.c5;rw [hxB] at p1;replace hown := Hd (oBl hown.out hU');clear drw hU'
     iterate 3
      refine wpPf (v := ?_) rfl (by rfl) (fun w' hw' => ?_) (fun K hK => ?_);rotate_left
      ·(go_simp; try with_reducible rfl)
      go_simp;refine hK _ ?_;clear hK K
     iterate 22
      refine wpPs rfl (by rfl) (fun K hK => ?_);go_simp;refine hK _ ?_;clear hK K
     iterate 1
      refine wpPf (v := ?_) rfl (by rfl) (fun w' hw' => ?_) (fun K hK => ?_);rotate_left
      ·(go_simp; try with_reducible rfl)
      go_simp;refine hK _ ?_;clear hK K
     clear p0 p1 p2 p3 p4 p5;refine wpPn (NoPanic.normal ?_);obtain ⟨gl, hgl⟩ : ∃ g, g = (V).heap.size := ⟨_, rfl⟩;obtain ⟨VL, hVL⟩ : ∃ W, W = World.alloc (V) (.cells #[.int .i64 (i : Int)] 3) := ⟨_, rfl⟩;have bL : Below (V).heap.size (V) VL := by rw [hVL]; exact (Below.refl _ _).alloc (Nat.le_refl _) _
     have hlit := Hd (show LAt encI VL (some ⟨gl, 0, none⟩) 1 [(i : Int)] from by rw [hVL, hgl]; exact LAt.lit1 (E := encI) (V) 3 (i : Int) ⟨by omega, by omega⟩);have hownL := Hd (oBl hown.out bL);have bWL := Hd (bT2 hb.out bL);have hbase := Hd bWL.out.size;clear bL;go_wp2_with (first
      | (rw [← hVL, ← hgl]; clear hVL hgl)
      | (at_builtin; refine wpAL (E := encI) rfl (.tmp 52) (.tmp 54) _ rfl V2.heap.size 3 i0 _ 8 Tryz.underlying27 hi.out hz0.out hz1.out hz2.out rfl _ (0) (xs) (by rfl) hownL.out _ 1 1 _ rfl hlit.out (by unfold maxLen; omega) (by omega) hbase.out ?_; intro v' w7 hown' hb7 _ _))
     exact ⟨⟨i + 1, by have := hlt.out; omega, by go_num, Hd (bWL.out.trans hb7), Hd (by rw [hnx.out, hst.out, List.length_append, ← hLl.out]; exact hown')⟩, by have := hlt.out; simp [intOf]; omega⟩
    ·obtain ⟨q, rfl⟩ : ∃ q, L = q + 1 := ⟨L - 1, by omega⟩
     obtain ⟨db, dof, z2, hD, -, hz2, -, c0⟩ := hLA.int (show q < q + 1 by omega);have hz2' : xs[xs.length - 1]? = some z2 := by rw [← hLl.out, Nat.add_sub_cancel]; exact hz2
     obtain ⟨pz, y, rfl, hpz, hy, -⟩ := hini z2 (List.mem_of_getElem? hz2);obtain ⟨ib2, io2, y', hxB2, -, hy', -, r0, -, -, -, -⟩ := hS0.out.fa.is.item (show pz < v.m by omega);rw [hy] at hy';injection hy' with hy';subst hy';rw [hxB] at hxB2;injection hxB2 with hxB2;injection hxB2 with hb1 hb2;subst hb1; subst hb2;have hsy := seZ_at hy;subst hD;have biq : 0 ≤ (q : Int) ∧ (q : Int) < (q : Int) + 1 := by omega
     have bip : 0 ≤ (pz : Int) ∧ (pz : Int) < (v.m : Int) := by omega
     have bqd : 0 ≤ (q : Int) ∧ (q : Int) ≤ (d : Int) := by omega
     have dq : decide ((0 : Int) ≤ (q : Int)) = true := decide_eq_true (by omega);obtain ⟨sx, hsxe⟩ : ∃ z, z = x.se := ⟨_, rfl⟩;obtain ⟨sy, hsye⟩ : ∃ z, z = y.se := ⟨_, rfl⟩;rw [← hsxe] at q0 hsx;rw [← hsye] at r0 hsy;by_cases hse : sy = sx
     ·have hst := Hd (show ldS f xs i = xs.take q ++ [(i : Int)] from by
       rw [ldS_same hzn hz2' (by rw [hsx, hsy]; exact hse), ← hLl.out, Nat.add_sub_cancel])
      have es : (sy == sx) = true := by rw [hse]; simp
      have hown2 := Hd (own_take19 (k := q) hown.out hLl.out.symm (by omega));replace hok := Hd hok;replace hse := Hd hse;replace hzn := Hd hzn;clear hini hx hsx hy hsy hz2 hz2' hLA hsxe hsye;go_wp2_with fail;refine wpRp 26 [(true, 0), (true, 1), (true, 2), (true, 3), (true, 4), (true, 5), (true, 6), (true, 7), (true, 8), (true, 9), (true, 10), (true, 11), (true, 12), (true, 13), (true, 14), (true, 15), (true, 16), (true, 17), (true, 18), (true, 19), (true, 20), (true, 21), (true, 22), (true, 23), (true, 24), (true, 25)] (by kernel_rfl) (by kernel_rfl) (fun V hV => ?_);have hU' : Below wr.heap.size wr V := by rw [hV.out]; exact (Below.refl _ _).drew
      have drw : ∀ p u, wr.cell? p = some u → V.cell? p = some u := fun p u h => by rw [hV.out]; exact h
      replace hS0 := Hd (hS0.out.later hU');replace hb := Hd (bT2 hb.out hU');clear hV;simp only [List.drop_succ_cons, List.drop_nil];have p0 := hS0.out.c0;have p1 := hS0.out.c1;have p2 := hS0.out.c2;have p3 := hS0.out.c3;have p4 := hS0.out.c4;have p5 := hS0.out.c5;rw [hxB] at p1;replace c0 := drw _ _ c0;replace q0 := drw _ _ q0;replace r0 := drw _ _ r0;clear drw;replace hown := Hd (oBl hown2.out hU');clear hU'
      iterate 26
       refine wpPf (v := ?_) rfl (by rfl) (fun w' hw' => ?_) (fun K hK => ?_);rotate_left
       ·(go_simp; try with_reducible rfl)
       go_simp;refine hK _ ?_;clear hK K
      clear p0 p1 p2 p3 p4 p5 c0 q0 r0 hown2;refine wpPn (NoPanic.normal ?_);obtain ⟨gl, hgl⟩ : ∃ g, g = (V).heap.size := ⟨_, rfl⟩;obtain ⟨VL, hVL⟩ : ∃ W, W = World.alloc (V) (.cells #[.int .i64 (i : Int)] 3) := ⟨_, rfl⟩;have bL : Below (V).heap.size (V) VL := by rw [hVL]; exact (Below.refl _ _).alloc (Nat.le_refl _) _
      have hlit := Hd (show LAt encI VL (some ⟨gl, 0, none⟩) 1 [(i : Int)] from by rw [hVL, hgl]; exact LAt.lit1 (E := encI) (V) 3 (i : Int) ⟨by omega, by omega⟩);have hownL := Hd (oBl hown.out bL);have bWL := Hd (bT2 hb.out bL);have hbase := Hd bWL.out.size;clear bL;go_wp2_with (first
       | (rw [← hVL, ← hgl]; clear hVL hgl)
       | (at_builtin; refine wpAL (E := encI) rfl (.tmp 52) (.tmp 54) _ rfl V2.heap.size 3 i0 _ 8 Tryz.underlying27 hi.out hz0.out hz1.out hz2.out rfl _ (q) (xs.take q) (by rfl) hownL.out _ 1 1 _ rfl hlit.out (by unfold maxLen; omega) (by omega) hbase.out ?_; intro v' w7 hown' hb7 _ _))
      exact ⟨⟨i + 1, by have := hlt.out; omega, by go_num, Hd (bWL.out.trans hb7), Hd (by rw [hnx.out, hst.out, List.length_append, List.length_take, Nat.min_eq_left (by rw [← hLl.out]; omega)]; exact hown')⟩, by have := hlt.out; simp [intOf]; omega⟩
     ·have hst := Hd (show ldS f xs i = xs ++ [(i : Int)] from ldS_new hzn hz2' (by rw [hsx, hsy]; exact hse))
      have es : (sy == sx) = false := by simpa using hse
      have hown2 := hown;replace hok := Hd hok;replace hse := Hd hse;replace hzn := Hd hzn;clear hini hx hsx hy hsy hz2 hz2' hLA hsxe hsye;go_wp2_with fail;refine wpRp 26 [(true, 0), (true, 1), (true, 2), (true, 3), (true, 4), (true, 5), (true, 6), (true, 7), (true, 8), (true, 9), (true, 10), (true, 11), (true, 12), (true, 13), (true, 14), (true, 15), (true, 16), (true, 17), (true, 18), (true, 19), (true, 20), (true, 21), (true, 22), (true, 23), (true, 24), (true, 25)] (by kernel_rfl) (by kernel_rfl) (fun V hV => ?_);have hU' : Below wr.heap.size wr V := by rw [hV.out]; exact (Below.refl _ _).drew
      have drw : ∀ p u, wr.cell? p = some u → V.cell? p = some u := fun p u h => by rw [hV.out]; exact h
      replace hS0 := Hd (hS0.out.later hU');replace hb := Hd (bT2 hb.out hU');clear hV;simp only [List.drop_succ_cons, List.drop_nil];have p0 := hS0.out.c0;have p1 := hS0.out.c1;have p2 := hS0.out.c2;have p3 := hS0.out.c3;have p4 := hS0.out.c4;have p5 := hS0.out.c5;rw [hxB] at p1;replace c0 := drw _ _ c0;replace q0 := drw _ _ q0;replace r0 := drw _ _ r0;clear drw;replace hown := Hd (oBl hown2.out hU');clear hU'
      iterate 26
       refine wpPf (v := ?_) rfl (by rfl) (fun w' hw' => ?_) (fun K hK => ?_);rotate_left
       ·(go_simp; try with_reducible rfl)
       go_simp;refine hK _ ?_;clear hK K
      clear p0 p1 p2 p3 p4 p5 c0 q0 r0 hown2;refine wpPn (NoPanic.normal ?_);obtain ⟨gl, hgl⟩ : ∃ g, g = (V).heap.size := ⟨_, rfl⟩;obtain ⟨VL, hVL⟩ : ∃ W, W = World.alloc (V) (.cells #[.int .i64 (i : Int)] 3) := ⟨_, rfl⟩;have bL : Below (V).heap.size (V) VL := by rw [hVL]; exact (Below.refl _ _).alloc (Nat.le_refl _) _
      have hlit := Hd (show LAt encI VL (some ⟨gl, 0, none⟩) 1 [(i : Int)] from by rw [hVL, hgl]; exact LAt.lit1 (E := encI) (V) 3 (i : Int) ⟨by omega, by omega⟩);have hownL := Hd (oBl hown.out bL);have bWL := Hd (bT2 hb.out bL);have hbase := Hd bWL.out.size;clear bL;go_wp2_with (first
       | (rw [← hVL, ← hgl]; clear hVL hgl)
       | (at_builtin; refine wpAL (E := encI) rfl (.tmp 52) (.tmp 54) _ rfl V2.heap.size 3 i0 _ 8 Tryz.underlying27 hi.out hz0.out hz1.out hz2.out rfl _ (q + 1) (xs) (by rfl) hownL.out _ 1 1 _ rfl hlit.out (by unfold maxLen; omega) (by omega) hbase.out ?_; intro v' w7 hown' hb7 _ _))
      exact ⟨⟨i + 1, by have := hlt.out; omega, by go_num, Hd (bWL.out.trans hb7), Hd (by rw [hnx.out, hst.out, List.length_append, ← hLl.out]; exact hown')⟩, by have := hlt.out; simp [intOf]; omega⟩
  ·have hlt' : ¬ (i : Int) < (v.k : Int) := by omega
   obtain rfl : i = v.k := by omega
   obtain ⟨D, d, rfl, hLd, hdm, hLA⟩ := LAt.of_own (E := encI) hown.out hok hLl.out.symm;have hfr := own_fresh19 hown.out;have hres := Hd (show LAt encI wr D L (ldF f v.m) from by rw [← hkm, ← hxs.out]; exact hLA);clear hlt hini hok hLA;go_wp2_with fail;go_ret;exact ⟨D, L, d, rfl, hres.out, hLd, hdm, hb.out, hfr⟩
def missG (f : Fac) (X : List (List Nat)) (r : Int) : Option Int := if f.frm.getD r.toNat 0 = -1 then (aheadW f X r).head? else none
theorem earlyG_miss (f : Fac) (X : List (List Nat)) (k r : Int) : earlyG f X k r = (missG f X r).map fun z => ⟨k, r, z, -1, -1, -1, -1⟩ := by
 unfold earlyG missG
 split <;> simp
def RetMiss (o : Option Int) (w : World) (e : Ending) (w' : World) : Prop := ∃ (z : Int) (b : Bool), z = o.getD (-1) ∧ b = o.isSome ∧ e = .returned (.tuple #[.int .i64 z, .bool b]) ∧ Below w.heap.size w w'
def RetMiss2 (o : Option Wit) (w : World) (e : Ending) (w' : World) : Prop := ∃ (r z : Int) (b : Bool), r = (o.getD (noneW 6)).r ∧ z = (o.getD (noneW 6)).w1 ∧ b = o.isSome ∧ e = .returned (.tuple #[.int .i64 r, .int .i64 z, .bool b]) ∧ Below w.heap.size w w'
theorem bad_writes {w0 : World} {v : FV} {f : Fac} {A : Option Addr} {c s : Nat} {R : Value} (B : Option Addr) (d : Nat) (X : List (List Nat)) (r : Nat) (U : World) (hE : EnvB v f) (hS : SrAt w0 v f A c s R U) (hr : RowsAt U B v.m X) (hG : Good v.m X) (hrl : r < v.m) :
  Calls Tryz.prog 55 #[.pointer (some ⟨s, 0, none⟩), .agg #[.int .i64 (v.m : Int), .slice B v.m d], .int .i64 (r : Int)] U (RetIL (aheadW f X (r : Int)) U) := by
 have hvm := hE.hvm;have hM0 := Hd (MatK.new (N := (v.m : Int)) (c := d) U 57 hr);obtain ⟨g, hg⟩ : ∃ g, g = U.heap.size := ⟨_, rfl⟩;obtain ⟨W0, hW0⟩ : ∃ W, W = U.alloc (.cells #[.int .i64 (v.m : Int), .slice B v.m d] 57) := ⟨_, rfl⟩;rw [← hW0, ← hg] at hM0;have hbo := Hd (show Below U.heap.size U W0 from by rw [hW0]; exact bAl _ _);have hS0 := Hd (hS.later hbo.out);obtain ⟨ib, io, u, hxB, -, hu, -, -, -, -, i3, -⟩ := hS0.out.fa.is.item hrl;have hAe : Hid (aheadW f X (r : Int) = wrsF f.items u.va (colF X (r : Int) v.m)) := Hd (by unfold aheadW; rw [vaF_at hu, hE.hil]);have hcl := Hd (colF_len X (r : Int) v.m);have bi : 0 ≤ (r : Int) ∧ (r : Int) < (v.m : Int) := by omega
 obtain ⟨us, up, uw, ua, ul⟩ := u
 simp only at i3 hAe
 have cO := Hd (fun W (hW : RowsAt W B v.m X) => past_Of B v.m d X (r : Int) W hW hG);have cW := Hd (fun D m d l W hW hL hm => past_Writes v f D m d l ua W hW hL hm (by omega));rw [hxB] at cW;replace hxB := Hd hxB;clear hu hE hr hS
 go_enter Tryz.func55, Tryz.ntmps55
 go_wp2_with (rw [← hW0, ← hg]; clear hW0; replace hg := Hd hg);refine wpRp 18 [(true, 0), (true, 1), (true, 2), (true, 3), (true, 4), (true, 5), (true, 7), (true, 8), (true, 9), (true, 10), (true, 11), (true, 12), (true, 13), (true, 14), (true, 15), (false, 6), (false, 16), (true, 17)] (by kernel_rfl) (by kernel_rfl) (fun V hV => ?_);have hV' : Below W0.heap.size W0 V := by rw [hV.out]; exact (Below.refl _ _).drew
 have drw : ∀ p u, W0.cell? p = some u → V.cell? p = some u := fun p u h => by rw [hV.out]; exact h
 replace i3 := drw _ _ i3;replace hS0 := Hd (hS0.out.later hV');replace hM0 := Hd (hM0.out.below hV');replace hbo := Hd (bT2 hbo.out hV');clear hV hV' drw;simp only [List.drop_succ_cons, List.drop_nil];have p0 := hS0.out.c0;have p1 := hS0.out.c1;have p2 := hS0.out.c2;have p3 := hS0.out.c3;have p4 := hS0.out.c4;have p5 := hS0.out.c5;rw [hxB.out] at p1;have m0 := hM0.out.1.c0;have m1 := hM0.out.1.c1
 iterate 15
  refine wpPf (v := ?_) rfl (by rfl) (fun w' hw' => ?_) (fun K hK => ?_);rotate_left
  ·(go_simp; try with_reducible rfl)
  go_simp;refine hK _ ?_;clear hK K
 clear p0 p1 p2 p3 p4 p5 m0 m1 i3;refine wpPo rfl (by rfl) (fun K hK => ?_);go_simp;refine (cO.out V hM0.out.2).mono ?_;rintro e x1 ⟨C1, n1, c1, rfl, hl1, -, -, b⟩;refine hK _ _ b ?_;clear hK K;replace hbo := Hd (bT2 hbo.out b);replace hS0 := Hd (hS0.out.later b);have hn1 : n1 ≤ 1048576 := by have h1 := hcl.out; rw [← hl1.len]; omega
 replace cW := Hd (cW.out C1 n1 c1 _ x1 hS0.out.fa hl1 hn1);clear b hM0 hxB cO hl1;refine wpPo rfl (by rfl) (fun K hK => ?_);go_simp;refine cW.out.mono ?_;rintro e x2 ⟨C2, n2, c2, rfl, hl2, h3, h4, b⟩;refine hK _ _ b ?_;clear hK K;rw [← hAe.out] at hl2;have hx : RetIL (aheadW f X (r : Int)) U (.returned (.slice C2 n2 c2)) x2 := ⟨C2, n2, c2, rfl, hl2, h3, h4, bT2 hbo.out b⟩;replace hx := Hd hx;clear hl2 h3 h4 b hbo hS0 cW
 iterate 1
  refine wpPf (v := ?_) rfl (by rfl) (fun w' hw' => ?_) (fun K hK => ?_);rotate_left
  ·(go_simp; try with_reducible rfl)
  go_simp;refine hK _ ?_;clear hK K
 refine wpPn (NoPanic.normal ?_);go_wp2_with fail;go_ret;exact hx.out
theorem bad_missed {w0 : World} {v : FV} {f : Fac} {A : Option Addr} {c s : Nat} {R : Value} (B : Option Addr) (d : Nat) (X : List (List Nat)) (r : Nat) (U : World) (hE : EnvB v f) (hS : SrAt w0 v f A c s R U) (hr : RowsAt U B v.m X) (hG : Good v.m X) (hrl : r < v.m) :
  Calls Tryz.prog 54 #[.pointer (some ⟨s, 0, none⟩), .agg #[.int .i64 (v.m : Int), .slice B v.m d], .int .i64 (r : Int)] U (RetMiss (missG f X (r : Int)) U) := by
 have hM0 := Hd (MatK.new (N := (v.m : Int)) (c := d) U 57 hr);obtain ⟨g, hg⟩ : ∃ g, g = U.heap.size := ⟨_, rfl⟩;obtain ⟨W0, hW0⟩ : ∃ W, W = U.alloc (.cells #[.int .i64 (v.m : Int), .slice B v.m d] 57) := ⟨_, rfl⟩;rw [← hW0, ← hg] at hM0;have hbo := Hd (show Below U.heap.size U W0 from by rw [hW0]; exact bAl _ _);have hS0 := Hd (hS.later hbo.out);have hkl : v.k = v.m := by have h1 := hS.fa.fs.len; have h2 := hE.frl; omega
 obtain ⟨fb, fo, z, hzC, -, hz, -, z0⟩ := hS0.out.fa.fs.int (show r < v.k by omega);have hgd : f.frm.getD r 0 = z := by rw [List.getD_eq_getElem?_getD, hz]; rfl
 have hMe : missG f X (r : Int) = if z = -1 then (aheadW f X (r : Int)).head? else none := by unfold missG; rw [Int.toNat_natCast, hgd]
 have bi : 0 ≤ (r : Int) ∧ (r : Int) < (v.k : Int) := by omega
 have cW := Hd (bad_writes B d X r W0 hE hS0.out hM0.out.2 hG hrl);have p0 := hS0.out.c0;have p1 := hS0.out.c1;have p2 := hS0.out.c2;have p3 := hS0.out.c3;have p4 := hS0.out.c4;have p5 := hS0.out.c5;rw [hzC] at p2;have m0 := hM0.out.1.c0;have m1 := hM0.out.1.c1;replace hzC := Hd hzC;clear hz hgd hE hr hS;by_cases hz1 : z = -1
 ·have e0 : (z == -1) = true := by rw [hz1]; rfl
  rw [if_pos hz1] at hMe;replace hMe := Hd hMe;subst hz1
  go_enter Tryz.func54, Tryz.ntmps54
  go_wp2_with (rw [← hW0, ← hg]; clear hW0; replace hg := Hd hg);refine cW.out.mono ?_;rintro e w2 ⟨C, n, cc, rfl, hL, hnc, hcm, b⟩;have hbb := Hd (bT2 hbo.out b);obtain ⟨al, hal⟩ : ∃ l, l = aheadW f X (r : Int) := ⟨_, rfl⟩;rw [← hal] at hMe hL;clear b hnc hcm cW hal hS0 hM0 p0 p1 p2 p3 p4 p5 m0 m1;rcases Nat.eq_zero_or_pos n with hn | hn
  ·subst hn
   have hal : al = [] := List.eq_nil_of_length_eq_zero hL.len;subst hal;clear hL;go_wp2_with fail;exact bodyPost_ret (v := .tuple #[.int .i64 (-1), .bool false]) (by simp [results, go_sem]) rfl ⟨-1, false, by rw [hMe.out]; rfl, by rw [hMe.out]; rfl, rfl, hbb.out⟩
  ·obtain ⟨cb, co, y, hC2, hcb, hy, -, y0⟩ := hL.int hn
   rw [Nat.add_zero] at y0;have e1 : ((n : Int) == 0) = false := by simp; omega
   have bn : (0 : Int) < (n : Int) := by omega
   have hh : al.head? = some y := by rw [List.head?_eq_getElem?]; exact hy
   rw [hh] at hMe;subst hC2;clear hL hy hh;replace hn := Hd hn;go_wp2_with fail;exact bodyPost_ret (v := .tuple #[.int .i64 y, .bool true]) (by simp [results, go_sem]) rfl ⟨y, true, by rw [hMe.out]; rfl, by rw [hMe.out]; rfl, rfl, hbb.out⟩
 ·have e0 : (z == -1) = false := by simpa using hz1
  rw [if_neg hz1] at hMe;replace hMe := Hd hMe;replace hz1 := Hd hz1;clear cW
  go_enter Tryz.func54, Tryz.ntmps54
  go_wp2_with (rw [← hW0, ← hg]; clear hW0; replace hg := Hd hg);exact bodyPost_ret (v := .tuple #[.int .i64 (-1), .bool false]) (by simp [results, go_sem]) rfl ⟨-1, false, by rw [hMe.out]; rfl, by rw [hMe.out]; rfl, rfl, hbo.out⟩
theorem bad_firstMissed {w0 : World} {v : FV} {f : Fac} {A : Option Addr} {c s : Nat} {R : Value} (B : Option Addr) (d : Nat) (X : List (List Nat)) (o : Nat) (U : World) (hE : EnvB v f) (hS : SrAt w0 v f A c s R U) (hr : RowsAt U B v.m X) (hG : Good v.m X) :
  Calls Tryz.prog 62 #[.pointer (some ⟨s, 0, none⟩), .agg #[.int .i64 (v.m : Int), .slice B v.m d], .int .i64 (o : Int)] U (RetMiss2 (earlyF f X 6 (keptO f o)) U) := by
 have hvm := hE.hvm;have hM0 := Hd (MatK.new (N := (v.m : Int)) (c := d) U 57 hr);obtain ⟨g, hg⟩ : ∃ g, g = U.heap.size := ⟨_, rfl⟩;obtain ⟨W0, hW0⟩ : ∃ W, W = U.alloc (.cells #[.int .i64 (v.m : Int), .slice B v.m d] 57) := ⟨_, rfl⟩;rw [← hW0, ← hg] at hM0;have hbo := Hd (show Below U.heap.size U W0 from by rw [hW0]; exact bAl _ _);have hS0 := Hd (hS.later hbo.out);have cK := Hd (past_Kept v f (o : Int) W0 hS0.out.fa (by omega) hE.hx.nb);have hkok := Hd (fun z (hz : z ∈ keptO f o) => hE.ko hz);have hklen := hE.kl o;have cM := Hd (fun (r : Nat) (hr : r < v.m) W hW hX => bad_missed (w0 := w0) (A := A) (c := c) (s := s) (R := R) B d X r W hE hW hX hG hr);rw [earlyF_eq];obtain ⟨ks, hks⟩ : ∃ l, l = keptO f o := ⟨_, rfl⟩;rw [← hks] at hkok hklen ⊢;replace hks : Hid (keptF f.items (pastF f.items (o : Int) f.items.length) = ks) := Hd hks.symm;rw [hks.out] at cK;have p0 := hS0.out.c0;have p1 := hS0.out.c1;have p2 := hS0.out.c2;have p3 := hS0.out.c3;have p4 := hS0.out.c4;have p5 := hS0.out.c5;have m0 := hM0.out.1.c0;have m1 := hM0.out.1.c1;clear hE hr hS
 go_enter Tryz.func62, Tryz.ntmps62
 go_wp2_with (rw [← hW0, ← hg]; clear hW0; replace hg := Hd hg);refine cK.out.mono ?_;rintro e w2 ⟨C, n, cc, rfl, hL, -, -, b⟩;have hnl := hL.len;replace hS0 := Hd (hS0.out.later b);replace hM0 := Hd (hM0.out.below b);replace hbo := Hd (bT2 hbo.out b);replace hL := Hd hL;clear b cK p0 p1 p2 p3 p4 p5 m0 m1;go_wp2_with fail;have hb0 := Hd (Below.refl w2.heap.size w2)
 go_loopw [20] (fun t wr => ∃ i : Nat, i ≤ n ∧ t = .int .i64 (i : Int) ∧ Hid ((ks.take i).findSome? (earlyG f X 6) = none) ∧ Hid (Below w2.heap.size w2 wr)) (fun t _ => n - (intOf t).toNat)
 case atStart => exact ⟨0, Nat.zero_le _, rfl, Hd rfl, hb0⟩
 case round =>
  clear hb0;obtain ⟨i, hi, rfl, hno, hb⟩ := hrel;replace hS0 := Hd (hS0.out.later hb.out);replace hM0 := Hd (hM0.out.below hb.out);replace hbo := Hd (bT2 hbo.out hb.out);have m0 := hM0.out.1.c0;have m1 := hM0.out.1.c1;by_cases hlt : i < n
  ·have hlt' : (i : Int) < (n : Int) := by omega
   have bi : 0 ≤ (i : Int) ∧ (i : Int) < (n : Int) := by omega
   obtain ⟨db, dof, r, hD, -, hr, -, r0⟩ := (hL.out.below hb.out).int hlt;subst hD;obtain ⟨rn, rfl⟩ := Int.eq_ofNat_of_zero_le (hkok.out r (List.mem_of_getElem? hr)).1;have hst := findSome_step hr hno.out;have cMr := Hd (cM.out rn (by have := (hkok.out _ (List.mem_of_getElem? hr)).2; omega) wr hS0.out hM0.out.2);have hEm := earlyG_miss f X 6 (rn : Int);rw [hEm] at hst;obtain ⟨om, hom⟩ : ∃ x, x = missG f X (rn : Int) := ⟨_, rfl⟩;rw [← hom] at cMr hst;replace hst := Hd hst;replace hom := Hd hom;replace hr := Hd hr;replace hlt := Hd hlt;clear hEm;go_wp2_with fail;refine cMr.out.mono ?_;rintro e w3 ⟨z, bo, hz, hbe, rfl, b⟩;replace hb := Hd (bT2 hb.out b);replace hbo := Hd (bT2 hbo.out b);clear b m0 m1 r0 cMr
   cases om with
   | none =>
    have hz' : z = -1 := hz;have hb' : bo = false := hbe;subst hz'; subst hb';have hnx := Hd (hst.out.1 rfl);clear hz hbe;go_wp2_with fail;exact ⟨⟨i + 1, by have := hlt.out; omega, by go_num, hnx, hb⟩, by have := hlt.out; simp [intOf]; omega⟩
   | some y =>
    have hz' : z = y := hz;have hb' : bo = true := hbe;subst hz'; subst hb';have hnx := Hd (hst.out.2 _ rfl);clear hz hbe;go_wp2_with fail;exact bodyPost_ret (v := .tuple #[.int .i64 (rn : Int), .int .i64 z, .bool true]) (by simp [results, go_sem]) rfl ⟨(rn : Int), z, true, by rw [hnx.out]; rfl, by rw [hnx.out]; rfl, by rw [hnx.out]; rfl, rfl, hbo.out⟩
  ·have hlt' : ¬ (i : Int) < (n : Int) := by omega
   have hans : Hid (ks.findSome? (earlyG f X 6) = none) := Hd (by
    have h := hno.out
    rwa [List.take_of_length_le (by omega)] at h)
   clear hlt;go_wp2_with fail;exact bodyPost_ret (v := .tuple #[.int .i64 (-1), .int .i64 (-1), .bool false]) (by simp [results, go_sem]) rfl ⟨-1, -1, false, by rw [hans.out]; rfl, by rw [hans.out]; rfl, by rw [hans.out]; rfl, rfl, hbo.out⟩
theorem bad_hasMissed {w0 : World} {v : FV} {f : Fac} {A : Option Addr} {c s : Nat} {R : Value} (B : Option Addr) (d : Nat) (X : List (List Nat)) (o : Nat) (U : World) (hE : EnvB v f) (hS : SrAt w0 v f A c s R U) (hr : RowsAt U B v.m X) (hG : Good v.m X) :
  Calls Tryz.prog 61 #[.pointer (some ⟨s, 0, none⟩), .agg #[.int .i64 (v.m : Int), .slice B v.m d], .int .i64 (o : Int)] U (RetBool (earlyF f X 6 (keptO f o)).isSome U) := by
 have hM0 := Hd (MatK.new (N := (v.m : Int)) (c := d) U 57 hr);obtain ⟨g, hg⟩ : ∃ g, g = U.heap.size := ⟨_, rfl⟩;obtain ⟨W0, hW0⟩ : ∃ W, W = U.alloc (.cells #[.int .i64 (v.m : Int), .slice B v.m d] 57) := ⟨_, rfl⟩;rw [← hW0, ← hg] at hM0;have hbo := Hd (show Below U.heap.size U W0 from by rw [hW0]; exact bAl _ _);have hS0 := Hd (hS.later hbo.out);have cM := Hd (bad_firstMissed B d X o W0 hE hS0.out hM0.out.2 hG);have m0 := hM0.out.1.c0;have m1 := hM0.out.1.c1;clear hE hr hS
 go_enter Tryz.func61, Tryz.ntmps61
 go_wp2_with (rw [← hW0, ← hg]; clear hW0; replace hg := Hd hg);refine cM.out.mono ?_;rintro e w2 ⟨r, z, b, hr, hz, hbe, rfl, hb⟩;replace hbo := Hd (bT2 hbo.out hb);replace hbe := Hd hbe;clear m0 m1 hb hr hz;go_wp2_with fail;go_ret;rw [← hbe.out];exact ⟨rfl, hbo.out⟩
theorem bad_goesRound {n : Nat} (B : Option Addr) (d : Nat) (X : List (List Nat)) (o : Int) (U : World) (hr : RowsAt U B n X) (hG : Good n X) :
  Calls Tryz.prog 64 #[.agg #[.int .i64 (n : Int), .slice B n d], .int .i64 o] U (RetBool (loopB n X) U) := by
 have hM0 := Hd (MatK.new (N := (n : Int)) (c := d) U 57 hr);obtain ⟨g, hg⟩ : ∃ g, g = U.heap.size := ⟨_, rfl⟩;obtain ⟨W0, hW0⟩ : ∃ W, W = U.alloc (.cells #[.int .i64 (n : Int), .slice B n d] 57) := ⟨_, rfl⟩;rw [← hW0, ← hg] at hM0;have hbo := Hd (show Below U.heap.size U W0 from by rw [hW0]; exact bAl _ _);have cM := Hd (hull_Loop B n d X W0 hM0.out.2 hG.le (fun xs hx => by have := hG.small xs hx; omega));have m0 := hM0.out.1.c0;have m1 := hM0.out.1.c1;clear hr
 go_enter Tryz.func64, Tryz.ntmps64
 go_wp2_with (rw [← hW0, ← hg]; clear hW0; replace hg := Hd hg);refine cM.out.mono ?_;rintro e w2 ⟨r, b, rfl, hli, hb⟩;have hbe := Hd hli.b;replace hbo := Hd (bT2 hbo.out hb);clear m0 m1 hb hli;go_wp2_with fail;go_ret;rw [← hbe.out];exact ⟨rfl, hbo.out⟩
theorem seen_is {v : FV} {f : Fac} (hE : EnvB v f) {o k : Nat} (h : SeenIs f (keptF f.items (pastF f.items (o : Int) f.items.length)) (withinM v.m (coM f) (wihO (coM f) (o : Int) v.m)) k) : seX f (keptF f.items (pastF f.items (o : Int) f.items.length)) (withinM v.m (coM f) (wihO (coM f) (o : Int) v.m)) k = seenM f (coM f) o := by
 have hb : withinM v.m (coM f) (wihO (coM f) (o : Int) v.m) = baseM f (coM f) o := by unfold baseM; rw [hE.hil]
 rw [hb] at h ⊢;have h2 := seenK_is (kept := keptO f o) (base_good hE.hw hE.n4 o).1;have h : SeenIs f (keptO f o) (baseM f (coM f) o) k := h;unfold seenM;rw [h.unique h2]; rfl
theorem bad_seen {w0 : World} {v : FV} {f : Fac} {A : Option Addr} {c s : Nat} {R : Value} (o : Nat) (U : World) (hE : EnvB v f) (hS : SrAt w0 v f A c s R U) (ho : o < v.m) :
  Calls Tryz.prog 63 #[.pointer (some ⟨s, 0, none⟩), .int .i64 (o : Int)] U (RetMat1 (v.m : Int) (seenM f (coM f) o) U) := by
 have hvm := hE.hvm;have c1 := Hd (fun W (hW : SrAt w0 v f A c s R W) => (seen_Of v f A c (coM f) (o : Int) W hW.fa hW.mm hE.good hE.hvm hE.hw (by omega) (by omega) hE.hx hE.closed).mono
  (R' := fun e w' => ∃ (C : Option Addr) (dC : Nat) (E1 : Option Addr) (ne ce ke : Nat), e = .returned (.tuple #[.agg #[.int .i64 (v.m : Int), .slice C v.m dC], .slice E1 ne ce, .int .i64 ((ke + 1 : Nat) : Int), .int .i64 0]) ∧ RowsAt w' C v.m (seenM f (coM f) o) ∧ v.m ≤ dC ∧ Below W.heap.size W w') (fun e w' h => by
   obtain ⟨k, C, dC, E1, ne, ce, he, hi, hr, hd, -, -, -, hb⟩ := h;exact ⟨C, dC, E1, ne, ce, k, he, by rw [← seen_is hE hi]; exact hr, hd, hb⟩))
 have gS := hE.goodS o;have hpos := Hd (fun h0 => rows_len_pos gS h0);have hlen := Hd gS.len;obtain ⟨gr, hgr⟩ : ∃ g, g = U.heap.size := ⟨_, rfl⟩;obtain ⟨W0, hW0⟩ : ∃ W, W = U.alloc (.cells #[.int .i64 0, .slice none 0 0] 57) := ⟨_, rfl⟩;have hbo := Hd (show Below U.heap.size U W0 from by rw [hW0]; exact bAl _ _);have kR := Hd (show MatB W0 gr 57 0 none 0 0 from by rw [hW0, hgr]; exact MatB.new U _);have hgw := Hd (show U.heap.size ≤ gr by omega);have hS0 := Hd (hS.later hbo.out);clear hE hS gS
 go_enter Tryz.func63, Tryz.ntmps63
 go_wp2_with (rw [← hW0, ← hgr]; clear hW0; replace hgr := Hd hgr);refine wp_region_tree (.flt 0 (.flt 1 (.flt 2 (.flt 3 (.flt 4 (.flt 5 (.flt 6 (.flt 7 (.flt 8 (.two 9 15 (.flt 10 (.flt 11 (.flt 12 (.flt 13 (.flt 14 (.one 15 (.one 16 (.flt 17 (.flt 18 (.flt 19 .done)))))))))) (.one 9 (.flt 10 (.flt 11 (.flt 12 (.flt 13 (.flt 14 (.one 16 (.flt 17 (.flt 18 (.flt 19 .done)))))))))))))))))))) (by kernel_rfl) (by kernel_rfl) (fun V hV => ?_);have hV' : Below W0.heap.size W0 V := by rw [hV.out]; exact (Below.refl _ _).drew
 replace hS0 := Hd (hS0.out.later hV');replace kR := Hd (kR.out.below_ hV');replace hbo := Hd (bT2 hbo.out hV');clear hV hV';have bW : Below V.heap.size V V := Below.refl _ _
 apply cut_eight19 (F := fun (M : Nat) (w9 : World) (C : Option Addr) (dC : Nat) (E1 : Option Addr) (ne ce ke : Nat) => MatK w9 M 57 (v.m : Int) C v.m dC (seenM f (coM f) o) ∧ v.m ≤ dC ∧ V.heap.size ≤ M ∧ Below V.heap.size V w9)
 ·intro key
  have p0 := hS0.out.c0;have p1 := hS0.out.c1;have p2 := hS0.out.c2;have p3 := hS0.out.c3;have p4 := hS0.out.c4;have p5 := hS0.out.c5
  iterate 9
   refine wpTf (v := ?_) rfl (by rfl) (fun w' hw' => ?_) (fun K hK => ?_);rotate_left
   ·(go_simp; try with_reducible rfl)
   go_simp;refine hK _ ?_;clear hK K
  clear p0 p1 p2 p3 p4 p5;refine wpPT_two rfl (by rfl) rfl (by rfl) (fun K hK => ?_) (fun K hK => ?_)
  ·skip
   go_simp;refine (c1.out V (hS0.out.later bW)).mono ?_; rintro e v1 ⟨C, dC, E1, ne, ce, ke, rfl, rC, hdC, b⟩;replace bW := bT2 bW b;refine hK _ _ bW ?_;clear hK K;clear b
   iterate 5
    refine wpTf (v := ?_) rfl (by rfl) (fun w' hw' => ?_) (fun K hK => ?_);rotate_left
    ·(go_simp; try with_reducible rfl)
    go_simp;refine hK _ ?_;clear hK K
   refine wpT1 rfl (by rfl) (fun K hK => ?_);go_simp;obtain ⟨M, hM⟩ : ∃ M, M = (World.heap v1).size := ⟨_, rfl⟩;obtain ⟨v2, hw⟩ : ∃ X : World, X = World.alloc v1 (.cells #[.int .i64 0, .slice none 0 0] 57) := ⟨_, rfl⟩;rw [← hw, ← hM];have b : Below (World.heap v1).size v1 v2 := by rw [hw]; exact bAl _ _
   have hUM : V.heap.size ≤ M := by rw [hM]; exact bW.size
   replace bW := bT2 bW b;refine hK _ _ bW ?_;clear hK K;have kM := Hd (show MatB v2 M 57 0 none 0 0 from by rw [hw, hM]; exact MatB.new _ _);have hne : 0 < v.m → ∀ ad, C = some ad → ad.block ≠ M := fun h0 ad e => by have := rC.block_lt h0 ad e; omega
   replace rC := rC.below b;clear hM hw b;have f0 := kM.out.c0;have f1 := kM.out.c1;have g0 := kM.out.frozen 0;have g1 := kM.out.frozen 1;refine wpT1 rfl (by rfl) (fun K hK => ?_);go_simp;obtain ⟨wz, hw⟩ : ∃ X : World, X = (World.setCell v2 ⟨M, 0, none⟩ (.int .i64 (v.m : Int))).setCell ⟨M, 1, none⟩ (.slice C v.m dC) := ⟨_, rfl⟩;rw [← hw];have hMV := Hd (show MatK wz M 57 (v.m : Int) C v.m dC (seenM f (coM f) o) from ⟨by rw [hw]; exact kM.out.put _ _ _ _, by rw [hw]; exact rC.putB kM.out hne _ _⟩);replace bW : Below V.heap.size V wz := by rw [hw]; exact (bW.setCell (p := ⟨M, 0, none⟩) hUM _).setCell (p := ⟨M, 1, none⟩) hUM _
   refine hK _ _ bW ?_;clear hK K f0 f1 g0 g1 hw rC kM hne
   iterate 3
    refine wpTf (v := ?_) rfl (by rfl) (fun w' hw' => ?_) (fun K hK => ?_);rotate_left
    ·(go_simp; try with_reducible rfl)
    go_simp;refine hK _ ?_;clear hK K
   refine wpTd (NoPanic.normal ?_);exact key M wz C dC E1 ne ce ke ⟨hMV.out, hdC, hUM, bW⟩
  ·skip
   go_simp;obtain ⟨M, hM⟩ : ∃ M, M = (World.heap V).size := ⟨_, rfl⟩;obtain ⟨v3, hw⟩ : ∃ X : World, X = World.alloc V (.cells #[.int .i64 0, .slice none 0 0] 57) := ⟨_, rfl⟩;rw [← hw, ← hM];have b : Below (World.heap V).size V v3 := by rw [hw]; exact bAl _ _
   have hUM : V.heap.size ≤ M := by rw [hM]; exact bW.size
   replace bW := bT2 bW b;refine hK _ _ bW ?_;clear hK K;have kM := Hd (show MatB v3 M 57 0 none 0 0 from by rw [hw, hM]; exact MatB.new _ _);clear hM hw b;refine wpT1 rfl (by rfl) (fun K hK => ?_);go_simp;refine (c1.out v3 (hS0.out.later bW)).mono ?_; rintro e v4 ⟨C, dC, E1, ne, ce, ke, rfl, rC, hdC, b⟩;replace bW := bT2 bW b;refine hK _ _ bW ?_;clear hK K;have hne : 0 < v.m → ∀ ad, C = some ad → ad.block ≠ M := fun h0 => rC.farZ (kM.out.below_ b) (hpos.out h0) h0;replace kM := Hd (kM.out.below_ b);clear b
   iterate 5
    refine wpTf (v := ?_) rfl (by rfl) (fun w' hw' => ?_) (fun K hK => ?_);rotate_left
    ·(go_simp; try with_reducible rfl)
    go_simp;refine hK _ ?_;clear hK K
   have f0 := kM.out.c0;have f1 := kM.out.c1;have g0 := kM.out.frozen 0;have g1 := kM.out.frozen 1;refine wpT1 rfl (by rfl) (fun K hK => ?_);go_simp;obtain ⟨wz, hw⟩ : ∃ X : World, X = (World.setCell v4 ⟨M, 0, none⟩ (.int .i64 (v.m : Int))).setCell ⟨M, 1, none⟩ (.slice C v.m dC) := ⟨_, rfl⟩;rw [← hw];have hMV := Hd (show MatK wz M 57 (v.m : Int) C v.m dC (seenM f (coM f) o) from ⟨by rw [hw]; exact kM.out.put _ _ _ _, by rw [hw]; exact rC.putB kM.out hne _ _⟩);replace bW : Below V.heap.size V wz := by rw [hw]; exact (bW.setCell (p := ⟨M, 0, none⟩) hUM _).setCell (p := ⟨M, 1, none⟩) hUM _
   refine hK _ _ bW ?_;clear hK K f0 f1 g0 g1 hw rC kM hne
   iterate 3
    refine wpTf (v := ?_) rfl (by rfl) (fun w' hw' => ?_) (fun K hK => ?_);rotate_left
    ·(go_simp; try with_reducible rfl)
    go_simp;refine hK _ ?_;clear hK K
   refine wpTd (NoPanic.normal ?_);exact key M wz C dC E1 ne ce ke ⟨hMV.out, hdC, hUM, bW⟩
 ·rintro M w9 C dC E1 ne ce ke ⟨kS, hdC, hVM, b9⟩
  have kR9 := kR.out.below_ b9;have q0 := kS.1.c0;have q1 := kS.1.c1;have f0 := kR9.c0;have f1 := kR9.c1;have g0 := kR9.frozen 0;have g1 := kR9.frozen 1;have hcc := kR9.two (.int .i64 (v.m : Int)) (.slice C v.m dC);have hc1 := Hd hcc.1;have hc2 := Hd hcc.2;have hrf := Hd (kS.2.putB kR9 (fun h0 => kS.2.farZ kR9 (hpos.out h0) h0) (.int .i64 (v.m : Int)) (.slice C v.m dC));have hbf := Hd (((bT2 hbo.out b9).setCell (p := ⟨gr, 0, none⟩) hgw.out (.int .i64 (v.m : Int))).setCell (p := ⟨gr, 1, none⟩) hgw.out (.slice C v.m dC));clear hcc kS b9 kR kR9;go_wp2_with fail;exact bodyPost_ret (v := .agg #[.int .i64 (v.m : Int), .slice C v.m dC]) (by simp [results, Tryz.results63, go_sem, hc1.out, hc2.out]) rfl ⟨C, v.m, dC, rfl, hrf.out, hdC, hbf.out⟩
def RetLk (g : Nat) (k : Int) (o : Option Wit) (U : World) (e : Ending) (U' : World) : Prop :=
 ∃ x : Wit, x = o.getD (noneW k) ∧ e = .returned (.bool o.isSome) ∧ Blk U' g 34 [.int .i64 x.ki, .int .i64 x.r, .int .i64 x.w1, .int .i64 x.w2, .int .i64 x.o, .slice none 0 0, .int .i64 x.fi, .int .i64 x.se] ∧ BelowB g U U'
theorem roundF_some {k : Int} {n : Nat} {X : List (List Nat)} {r : Int} (h : LoopIs n X r true) : roundF k n X = some ⟨k, -1, -1, -1, r, -1, -1⟩ := by rw [h.find k]; rfl
theorem roundF_none {k : Int} {n : Nat} {X : List (List Nat)} {r : Int} (h : LoopIs n X r false) : roundF k n X = none := by rw [h.find k]; rfl
theorem bad_thin {w0 : World} {v : FV} {f : Fac} {A : Option Addr} {c s : Nat} {R : Value} (g : Nat) (U : World) (hE : EnvB v f) (hS : SrAt w0 v f A c s R U) (hW : Blk U g 34 [.int .i64 1, .int .i64 (-1), .int .i64 (-1), .int .i64 (-1), .int .i64 (-1), .slice none 0 0, .int .i64 (-1), .int .i64 (-1)]) :
  Calls Tryz.prog 30 #[.pointer (some ⟨s, 0, none⟩), .pointer (some ⟨g, 0, none⟩)] U (RetLk g 1 (thinF f) U) := by
 have hfl := Hd hS.fa.fs.len;have hvk : v.k ≤ 4096 := by have h1 := hS.fa.fs.len; have h2 := hE.frl; have h3 := hE.hvm; omega
 have kW := Hd hW;have hS0 := Hd hS;clear hE hS hW;have p0 := hS0.out.c0;have p1 := hS0.out.c1;have p2 := hS0.out.c2;have p3 := hS0.out.c3;have p4 := hS0.out.c4;have p5 := hS0.out.c5
 go_enter Tryz.func30, Tryz.ntmps30
 go_wp2_with fail;clear p0 p1 p2 p3 p4 p5
 go_loopw [13] (fun t wr => ∃ i : Nat, i ≤ v.k ∧ t = .int .i64 (i : Int) ∧ Hid (∀ j, j < i → f.frm.getD j 0 ≠ -2) ∧ wr = U) (fun t _ => v.k - (intOf t).toNat)
 case atStart => exact ⟨0, Nat.zero_le _, rfl, Hd (fun j h => absurd h (by omega)), rfl⟩
 case round =>
  obtain ⟨i, hi, rfl, hall, rfl⟩ := hrel;by_cases hlt : i < v.k
  ·have hlt' : (i : Int) < (v.k : Int) := by omega
   have bi : 0 ≤ (i : Int) ∧ (i : Int) < (v.k : Int) := by omega
   obtain ⟨zb, zo, z, hzC, -, hz, -, k0⟩ := hS0.out.fa.fs.int hlt;rw [hzC];have hgd : f.frm.getD i 0 = z := by rw [List.getD_eq_getElem?_getD, hz]; rfl
   replace hlt := Hd hlt;by_cases hz2 : z = -2
   ·have e0 : (z == -2) = true := by rw [hz2]; rfl
    have hans : Hid (thinF f = some ⟨1, (i : Int), -1, -1, -1, -1, -1⟩) := Hd (by
     unfold thinF;rw [List.find?_eq_some_iff_getElem.2 ⟨by rw [hgd, hz2]; rfl, i, by rw [List.length_range, hfl.out]; exact hlt.out, List.getElem_range _, fun j hj => by
      rw [List.getElem_range, decide_eq_false (hall.out j hj)]; rfl⟩]
     rfl)
    have kV := kW.out.set_ 1 (.int .i64 (i : Int));simp only [List.set_cons_zero, List.set_cons_succ] at kV;replace kV := Hd kV;obtain ⟨z0x, z1x, z2x, z3x, z4x, z5x, z6x, z7x⟩ := kW.out.cells8;obtain ⟨z0fx, z1fx, z2fx, z3fx, z4fx, z5fx, z6fx, z7fx⟩ := kW.out.frozen8;replace hgd := Hd hgd;replace hz2 := Hd hz2;clear hzC hz;go_wp2_with fail;go_ret;exact ⟨_, (by rw [hans.out]; try rfl), (by rw [hans.out]; try rfl), kV.out, (BelowB.refl _ _).setG19 _ _⟩
   ·have e0 : (z == -2) = false := by simpa using hz2
    have hn : Hid (∀ j, j < i + 1 → f.frm.getD j 0 ≠ -2) := Hd (fun j hj => by
     rcases Nat.lt_succ_iff_lt_or_eq.1 hj with h1 | h1
     ·exact hall.out j h1
     ·rw [h1, hgd]; exact hz2)
    replace hgd := Hd hgd;replace hz2 := Hd hz2;clear hz;go_wp2_with fail;exact ⟨⟨i + 1, by have := hlt.out; omega, by go_num, hn, trivial⟩, by have := hlt.out; simp [intOf]; omega⟩
  ·have hlt' : ¬ (i : Int) < (v.k : Int) := by omega
   obtain rfl : i = v.k := by omega
   have hans : Hid (thinF f = none) := Hd (by
    unfold thinF;rw [List.find?_eq_none.2 (fun j hj => by
     rw [decide_eq_false (hall.out j (by have := List.mem_range.1 hj; have := hfl.out; omega))]; simp)]
    rfl)
   clear hlt;go_wp2_with fail;go_ret;exact ⟨noneW 1, (by rw [hans.out]; try rfl), (by rw [hans.out]; try rfl), kW.out, (BelowB.refl _ _)⟩
theorem bad_cyclicCO {w0 : World} {v : FV} {f : Fac} {A : Option Addr} {c s : Nat} {R : Value} (g : Nat) (U : World) (hE : EnvB v f) (hS : SrAt w0 v f A c s R U) (hW : Blk U g 34 [.int .i64 2, .int .i64 (-1), .int .i64 (-1), .int .i64 (-1), .int .i64 (-1), .slice none 0 0, .int .i64 (-1), .int .i64 (-1)]) :
  Calls Tryz.prog 31 #[.pointer (some ⟨s, 0, none⟩), .pointer (some ⟨g, 0, none⟩)] U (RetLk g 2 (roundF 2 v.m (coM f)) U) := by
 have kW := Hd hW;have cL := Hd (hull_Loop A v.m c (coM f) U hS.mm hE.good.le (fun xs hx => by have := hE.good.small xs hx; omega));have hS0 := Hd hS;clear hE hS hW;have p0 := hS0.out.c0;have p1 := hS0.out.c1;have p2 := hS0.out.c2;have p3 := hS0.out.c3;have p4 := hS0.out.c4;have p5 := hS0.out.c5
 go_enter Tryz.func31, Tryz.ntmps31
 go_wp2_with fail;refine cL.out.mono ?_; rintro e w4 ⟨i, b, rfl, hLp, b4⟩;replace kW := Hd (kW.out.below b4 kW.out.lt);have hbb := Hd (BelowB.of (g := g) b4);clear p0 p1 p2 p3 p4 p5 b4 cL hS0
 cases b with
 | true =>
  have hans := Hd (roundF_some (k := 2) hLp);have kV := kW.out.set_ 4 (.int .i64 i);simp only [List.set_cons_zero, List.set_cons_succ] at kV;replace kV := Hd kV;obtain ⟨z0x, z1x, z2x, z3x, z4x, z5x, z6x, z7x⟩ := kW.out.cells8;obtain ⟨z0fx, z1fx, z2fx, z3fx, z4fx, z5fx, z6fx, z7fx⟩ := kW.out.frozen8;clear hLp;go_wp2_with fail;go_ret;exact ⟨_, (by rw [hans.out]; try rfl), (by rw [hans.out]; try rfl), kV.out, hbb.out.setG19 _ _⟩
 | false =>
  have hans := Hd (roundF_none (k := 2) hLp);clear hLp;go_wp2_with fail;go_ret;exact ⟨noneW 2, (by rw [hans.out]; try rfl), (by rw [hans.out]; try rfl), kW.out, hbb.out⟩
theorem bad_coInit {w0 : World} {v : FV} {f : Fac} {A : Option Addr} {c s : Nat} {R : Value} (g : Nat) (U : World) (hE : EnvB v f) (hS : SrAt w0 v f A c s R U) (hW : Blk U g 34 [.int .i64 3, .int .i64 (-1), .int .i64 (-1), .int .i64 (-1), .int .i64 (-1), .slice none 0 0, .int .i64 (-1), .int .i64 (-1)]) :
  Calls Tryz.prog 32 #[.pointer (some ⟨s, 0, none⟩), .pointer (some ⟨g, 0, none⟩)] U (RetLk g 3 (earlyF f (coM f) 3 (rdl v.m)) U) := by
 have kW := Hd hW;have cM := Hd (fun (r : Nat) (hr : r < v.m) W (hS : SrAt w0 v f A c s R W) => bad_missed A c (coM f) r W hE hS hS.mm hE.good hr);have hS0 := Hd hS;rw [earlyF_eq];have hvm := hE.hvm;clear hE hS hW;have p0 := hS0.out.c0;have p1 := hS0.out.c1;have p2 := hS0.out.c2;have p3 := hS0.out.c3;have p4 := hS0.out.c4;have p5 := hS0.out.c5
 go_enter Tryz.func32, Tryz.ntmps32
 go_wp2_with fail;clear p0 p1 p2 p3 p4 p5;have hb0 := Hd (Below.refl U.heap.size U);obtain ⟨V2, hV2⟩ : ∃ V, V = U := ⟨_, rfl⟩
 go_loopw [14] (fun t wr => ∃ i : Nat, i ≤ v.m ∧ t = .int .i64 (i : Int) ∧ Hid (((rdl v.m).take i).findSome? (earlyG f (coM f) 3) = none) ∧ Hid (Below V2.heap.size V2 wr)) (fun t _ => v.m - (intOf t).toNat)
 case atStart => exact ⟨0, Nat.zero_le _, rfl, Hd rfl, by rw [hV2]; exact hb0⟩
 case round =>
  subst hV2;clear hb0;obtain ⟨i, hi, rfl, hno, hb⟩ := hrel;replace hS0 := Hd (hS0.out.later hb.out);replace kW := Hd (kW.out.below hb.out kW.out.lt);by_cases hlt : i < v.m
  ·have hlt' : (i : Int) < (v.m : Int) := by omega
   have hst := findSome_step (rdl_at hlt) hno.out;rw [earlyG_miss] at hst;have cMr := Hd (cM.out i hlt wr hS0.out);obtain ⟨om, hom⟩ : ∃ x, x = missG f (coM f) (i : Int) := ⟨_, rfl⟩;rw [← hom] at cMr hst;replace hst := Hd hst;replace hom := Hd hom;replace hlt := Hd hlt;have p0 := hS0.out.c0;have p1 := hS0.out.c1;have p2 := hS0.out.c2;have p3 := hS0.out.c3;have p4 := hS0.out.c4;have p5 := hS0.out.c5;go_wp2_with fail;refine cMr.out.mono ?_;rintro e w3 ⟨z, bo, hz, hbe, rfl, b⟩;replace hb := Hd (bT2 hb.out b);replace kW := Hd (kW.out.below b kW.out.lt);clear b p0 p1 p2 p3 p4 p5 cMr
   cases om with
   | none =>
    have hz' : z = -1 := hz;have hb' : bo = false := hbe;subst hz'; subst hb';have hnx := Hd (hst.out.1 rfl);clear hz hbe;go_wp2_with fail;exact ⟨⟨i + 1, by have := hlt.out; omega, by go_num, hnx, hb⟩, by have := hlt.out; simp [intOf]; omega⟩
   | some y =>
    have hz' : z = y := hz;have hb' : bo = true := hbe;subst hz'; subst hb';have hans := Hd (hst.out.2 _ rfl);clear hz hbe;have kV1 := kW.out.set_ 1 (.int .i64 (i : Int));simp only [List.set_cons_zero, List.set_cons_succ] at kV1;have kV := kV1.set_ 2 (.int .i64 z);simp only [List.set_cons_zero, List.set_cons_succ] at kV;replace kV := Hd kV;obtain ⟨z0x, z1x, z2x, z3x, z4x, z5x, z6x, z7x⟩ := kW.out.cells8;obtain ⟨z0fx, z1fx, z2fx, z3fx, z4fx, z5fx, z6fx, z7fx⟩ := kW.out.frozen8;obtain ⟨z0fy, z1fy, z2fy, z3fy, z4fy, z5fy, z6fy, z7fy⟩ := kV1.frozen8;clear kV1;go_wp2_with fail;go_ret;exact ⟨_, (by rw [hans.out]; try rfl), (by rw [hans.out]; try rfl), kV.out, ((BelowB.of (g := g) hb.out).setG19 _ _).setG19 _ _⟩
  ·have hlt' : ¬ (i : Int) < (v.m : Int) := by omega
   have hans : Hid ((rdl v.m).findSome? (earlyG f (coM f) 3) = none) := Hd (by
    have h := hno.out
    rwa [List.take_of_length_le (by rw [rdl_len]; omega)] at h)
   clear hlt;go_wp2_with fail;go_ret;exact ⟨noneW 3, (by rw [hans.out]; try rfl), (by rw [hans.out]; try rfl), kW.out, (BelowB.of hb.out)⟩
theorem bad_coRead {w0 : World} {v : FV} {f : Fac} {A : Option Addr} {c s : Nat} {R : Value} (g : Nat) (U : World) (hE : EnvB v f) (hS : SrAt w0 v f A c s R U) (hW : Blk U g 34 [.int .i64 4, .int .i64 (-1), .int .i64 (-1), .int .i64 (-1), .int .i64 (-1), .slice none 0 0, .int .i64 (-1), .int .i64 (-1)]) :
  Calls Tryz.prog 33 #[.pointer (some ⟨s, 0, none⟩), .pointer (some ⟨g, 0, none⟩)] U (RetLk g 4 (betwF f (coM f)) U) := by
 have kW := Hd hW;have hfl := Hd hS.fa.fs.len;have hkm := Hd (show v.k = v.m by have h1 := hS.fa.fs.len; have h2 := hE.frl; omega);have cM := Hd (fun (r : Nat) (hr : r < v.m) W (hS : SrAt w0 v f A c s R W) => bad_writes A c (coM f) r W hE hS hS.mm hE.good hr);have cH := Hd (fun (i j : Int) W hW h1 h2 h3 h4 => mat_Has (v.m : Int) A v.m c (coM f) i j W hW (by have := hE.good.le; omega) (fun xs hx => by have := hE.good.small xs hx; omega) h1 h2 h3 h4);have hS0 := Hd hS;have hvm := hE.hvm;have hvk : v.k ≤ 4096 := by have := hkm.out; omega
 rw [betwF_eq, hfl.out];clear hE hS hW;have p0 := hS0.out.c0;have p1 := hS0.out.c1;have p2 := hS0.out.c2;have p3 := hS0.out.c3;have p4 := hS0.out.c4;have p5 := hS0.out.c5
 go_enter Tryz.func33, Tryz.ntmps33
 go_wp2_with fail;clear p0 p1 p2 p3 p4 p5;have hb0 := Hd (Below.refl U.heap.size U);obtain ⟨V2, hV2⟩ : ∃ V, V = U := ⟨_, rfl⟩
 go_loopw [15] (fun t wr => ∃ i : Nat, i ≤ v.k ∧ t = .int .i64 (i : Int) ∧ Hid (((rdl v.k).take i).findSome? (betwG f (coM f)) = none) ∧ Hid (Below V2.heap.size V2 wr)) (fun t _ => v.k - (intOf t).toNat)
 case atStart => exact ⟨0, Nat.zero_le _, rfl, Hd rfl, by rw [hV2]; exact hb0⟩
 case round =>
  subst hV2;clear hb0;obtain ⟨i, hi, rfl, hno, hb⟩ := hrel;replace hS0 := Hd (hS0.out.later hb.out);replace kW := Hd (kW.out.below hb.out kW.out.lt);by_cases hlt : i < v.k
  ·have hlt' : (i : Int) < (v.k : Int) := by omega
   have bi : 0 ≤ (i : Int) ∧ (i : Int) < (v.k : Int) := by omega
   have him : i < v.m := by have := hkm.out; omega
   have hst := Hd (findSome_step (rdl_at hlt) hno.out);obtain ⟨zb, zo, z, hzC, -, hz, ⟨z1, z2⟩, k0⟩ := hS0.out.fa.fs.int hlt;have hgd : f.frm.getD (i : Int).toNat 0 = z := by rw [Int.toNat_natCast, List.getD_eq_getElem?_getD, hz]; rfl
   have hEg : betwG f (coM f) (i : Int) = if z < 0 then none else ((aheadW f (coM f) (i : Int)).find? (betwP (coM f) z)).map fun y => ⟨4, (i : Int), z, y, -1, -1, -1⟩ := by unfold betwG; rw [hgd]
   rw [hzC];replace hlt := Hd hlt;replace hgd := Hd hgd;replace hzC := Hd hzC;clear hz;by_cases hz0 : z < 0
   ·have d0 : decide (z < 0) = true := decide_eq_true hz0
    rw [if_pos hz0] at hEg;have hnx := Hd (hst.out.1 hEg);clear hEg;go_wp2_with fail;exact ⟨⟨i + 1, by have := hlt.out; omega, by go_num, hnx, hb⟩, by have := hlt.out; simp [intOf]; omega⟩
   ·have d0 : decide (z < 0) = false := decide_eq_false hz0
    rw [if_neg hz0] at hEg;have cMr := Hd (cM.out i him wr hS0.out);obtain ⟨al, hal⟩ : ∃ l, l = aheadW f (coM f) (i : Int) := ⟨_, rfl⟩;have hal1 : al.length ≤ v.m := by
     rw [hal];refine Nat.le_trans (List.length_filter_le _ _) (Nat.le_trans (colF_len _ _ _) ?_);have := hS0.out.fa.is.len
     omega
    rw [← hal] at hEg cMr;replace hEg := Hd hEg;replace hal := Hd hal;have p0 := hS0.out.c0;have p1 := hS0.out.c1;have p2 := hS0.out.c2;have p3 := hS0.out.c3;have p4 := hS0.out.c4;have p5 := hS0.out.c5;go_wp2_with fail;refine cMr.out.mono ?_;rintro e x2 ⟨C2, n2, c2, rfl, hl2, hnc2, hcm2, b⟩;replace hb := Hd (bT2 hb.out b);replace hS0 := Hd (hS0.out.later b);replace kW := Hd (kW.out.below b kW.out.lt);have hn2 : n2 ≤ 4096 := by rw [← hl2.len]; omega
    replace hl2 := Hd hl2;clear b p0 p1 p2 p3 p4 p5 cMr k0;go_wp2_with fail;have hc0 := Hd (Below.refl x2.heap.size x2)
    go_loopw [30] (fun t wr => ∃ q : Nat, q ≤ n2 ∧ t = .int .i64 (q : Int) ∧ Hid (∀ p, p < q → ∀ y, al[p]? = some y → betwP (coM f) z y = false) ∧ Hid (Below x2.heap.size x2 wr)) (fun t _ => n2 - (intOf t).toNat)
    case atStart => exact ⟨0, Nat.zero_le _, rfl, Hd (fun p h => absurd h (by omega)), hc0⟩
    case round =>
     clear hc0;obtain ⟨q, hq, rfl, hall, hc⟩ := hrel;replace hb := Hd (bT2 hb.out hc.out);replace hS0 := Hd (hS0.out.later hc.out);replace kW := Hd (kW.out.below hc.out kW.out.lt);by_cases hql : q < n2
     ·have hql' : (q : Int) < (n2 : Int) := by omega
      have bq : 0 ≤ (q : Int) ∧ (q : Int) < (n2 : Int) := by omega
      obtain ⟨cb, co, y, hC2, hcb, hy, ⟨y1, y2⟩, y0⟩ := (hl2.out.below hc.out).int hql;have hnx : betwP (coM f) z y = false → Hid (∀ p, p < q + 1 → ∀ y, al[p]? = some y → betwP (coM f) z y = false) := fun h => Hd (fun p hp y' hy' => by
       rcases Nat.lt_succ_iff_lt_or_eq.1 hp with h1 | h1
       ·exact hall.out p h1 y' hy'
       ·subst h1
        rw [hy] at hy';injection hy' with hy';rw [← hy']; exact h)
      have hbp : betwP (coM f) z y = (decide (y ≠ z) && hasM (coM f) z y) := rfl;have hfd : betwP (coM f) z y = true → Hid ((rdl v.k).findSome? (betwG f (coM f)) = some ⟨4, (i : Int), z, y, -1, -1, -1⟩) := fun h => Hd (hst.out.2 _ (by
       rw [hEg.out, List.find?_eq_some_iff_getElem.2 ⟨h, q, (List.getElem?_eq_some_iff.1 hy).1, (List.getElem?_eq_some_iff.1 hy).2, fun p hp => by
        rw [hall.out p hp _ (List.getElem?_eq_getElem (by have := (List.getElem?_eq_some_iff.1 hy).1; omega))]; rfl⟩]
       rfl))
      subst hC2;replace hql := Hd hql;by_cases hyz : y = z
      ·have e0 : (y != z) = false := by simp [hyz]
       have hn := hnx (by rw [hbp, decide_eq_false (by simp [hyz])]; rfl);replace hyz := Hd hyz;clear hnx hfd hbp hy;go_wp2_with fail;exact ⟨⟨q + 1, by have := hql.out; omega, by go_num, hn, hc⟩, by have := hql.out; simp [intOf]; omega⟩
      ·have e0 : (y != z) = true := by simp [hyz]
       have cHr := Hd (cH.out z y wr hS0.out.mm z1 z2 y1 y2);obtain ⟨hb2, hhb⟩ : ∃ b, b = hasM (coM f) z y := ⟨_, rfl⟩;rw [← hhb, decide_eq_true hyz, Bool.true_and] at hbp;rw [← hhb] at cHr;replace hyz := Hd hyz;replace hhb := Hd hhb;have p0 := hS0.out.c0;have p1 := hS0.out.c1;have p2 := hS0.out.c2;have p3 := hS0.out.c3;have p4 := hS0.out.c4;have p5 := hS0.out.c5
       cases hb2 with
       | true =>
        have hans := hfd hbp;clear hnx hfd hbp hy;go_wp2_with fail;refine cHr.out.mono ?_;rintro e w6 ⟨rfl, b6⟩;replace hb := Hd (bT2 hb.out b6);replace kW := Hd (kW.out.below b6 kW.out.lt);clear b6 p0 p1 p2 p3 p4 p5 cHr y0 hS0;have kV1 := kW.out.set_ 1 (.int .i64 (i : Int));simp only [List.set_cons_zero, List.set_cons_succ] at kV1;have kV2 := kV1.set_ 2 (.int .i64 z);simp only [List.set_cons_zero, List.set_cons_succ] at kV2;have kV := kV2.set_ 3 (.int .i64 y);simp only [List.set_cons_zero, List.set_cons_succ] at kV;replace kV := Hd kV;obtain ⟨z0x, z1x, z2x, z3x, z4x, z5x, z6x, z7x⟩ := kW.out.cells8;obtain ⟨z0fx, z1fx, z2fx, z3fx, z4fx, z5fx, z6fx, z7fx⟩ := kW.out.frozen8;obtain ⟨z0fy, z1fy, z2fy, z3fy, z4fy, z5fy, z6fy, z7fy⟩ := kV1.frozen8;obtain ⟨z0fz, z1fz, z2fz, z3fz, z4fz, z5fz, z6fz, z7fz⟩ := kV2.frozen8;clear kV1 kV2;go_wp2_with fail;go_ret;exact ⟨_, (by rw [hans.out]; try rfl), (by rw [hans.out]; try rfl), kV.out, (((BelowB.of (g := g) hb.out).setG19 _ _).setG19 _ _).setG19 _ _⟩
       | false =>
        have hn := hnx hbp;clear hnx hfd hbp hy;go_wp2_with fail;refine cHr.out.mono ?_;rintro e w6 ⟨rfl, b6⟩;replace hc := Hd (bT2 hc.out b6);clear b6 p0 p1 p2 p3 p4 p5 cHr y0;go_wp2_with fail;exact ⟨⟨q + 1, by have := hql.out; omega, by go_num, hn, hc⟩, by have := hql.out; simp [intOf]; omega⟩
     ·have hql' : ¬ (q : Int) < (n2 : Int) := by omega
      have hnx : Hid (((rdl v.k).take (i + 1)).findSome? (betwG f (coM f)) = none) := Hd (hst.out.1 (by
       rw [hEg.out, List.find?_eq_none.2 (fun y hy => by
        obtain ⟨p, hp⟩ := List.getElem?_of_mem hy;have hpl := (List.getElem?_eq_some_iff.1 hp).1;rw [hall.out p (by have := hl2.out.len; omega) y hp]; simp)]
       rfl))
      clear hql;go_wp2_with fail;exact ⟨⟨i + 1, by have := hlt.out; omega, by go_num, hnx, hb⟩, by have := hlt.out; simp [intOf]; omega⟩
  ·have hlt' : ¬ (i : Int) < (v.k : Int) := by omega
   have hans : Hid ((rdl v.k).findSome? (betwG f (coM f)) = none) := Hd (by
    have h := hno.out
    rwa [List.take_of_length_le (by rw [rdl_len]; omega)] at h)
   clear hlt;go_wp2_with fail;go_ret;exact ⟨noneW 4, (by rw [hans.out]; try rfl), (by rw [hans.out]; try rfl), kW.out, (BelowB.of hb.out)⟩

def eZ (f : Fac) (M : List (List Nat)) (a b : Nat) (l : List Int) : List Ed := (l.filter fun z => clB f M a b z.toNat).map fun z => (⟨(a : Int), (b : Int), z⟩ : Ed)
def oneE (a b : Nat) (z : Int) (ws : List Int) : List Ed := if (a : Int) ∈ ws ∧ a ≠ b then [⟨(a : Int), (b : Int), z⟩] else []
theorem eZ_nil (f : Fac) (M : List (List Nat)) (a b : Nat) : eZ f M a b [] = [] := rfl
theorem oneE_nil (a b : Nat) (z : Int) : oneE a b z [] = [] := by unfold oneE; simp
theorem eZ_len (f : Fac) (M : List (List Nat)) (a b : Nat) (l : List Int) : (eZ f M a b l).length ≤ l.length := by unfold eZ; rw [List.length_map]; exact List.length_filter_le _ _
theorem oneE_len (a b : Nat) (z : Int) (ws : List Int) : (oneE a b z ws).length ≤ 1 := by unfold oneE; split <;> simp
theorem eZ_take {f : Fac} {M : List (List Nat)} {a b q : Nat} {l : List Int} {z : Int} (h : l[q]? = some z) : eZ f M a b (l.take (q + 1)) = eZ f M a b (l.take q) ++ (if clB f M a b z.toNat = true then [⟨(a : Int), (b : Int), z⟩] else []) := by
 unfold eZ;rw [List.take_add_one, h, List.filter_append, List.map_append]
 congr 1
 cases hc : clB f M a b z.toNat <;> simp [hc]
theorem eZ_all {f : Fac} {M : List (List Nat)} {a b n : Nat} : eZ f M a b (readF f.frm (b : Int) n) = eR f M a b n := by
 unfold eZ eR readF readN;rw [List.filter_map, List.map_map, List.filter_filter];have : (List.range n).filter (fun r => ((fun z : Int => clB f M a b z.toNat) ∘ fun (i : Nat) => (i : Int)) r && (decide (0 ≤ (b : Int)) && decide (f.frm.getD r 0 = (b : Int)))) = (List.range n).filter (clB f M a b) := by
  refine List.filter_congr fun r _ => ?_;simp only [Function.comp_apply, Int.toNat_natCast]
  cases hc : clB f M a b r with
  | false => rfl
  | true =>
   unfold clB at hc;simp only [Bool.and_eq_true, decide_eq_true_eq] at hc;rw [decide_eq_true hc.1.2, decide_eq_true (by omega : 0 ≤ (b : Int))]; rfl
 rw [this]
 rfl
theorem mem_colF {M : List (List Nat)} {o : Int} {n : Nat} {z : Int} : z ∈ colF M o n ↔ ∃ i : Nat, i < n ∧ z = (i : Int) ∧ hasM M (i : Int) o = true := by
 unfold colF colN;rw [List.mem_map]
 constructor
 ·rintro ⟨i, hi, rfl⟩
  obtain ⟨h1, h2⟩ := List.mem_filter.1 hi;exact ⟨i, List.mem_range.1 h1, rfl, h2⟩
 ·rintro ⟨i, h1, rfl, h2⟩
  exact ⟨i, List.mem_filter.2 ⟨List.mem_range.2 h1, h2⟩, rfl⟩
theorem wrs_nodup (is : List It) (v : Int) (M : List (List Nat)) (o : Int) (n : Nat) : (wrsF is v (colF M o n)).Nodup := by
 unfold wrsF colF colN;refine List.Pairwise.filter _ ?_;refine List.Pairwise.map _ (R := (· ≠ ·)) (fun a b h e => h (by omega)) ?_
 exact List.Pairwise.filter _ List.nodup_range
theorem wrs_len (is : List It) (v : Int) (M : List (List Nat)) (o : Int) (n : Nat) : (wrsF is v (colF M o n)).length ≤ n := by
 unfold wrsF colF colN;refine Nat.le_trans (List.length_filter_le _ _) ?_;rw [List.length_map];exact Nat.le_trans (List.length_filter_le _ _) (by simp)
theorem mem_wrs {is : List It} {v : Int} {M : List (List Nat)} {o : Int} {n : Nat} {z : Int} : z ∈ wrsF is v (colF M o n) ↔ ∃ (i : Nat) (y : It), i < n ∧ z = (i : Int) ∧ hasM M (i : Int) o = true ∧ is[i]? = some y ∧ y.wr = true ∧ y.va = v := by
 unfold wrsF;rw [List.mem_filter, mem_colF];unfold wrOK
 constructor
 ·rintro ⟨⟨i, h1, rfl, h2⟩, h3⟩
  rw [Int.toNat_natCast, Bool.and_eq_true] at h3
  cases hy : is[i]? with
  | none => rw [hy] at h3; simp at h3
  | some y =>
   rw [hy] at h3;simp only [Bool.and_eq_true, decide_eq_true_eq] at h3;exact ⟨i, y, h1, rfl, h2, hy, h3.2.1, h3.2.2⟩
 ·rintro ⟨i, y, h1, rfl, h2, h3, h4, h5⟩
  refine ⟨⟨i, h1, rfl, h2⟩, ?_⟩;rw [Int.toNat_natCast, h3]
  simp [h4, h5]
theorem clB_wrs {f : Fac} {M : List (List Nat)} {a b n r : Nat} {x : It} (hn : f.items.length = n) (hx : f.items[b]? = some x) (hw : x.wr = true) (hr : f.frm.getD r 0 = (b : Int)) (ha : a < n) :
  clB f M a b r = true ↔ (a : Int) ∈ wrsF f.items x.va (colF M (r : Int) n) ∧ a ≠ b := by
 have hy := List.getElem?_eq_getElem (show a < f.items.length by omega);rw [mem_wrs];unfold clB;rw [bothW_at hy hx, hr, hw];simp only [Bool.and_eq_true, decide_eq_true_eq, Bool.and_true]
 constructor
 ·rintro ⟨⟨⟨h1, h2, h3⟩, -⟩, h4⟩
  exact ⟨⟨a, _, ha, rfl, h4, hy, h2, h3⟩, h1⟩
 ·rintro ⟨⟨i, y, h1, h2, h3, h4, h5, h6⟩, h7⟩
  obtain rfl : a = i := by omega
  rw [hy] at h4;injection h4 with h4;subst h4;exact ⟨⟨⟨h7, h5, h6⟩, trivial⟩, h3⟩
theorem map_range_put {α : Type} {n s : Nat} {F G : Nat → List α} {x : α} (hs : s < n) (h1 : G s = F s ++ [x]) (h2 : ∀ a, a < n → a ≠ s → G a = F a) : ((List.range n).map F).set s (F s ++ [x]) = (List.range n).map G := by
 apply List.ext_getElem (by simp)
 intro i k1 k2;rw [List.getElem_map, List.getElem_range];by_cases hi : s = i
 ·subst hi
  rw [List.getElem_set_self, h1]
 ·rw [List.getElem_set_ne hi, List.getElem_map, List.getElem_range]
  exact (h2 i (by simpa using k2) (fun e => hi e.symm)).symm
theorem map_range_eq {α : Type} {n : Nat} {F G : Nat → List α} (h : ∀ a, a < n → F a = G a) : (List.range n).map F = (List.range n).map G :=
 List.map_congr_left fun a ha => h a (List.mem_range.1 ha)
theorem map_range_get {α : Type} {n s : Nat} {F : Nat → List α} (hs : s < n) : ((List.range n).map F)[s]? = some (F s) := by
 rw [List.getElem?_map, List.getElem?_range hs]; rfl
theorem oneE_take {a b j : Nat} {z : Int} {ws : List Int} {s : Nat} (hnd : ws.Nodup) (h : ws[j]? = some (s : Int)) :
  oneE a b z (ws.take (j + 1)) = if a = s ∧ s ≠ b then oneE a b z (ws.take j) ++ [⟨(a : Int), (b : Int), z⟩] else oneE a b z (ws.take j) := by
 have hj := (List.getElem?_eq_some_iff.1 h).1;have hmem : (s : Int) ∉ ws.take j := fun hm => by
  obtain ⟨i, hi, e⟩ := List.getElem_of_mem hm;rw [List.length_take] at hi;rw [List.getElem_take] at e;have e2 := (List.getElem?_eq_some_iff.1 h).2;have := (List.getElem_inj (h₀ := (by omega : i < ws.length)) (h₁ := hj) hnd).1 (by rw [e, e2])
  omega
 have hmm : (a : Int) ∈ ws.take (j + 1) ↔ (a : Int) ∈ ws.take j ∨ a = s := by
  rw [List.take_add_one, h, List.mem_append, Option.toList_some, List.mem_singleton];refine or_congr Iff.rfl ?_
  omega
 unfold oneE;by_cases hs : a = s
 ·subst hs
  by_cases hb : a = b
  ·subst hb; simp
  ·rw [if_pos ⟨hmm.2 (.inr rfl), hb⟩, if_pos ⟨rfl, hb⟩, if_neg (fun h => hmem h.1)]; rfl
 ·rw [if_neg (fun h : a = s ∧ s ≠ b => hs h.1)]
  congr 1
  rw [hmm]
  simp [hs]
theorem oneE_all {f : Fac} {M : List (List Nat)} {a b n r : Nat} {x : It} (hn : f.items.length = n) (hx : f.items[b]? = some x) (hw : x.wr = true) (hr : f.frm.getD r 0 = (b : Int)) (ha : a < n) :
  oneE a b (r : Int) (wrsF f.items x.va (colF M (r : Int) n)) = if clB f M a b r = true then [⟨(a : Int), (b : Int), (r : Int)⟩] else [] := by
 unfold oneE;by_cases h : clB f M a b r = true
 ·rw [if_pos h, if_pos ((clB_wrs hn hx hw hr ha).1 h)]
 ·rw [if_neg h, if_neg (fun k => h ((clB_wrs hn hx hw hr ha).2 k))]
def by0 (f : Fac) (M : List (List Nat)) (n k : Nat) : List (List Ed) := (List.range n).map fun a => eB f M a n k
def by1 (f : Fac) (M : List (List Nat)) (n k : Nat) (rs : List Int) : List (List Ed) := (List.range n).map fun a => eB f M a n k ++ eZ f M a k rs
def by2 (f : Fac) (M : List (List Nat)) (n k : Nat) (rs : List Int) (z : Int) (ws : List Int) : List (List Ed) := (List.range n).map fun a => (eB f M a n k ++ eZ f M a k rs) ++ oneE a k z ws
theorem by0_zero (f : Fac) (M : List (List Nat)) (n : Nat) : by0 f M n 0 = List.replicate n [] := by
 unfold by0
 apply List.ext_getElem (by simp)
 intro i h1 h2
 simp [eB_zero]
theorem by1_nil (f : Fac) (M : List (List Nat)) (n k : Nat) : by1 f M n k [] = by0 f M n k := by
 unfold by1 by0; refine map_range_eq fun a _ => ?_; rw [eZ_nil, List.append_nil]
theorem by2_nil (f : Fac) (M : List (List Nat)) (n k : Nat) (rs : List Int) (z : Int) : by2 f M n k rs z [] = by1 f M n k rs := by
 unfold by2 by1; refine map_range_eq fun a _ => ?_; rw [oneE_nil, List.append_nil]
theorem by1_all (f : Fac) (M : List (List Nat)) (n k : Nat) : by1 f M n k (readF f.frm (k : Int) n) = by0 f M n (k + 1) := by
 unfold by1 by0; refine map_range_eq fun a _ => ?_; rw [eZ_all, eB_succ]
theorem by2_all {f : Fac} {M : List (List Nat)} {n k q r : Nat} {x : It} {rs : List Int} (hn : f.items.length = n) (hx : f.items[k]? = some x) (hw : x.wr = true) (hr : f.frm.getD r 0 = (k : Int)) (hq : rs[q]? = some (r : Int)) :
  by2 f M n k (rs.take q) (r : Int) (wrsF f.items x.va (colF M (r : Int) n)) = by1 f M n k (rs.take (q + 1)) := by
 unfold by2 by1;refine map_range_eq fun a ha => ?_;rw [oneE_all hn hx hw hr ha, eZ_take hq, Int.toNat_natCast, List.append_assoc]
theorem by2_step {f : Fac} {M : List (List Nat)} {n k j s : Nat} {rs ws : List Int} {z : Int} (hs : s < n) (hnd : ws.Nodup) (h : ws[j]? = some (s : Int)) (hne : s ≠ k) :
  (by2 f M n k rs z (ws.take j)).set s (((eB f M s n k ++ eZ f M s k rs) ++ oneE s k z (ws.take j)) ++ [⟨(s : Int), (k : Int), z⟩]) = by2 f M n k rs z (ws.take (j + 1)) := by
 unfold by2;refine map_range_put (F := fun a => (eB f M a n k ++ eZ f M a k rs) ++ oneE a k z (ws.take j)) hs ?_ fun a _ ha => ?_
 ·rw [oneE_take hnd h, if_pos ⟨rfl, hne⟩, List.append_assoc _ (oneE s k z (ws.take j))]
 ·rw [oneE_take hnd h, if_neg (fun h => ha h.1)]
theorem by2_skip {f : Fac} {M : List (List Nat)} {n k j : Nat} {rs ws : List Int} {z : Int} (hnd : ws.Nodup) (h : ws[j]? = some (k : Int)) : by2 f M n k rs z (ws.take (j + 1)) = by2 f M n k rs z (ws.take j) := by
 unfold by2;refine map_range_eq fun a _ => ?_;rw [oneE_take hnd h, if_neg (fun h => h.2 rfl)]
theorem by2_at {f : Fac} {M : List (List Nat)} {n k s : Nat} {rs ws : List Int} {z : Int} (hs : s < n) : (by2 f M n k rs z ws)[s]? = some ((eB f M s n k ++ eZ f M s k rs) ++ oneE s k z ws) := by unfold by2; exact map_range_get hs
theorem by2_len (f : Fac) (M : List (List Nat)) {n k s q j : Nat} {rs ws : List Int} {z : Int} (hn : n ≤ 64) (hk : k ≤ n) (hq : rs.length ≤ n) : (((eB f M s n k ++ eZ f M s k (rs.take q)) ++ oneE s k z (ws.take j)).length) ≤ 8192 := by
 rw [List.length_append, List.length_append];have h1 := eB_len f M s n k;have h2 := eZ_len f M s k (rs.take q);have h3 := oneE_len s k z (ws.take j);rw [List.length_take] at h2;have h4 : k * n ≤ 64 * 64 := Nat.mul_le_mul (by omega) hn
 omega
theorem by0_flat (f : Fac) (M : List (List Nat)) : (by0 f M f.items.length f.items.length).flatten = edgesF f M := by
 unfold by0 edgesF eA;rw [List.flatMap_def]
theorem or_pairs {f : Fac} {M : List (List Nat)} (hG : Good f.items.length M) : Good f.items.length (foldP f.items.length (edP (edgesF f M))) ∧ orM M (foldP f.items.length (edP (edgesF f M))) = cfX f M := by
 have hn := Good.new (n := f.items.length) hG.le;have h1 := fold_facts (edP (edgesF f M)) (newM f.items.length) hn edP_ok;have hF : Good f.items.length (foldP f.items.length (edP (edgesF f M))) := h1.1;have h2 := orM_good hG hF;refine ⟨hF, rel_ext h2.1 (cfX_good hG) fun i j => ?_⟩;rw [h2.2, cfX_rel hG];have : Rel (foldP f.items.length (edP (edgesF f M))) i j ↔ ((i : Int), (j : Int)) ∈ edP (edgesF f M) := by
  unfold Rel foldP;rw [h1.2, Bool.or_eq_true, decide_eq_true_eq]
  constructor
  ·rintro (h | h)
   ·rw [newM_has] at h; cases h
   ·exact h
  ·exact .inr
 rw [this]
end Go.Proofs.YtjhjojklfdjmdaaGreat

namespace Go.Proofs.YtjhjojklfdjmdaaGreat
set_option maxRecDepth 100000
set_option maxHeartbeats 8000000
open Go.RowKit Go.Maps
set_option linter.unusedSectionVars false

end Go.Proofs.YtjhjojklfdjmdaaGreat
