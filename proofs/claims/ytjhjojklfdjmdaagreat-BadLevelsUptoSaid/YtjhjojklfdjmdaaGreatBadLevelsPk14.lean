/- Plain mathematics of layer 17's own code: conflicts that are sought by W2 and R, and kept apart by W1; the hull of a matrix laid over another. Nothing of the program is named. The code's own contracts of layer 10: a map of first writes, Check, Write. The code's own contracts of layer 6, first half: names, slices.Grow, slices.Concat, slices.Equal, slices.EqualFunc at operations; Flat, Same. The contracts of slices.Equal at the parts of facts, and of the code's own Same. The code's own contracts of layer 11: copies of lists, a map of writes whose keys are arrays, what each item reads from, Fill, Whole, Readers. The code's own contracts of layer 17, first half: slices.Grow and slices.Concat at conflicts; Edges. The code's own contracts of layer 17, second half: pairs (the writes of conflicts), Cf. The code's own contract of layer 19: cyclicCF. -/
import Derived.Test.YtjhjojklfdjmdaaGreatBadLevelsPk4
import Derived.Maps.OwnSet
import Derived.Maps.OwnOps
import Derived.DeepKeys4
import Derived.Test.YtjhjojklfdjmdaaGreatBadLevelsPk5
import Derived.Lib.AppendZeros
import Derived.RangeFuncRecord
import Derived.Test.YtjhjojklfdjmdaaGreatBadLevelsPk8
import Derived.Test.YtjhjojklfdjmdaaGreatBadLevelsPk9
import Derived.Test.YtjhjojklfdjmdaaGreatBadLevelsPk3
import Derived.Test.YtjhjojklfdjmdaaGreatBadLevelsPk6
import Derived.Test.YtjhjojklfdjmdaaGreatBadLevelsPk13
namespace Go.Proofs.YtjhjojklfdjmdaaGreat
open Go.RowKit
set_option linter.unusedVariables false

/-- conflicts of a and b, by reads out of l -/
def eZ (f : Fac) (M : List (List Nat)) (a b : Nat) (l : List Int) : List Ed := (l.filter fun z => clB f M a b z.toNat).map fun z => (⟨(a : Int), (b : Int), z⟩ : Ed)
/-- the conflict of a, b and z, where a is among ws -/
def oneE (a b : Nat) (z : Int) (ws : List Int) : List Ed := if (a : Int) ∈ ws ∧ a ≠ b then [⟨(a : Int), (b : Int), z⟩] else []
theorem eZ_nil (f : Fac) (M : List (List Nat)) (a b : Nat) : eZ f M a b [] = [] := rfl
theorem oneE_nil (a b : Nat) (z : Int) : oneE a b z [] = [] := by unfold oneE; simp
theorem eZ_len (f : Fac) (M : List (List Nat)) (a b : Nat) (l : List Int) : (eZ f M a b l).length ≤ l.length := by unfold eZ; rw [List.length_map]; exact List.length_filter_le _ _
theorem oneE_len (a b : Nat) (z : Int) (ws : List Int) : (oneE a b z ws).length ≤ 1 := by unfold oneE; split <;> simp
theorem eZ_take {f : Fac} {M : List (List Nat)} {a b q : Nat} {l : List Int} {z : Int} (h : l[q]? = some z) : eZ f M a b (l.take (q + 1)) = eZ f M a b (l.take q) ++ (if clB f M a b z.toNat = true then [⟨(a : Int), (b : Int), z⟩] else []) := by
  unfold eZ
  rw [List.take_add_one, h, List.filter_append, List.map_append]
  congr 1
  cases hc : clB f M a b z.toNat <;> simp [hc]
theorem eZ_all {f : Fac} {M : List (List Nat)} {a b n : Nat} : eZ f M a b (readF f.frm (b : Int) n) = eR f M a b n := by
  unfold eZ eR readF readN
  rw [List.filter_map, List.map_map, List.filter_filter]
  have : (List.range n).filter (fun r => ((fun z : Int => clB f M a b z.toNat) ∘ fun (i : Nat) => (i : Int)) r && (decide (0 ≤ (b : Int)) && decide (f.frm.getD r 0 = (b : Int)))) = (List.range n).filter (clB f M a b) := by
    refine List.filter_congr fun r _ => ?_
    simp only [Function.comp_apply, Int.toNat_natCast]
    cases hc : clB f M a b r with
    | false => rfl
    | true =>
      unfold clB at hc
      simp only [Bool.and_eq_true, decide_eq_true_eq] at hc
      rw [decide_eq_true hc.1.2, decide_eq_true (by omega : 0 ≤ (b : Int))]; rfl
  rw [this]
  rfl
theorem mem_colF {M : List (List Nat)} {o : Int} {n : Nat} {z : Int} : z ∈ colF M o n ↔ ∃ i : Nat, i < n ∧ z = (i : Int) ∧ hasM M (i : Int) o = true := by
  unfold colF colN
  rw [List.mem_map]
  constructor
  · rintro ⟨i, hi, rfl⟩
    obtain ⟨h1, h2⟩ := List.mem_filter.1 hi
    exact ⟨i, List.mem_range.1 h1, rfl, h2⟩
  · rintro ⟨i, h1, rfl, h2⟩
    exact ⟨i, List.mem_filter.2 ⟨List.mem_range.2 h1, h2⟩, rfl⟩
theorem wrs_nodup (is : List It) (v : Int) (M : List (List Nat)) (o : Int) (n : Nat) : (wrsF is v (colF M o n)).Nodup := by
  unfold wrsF colF colN
  refine List.Pairwise.filter _ ?_
  refine List.Pairwise.map _ (R := (· ≠ ·)) (fun a b h e => h (by omega)) ?_
  exact List.Pairwise.filter _ List.nodup_range
theorem wrs_len (is : List It) (v : Int) (M : List (List Nat)) (o : Int) (n : Nat) : (wrsF is v (colF M o n)).length ≤ n := by
  unfold wrsF colF colN
  refine Nat.le_trans (List.length_filter_le _ _) ?_
  rw [List.length_map]
  exact Nat.le_trans (List.length_filter_le _ _) (by simp)
theorem mem_wrs {is : List It} {v : Int} {M : List (List Nat)} {o : Int} {n : Nat} {z : Int} : z ∈ wrsF is v (colF M o n) ↔ ∃ (i : Nat) (y : It), i < n ∧ z = (i : Int) ∧ hasM M (i : Int) o = true ∧ is[i]? = some y ∧ y.wr = true ∧ y.va = v := by
  unfold wrsF
  rw [List.mem_filter, mem_colF]
  unfold wrOK
  constructor
  · rintro ⟨⟨i, h1, rfl, h2⟩, h3⟩
    rw [Int.toNat_natCast, Bool.and_eq_true] at h3
    cases hy : is[i]? with
    | none => rw [hy] at h3; simp at h3
    | some y =>
      rw [hy] at h3
      simp only [Bool.and_eq_true, decide_eq_true_eq] at h3
      exact ⟨i, y, h1, rfl, h2, hy, h3.2.1, h3.2.2⟩
  · rintro ⟨i, y, h1, rfl, h2, h3, h4, h5⟩
    refine ⟨⟨i, h1, rfl, h2⟩, ?_⟩
    rw [Int.toNat_natCast, h3]
    simp [h4, h5]
/-- of a reader r of the write b: who has a conflict is a write of its variable ahead of r -/
theorem clB_wrs {f : Fac} {M : List (List Nat)} {a b n r : Nat} {x : It} (hn : f.items.length = n) (hx : f.items[b]? = some x) (hw : x.wr = true) (hr : f.frm.getD r 0 = (b : Int)) (ha : a < n) :
    clB f M a b r = true ↔ (a : Int) ∈ wrsF f.items x.va (colF M (r : Int) n) ∧ a ≠ b := by
  have hy := List.getElem?_eq_getElem (show a < f.items.length by omega)
  rw [mem_wrs]
  unfold clB
  rw [bothW_at hy hx, hr, hw]
  simp only [Bool.and_eq_true, decide_eq_true_eq, Bool.and_true]
  constructor
  · rintro ⟨⟨⟨h1, h2, h3⟩, -⟩, h4⟩
    exact ⟨⟨a, _, ha, rfl, h4, hy, h2, h3⟩, h1⟩
  · rintro ⟨⟨i, y, h1, h2, h3, h4, h5, h6⟩, h7⟩
    obtain rfl : a = i := by omega
    rw [hy] at h4
    injection h4 with h4
    subst h4
    exact ⟨⟨⟨h7, h5, h6⟩, trivial⟩, h3⟩
theorem map_range_put {α : Type} {n s : Nat} {F G : Nat → List α} {x : α} (hs : s < n) (h1 : G s = F s ++ [x]) (h2 : ∀ a, a < n → a ≠ s → G a = F a) : ((List.range n).map F).set s (F s ++ [x]) = (List.range n).map G := by
  apply List.ext_getElem (by simp)
  intro i k1 k2
  rw [List.getElem_map, List.getElem_range]
  by_cases hi : s = i
  · subst hi
    rw [List.getElem_set_self, h1]
  · rw [List.getElem_set_ne hi, List.getElem_map, List.getElem_range]
    exact (h2 i (by simpa using k2) (fun e => hi e.symm)).symm
theorem map_range_eq {α : Type} {n : Nat} {F G : Nat → List α} (h : ∀ a, a < n → F a = G a) : (List.range n).map F = (List.range n).map G :=
  List.map_congr_left fun a ha => h a (List.mem_range.1 ha)
theorem map_range_get {α : Type} {n s : Nat} {F : Nat → List α} (hs : s < n) : ((List.range n).map F)[s]? = some (F s) := by
  rw [List.getElem?_map, List.getElem?_range hs]; rfl
theorem oneE_take {a b j : Nat} {z : Int} {ws : List Int} {s : Nat} (hnd : ws.Nodup) (h : ws[j]? = some (s : Int)) :
    oneE a b z (ws.take (j + 1)) = if a = s ∧ s ≠ b then oneE a b z (ws.take j) ++ [⟨(a : Int), (b : Int), z⟩] else oneE a b z (ws.take j) := by
  have hj := (List.getElem?_eq_some_iff.1 h).1
  have hmem : (s : Int) ∉ ws.take j := fun hm => by
    obtain ⟨i, hi, e⟩ := List.getElem_of_mem hm
    rw [List.length_take] at hi
    rw [List.getElem_take] at e
    have e2 := (List.getElem?_eq_some_iff.1 h).2
    have := (List.getElem_inj (h₀ := (by omega : i < ws.length)) (h₁ := hj) hnd).1 (by rw [e, e2])
    omega
  have hmm : (a : Int) ∈ ws.take (j + 1) ↔ (a : Int) ∈ ws.take j ∨ a = s := by
    rw [List.take_add_one, h, List.mem_append, Option.toList_some, List.mem_singleton]
    refine or_congr Iff.rfl ?_
    omega
  unfold oneE
  by_cases hs : a = s
  · subst hs
    by_cases hb : a = b
    · subst hb; simp
    · rw [if_pos ⟨hmm.2 (.inr rfl), hb⟩, if_pos ⟨rfl, hb⟩, if_neg (fun h => hmem h.1)]; rfl
  · rw [if_neg (fun h : a = s ∧ s ≠ b => hs h.1)]
    congr 1
    rw [hmm]
    simp [hs]
theorem oneE_all {f : Fac} {M : List (List Nat)} {a b n r : Nat} {x : It} (hn : f.items.length = n) (hx : f.items[b]? = some x) (hw : x.wr = true) (hr : f.frm.getD r 0 = (b : Int)) (ha : a < n) :
    oneE a b (r : Int) (wrsF f.items x.va (colF M (r : Int) n)) = if clB f M a b r = true then [⟨(a : Int), (b : Int), (r : Int)⟩] else [] := by
  unfold oneE
  by_cases h : clB f M a b r = true
  · rw [if_pos h, if_pos ((clB_wrs hn hx hw hr ha).1 h)]
  · rw [if_neg h, if_neg (fun k => h ((clB_wrs hn hx hw hr ha).2 k))]
/-- the lists, behind k second writes, q readers of the next one, j writes ahead of the next reader -/
def by0 (f : Fac) (M : List (List Nat)) (n k : Nat) : List (List Ed) := (List.range n).map fun a => eB f M a n k
def by1 (f : Fac) (M : List (List Nat)) (n k : Nat) (rs : List Int) : List (List Ed) := (List.range n).map fun a => eB f M a n k ++ eZ f M a k rs
def by2 (f : Fac) (M : List (List Nat)) (n k : Nat) (rs : List Int) (z : Int) (ws : List Int) : List (List Ed) := (List.range n).map fun a => (eB f M a n k ++ eZ f M a k rs) ++ oneE a k z ws
theorem by0_zero (f : Fac) (M : List (List Nat)) (n : Nat) : by0 f M n 0 = List.replicate n [] := by
  unfold by0
  apply List.ext_getElem (by simp)
  intro i h1 h2
  simp [eB_zero]
theorem by1_nil (f : Fac) (M : List (List Nat)) (n k : Nat) : by1 f M n k [] = by0 f M n k := by
  unfold by1 by0; refine map_range_eq fun a _ => ?_; rw [eZ_nil, List.append_nil]
theorem by2_nil (f : Fac) (M : List (List Nat)) (n k : Nat) (rs : List Int) (z : Int) : by2 f M n k rs z [] = by1 f M n k rs := by
  unfold by2 by1; refine map_range_eq fun a _ => ?_; rw [oneE_nil, List.append_nil]
theorem by1_all (f : Fac) (M : List (List Nat)) (n k : Nat) : by1 f M n k (readF f.frm (k : Int) n) = by0 f M n (k + 1) := by
  unfold by1 by0; refine map_range_eq fun a _ => ?_; rw [eZ_all, eB_succ]
theorem by2_all {f : Fac} {M : List (List Nat)} {n k q r : Nat} {x : It} {rs : List Int} (hn : f.items.length = n) (hx : f.items[k]? = some x) (hw : x.wr = true) (hr : f.frm.getD r 0 = (k : Int)) (hq : rs[q]? = some (r : Int)) :
    by2 f M n k (rs.take q) (r : Int) (wrsF f.items x.va (colF M (r : Int) n)) = by1 f M n k (rs.take (q + 1)) := by
  unfold by2 by1
  refine map_range_eq fun a ha => ?_
  rw [oneE_all hn hx hw hr ha, eZ_take hq, Int.toNat_natCast, List.append_assoc]
theorem by2_step {f : Fac} {M : List (List Nat)} {n k j s : Nat} {rs ws : List Int} {z : Int} (hs : s < n) (hnd : ws.Nodup) (h : ws[j]? = some (s : Int)) (hne : s ≠ k) :
    (by2 f M n k rs z (ws.take j)).set s (((eB f M s n k ++ eZ f M s k rs) ++ oneE s k z (ws.take j)) ++ [⟨(s : Int), (k : Int), z⟩]) = by2 f M n k rs z (ws.take (j + 1)) := by
  unfold by2
  refine map_range_put (F := fun a => (eB f M a n k ++ eZ f M a k rs) ++ oneE a k z (ws.take j)) hs ?_ fun a _ ha => ?_
  · rw [oneE_take hnd h, if_pos ⟨rfl, hne⟩, List.append_assoc _ (oneE s k z (ws.take j))]
  · rw [oneE_take hnd h, if_neg (fun h => ha h.1)]
theorem by2_skip {f : Fac} {M : List (List Nat)} {n k j : Nat} {rs ws : List Int} {z : Int} (hnd : ws.Nodup) (h : ws[j]? = some (k : Int)) : by2 f M n k rs z (ws.take (j + 1)) = by2 f M n k rs z (ws.take j) := by
  unfold by2
  refine map_range_eq fun a _ => ?_
  rw [oneE_take hnd h, if_neg (fun h => h.2 rfl)]
theorem by2_at {f : Fac} {M : List (List Nat)} {n k s : Nat} {rs ws : List Int} {z : Int} (hs : s < n) : (by2 f M n k rs z ws)[s]? = some ((eB f M s n k ++ eZ f M s k rs) ++ oneE s k z ws) := by unfold by2; exact map_range_get hs
theorem by2_len (f : Fac) (M : List (List Nat)) {n k s q j : Nat} {rs ws : List Int} {z : Int} (hn : n ≤ 64) (hk : k ≤ n) (hq : rs.length ≤ n) : (((eB f M s n k ++ eZ f M s k (rs.take q)) ++ oneE s k z (ws.take j)).length) ≤ 8192 := by
  rw [List.length_append, List.length_append]
  have h1 := eB_len f M s n k
  have h2 := eZ_len f M s k (rs.take q)
  have h3 := oneE_len s k z (ws.take j)
  rw [List.length_take] at h2
  have h4 : k * n ≤ 64 * 64 := Nat.mul_le_mul (by omega) hn
  omega
theorem by0_flat (f : Fac) (M : List (List Nat)) : (by0 f M f.items.length f.items.length).flatten = edgesF f M := by
  unfold by0 edgesF eA
  rw [List.flatMap_def]
/-- the pairs of conflicts as a matrix, laid over one, are it with them -/
theorem or_pairs {f : Fac} {M : List (List Nat)} (hG : Good f.items.length M) : Good f.items.length (foldP f.items.length (edP (edgesF f M))) ∧ orM M (foldP f.items.length (edP (edgesF f M))) = cfX f M := by
  have hn := Good.new (n := f.items.length) hG.le
  have h1 := fold_facts (edP (edgesF f M)) (newM f.items.length) hn edP_ok
  have hF : Good f.items.length (foldP f.items.length (edP (edgesF f M))) := h1.1
  have h2 := orM_good hG hF
  refine ⟨hF, rel_ext h2.1 (cfX_good hG) fun i j => ?_⟩
  rw [h2.2, cfX_rel hG]
  have : Rel (foldP f.items.length (edP (edgesF f M))) i j ↔ ((i : Int), (j : Int)) ∈ edP (edgesF f M) := by
    unfold Rel foldP
    rw [h1.2, Bool.or_eq_true, decide_eq_true_eq]
    constructor
    · rintro (h | h)
      · rw [newM_has] at h; cases h
      · exact h
    · exact .inr
  rw [this]
end Go.Proofs.YtjhjojklfdjmdaaGreat

namespace Go.Proofs.YtjhjojklfdjmdaaGreat
open Go.RowKit Go.Maps
set_option linter.unusedVariables false
end Go.Proofs.YtjhjojklfdjmdaaGreat

namespace Go.Proofs.YtjhjojklfdjmdaaGreat
open Go.RowKit
set_option linter.unusedVariables false
set_option linter.unusedSectionVars false

end Go.Proofs.YtjhjojklfdjmdaaGreat

namespace Go.Proofs.YtjhjojklfdjmdaaGreat
open Go.RowKit
set_option linter.unusedVariables false
end Go.Proofs.YtjhjojklfdjmdaaGreat

namespace Go.Proofs.YtjhjojklfdjmdaaGreat
open Go.RowKit Go.Maps
set_option linter.unusedVariables false
theorem readF_none {frm : List Int} {w : Int} {n : Nat} (h : ∀ i, i < n → ¬ (0 ≤ w ∧ frm.getD i 0 = w)) : readF frm w n = [] := by
  unfold readF readN
  rw [List.filter_eq_nil_iff.2 (fun i hi => by
    have := h i (List.mem_range.1 hi)
    simp only [Bool.and_eq_true, decide_eq_true_eq]
    exact this)]
  rfl
theorem fromF_writes {is : List It} {i : Nat} {w : Int} (hi : i < is.length) (h0 : 0 ≤ w) (h : (fromF is).getD i 0 = w) : ∃ x, is[w.toNat]? = some x ∧ x.wr = true := by
  rw [List.getD_eq_getElem?_getD, fromF_at (List.getElem?_eq_getElem hi)] at h
  have h : fromOne is is[i] = w := h
  unfold fromOne at h
  split at h
  · omega
  · split at h
    · omega
    · cases ho : writeF is (is[i]).va (is[i]).vl with
      | none => rw [ho] at h; simp only at h; omega
      | some k =>
        rw [ho] at h
        simp only at h
        obtain ⟨x, h1, h2, _⟩ := writeF_some ho
        simp only [hitW, Bool.and_eq_true, decide_eq_true_eq] at h2
        exact ⟨x, by rw [← h, Int.toNat_natCast]; exact h1, h2.1⟩
set_option maxRecDepth 100000 in
set_option maxHeartbeats 2000000 in
theorem origin_ReadersF (v : FV) (f : Fac) (x : Int) (w : World) (hF : FactsAt w v f) (hm : v.m ≤ 1048576) (hfr : f.frm = fromF f.items) :
    Calls Tryz.prog 86 #[.agg #[.slice v.A v.n v.c, .slice v.B v.m v.d, .slice v.C v.k v.e], .int .i64 x] w (fun e w' => ∃ A n c, e = .returned (.slice A n c) ∧ LAt encI w' A n (readF f.frm x f.items.length) ∧ n ≤ c ∧ c ≤ 9223372036854775807 ∧ Below w.heap.size w w' ∧ ∀ ad, A = some ad → w.heap.size ≤ ad.block) := by
  have hil := hF.is.len
  have hfl := hF.fs.len
  have hk : v.k = v.m := by rw [← hfl, ← hil, hfr, fromF_len]
  have hno1 : (∀ y, f.items[x.toNat]? = some y → y.wr = true → 0 ≤ x → False) → readF f.frm x f.items.length = [] := fun h => readF_none (fun i hi hh => by
    rw [hfr] at hh
    obtain ⟨y, h1, h2⟩ := fromF_writes hi hh.1 hh.2
    exact h y h1 h2 hh.1)
  rw [hil] at hno1 ⊢
  obtain ⟨i0, hi, hz0, hz1, hz2⟩ := info_parts info_int2
  have hkv := Lib.hid hk
  replace hi := Lib.hid hi
  replace hz0 := Lib.hid hz0
  replace hz1 := Lib.hid hz1
  replace hz2 := Lib.hid hz2
  clear hk hfr
  replace hil := Lib.hid hil
  replace hfl := Lib.hid hfl
  -- a call with facts v: they are boxed at g, the world is W0 then
  have hB0 := Lib.hid (FBox.new hF)
  obtain ⟨g, hg⟩ : ∃ g, g = w.heap.size := ⟨_, rfl⟩
  obtain ⟨W0, hW0⟩ : ∃ W, W = w.alloc (.cells #[.slice v.A v.n v.c, .slice v.B v.m v.d, .slice v.C v.k v.e] 29) := ⟨_, rfl⟩
  rw [← hW0, ← hg] at hB0
  clear hF
  have p0 := hB0.out.c0
  have p1 := hB0.out.c1
  have p2 := hB0.out.c2
  by_cases hx0 : x < 0
  · have hr := Lib.hid (hno1 (fun y _ _ h => by omega))
    have e0 : decide (x < 0) = true := decide_eq_true hx0
    clear hno1
    go_enter Tryz.func86, Tryz.ntmps86
    go_wp2_with (rw [← hW0, ← hg]; clear hW0 hg)
    go_ret
    rw [hr.out]
    exact ⟨none, 0, 0, rfl, LAt.nil _ _ _, Nat.le_refl _, by omega, hB0.out.o, fun ad e => by cases e⟩
  · have e0 : decide (x < 0) = false := decide_eq_false hx0
    by_cases hxm : (v.m : Int) ≤ x
    · have hr := Lib.hid (hno1 (fun y h _ _ => by
        have := (List.getElem?_eq_some_iff.1 h).1
        have := hil.out
        omega))
      have e1 : decide ((v.m : Int) ≤ x) = true := decide_eq_true hxm
      clear hno1
      go_enter Tryz.func86, Tryz.ntmps86
      go_wp2_with (rw [← hW0, ← hg]; clear hW0 hg)
      go_ret
      rw [hr.out]
      exact ⟨none, 0, 0, rfl, LAt.nil _ _ _, Nat.le_refl _, by omega, hB0.out.o, fun ad e => by cases e⟩
    · have e1 : decide ((v.m : Int) ≤ x) = false := decide_eq_false hxm
      obtain ⟨m, rfl⟩ : ∃ m : Nat, x = (m : Int) := ⟨x.toNat, by omega⟩
      obtain ⟨ib, io, y, hyB, hib, hy, hyo, i0', i1, i2, i3, i4⟩ := hB0.out.f.is.item (show m < v.m by omega)
      rw [hyB] at p1
      cases hyw : y.wr with
      | false =>
        rw [hyw] at i2
        have hr := Lib.hid (hno1 (fun y' h hw _ => by
          rw [Int.toNat_natCast, hy] at h
          injection h with h
          subst h
          rw [hyw] at hw; cases hw))
        clear hno1 hyB hy hyo hyw
        go_enter Tryz.func86, Tryz.ntmps86
        go_wp2_with (rw [← hW0, ← hg]; clear hW0 hg)
        go_ret
        rw [hr.out]
        exact ⟨none, 0, 0, rfl, LAt.nil _ _ _, Nat.le_refl _, by omega, hB0.out.o, fun ad e => by cases e⟩
      | true =>
        rw [hyw] at i2
        clear hno1 hyB hy hyo hyw
        go_enter Tryz.func86, Tryz.ntmps86
        go_wp2_with (rw [← hW0, ← hg]; clear hW0 hg)
        clear i0' i1 i2 i3 i4 p0 p1 p2 hib
        go_loopw [5, 29] (fun u t wr => ∃ k : Nat, k ≤ v.k ∧ t = .int .i64 k ∧ Hid (Below W0.heap.size W0 wr) ∧ Hid (wr.ownsRow W0.heap.size 3 1 u (readF f.frm m k).length (encI.all (readF f.frm m k)))) (fun _ t _ => v.k - (intOf t).toNat)
        case atStart => exact ⟨0, Nat.zero_le _, rfl, Lib.hid (Below.refl _ _), Lib.hid (World.ownsRow_nil _ _ _ _)⟩
        case round =>
          obtain ⟨k, hkm, rfl, hb, hown⟩ := hrel
          have hB := Lib.hid (hB0.out.later hb.out)
          have hrl := readF_len f.frm m k
          have hrs := readF_succ f.frm m k
          obtain ⟨L, hL⟩ : ∃ L, L = (readF f.frm m k).length := ⟨_, rfl⟩
          rw [← hL] at hown hrl
          have hkv2 := hkv.out
          by_cases hlt : k < v.k
          · have hlt' : (k : Int) < (v.k : Int) := by omega
            have hkw : (k : Int) + 1 < 9223372036854775808 := by omega
            obtain ⟨ic, jo, z, hzC, hic, hz, hzo, j0⟩ := hB.out.f.fs.int hlt
            rw [hzC]
            have hgd : f.frm.getD k 0 = z := by rw [List.getD_eq_getElem?_getD, hz]; rfl
            rw [hgd] at hrs
            replace hgd := Lib.hid hgd
            replace hkv2 := Lib.hid hkv2
            by_cases hzx : z = (m : Int)
            · rw [if_pos (by simp [hzx])] at hrs
              have e1 : (z == (m : Int)) = true := by simp [hzx]
              obtain ⟨gl, hgl⟩ : ∃ g, g = wr.heap.size := ⟨_, rfl⟩
              obtain ⟨VL, hVL⟩ : ∃ W, W = wr.alloc (.cells #[.int .i64 (k : Int)] 3) := ⟨_, rfl⟩
              have bL : Below wr.heap.size wr VL := by rw [hVL]; exact (Below.refl _ _).alloc (Nat.le_refl _) _
              have hlit := Lib.hid (show LAt encI VL (some ⟨gl, 0, none⟩) 1 [(k : Int)] from by rw [hVL, hgl]; exact LAt.lit1 (E := encI) wr 3 (k : Int) ⟨by omega, by omega⟩)
              have hownL := Lib.hid (own_below hown.out bL)
              have bWL := Lib.hid (below_trans2 hb.out bL)
              have hbase := Lib.hid bWL.out.size
              replace hzx := Lib.hid hzx
              replace hrs := Lib.hid hrs
              replace hL := Lib.hid hL
              have hL22 : L ≤ 1048576 := by have := hkv2.out; omega
              replace hzC := Lib.hid hzC
              clear hz hzo bL hown hlt
              go_wp2_with (first
                | (rw [← hVL, ← hgl]; clear hVL hgl)
                | (at_builtin; refine wpList_append_L (E := encI) rfl (.tmp 37) (.tmp 39) _ rfl W0.heap.size 3 i0 _ 8 Tryz.underlying27 hi.out hz0.out hz1.out hz2.out rfl _ L (readF f.frm m k) (by rfl) hownL.out _ 1 1 _ rfl hlit.out (by unfold maxLen; omega) (by omega) hbase.out ?_; intro v' w7 hown' hb7 _ _))
              refine ⟨⟨k + 1, by omega, by go_num, Lib.hid (bWL.out.trans hb7), Lib.hid (by rw [hrs.out, List.length_append, ← hL.out]; exact hown')⟩, by simp [intOf]; omega⟩
            · rw [if_neg (by simp [hzx])] at hrs
              have e1 : (z == (m : Int)) = false := by simp [hzx]
              replace hzx := Lib.hid hzx
              replace hrs := Lib.hid hrs
              replace hL := Lib.hid hL
              replace hzC := Lib.hid hzC
              clear hz hzo hlt
              go_wp2_with fail
              exact ⟨⟨k + 1, by omega, by go_num, hb, Lib.hid (by rw [hrs.out, ← hL.out]; exact hown.out)⟩, by simp [intOf]; omega⟩
          · have hlt' : ¬ (k : Int) < (v.k : Int) := by omega
            have hkm : k = v.m := by omega
            subst hkm
            have hfr := Lib.hid (own_lt_block hown.out)
            obtain ⟨A, c, rfl, hnc, hcm, hLA⟩ := LAt.of_own hown.out (fun z hz => by
              have := readF_ok f.frm m v.m z hz
              exact ⟨by omega, by omega⟩) hL.symm
            clear hlt hkv2
            replace hL := Lib.hid hL
            go_wp2_with fail
            go_ret
            exact ⟨A, _, c, rfl, hLA, hnc, hcm, hB.out.o, fun ad e => by subst e; exact Nat.le_trans hB0.out.o.size (hfr.out _ rfl)⟩
end Go.Proofs.YtjhjojklfdjmdaaGreat

namespace Go.Proofs.YtjhjojklfdjmdaaGreat
open Go.RowKit
set_option linter.unusedVariables false
set_option maxRecDepth 100000 in
set_option maxHeartbeats 2000000 in
/-- slices.Grow(nil, n): no elements, room for n -/
theorem grow_edges (n : Nat) (hn : n ≤ 4398046511104) (w : World) :
    Calls Tryz.prog 115 #[.slice none 0 0, .int .i64 n] w fun e w' => ∃ v, e = .returned v ∧ w'.ownsRow w.heap.size 84 3 v 0 [] ∧ Below w.heap.size w w' := by
  obtain ⟨i0, hi, hz0, hz1, hz2⟩ := info_parts info_edge
  have h1 : ¬ ((n : Int) < 0) := by omega
  by_cases h0 : n = 0
  · subst h0
    go_enter Tryz.func115, Tryz.ntmps115
    go_wp2_with fail
    go_ret
    exact ⟨_, rfl, World.ownsRow_nil _ _ _ _, Below.refl _ _⟩
  · have h4 : (0 : Int) < (n : Int) := by omega
    have hrz : ∀ ty, (Builtin.append_ #[79, 3] ty #[.slice none 0 0, .int .i64 (n : Int)]).run Tryz.prog w =
        .ok (.slice (some ⟨w.heap.size, 0, none⟩) n (grownCap w n 0 84)) (w.drew.alloc (.cells (Builtin.zeroCells (Value.agg #[.int .i64 0, .int .i64 0, .int .i64 0]).cells n ++ Builtin.zeroCells (Value.agg #[.int .i64 0, .int .i64 0, .int .i64 0]).cells (grownCap w n 0 84 - n)) 84)) := fun ty =>
      Lib.run_append_nil_zeros w 79 3 ty 84 i0 _ .i64 .i64 Tryz.underlying79 Tryz.underlying3 hi hz0 n (by omega) (by rw [hz1]; decide) (by omega) (by rw [hz2]; omega)
    have hge : n ≤ grownCap w n 0 84 := grownCap_ge w _ _ _
    have hle : grownCap w n 0 84 ≤ maxLen := grownCap_le_maxLen w n 0 _ (by unfold maxLen; omega)
    obtain ⟨G, hG⟩ : ∃ G, G = grownCap w n 0 84 := ⟨_, rfl⟩
    rw [← hG] at hrz hge hle
    clear hG
    have hG63 : G ≤ 9223372036854775807 := by unfold maxLen at hle; omega
    obtain ⟨Z, hZ⟩ : ∃ Z, Z = Builtin.zeroCells (Value.agg #[.int .i64 0, .int .i64 0, .int .i64 0]).cells n ++ Builtin.zeroCells (Value.agg #[.int .i64 0, .int .i64 0, .int .i64 0]).cells (G - n) := ⟨_, rfl⟩
    have hZs : Z.size = G * 3 := by rw [hZ]; simp [size_zeroCells, Value.cells]; omega
    rw [← hZ] at hrz
    clear hZ
    go_enter Tryz.func115, Tryz.ntmps115
    go_wp2_with (at_builtin; refine Lib.wpList_append_run _ rfl _ _ _ _ rfl _ _ rfl rfl _ _ (hrz _) ?_)
    go_ret
    refine ⟨_, rfl, ?_, (((Below.refl _ w).drew).alloc (Nat.le_refl _) _)⟩
    exact ⟨rfl, .inr ⟨_, G, Z, rfl, Nat.le_refl _, World.alloc_heap_new _ _, Nat.zero_le _, hle, hZs, rfl⟩⟩
theorem flatten_take {α : Type} {ls : List (List α)} {k : Nat} {l : List α} (h : ls[k]? = some l) : (ls.take (k + 1)).flatten = (ls.take k).flatten ++ l := by
  rw [List.take_add_one, h, List.flatten_append]; simp
theorem flatten_take_le {α : Type} (ls : List (List α)) (k : Nat) : (ls.take k).flatten.length ≤ ls.flatten.length := by
  conv => rhs; rw [← List.take_append_drop k ls]
  rw [List.flatten_append, List.length_append]; omega
set_option maxRecDepth 100000 in
set_option maxHeartbeats 4000000 in
theorem concat_edges (B go n : Nat) (vs : List Value) (ls : List (List Ed)) (w : World) (hS : SlotsM encE 79 84 B go n w vs ls) (hn : n ≤ 1048576) (hF : ls.flatten.length ≤ 1048576) :
    Calls Tryz.prog 87 #[.slice (some ⟨go, 0, none⟩) n n] w (RetEL ls.flatten w) := by
  obtain ⟨i0, hi, hz0, hz1, hz2⟩ := info_parts info_edge
  have hll : Hid (ls.length = n) := Lib.hid (by rw [← hS.s.len, hS.vlen])
  have hok : Hid (∀ x ∈ ls.flatten, Ed.Ok x) := Lib.hid (fun x hx => by
    obtain ⟨l, hl, hxl⟩ := List.mem_flatten.1 hx
    obtain ⟨k, hk, rfl⟩ := List.getElem_of_mem hl
    obtain ⟨A, m, c, l, -, h2, -, -, -, -, h7, -⟩ := hS.get (s := k) (by rw [← hll.out]; exact hk)
    rw [List.getElem?_eq_getElem hk] at h2
    injection h2 with h2
    subst h2
    exact h7 x hxl)
  have cG := fun (k : Nat) (hk : k ≤ 4398046511104) (W : World) => grow_edges k hk W
  replace cG := Lib.hid cG
  replace hS := Lib.hid hS
  replace hi := Lib.hid hi
  replace hz0 := Lib.hid hz0
  replace hz1 := Lib.hid hz1
  replace hz2 := Lib.hid hz2
  obtain ⟨FL, hFL⟩ : ∃ z : Nat → List Ed, z = fun k => (ls.take k).flatten := ⟨_, rfl⟩
  have hst : Hid (∀ (k : Nat) (l : List Ed), ls[k]? = some l → FL (k + 1) = FL k ++ l) := Lib.hid (fun k l h => by rw [hFL]; exact flatten_take h)
  have hle : Hid (∀ k, (FL k).length ≤ 1048576) := Lib.hid (fun k => by rw [hFL]; exact Nat.le_trans (flatten_take_le ls k) hF)
  have hzero : Hid (FL 0 = []) := Lib.hid (by rw [hFL]; simp)
  have hend : Hid (FL n = ls.flatten) := Lib.hid (by rw [hFL]; simp only; rw [List.take_of_length_le (by rw [hll.out]; exact Nat.le_refl _)])
  clear hFL
  go_enter Tryz.func87, Tryz.ntmps87
  go_wp2_with fail
  go_loop [3, 11] (fun s i => ∃ k N : Nat, k ≤ n ∧ i = .int .i64 k ∧ s = .int .i64 N ∧ Hid (N = (FL k).length)) (fun _ i => n - (intOf i).toNat)
  case atStart => exact ⟨0, 0, Nat.zero_le _, rfl, rfl, Lib.hid (by rw [hzero.out]; rfl)⟩
  case round =>
    obtain ⟨k, N, hk, rfl, rfl, hN⟩ := hrel
    by_cases hlt : k < n
    · obtain ⟨A, m, c, l, -, hl, hlm, hcell, -, -, -, hmc, hm63, -⟩ := hS.out.get hlt
      have hlen := hst.out k l hl
      have hle1 := hle.out (k + 1)
      rw [hlen, List.length_append, hlm, ← hN.out] at hle1
      have hlt' : (k : Int) < (n : Int) := by omega
      have hnn : ¬ ((N : Int) + (m : Int) < 0) := by omega
      have hNm : Hid (N + m = (FL (k + 1)).length) := Lib.hid (by rw [hlen, List.length_append, hlm, ← hN.out])
      clear hlen
      replace hl := Lib.hid hl
      replace hlm := Lib.hid hlm
      replace hmc := Lib.hid hmc
      clear hlt
      go_wp2_with fail
      go_round
      case rel => exact ⟨k + 1, N + m, by omega, by go_num, by go_num, hNm⟩
      case measure => simp [intOf]; omega
    · have hkn : k = n := by omega
      subst hkn
      have hkn' : ¬ (k : Int) < (k : Int) := by omega
      have hN' : N ≤ 4398046511104 := by rw [hN.out]; exact Nat.le_trans (hle.out k) (by omega)
      clear hlt
      have cG1 := Lib.hid (cG.out N hN' w)
      go_wp2_with fail
      refine cG1.out.mono ?_; rintro e w1 ⟨v, rfl, hown1, b1⟩
      replace hown1 := Lib.hid hown1
      replace b1 := Lib.hid b1
      go_wp2_with fail
      go_loopw [6, 27] (fun v i wr => ∃ q : Nat, q ≤ k ∧ i = .int .i64 q ∧ Hid (wr.ownsRow w.heap.size 84 3 v (FL q).length (encE.all (FL q))) ∧ Hid (Below w.heap.size w wr)) (fun _ i _ => k - (intOf i).toNat)
      case atStart => exact ⟨0, Nat.zero_le _, rfl, Lib.hid (by rw [hzero.out]; exact hown1.out), b1⟩
      case round =>
        obtain ⟨q, hq, rfl, hown, hb⟩ := hrel
        have hLq := hle.out q
        obtain ⟨L, hLl⟩ : ∃ L, L = (FL q).length := ⟨_, rfl⟩
        rw [← hLl] at hown hLq
        replace hLl := Lib.hid hLl
        by_cases hlt : q < k
        · obtain ⟨A, m, c, l, -, hl, hlm, hcell, -, -, -, hmc, hm63, hLA⟩ := (hS.out.later hb.out).get hlt
          have hlen := hst.out q l hl
          have hle1 := hle.out (q + 1)
          rw [hlen, List.length_append, hlm, ← hLl.out] at hle1
          have hlt' : (q : Int) < (k : Int) := by omega
          have hbase := Lib.hid hb.out.size
          replace hlen := Lib.hid hlen
          replace hl := Lib.hid hl
          replace hlm := Lib.hid hlm
          replace hmc := Lib.hid hmc
          replace hLA := Lib.hid hLA
          clear hlt
          go_wp2_with (at_builtin; refine wpList_append_L (E := encE) rfl (.tmp 31) (.tmp 32) _ rfl w.heap.size 84 i0 _ 24 Tryz.underlying79 hi.out hz0.out hz1.out hz2.out rfl _ L (FL q) (by rfl) hown.out _ m c l rfl hLA.out (by unfold maxLen; omega) (by omega) hbase.out ?_; intro v' w7 hown' hb7 _ _)
          exact ⟨⟨q + 1, by omega, by go_num, Lib.hid (by rw [hlen.out, List.length_append, hlm.out, ← hLl.out]; exact hown'), Lib.hid (hb.out.trans hb7)⟩, by simp [intOf]; omega⟩
        · have hqk : q = k := by omega
          subst hqk
          have hlt' : ¬ (q : Int) < (q : Int) := by omega
          obtain ⟨A', c', rfl, hnc, hcm, hLA⟩ := LAt.of_own hown.out (fun z hz => by rw [hend.out] at hz; exact hok.out z hz) hLl.out.symm
          rw [hend.out] at hLA
          replace hLA := Lib.hid hLA
          clear hlt
          go_wp2_with fail
          go_ret
          exact ⟨A', L, c', rfl, hLA.out, hnc, hcm, hb.out⟩
theorem info_edges : (Tryz.prog.info? 79).map (fun i => (i.zero, i.size, i.bytes)) = some (some (.slice none 0 0), 1, 24) := by kernel_rfl
theorem mk_edges (kl kc : IntKind) (n : Nat) (hc : n ≤ 1099511627776) (W : World) :
    (Instr.makeSlice 123 (.int kl (n : Int)) (.int kc (n : Int))).run Tryz.prog W = .ok (.slice (some ⟨W.heap.size, 0, none⟩) n n) (W.alloc (.cells (zeros n (.slice none 0 0)) 79)) := by
  obtain ⟨i, hi, hz0, hz1, hz2⟩ := info_parts info_edges
  exact run_make_one _ _ i _ Tryz.underlying123 hi hz0 hz1 rfl kl kc n n (Nat.le_refl _) (by rw [hz2]; omega) (by omega) W
set_option maxRecDepth 100000 in
set_option maxHeartbeats 8000000 in
theorem clash_Edges (v : FV) (f : Fac) (A : Option Addr) (c : Nat) (a : List (List Nat)) (w : World) (hF : FactsAt w v f) (hr : RowsAt w A v.m a) (hG : Good v.m a) (hm : v.m < 64) (hvc : v.m ≤ c) (hw : WholeF f) (hfr : f.frm = fromF f.items) :
    Calls Tryz.prog 57 #[.agg #[.slice v.A v.n v.c, .slice v.B v.m v.d, .slice v.C v.k v.e], .agg #[.int .i64 (v.m : Int), .slice A v.m c]] w (RetEL (edgesF f a) w) := by
  have hil := hF.is.len
  have hflat := by0_flat f a
  have hEl := eA_len f a f.items.length f.items.length
  have hEq : edgesF f a = eA f a f.items.length f.items.length := rfl
  rw [← hEq] at hEl
  rw [hil] at hflat hEl
  have hEl2 : (edgesF f a).length ≤ 1048576 := by
    have q1 : v.m * (v.m * v.m) ≤ 64 * (64 * 64) := Nat.mul_le_mul (by omega) (Nat.mul_le_mul (by omega) (by omega))
    omega
  rw [← hflat] at hEl2 ⊢
  clear hflat hEl hEq
  have cO := Lib.hid (fun (i : Nat) (W : World) hW => origin_ReadersF v f (i : Int) W hW (by omega) hfr)
  have cP := Lib.hid (fun (z : Int) (W : World) hW => past_OfF A v.m c a z W hW hG)
  have cW := Lib.hid (fun (B : Option Addr) (m d : Nat) (l : List Int) (vr : Int) (W : World) hW hL hm' => past_WritesF v f B m d l vr W hW hL hm' (by omega))
  rw [hil] at cO
  have hwr : Hid (∀ (k z : Nat), z < v.m → f.frm.getD z 0 = (k : Int) → ∃ x, f.items[k]? = some x ∧ x.wr = true) := Lib.hid (fun k z hz h => by
    rw [hfr] at h
    have := fromF_writes (w := (k : Int)) (by omega) (by omega) h
    rwa [Int.toNat_natCast] at this)
  replace hil := Lib.hid hil
  clear hw hfr hG
  have mkS := mk_edges .i64 .i64 v.m (by omega)
  obtain ⟨i0, hi, hz0, hz1, hz2⟩ := info_parts info_edge
  replace hi := Lib.hid hi
  replace hz0 := Lib.hid hz0
  replace hz1 := Lib.hid hz1
  replace hz2 := Lib.hid hz2
  -- a call with facts v and the matrix (A v.m c a), hr : RowsAt w ..: boxed at g (W0), gm (W1): hB1, hM1
  -- a call with facts v: they are boxed at g, the world is W0 then
  have hB0 := Lib.hid (FBox.new hF)
  obtain ⟨g, hg⟩ : ∃ g, g = w.heap.size := ⟨_, rfl⟩
  obtain ⟨W0, hW0⟩ : ∃ W, W = w.alloc (.cells #[.slice v.A v.n v.c, .slice v.B v.m v.d, .slice v.C v.k v.e] 29) := ⟨_, rfl⟩
  rw [← hW0, ← hg] at hB0
  clear hF
  replace hr := hr.below hB0.out.o
  have hM1 := Lib.hid (MatK.new (N := (v.m : Int)) (c := c) W0 57 hr)
  obtain ⟨gm, hgm⟩ : ∃ g, g = W0.heap.size := ⟨_, rfl⟩
  obtain ⟨W1, hW1⟩ : ∃ W, W = W0.alloc (.cells #[.int .i64 (v.m : Int), .slice A v.m c] 57) := ⟨_, rfl⟩
  rw [← hW1, ← hgm] at hM1
  have hB1 := Lib.hid (hB0.out.later (show Below W0.heap.size W0 W1 from by rw [hW1]; exact below_alloc _ _))
  clear hr hB0
  obtain ⟨go, hgo⟩ : ∃ g, g = W1.heap.size := ⟨_, rfl⟩
  obtain ⟨W2, hW2⟩ : ∃ W, W = W1.alloc (.cells (zeros v.m (.slice none 0 0)) 79) := ⟨_, rfl⟩
  have b2 := Lib.hid (show Below W1.heap.size W1 W2 from by rw [hW2]; exact below_alloc _ _)
  have hS2 := Lib.hid (show SlotsM encE 79 84 W1.heap.size go v.m W2 (List.replicate v.m (.slice none 0 0)) (by0 f a v.m 0) from by rw [hW2, hgo, by0_zero]; exact SlotsM.start W1 _ (by unfold maxLen; omega))
  obtain ⟨vB, hvB⟩ : ∃ b, b = v.B := ⟨_, rfl⟩
  have hF1 : Hid (∀ W, FBox w g v f W → W.cell? ⟨g, 0, none⟩ = some (.slice v.A v.n v.c) ∧ W.cell? ⟨g, 1, none⟩ = some (.slice vB v.m v.d) ∧ W.cell? ⟨g, 2, none⟩ = some (.slice v.C v.k v.e)) := Lib.hid (fun W h => ⟨h.c0, by rw [hvB]; exact h.c1, h.c2⟩)
  rw [← hvB] at cO cW hW0 ⊢
  replace hvB := Lib.hid hvB
  obtain ⟨p0, p1, p2⟩ := hF1.out W1 hB1.out
  go_enter Tryz.func57, Tryz.ntmps57
  go_wp2_with (first | (rw [← hW0, ← hg]; clear hW0 hg) | (rw [← hW1, ← hgm]; clear hW1 hgm) | (rw [← hW2, ← hgo]; clear hW2; replace hgo := Lib.hid hgo; obtain ⟨q0, q1, q2⟩ := hF1.out W2 (hB1.out.later b2.out)))
  clear p0 p1 p2 q0 q1 q2 mkS
  go_loopw [19] (fun t wr => ∃ (k : Nat) (vs : List Value), k ≤ v.m ∧ t = .int .i64 (k : Int) ∧ Hid (Below W1.heap.size W1 wr) ∧ Hid (SlotsM encE 79 84 W1.heap.size go v.m wr vs (by0 f a v.m k))) (fun t _ => v.m - (intOf t).toNat)
  case atStart => exact ⟨0, _, Nat.zero_le _, rfl, b2, hS2⟩
  case round =>
    obtain ⟨k, vs, hk, rfl, hb, hS⟩ := hrel
    have hB := Lib.hid (hB1.out.later hb.out)
    by_cases hlt : k < v.m
    · have hlt' : (k : Int) < (v.m : Int) := by omega
      have k0 : 0 ≤ (k : Int) ∧ (k : Int) < (v.m : Int) := ⟨by omega, hlt'⟩
      obtain ⟨ib, io, x, hxB, hib, hx, -, i0', i1, i2, i3, i4⟩ := hB.out.f.is.item hlt
      have hvb : vB = some ⟨ib, io, none⟩ := hvB.out.trans hxB
      subst hvb
      obtain ⟨p0, p1, p2⟩ := hF1.out wr hB.out
      replace hxB := Lib.hid hxB
      obtain ⟨gx, hgx⟩ : ∃ g, g = wr.heap.size := ⟨_, rfl⟩
      obtain ⟨W3, hW3⟩ : ∃ W, W = wr.alloc (.cells #[.int .i64 x.se, .int .i64 x.pl, .bool x.wr, .int .i64 x.va, .int .i64 x.vl] 43) := ⟨_, rfl⟩
      have b3 : Below wr.heap.size wr W3 := by rw [hW3]; exact (Below.refl _ _).alloc (Nat.le_refl _) _
      have hX3 := Lib.hid (show Blk W3 gx 43 [.int .i64 x.se, .int .i64 x.pl, .bool x.wr, .int .i64 x.va, .int .i64 x.vl] from by rw [hW3, hgx]; exact Blk.new wr _ _)
      have hgx3 := Lib.hid (show Apart go vs gx from hS.out.fresh (by rw [hgx]; exact Nat.le_refl _))
      have hB3 := Lib.hid (hB.out.later b3)
      have hS3 := Lib.hid (hS.out.later b3)
      have hb3 := Lib.hid (below_trans2 hb.out b3)
      replace hx := Lib.hid hx
      clear hlt hib
      go_wp2_with (rw [← hW3, ← hgx]; clear hW3 hgx b3; obtain ⟨q0, q1, q2⟩ := hF1.out W3 hB3.out)
      clear p0 p1 p2 q0 q1 q2 i0' i1 i2 i3 i4
      refine (cO.out k W3 hB3.out.f).mono ?_; rintro e wR ⟨D, nr, dr, rfl, hL, hnd, hdm, bR, hDn⟩
      have hXR := Lib.hid (hX3.out.below bR hX3.out.lt)
      have hxa := Lib.hid (show Apart go vs gx from hgx3.out)
      have hDa := Lib.hid (show ∀ ad, D = some ad → Apart go vs ad.block from fun ad e => hS3.out.fresh (hDn ad e))
      have hSR := Lib.hid (hS3.out.later bR)
      have hbR := Lib.hid (below_trans2 hb3.out bR)
      have hLR := Lib.hid hL
      have hrl := Lib.hid (show (readF f.frm (k : Int) v.m).length = nr from hL.len)
      have hrn : nr ≤ v.m := by rw [← hrl.out]; exact readF_len _ _ _
      obtain ⟨rs, hrs⟩ : ∃ rs, rs = readF f.frm (k : Int) v.m := ⟨_, rfl⟩
      rw [← hrs] at hLR hrl
      replace hrs := Lib.hid hrs
      clear hL bR hDn hB hb hS hB3 hS3 hb3 hX3 hgx3
      go_wp2_with fail
      go_loopw [28] (fun t wr => ∃ (q : Nat) (vs' : List Value), q ≤ nr ∧ t = .int .i64 (q : Int) ∧ Hid (Below W1.heap.size W1 wr) ∧ Hid (SlotsM encE 79 84 W1.heap.size go v.m wr vs' (by1 f a v.m k (rs.take q))) ∧ Hid (Mv go wR vs wr vs')) (fun t _ => nr - (intOf t).toNat)
      case atStart => exact ⟨0, vs, Nat.zero_le _, rfl, hbR, Lib.hid (by rw [List.take_zero, by1_nil]; exact hSR.out), Lib.hid (Mv.refl _ _ _)⟩
      case round =>
        clear hbR hSR
        obtain ⟨q, vs1, hq, rfl, hb, hS, hMv⟩ := hrel
        have hB := Lib.hid (hB1.out.later hb.out)
        by_cases hlq : q < nr
        · have hlq' : (q : Int) < (nr : Int) := by omega
          have q0 : 0 ≤ (q : Int) ∧ (q : Int) < (nr : Int) := ⟨by omega, hlq'⟩
          obtain ⟨rb, ro, z, rfl, hrb, hz, -, r0⟩ := (hMv.out.lat hLR.out hDa.out).int hlq
          have hzz := readF_at (show (readF f.frm (k : Int) v.m)[q]? = some z by rw [← hrs.out]; exact hz)
          obtain ⟨r, rfl⟩ : ∃ r : Nat, z = (r : Int) := ⟨z.toNat, by omega⟩
          rw [Int.toNat_natCast] at hzz
          have hrm : r < v.m := by omega
          have hfrm := Lib.hid hzz.2.2.2
          obtain ⟨x', hx', hxw⟩ := hwr.out k r hrm hfrm.out
          obtain rfl : x' = x := by have h := hx.out; rw [hx'] at h; injection h
          have hxw' := Lib.hid hxw
          replace hx' := Lib.hid hx'
          replace hz := Lib.hid hz
          clear hzz hxw hlq hrb
          go_wp2_with fail
          refine wp_region_plan 9 [(true, 0), (true, 1), (true, 2), (true, 4), (true, 5), (true, 8), (false, 3), (false, 6), (true, 7)] (by kernel_rfl) (by kernel_rfl) (fun U hU => ?_)
          have hU' : Below wr.heap.size wr U := by rw [hU.out]; exact (Below.refl _ _).drew
          have hBU := Lib.hid (hB.out.later hU')
          have hSU := Lib.hid (hS.out.later hU')
          have hMU := Lib.hid (hMv.out.later hU')
          have hbU := Lib.hid (below_trans2 hb.out hU')
          have hmU := Lib.hid (hM1.out.below hbU.out)
          have hXU := Lib.hid (hMU.out.blk hXR.out hxa.out)
          clear hU hU' r0 hB hS hMv hb
          simp only [List.drop_succ_cons, List.drop_nil]
          obtain ⟨p0, p1, p2⟩ := hF1.out U hBU.out
          have m0 := hmU.out.1.c0
          have m1 := hmU.out.1.c1
          have x3 := hXU.out.cell 3
          simp only [List.getElem?_cons_zero, List.getElem?_cons_succ] at x3
          iterate 6
            refine wpPlan_float (v := ?_) rfl (by rfl) (fun w' hw' => ?_) (fun K hK => ?_)
            rotate_left
            · (go_simp; try with_reducible rfl)
            go_simp
            refine hK _ ?_
            clear hK K
          clear p0 p1 p2 m0 m1 x3
          refine wpPlan_only rfl (by rfl) (fun K hK => ?_)
          go_simp
          refine (cP.out (r : Int) U hmU.out.2).mono ?_
          rintro e y1 ⟨D1, n1, d1, rfl, hL1, hn1, hd1, b1, hD1⟩
          refine hK _ _ b1 ?_
          clear hK K
          have hl1 : n1 ≤ v.m := by rw [← hL1.len]; unfold colF colN; rw [List.length_map]; exact Nat.le_trans (List.length_filter_le _ _) (by simp)
          refine wpPlan_only rfl (by rfl) (fun K hK => ?_)
          go_simp
          refine (cW.out D1 n1 d1 _ x'.va y1 (hBU.out.later b1).f hL1 (by omega)).mono ?_
          rintro e y2 ⟨D2, n2, d2, rfl, hL2, hn2, hd2, b2', hD2⟩
          refine hK _ _ b2' ?_
          clear hK K
          have b12 := below_trans2 b1 b2'
          have hBy := Lib.hid (hBU.out.later b12)
          have hSy := Lib.hid (hSU.out.later b12)
          have hMy := Lib.hid (hMU.out.later b12)
          have hby := Lib.hid (below_trans2 hbU.out b12)
          have hDa2 := Lib.hid (show ∀ ad, D2 = some ad → Apart go vs1 ad.block from fun ad e => (hSU.out.later b1).fresh (hD2 ad e))
          have hnd := wrs_nodup f.items x'.va a (r : Int) v.m
          have hn2m : n2 ≤ v.m := by rw [← hL2.len]; exact wrs_len _ _ _ _ _
          obtain ⟨ws, hws⟩ : ∃ ws, ws = wrsF f.items x'.va (colF a (r : Int) v.m) := ⟨_, rfl⟩
          rw [← hws] at hL2 hnd
          have hwl := Lib.hid hL2.len
          have hws2 : Hid (∀ z ∈ ws, ∃ i : Nat, i < v.m ∧ z = (i : Int)) := Lib.hid (fun z hz => by
            rw [hws] at hz
            obtain ⟨i, y, h1, h2, -⟩ := mem_wrs.1 hz
            exact ⟨i, h1, h2⟩)
          replace hws := Lib.hid hws
          replace hL2 := Lib.hid hL2
          replace hnd := Lib.hid hnd
          clear hL1 hD1 hD2 b1 b2' b12 hBU hSU hMU hbU hmU hXU hl1 hn1 hd1
          iterate 1
            refine wpPlan_float (v := ?_) rfl (by rfl) (fun w' hw' => ?_) (fun K hK => ?_)
            rotate_left
            · (go_simp; try with_reducible rfl)
            go_simp
            refine hK _ ?_
            clear hK K
          refine wpPlan_nil (NoPanic.normal ?_)
          go_wp2_with fail
          go_loopw [40] (fun t wr => ∃ (j : Nat) (vs' : List Value), j ≤ n2 ∧ t = .int .i64 (j : Int) ∧ Hid (Below W1.heap.size W1 wr) ∧ Hid (SlotsM encE 79 84 W1.heap.size go v.m wr vs' (by2 f a v.m k (rs.take q) (r : Int) (ws.take j))) ∧ Hid (Mv go y2 vs1 wr vs')) (fun t _ => n2 - (intOf t).toNat)
          case atStart => exact ⟨0, vs1, Nat.zero_le _, rfl, hby, Lib.hid (by rw [List.take_zero, by2_nil]; exact hSy.out), Lib.hid (Mv.refl _ _ _)⟩
          case round =>
            clear hby hSy hBy
            obtain ⟨j, vs2, hj, rfl, hb, hS, hMv⟩ := hrel
            by_cases hlj : j < n2
            · have hlj' : (j : Int) < (n2 : Int) := by omega
              have j0 : 0 ≤ (j : Int) ∧ (j : Int) < (n2 : Int) := ⟨by omega, hlj'⟩
              obtain ⟨wb, wo, z, rfl, hwb, hz, -, s0⟩ := (hMv.out.lat hL2.out hDa2.out).int hlj
              obtain ⟨s, hsm, rfl⟩ := hws2.out z (List.mem_of_getElem? hz)
              have s1 : 0 ≤ (s : Int) ∧ (s : Int) < (v.m : Int) := by omega
              by_cases hsk : s = k
              · have e0 : ((s : Int) != (k : Int)) = false := by simp [hsk]
                have hst := Lib.hid (by2_skip (f := f) (M := a) (n := v.m) (rs := rs.take q) (z := (r : Int)) hnd.out (show ws[j]? = some (k : Int) by rw [← hsk]; exact hz))
                replace hz := Lib.hid hz
                replace hsk := Lib.hid hsk
                clear hlj hwb
                go_wp2_with fail
                exact ⟨⟨j + 1, vs2, by omega, by go_num, hb, Lib.hid (by rw [hst.out]; exact hS.out), hMv⟩, by simp [intOf]; omega⟩
              · have e0 : ((s : Int) != (k : Int)) = true := by simp; omega
                have hst := Lib.hid (by2_step (f := f) (M := a) (rs := rs.take q) (z := (r : Int)) hsm hnd.out hz hsk)
                have hat := by2_at (f := f) (M := a) (n := v.m) (k := k) (rs := rs.take q) (z := (r : Int)) (ws := ws.take j) hsm
                have hll := by2_len f a (n := v.m) (k := k) (s := s) (q := q) (j := j) (rs := rs) (z := (r : Int)) (ws := ws) (by omega) hk (by rw [hrl.out]; exact hrn)
                obtain ⟨Lv, hLv⟩ : ∃ l, l = ((eB f a s v.m k ++ eZ f a s k (rs.take q)) ++ oneE s k (r : Int) (ws.take j)) := ⟨_, rfl⟩
                rw [← hLv] at hat hll
                have hst2 := Lib.hid (show (by2 f a v.m k (rs.take q) (r : Int) (ws.take j)).set s (Lv ++ [⟨(s : Int), (k : Int), (r : Int)⟩]) = by2 f a v.m k (rs.take q) (r : Int) (ws.take (j + 1)) by rw [hLv]; exact hst.out)
                replace hLv := Lib.hid hLv
                obtain ⟨Ai, Mi, ci, l, hvi, hli, hlm, c0, fz0, hown, hokl, hmc, hc63, -⟩ := hS.out.get hsm
                obtain rfl : l = Lv := by rw [hat] at hli; injection hli with h; exact h.symm
                rw [hlm] at hll
                replace hz := Lib.hid hz
                replace hsk := Lib.hid hsk
                replace hat := Lib.hid hat
                replace hvi := Lib.hid hvi
                replace hokl := Lib.hid hokl
                replace hlm := Lib.hid hlm
                replace hmc := Lib.hid hmc
                clear hlj hwb hst hli fz0
                obtain ⟨gl, hgl⟩ : ∃ g, g = wr.heap.size := ⟨_, rfl⟩
                obtain ⟨VL, hVL⟩ : ∃ W, W = World.alloc wr (.cells #[.int .i64 (s : Int), .int .i64 (k : Int), .int .i64 (r : Int)] 84) := ⟨_, rfl⟩
                have bL : Below wr.heap.size wr VL := by rw [hVL]; exact (Below.refl _ _).alloc (Nat.le_refl _) _
                have hokn : Hid (Ed.Ok ⟨(s : Int), (k : Int), (r : Int)⟩) := Lib.hid ⟨by simp only; omega, by simp only; omega, by simp only; omega, by simp only; omega, by simp only; omega, by simp only; omega⟩
                have hlit := Lib.hid (show LAt encE VL (some ⟨gl, 0, none⟩) 1 [⟨(s : Int), (k : Int), (r : Int)⟩] from by rw [hVL, hgl]; exact LAt.lit1 (E := encE) wr 84 ⟨(s : Int), (k : Int), (r : Int)⟩ hokn.out)
                have hownL := Lib.hid (own_below hown bL)
                have hSL := Lib.hid (hS.out.later bL)
                have hML := Lib.hid (hMv.out.later bL)
                have bWL := Lib.hid (below_trans2 hb.out bL)
                have hbase := Lib.hid bWL.out.size
                have hgoB := Lib.hid (hS.out.o.lt go rfl).1
                clear bL hown
                go_wp2_with (first
                  | (rw [← hVL, ← hgl]; clear hVL hgl)
                  | (at_builtin; refine wpList_append_L (E := encE) rfl (.tmp 52) (.tmp 57) _ rfl W1.heap.size 84 i0 _ 24 Tryz.underlying79 hi.out hz0.out hz1.out hz2.out rfl _ Mi l (by rfl) hownL.out _ 1 1 _ rfl hlit.out (by unfold maxLen; omega) (by omega) hbase.out ?_; intro v' w7 hown' hb7 hg7 hob7; obtain ⟨A5, c5, rfl, h51, h52, -⟩ := LAt.of_own hown' (fun x hx => (List.mem_append.1 hx).elim (hokl.out x) (fun h => by rw [List.mem_singleton.1 h]; exact hokn.out)) (by rw [List.length_append, hlm.out]; rfl); obtain ⟨hS7, hM7, c7, f7⟩ := hSL.out.put (by decide) hvi.out hat.out hg7 (v' := .slice A5 (Mi + 1) c5) (l' := l ++ [⟨(s : Int), (k : Int), (r : Int)⟩]) (by rw [List.length_append, hlm.out]; exact hown') (fun x hx => (List.mem_append.1 hx).elim (hokl.out x) (fun h => by rw [List.mem_singleton.1 h]; exact hokn.out)) hob7; replace hS7 := Lib.hid hS7; replace hM7 := Lib.hid hM7; have hb8 := Lib.hid ((bWL.out.trans hb7).setCell (p := ⟨go, s, none⟩) hgoB.out (.slice A5 (Mi + 1) c5)); clear hown' hb7 hg7 hob7 c0 s0))
                exact ⟨⟨j + 1, vs2.set s (.slice A5 (Mi + 1) c5), by omega, by go_num, hb8, Lib.hid (by rw [← hst2.out]; exact hS7.out), Lib.hid (hML.out.trans hM7.out)⟩, by simp [intOf]; omega⟩
            · have hjn : j = n2 := by omega
              subst hjn
              have hlj' : ¬ (j : Int) < (j : Int) := by omega
              have hall : ws.take j = ws := List.take_of_length_le (by rw [hwl.out]; exact Nat.le_refl _)
              have hend := Lib.hid (by2_all (M := a) (n := v.m) (rs := rs) hil.out hx'.out hxw'.out hfrm.out hz.out)
              rw [hall, hws.out, hend.out] at hS
              have hM2 := Lib.hid (hMy.out.trans hMv.out)
              clear hlj hall
              go_wp2_with fail
              exact ⟨⟨q + 1, vs2, by omega, by go_num, hb, hS, hM2⟩, by simp [intOf]; omega⟩
        · have hqn : q = nr := by omega
          subst hqn
          have hlq' : ¬ (q : Int) < (q : Int) := by omega
          have hall : rs.take q = rs := List.take_of_length_le (by rw [hrl.out]; exact Nat.le_refl _)
          rw [hall, hrs.out, by1_all] at hS
          clear hlq hall
          go_wp2_with fail
          exact ⟨⟨k + 1, vs1, by omega, by go_num, hb, hS⟩, by simp [intOf]; omega⟩
    · have hkn : k = v.m := by omega
      subst hkn
      have hlt' : ¬ (v.m : Int) < (v.m : Int) := by omega
      have cC := Lib.hid (concat_edges W1.heap.size go v.m vs _ wr hS.out (by omega) hEl2)
      clear hlt
      go_wp2_with fail
      refine cC.out.mono ?_; rintro e w9 ⟨E, ne, ce, rfl, hL, hnc, hcm, b9⟩
      have hbb := Lib.hid (below_trans2 hB.out.o b9)
      go_wp2_with fail
      go_ret
      exact ⟨E, ne, ce, rfl, hL, hnc, hcm, hbb.out⟩
end Go.Proofs.YtjhjojklfdjmdaaGreat

namespace Go.Proofs.YtjhjojklfdjmdaaGreat
open Go.RowKit
set_option linter.unusedVariables false
theorem PairsAt.of_blk17 {w : World} {g n : Nat} {t : TypeId} {ps : List (Int × Int)} (h : Blk w g t (cellsP ps)) (hl : ps.length = n) (ho : OkI ps) : PairsAt w (some ⟨g, 0, none⟩) n ps :=
  ⟨hl, ho, fun _ => ⟨g, 0, rfl, h.lt, fun j p hp => by
    obtain ⟨h1, h2⟩ := cellsP_get ps j p hp
    exact ⟨by rw [Nat.zero_add, h.cell]; exact h1, by rw [Nat.zero_add, h.cell]; exact h2⟩⟩⟩
theorem cells2_zero (n : Nat) : (madeCells #[.int .i64 0, .int .i64 0] (n * 2)).toList = List.replicate (n * 2) (.int .i64 0) := by
  have hz : (#[.int .i64 0, .int .i64 0] : Array Value) = Array.replicate 2 (.int .i64 0) := rfl
  rw [hz]
  unfold madeCells
  rw [Array.toList_map, Array.toList_range, Array.size_replicate]
  apply List.ext_getElem (by simp)
  intro i h1 h2
  rw [List.getElem_map, List.getElem_range, List.getElem_replicate, getElem!_pos _ _ (by rw [Array.size_replicate]; omega), Array.getElem_replicate]
/-- the pairs of the first i conflicts, then zeros: the cells of n pairs -/
def ppC (es : List Ed) (n i : Nat) : List Value := cellsP (edP (es.take i)) ++ List.replicate ((n - i) * 2) (.int .i64 0)
theorem ppC_zero (es : List Ed) (n : Nat) : ppC es n 0 = List.replicate (n * 2) (.int .i64 0) := by unfold ppC; simp [edP, cellsP]
theorem ppC_all {es : List Ed} {n : Nat} (h : es.length = n) : ppC es n n = cellsP (edP es) := by unfold ppC; rw [List.take_of_length_le (by omega)]; simp
theorem edP_snoc {es : List Ed} {i : Nat} {x : Ed} (h : es[i]? = some x) : edP (es.take (i + 1)) = edP (es.take i) ++ [(x.w1, x.w2)] := by
  unfold edP; rw [List.take_add_one, h, List.map_append]; rfl
theorem ppC_at {es : List Ed} {n i : Nat} (hi : i < n) (hl : es.length = n) : (ppC es n i)[i * 2]? = some (.int .i64 0) ∧ (ppC es n i)[i * 2 + 1]? = some (.int .i64 0) := by
  have hL : (cellsP (edP (es.take i))).length = i * 2 := by rw [cellsP_len]; unfold edP; rw [List.length_map, List.length_take]; congr 1; omega
  unfold ppC
  constructor
  · rw [List.getElem?_append_right (by omega), hL, List.getElem?_replicate, if_pos (by omega)]
  · rw [List.getElem?_append_right (by omega), hL, List.getElem?_replicate, if_pos (by omega)]
theorem ppC_step {es : List Ed} {n i : Nat} {x : Ed} (hi : i < n) (hl : es.length = n) (h : es[i]? = some x) : ((ppC es n i).set (i * 2) (.int .i64 x.w1)).set (i * 2 + 1) (.int .i64 x.w2) = ppC es n (i + 1) := by
  have hL : (cellsP (edP (es.take i))).length = i * 2 := by rw [cellsP_len]; unfold edP; rw [List.length_map, List.length_take]; congr 1; omega
  unfold ppC
  obtain ⟨k, hk⟩ : ∃ k, n - i = k + 1 := ⟨n - i - 1, by omega⟩
  rw [edP_snoc h, cellsP_snoc, hk, show n - (i + 1) = k by omega, show (k + 1) * 2 = k * 2 + 1 + 1 by omega, List.replicate_succ, List.replicate_succ]
  rw [List.set_append_right _ _ (by omega), hL, Nat.sub_self, List.set_cons_zero, List.set_append_right _ _ (by omega), hL, show i * 2 + 1 - i * 2 = 1 by omega]
  simp
theorem edP_len (es : List Ed) : (edP es).length = es.length := by unfold edP; rw [List.length_map]
end Go.Proofs.YtjhjojklfdjmdaaGreat

namespace Go.Proofs.YtjhjojklfdjmdaaGreat
open Go.RowKit
set_option linter.unusedVariables false
theorem mk_pairs19 (kl kc : IntKind) (n : Nat) (hc : n ≤ 1099511627776) (W : World) :
    (Instr.makeSlice 98 (.int kl (n : Int)) (.int kc (n : Int))).run Tryz.prog W = .ok (.slice (some ⟨W.heap.size, 0, none⟩) n n) (W.alloc (.cells (madeCells #[.int .i64 0, .int .i64 0] (n * 2)) 99)) := by
  obtain ⟨i, hi, hz0, hz1, hz2⟩ := info_parts info_pair
  have hr := run_make (P := Tryz.prog) W _ _ i _ Tryz.underlying98 hi hz0 kl kc n n (by omega) (by omega) (by rw [hz2]; omega) (by omega)
  rw [hr, hz1]
  rfl
theorem cf_of19 {f : Fac} {M : List (List Nat)} (h : f.items.length ≤ 4096) : ofN (f.items.length : Int) (edP (edgesF f M)) = (f.items.length : Int) ∧ ofM (f.items.length : Int) (edP (edgesF f M)) = foldP f.items.length (edP (edgesF f M)) ∧ ofE (f.items.length : Int) (edP (edgesF f M)) = 0 := by
  have h0 : ofOk (f.items.length : Int) (edP (edgesF f M)) = true := by
    unfold ofOk
    rw [Bool.and_eq_true, List.all_eq_true]
    exact ⟨belowZ_yes (by omega) (by omega), fun p hp => edP_ok p hp⟩
  exact ⟨by unfold ofN; rw [if_pos h0], by unfold ofM; rw [if_pos h0]; rfl, by unfold ofE; rw [if_pos h0]⟩
set_option maxRecDepth 100000 in
set_option maxHeartbeats 4000000 in
theorem bad_cyclicCF {w0 : World} {v : FV} {f : Fac} {A : Option Addr} {c s : Nat} {R : Value} (g : Nat) (U : World) (hE : EnvB v f) (hS : SrAt w0 v f A c s R U) (hW : Blk U g 34 [.int .i64 5, .int .i64 (-1), .int .i64 (-1), .int .i64 (-1), .int .i64 (-1), .slice none 0 0, .int .i64 (-1), .int .i64 (-1)]) :
    Calls Tryz.prog 34 #[.pointer (some ⟨s, 0, none⟩), .pointer (some ⟨g, 0, none⟩)] U (RetLk g 5 (roundF 5 v.m (cfM f (coM f))) U) := by
  have kW := Lib.hid hW
  have hvm := hE.hvm
  have hil := hE.hil
  have hG := hE.good
  obtain ⟨a, ha⟩ : ∃ a, a = coM f := ⟨_, rfl⟩
  have cE := Lib.hid (fun W (hS : SrAt w0 v f A c s R W) => clash_Edges v f A c (coM f) W hS.fa hS.mm hG (by omega) hS.cap hE.hw hE.hx.fr)
  have hG' : Good f.items.length (coM f) := by rw [hil]; exact hG
  have hel : Hid ((edgesF f (coM f)).length ≤ 1048576) := Lib.hid (by
    have h1 := eA_len f (coM f) f.items.length f.items.length
    have q1 : f.items.length * (f.items.length * f.items.length) ≤ 64 * (64 * 64) := Nat.mul_le_mul (by omega) (Nat.mul_le_mul (by omega) (by omega))
    have hEq : edgesF f (coM f) = eA f (coM f) f.items.length f.items.length := rfl
    rw [hEq]; omega)
  obtain ⟨o1, o2, o3⟩ := cf_of19 (f := f) (M := coM f) (by omega)
  obtain ⟨gP, hor⟩ := or_pairs hG'
  rw [hil] at o1 o2 o3 gP hor
  obtain ⟨pm, hpm⟩ : ∃ m, m = foldP v.m (edP (edgesF f (coM f))) := ⟨_, rfl⟩
  rw [← hpm] at o2 gP hor
  have hpl := Lib.hid gP.len
  have hposP := Lib.hid (fun h0 => rows_len_pos gP h0)
  have hsl := Lib.hid (hG.same_len gP)
  have gX : Good v.m (cfX f (coM f)) := by have := cfX_good hG'; rwa [hil] at this
  have hXl := Lib.hid gX.len
  have hposX := Lib.hid (fun h0 => rows_len_pos gX h0)
  have gC : Good v.m (cfM f (coM f)) := by have := (cfM_hull hG').1; rwa [hil] at this
  have hCl := Lib.hid gC.len
  have hCs := Lib.hid (fun xs (hx : xs ∈ cfM f (coM f)) => Nat.le_trans (gC.small xs hx) (show 64 ≤ 1024 by omega))
  have hcm : closeK (cfX f (coM f)) v.m = cfM f (coM f) := by unfold cfM; rw [hil]
  obtain ⟨es, hes⟩ : ∃ l, l = edgesF f (coM f) := ⟨_, rfl⟩
  have cO := Lib.hid (fun A n W hp => (mat_Of (v.m : Int) A (edgesF f (coM f)).length n (edP (edgesF f (coM f))) W hp (by have := hel.out; omega)))
  rw [o1, o2, o3] at cO
  rw [← hes] at cE hel cO
  clear o1 o2 o3 hpm hG' ha a
  replace hG := Lib.hid hG
  replace gX := Lib.hid gX
  replace hor := Lib.hid hor
  replace hcm := Lib.hid hcm
  replace hes := Lib.hid hes
  have hS0 := Lib.hid hS
  clear gP gC hil hE hS hW
  go_enter Tryz.func34, Tryz.ntmps34
  go_wp2_with fail
  refine wp_region_plan 10 [(true, 0), (true, 1), (true, 2), (true, 3), (true, 4), (true, 5), (true, 6), (true, 7), (false, 8), (true, 9)] (by kernel_rfl) (by kernel_rfl) (fun V hV => ?_)
  have hV' : Below U.heap.size U V := by rw [hV.out]; exact (Below.refl _ _).drew
  replace hS0 := Lib.hid (hS0.out.later hV')
  replace kW := Lib.hid (kW.out.below hV' kW.out.lt)
  have hbo := Lib.hid hV'
  clear hV hV'
  simp only [List.drop_succ_cons, List.drop_nil]
  -- the cells of what is looked in (hS0 : Hid SrAt): p0 .. p5
  have p0 := hS0.out.c0
  have p1 := hS0.out.c1
  have p2 := hS0.out.c2
  have p3 := hS0.out.c3
  have p4 := hS0.out.c4
  have p5 := hS0.out.c5
  iterate 8
    refine wpPlan_float (v := ?_) rfl (by rfl) (fun w' hw' => ?_) (fun K hK => ?_)
    rotate_left
    · (go_simp; try with_reducible rfl)
    go_simp
    refine hK _ ?_
    clear hK K
  clear p0 p1 p2 p3 p4 p5
  refine wpPlan_only rfl (by rfl) (fun K hK => ?_)
  go_simp
  refine (cE.out V hS0.out).mono ?_
  rintro e x1 ⟨E1, ne, ce, rfl, hL, -, -, b⟩
  refine hK _ _ b ?_
  clear hK K
  replace hS0 := Lib.hid (hS0.out.later b)
  replace kW := Lib.hid (kW.out.below b kW.out.lt)
  replace hbo := Lib.hid (below_trans2 hbo.out b)
  clear b cE
  iterate 1
    refine wpPlan_float (v := ?_) rfl (by rfl) (fun w' hw' => ?_) (fun K hK => ?_)
    rotate_left
    · (go_simp; try with_reducible rfl)
    go_simp
    refine hK _ ?_
    clear hK K
  refine wpPlan_nil (NoPanic.normal ?_)
  have hnl := hL.len
  have hne1 : ne ≤ 1048576 := by rw [← hnl]; exact hel.out
  have hokI : Hid (OkI (edP es)) := Lib.hid (fun p hp => by
    unfold edP at hp
    obtain ⟨x, hx, rfl⟩ := List.mem_map.1 hp
    have h : Ed.Ok x := hL.okAll x hx
    exact ⟨⟨h.a0, h.a1⟩, ⟨h.b0, h.b1⟩⟩)
  replace hnl := Lib.hid hnl
  replace hL := Lib.hid hL
  have mkP := mk_pairs19 .i64 .i64 ne (by omega)
  obtain ⟨gl, hgl⟩ : ∃ g, g = x1.heap.size := ⟨_, rfl⟩
  obtain ⟨W1, hW1⟩ : ∃ W, W = x1.alloc (.cells (madeCells #[.int .i64 0, .int .i64 0] (ne * 2)) 99) := ⟨_, rfl⟩
  have k1 := Lib.hid (show Blk W1 gl 99 (ppC es ne 0) from by
    rw [hW1, hgl, ppC_zero, ← cells2_zero]
    exact Blk.new x1 _ _)
  have b1 := Lib.hid (show Below x1.heap.size x1 W1 from by rw [hW1]; exact below_alloc _ _)
  have hgw := Lib.hid (show x1.heap.size ≤ gl by omega)
  go_wp2_with (rw [← hW1, ← hgl]; clear hW1; replace hgl := Lib.hid hgl)
  clear mkP
  go_loopw [29] (fun t wr => ∃ i : Nat, i ≤ ne ∧ t = .int .i64 (i : Int) ∧ Hid (Below x1.heap.size x1 wr) ∧ Hid (Blk wr gl 99 (ppC es ne i))) (fun t _ => ne - (intOf t).toNat)
  case atStart => exact ⟨0, Nat.zero_le _, rfl, b1, k1⟩
  case round =>
    obtain ⟨i, hi, rfl, hb, hk⟩ := hrel
    clear b1 k1
    by_cases hlt : i < ne
    · have hlt' : (i : Int) < (ne : Int) := by omega
      have k0 : 0 ≤ (i : Int) ∧ (i : Int) < (ne : Int) := ⟨by omega, hlt'⟩
      obtain ⟨eb, eo, x, rfl, heb, hx, hxo, x0, x1', x2⟩ := (hL.out.below hb.out).edge hlt
      obtain ⟨gx, hgx⟩ : ∃ g, g = wr.heap.size := ⟨_, rfl⟩
      obtain ⟨W3, hW3⟩ : ∃ W, W = wr.alloc (.cells #[.int .i64 x.w1, .int .i64 x.w2, .int .i64 x.rd] 84) := ⟨_, rfl⟩
      have b3 : Below wr.heap.size wr W3 := by rw [hW3]; exact (Below.refl _ _).alloc (Nat.le_refl _) _
      have hX3 := show Blk W3 gx 84 [.int .i64 x.w1, .int .i64 x.w2, .int .i64 x.rd] from by rw [hW3, hgx]; exact Blk.new wr _ _
      have hk3 := hk.out.below b3 hk.out.lt
      have hb3 := Lib.hid (below_trans2 hb.out b3)
      have y0 := hX3.cell 0
      have y1 := hX3.cell 1
      simp only [List.getElem?_cons_zero, List.getElem?_cons_succ] at y0 y1
      have z0 := (hk3.cell (i * 2)).trans (ppC_at hlt hnl.out).1
      have z1 := (hk3.cell (i * 2 + 1)).trans (ppC_at hlt hnl.out).2
      have f0 := hk3.frozen (i * 2)
      have f1 := hk3.frozen (i * 2 + 1)
      have hst := Lib.hid (ppC_step hlt hnl.out hx)
      have hk4 := Lib.hid ((hk3.set_ (i * 2) (.int .i64 x.w1)).set_ (i * 2 + 1) (.int .i64 x.w2))
      have hb4 := Lib.hid ((hb3.out.setCell (p := ⟨gl, i * 2, none⟩) hgw.out (.int .i64 x.w1)).setCell (p := ⟨gl, i * 2 + 1, none⟩) hgw.out (.int .i64 x.w2))
      replace hx := Lib.hid hx
      clear hlt heb hX3 hk3
      go_wp2_with (rw [← hW3, ← hgx]; clear hW3 hgx b3 x0 x1' x2)
      exact ⟨⟨i + 1, by omega, by go_num, hb4, Lib.hid (by rw [← hst.out]; exact hk4.out)⟩, by simp [intOf]; omega⟩
    · have hin : i = ne := by omega
      subst hin
      have hlt' : ¬ (i : Int) < (i : Int) := by omega
      have hP := Lib.hid (show PairsAt wr (some ⟨gl, 0, none⟩) i (edP es) from PairsAt.of_blk17 (by rw [← ppC_all hnl.out]; exact hk.out) (by rw [edP_len]; exact hnl.out) hokI.out)
      replace hS0 := Lib.hid (hS0.out.later hb.out)
      replace kW := Lib.hid (kW.out.below hb.out kW.out.lt)
      replace hbo := Lib.hid (below_trans2 hbo.out hb.out)
      have cP := cO.out (some ⟨gl, 0, none⟩) i wr (by rw [hnl.out]; exact hP.out)
      rw [hnl.out] at cP
      replace cP := Lib.hid cP
      clear hlt hb hk hP hL cO hokI
      -- the cells of what is looked in (hS0 : Hid SrAt): p0 .. p5
      have p0 := hS0.out.c0
      have p1 := hS0.out.c1
      have p2 := hS0.out.c2
      have p3 := hS0.out.c3
      have p4 := hS0.out.c4
      have p5 := hS0.out.c5
      go_wp2_with fail
      refine cP.out.mono ?_
      rintro e x2 ⟨A3, n3, c3, rfl, r3, hc3, b⟩
      obtain rfl : n3 = v.m := by rw [← r3.len]; exact hpl.out
      replace hS0 := Lib.hid (hS0.out.later b)
      replace kW := Lib.hid (kW.out.below b kW.out.lt)
      replace hbo := Lib.hid (below_trans2 hbo.out b)
      clear b cP p0 p1 p2 p3 p4 p5
      obtain ⟨W5, hW5⟩ : ∃ W, W = x2.alloc (.cells #[.int .i64 (v.m : Int), .slice A3 v.m c3] 57) := ⟨_, rfl⟩
      obtain ⟨G5, hG5⟩ : ∃ G, G = x2.heap.size := ⟨_, rfl⟩
      have b5 : Below x2.heap.size x2 W5 := by rw [hW5]; exact below_alloc _ _
      have k5 := Lib.hid (show MatK W5 G5 57 (v.m : Int) A3 v.m c3 pm from ⟨by rw [hW5, hG5]; exact MatB.new _ _, r3.below b5⟩)
      replace hS0 := Lib.hid (hS0.out.later b5)
      replace kW := Lib.hid (kW.out.below b5 kW.out.lt)
      replace hbo := Lib.hid (below_trans2 hbo.out b5)
      clear b5 r3
      go_wp2_with (rw [← hW5, ← hG5]; clear hW5; replace hG5 := Lib.hid hG5)
      refine wp_region_tree (.flt 0 (.flt 1 (.flt 2 (.flt 3 (.flt 4 (.two 5 9 (.flt 6 (.flt 7 (.flt 8 (.one 9 (.one 10 (.flt 11 .done)))))) (.one 5 (.flt 6 (.flt 7 (.flt 8 (.one 10 (.flt 11 .done)))))))))))) (by kernel_rfl) (by kernel_rfl) (fun V hV => ?_)
      have hV' : Below W5.heap.size W5 V := by rw [hV.out]; exact (Below.refl _ _).drew
      have hSV := Lib.hid (hS0.out.later hV')
      have kV := Lib.hid (k5.out.below hV')
      replace kW := Lib.hid (kW.out.below hV' kW.out.lt)
      replace hbo := Lib.hid (below_trans2 hbo.out hV')
      clear hV hV' hS0 k5
      have cR := Lib.hid (fun W (hS : SrAt w0 v f A c s R W) (hk : MatK W G5 57 (v.m : Int) A3 v.m c3 pm) => by
        have h := mat_Or A A3 v.m c c3 (coM f) pm W hS.mm hk.2 (by omega) hsl.out
        rw [hor.out] at h
        exact h)
      have bW : Below V.heap.size V V := Below.refl _ _
      apply cut_four19 (F := fun (M : Nat) (w9 : World) (A5 : Option Addr) (c5 : Nat) => MatK w9 M 57 (v.m : Int) A5 v.m c5 (cfX f (coM f)) ∧ V.heap.size ≤ M ∧ Below V.heap.size V w9)
      · intro key
        -- the cells of what is looked in (hSV : Hid SrAt): p0 .. p5
        have p0 := hSV.out.c0
        have p1 := hSV.out.c1
        have p2 := hSV.out.c2
        have p3 := hSV.out.c3
        have p4 := hSV.out.c4
        have p5 := hSV.out.c5
        have m0 := kV.out.1.c0
        have m1 := kV.out.1.c1
        iterate 5
          refine wpPT_float (v := ?_) rfl (by rfl) (fun w' hw' => ?_) (fun K hK => ?_)
          rotate_left
          · (go_simp; try with_reducible rfl)
          go_simp
          refine hK _ ?_
          clear hK K
        clear p0 p1 p2 p3 p4 p5 m0 m1
        refine wpPT_two rfl (by rfl) rfl (by rfl) (fun K hK => ?_) (fun K hK => ?_)
        · skip
          go_simp
          refine (cR.out V (hSV.out.later bW) (kV.out.below bW)).mono ?_; rintro e v1 ⟨A5, n5, c5, rfl, r5, hc5, b⟩
          obtain rfl : n5 = v.m := by rw [← r5.len]; exact hXl.out
          replace bW := below_trans2 bW b
          refine hK _ _ bW ?_
          clear hK K
          clear b
          iterate 3
            refine wpPT_float (v := ?_) rfl (by rfl) (fun w' hw' => ?_) (fun K hK => ?_)
            rotate_left
            · (go_simp; try with_reducible rfl)
            go_simp
            refine hK _ ?_
            clear hK K
          refine wpPT_one rfl (by rfl) (fun K hK => ?_)
          go_simp
          obtain ⟨M, hM⟩ : ∃ M, M = (World.heap v1).size := ⟨_, rfl⟩
          obtain ⟨v2, hw⟩ : ∃ X : World, X = World.alloc v1 (.cells #[.int .i64 0, .slice none 0 0] 57) := ⟨_, rfl⟩
          rw [← hw, ← hM]
          have b : Below (World.heap v1).size v1 v2 := by rw [hw]; exact below_alloc _ _
          have hUM : V.heap.size ≤ M := by rw [hM]; exact bW.size
          replace bW := below_trans2 bW b
          refine hK _ _ bW ?_
          clear hK K
          have kM := Lib.hid (show MatB v2 M 57 0 none 0 0 from by rw [hw, hM]; exact MatB.new _ _)
          have hne : 0 < v.m → ∀ ad, A5 = some ad → ad.block ≠ M := fun h0 ad e => by have := r5.block_lt h0 ad e; omega
          replace r5 := r5.below b
          clear hM hw b
          have f0 := kM.out.c0
          have f1 := kM.out.c1
          have g0 := kM.out.frozen 0
          have g1 := kM.out.frozen 1
          refine wpPT_one rfl (by rfl) (fun K hK => ?_)
          go_simp
          obtain ⟨wz, hw⟩ : ∃ X : World, X = (World.setCell v2 ⟨M, 0, none⟩ (.int .i64 (v.m : Int))).setCell ⟨M, 1, none⟩ (.slice A5 v.m c5) := ⟨_, rfl⟩
          rw [← hw]
          have hMV := Lib.hid (show MatK wz M 57 (v.m : Int) A5 v.m c5 (cfX f (coM f)) from ⟨by rw [hw]; exact kM.out.put _ _ _ _, by rw [hw]; exact r5.putB kM.out hne _ _⟩)
          replace bW : Below V.heap.size V wz := by rw [hw]; exact (bW.setCell (p := ⟨M, 0, none⟩) hUM _).setCell (p := ⟨M, 1, none⟩) hUM _
          refine hK _ _ bW ?_
          clear hK K f0 f1 g0 g1 hw r5 kM hne
          iterate 1
            refine wpPT_float (v := ?_) rfl (by rfl) (fun w' hw' => ?_) (fun K hK => ?_)
            rotate_left
            · (go_simp; try with_reducible rfl)
            go_simp
            refine hK _ ?_
            clear hK K
          refine wpPT_done (NoPanic.normal ?_)
          exact key M wz A5 c5 ⟨hMV.out, hUM, bW⟩
        · skip
          go_simp
          obtain ⟨M, hM⟩ : ∃ M, M = (World.heap V).size := ⟨_, rfl⟩
          obtain ⟨v3, hw⟩ : ∃ X : World, X = World.alloc V (.cells #[.int .i64 0, .slice none 0 0] 57) := ⟨_, rfl⟩
          rw [← hw, ← hM]
          have b : Below (World.heap V).size V v3 := by rw [hw]; exact below_alloc _ _
          have hUM : V.heap.size ≤ M := by rw [hM]; exact bW.size
          replace bW := below_trans2 bW b
          refine hK _ _ bW ?_
          clear hK K
          have kM := Lib.hid (show MatB v3 M 57 0 none 0 0 from by rw [hw, hM]; exact MatB.new _ _)
          clear hM hw b
          refine wpPT_one rfl (by rfl) (fun K hK => ?_)
          go_simp
          refine (cR.out v3 (hSV.out.later bW) (kV.out.below bW)).mono ?_; rintro e v4 ⟨A5, n5, c5, rfl, r5, hc5, b⟩
          obtain rfl : n5 = v.m := by rw [← r5.len]; exact hXl.out
          replace bW := below_trans2 bW b
          refine hK _ _ bW ?_
          clear hK K
          have hne : 0 < v.m → ∀ ad, A5 = some ad → ad.block ≠ M := fun h0 => r5.farZ (kM.out.below_ b) (hposX.out h0) h0
          replace kM := Lib.hid (kM.out.below_ b)
          clear b
          iterate 3
            refine wpPT_float (v := ?_) rfl (by rfl) (fun w' hw' => ?_) (fun K hK => ?_)
            rotate_left
            · (go_simp; try with_reducible rfl)
            go_simp
            refine hK _ ?_
            clear hK K
          have f0 := kM.out.c0
          have f1 := kM.out.c1
          have g0 := kM.out.frozen 0
          have g1 := kM.out.frozen 1
          refine wpPT_one rfl (by rfl) (fun K hK => ?_)
          go_simp
          obtain ⟨wz, hw⟩ : ∃ X : World, X = (World.setCell v4 ⟨M, 0, none⟩ (.int .i64 (v.m : Int))).setCell ⟨M, 1, none⟩ (.slice A5 v.m c5) := ⟨_, rfl⟩
          rw [← hw]
          have hMV := Lib.hid (show MatK wz M 57 (v.m : Int) A5 v.m c5 (cfX f (coM f)) from ⟨by rw [hw]; exact kM.out.put _ _ _ _, by rw [hw]; exact r5.putB kM.out hne _ _⟩)
          replace bW : Below V.heap.size V wz := by rw [hw]; exact (bW.setCell (p := ⟨M, 0, none⟩) hUM _).setCell (p := ⟨M, 1, none⟩) hUM _
          refine hK _ _ bW ?_
          clear hK K f0 f1 g0 g1 hw r5 kM hne
          iterate 1
            refine wpPT_float (v := ?_) rfl (by rfl) (fun w' hw' => ?_) (fun K hK => ?_)
            rotate_left
            · (go_simp; try with_reducible rfl)
            go_simp
            refine hK _ ?_
            clear hK K
          refine wpPT_done (NoPanic.normal ?_)
          exact key M wz A5 c5 ⟨hMV.out, hUM, bW⟩
      · rintro M w9 A5 c5 ⟨k6', hVM, b9⟩
        have k6 := Lib.hid k6'
        replace hbo := Lib.hid (below_trans2 hbo.out b9)
        replace kW := Lib.hid (kW.out.below b9 kW.out.lt)
        clear k6' b9 hSV kV cR
        have qk60 := k6.out.1.c0
        have qk61 := k6.out.1.c1
        have cK := Lib.hid (hull_Close A5 v.m c5 (cfX f (coM f)) w9 k6.out.2 gX.out)
        rw [hcm.out] at cK
        go_wp2_with fail
        refine cK.out.mono ?_; rintro e x4 ⟨A6, n6, c6, rfl, r6, hc6, b⟩
        obtain rfl : n6 = v.m := by rw [← r6.len]; exact hCl.out
        replace hbo := Lib.hid (below_trans2 hbo.out b)
        replace kW := Lib.hid (kW.out.below b kW.out.lt)
        clear b cK qk60 qk61 k6
        have cL := Lib.hid (hull_Loop A6 v.m c6 (cfM f (coM f)) x4 r6 (by omega) hCs.out)
        clear r6
        go_wp2_with fail
        refine cL.out.mono ?_; rintro e x5 ⟨i5, bl, rfl, hLp, b⟩
        replace kW := Lib.hid (kW.out.below b kW.out.lt)
        have hbb := Lib.hid (BelowB.of (g := g) (below_trans2 hbo.out b))
        clear b cL
        cases bl with
        | true =>
          have hans := Lib.hid (roundF_some (k := 5) hLp)
          have kZ := kW.out.set_ 4 (.int .i64 i5)
          simp only [List.set_cons_zero, List.set_cons_succ] at kZ
          replace kZ := Lib.hid kZ
          -- the cells of a pattern's variable: kW.out : Blk W g Witness [8 cells]: x0 .. x7 (and $f0 .. : not frozen)
          have z0x := Blk.cell kW.out 0
          have z1x := Blk.cell kW.out 1
          have z2x := Blk.cell kW.out 2
          have z3x := Blk.cell kW.out 3
          have z4x := Blk.cell kW.out 4
          have z5x := Blk.cell kW.out 5
          have z6x := Blk.cell kW.out 6
          have z7x := Blk.cell kW.out 7
          simp only [List.getElem?_cons_zero, List.getElem?_cons_succ] at z0x z1x z2x z3x z4x z5x z6x z7x
          have z0fx := Blk.frozen kW.out 0
          have z1fx := Blk.frozen kW.out 1
          have z2fx := Blk.frozen kW.out 2
          have z3fx := Blk.frozen kW.out 3
          have z4fx := Blk.frozen kW.out 4
          have z5fx := Blk.frozen kW.out 5
          have z6fx := Blk.frozen kW.out 6
          have z7fx := Blk.frozen kW.out 7
          clear hLp
          go_wp2_with fail
          go_ret
          exact ⟨_, (by rw [hans.out]; try rfl), (by rw [hans.out]; try rfl), kZ.out, hbb.out.setG19 _ _⟩
        | false =>
          have hans := Lib.hid (roundF_none (k := 5) hLp)
          clear hLp
          go_wp2_with fail
          go_ret
          exact ⟨noneW 5, (by rw [hans.out]; try rfl), (by rw [hans.out]; try rfl), kW.out, hbb.out⟩
end Go.Proofs.YtjhjojklfdjmdaaGreat
