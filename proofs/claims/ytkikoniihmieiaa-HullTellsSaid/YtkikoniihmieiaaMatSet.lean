/- Contracts of package mat: Set (with slices.Clone of rows). Contracts of package mat: Set (refused). -/
import Derived.Test.YtkikoniihmieiaaMat
namespace Go.Proofs.Ytkikoniihmieiaa
open Go.RowKit
set_option linter.unusedVariables false

theorem info_row : (Try.prog.info? 53).map (fun i => (i.zero, i.size, i.bytes)) = some (some (.slice none 0 0), 1, 24) := by kernel_rfl
theorem one_rows {w : World} {vs : List Value} {xss : List (List Nat)} (h : RowsC w vs xss) : ∀ u ∈ vs, u.oneCell' = true := by
  intro u hu
  obtain ⟨k, hk⟩ := List.getElem?_of_mem hu
  have hl : k < vs.length := (List.getElem?_eq_some_iff.1 hk).1
  have hl2 : k < xss.length := by rw [← h.1]; exact hl
  obtain ⟨A, n, c, rfl, _⟩ := h.2 k u xss[k] hk (List.getElem?_eq_getElem hl2)
  rfl

/-- a call that answers an outer slice of its own -/
def RetOuter (n : Nat) (vs : List Value) (w : World) (e : Ending) (w' : World) : Prop :=
  ∃ g cap, e = .returned (.slice (some ⟨g, 0, none⟩) n cap) ∧ w'.ownsRow w.heap.size 53 1 (.slice (some ⟨g, 0, none⟩) n cap) n vs ∧ Below w.heap.size w w'

set_option maxHeartbeats 400000 in
theorem clone_rows (b off n c : Nat) (vs : List Value) (w : World) (hr : Rd w (some ⟨b, off, none⟩) n vs) (h1 : ∀ u ∈ vs, u.oneCell' = true) (h0 : 0 < n) (hn : n ≤ 1073741824) :
    Calls Try.prog 46 #[.slice (some ⟨b, off, none⟩) n c] w (RetOuter n vs w) := by
  obtain ⟨i0, hi, hz0, hz1, hz2⟩ := info_parts info_row
  replace hi := Lib.hid hi
  replace hz0 := Lib.hid hz0
  replace hz1 := Lib.hid hz1
  replace hz2 := Lib.hid hz2
  have hlit : (w.alloc (.cells #[] 53)).ownsRow w.heap.size 53 1 (.slice (some ⟨w.heap.size, 0, none⟩) 0 0) 0 [] := by
    have h := World.ownsRow_lit (size := 1) (base := w.heap.size) (e := 53) w #[] 0 (Nat.le_refl _) (by omega) (by simp)
    simpa using h
  have hb0 : Below w.heap.size w (w.alloc (.cells #[] 53)) := (Below.refl _ _).alloc (Nat.le_refl _) _
  have hrd : Rd (w.alloc (.cells #[] 53)) (some ⟨b, off, none⟩) n vs := hr.below hb0
  clear hr
  have hnil : ∀ W : World, (binOp .eql 22 (.slice (some ⟨b, off, none⟩) n c) (.slice none 0 0)).run Try.prog W = .ok (.bool false) W := fun W => by kernel_rfl
  go_enter Try.func46, Try.ntmps46
  go_wp2_with (at_builtin; refine wpList_append_rd rfl (.tmp 5) (.tmp 6) _ rfl w.heap.size 53 i0 _ 24 Try.underlying22 hi.out hz0.out hz1.out hz2.out rfl _ 0 _ (by rfl) hlit _ n c _ rfl hrd h1 (by unfold maxLen; omega) (by omega) hb0.size ?_; intro v1 w1 hown1 hbb hform; simp only [Nat.zero_add, List.nil_append] at hown1 hform; have hb1 := hb0.trans hbb; obtain ⟨g, cap, rfl⟩ := hform h0; clear hbb hlit hb0 hrd hform)
  go_ret
  exact ⟨_, _, rfl, hown1, hb1⟩

set_option maxHeartbeats 1000000 in
theorem mat_Set (N : Int) (A : Option Addr) (n c : Nat) (xss : List (List Nat)) (i j : Int) (w : World) (hr : RowsAt w A n xss) (hN : N = (n : Int)) (hn : n ≤ 4096) (hl : ∀ xs ∈ xss, xs.length ≤ 1024)
    (h3 : inM N i j = true) :
    Calls Try.prog 12 #[.agg #[.int .i64 N, .slice A n c], .int .i64 i, .int .i64 j] w (RetMat N (setM xss i j) 0 w) := by
  subst hN
  unfold inM at h3
  simp only [Bool.and_eq_true, decide_eq_true_eq] at h3
  obtain ⟨⟨⟨i0, i1⟩, j0⟩, j1⟩ := h3
  obtain ⟨k, rfl⟩ := Int.eq_ofNat_of_zero_le i0
  have hk : k < n := by omega
  have hb := Lib.hid (belowZ_yes (i := (k : Int)) (n := (n : Int)) (by omega) (by omega))
  have hbj := Lib.hid (belowZ_yes (i := j) (n := (n : Int)) (by omega) (by omega))
  obtain ⟨W0, hW0⟩ : ∃ W0, W0 = (w.alloc (.cells #[.int .i64 n, .slice A n c] 24)).alloc (.cells #[.int .i64 0, .slice none 0 0] 24) := ⟨_, rfl⟩
  have ha : Below w.heap.size w W0 := by rw [hW0]; exact ((Below.refl _ _).alloc (Nat.le_refl _) _).alloc (by simp) _
  have hB1 : MatB W0 w.heap.size 24 n A n c := by rw [hW0]; exact (MatB.new w _).below_ ((Below.refl _ _).alloc (Nat.le_refl _) _)
  have hB2 : MatB W0 (w.heap.size + 1) 24 0 none 0 0 := by rw [hW0]; exact MatB.new1 w _ _
  have hlen := hr.len
  have hlt := Lib.hid hr.w64
  obtain ⟨vs, hrdw, hrcw⟩ := hr
  have hrd := hrdw.below ha
  have hrc := hrcw.below ha
  obtain ⟨b, off, u, rfl, hbl, hu, hc⟩ := hrd.at_ hk
  obtain ⟨xs, hx⟩ : ∃ xs, xss[k]? = some xs := ⟨_, List.getElem?_eq_getElem (by omega)⟩
  obtain ⟨B, m, d, rfl, hxr⟩ := hrc.2 k u xs hu hx
  have hm : m ≤ 1024 := by have := hxr.len; have := hl xs (List.mem_of_getElem? hx); omega
  have hcl := Lib.hid (clone_rows b off n c vs W0 hrd (one_rows hrc) (by omega) (by omega))
  have hst := Lib.hid (row_SetO B m d xs j)
  have hl2 := Lib.hid hlen
  have hx2 := Lib.hid hx
  have hu2 := Lib.hid hu
  replace hrc := Lib.hid hrc
  replace hxr := Lib.hid hxr
  replace hB1 := Lib.hid hB1
  replace hB2 := Lib.hid hB2
  have hW0' := Lib.hid hW0
  have hsz : W0.heap.size = w.heap.size + 2 := by rw [hW0]; simp
  replace hsz := Lib.hid hsz
  have hb0 := hB1.out.c0
  have hb1 := hB1.out.c1
  have ha' := Lib.hid ha
  have hj := And.intro j0 j1
  have hk0 : (0 : Int) ≤ (k : Int) := by omega
  have hkn : (k : Int) < (n : Int) := by omega
  have hmm := hm
  replace hrcw := Lib.hid hrcw
  clear ha hrdw hrd hc hu hx hlen hl i0 i1
  go_enter Try.func12, Try.ntmps12
  go_wp2_with fail
  rw [← hW0]
  clear hW0
  go_wp2_with fail
  refine (mat_below _ _ _).mono ?_; rintro e w' ⟨rfl, rfl⟩
  rw [hb.out]
  go_wp2_with fail
  refine (mat_below _ _ _).mono ?_; rintro e w' ⟨rfl, rfl⟩
  rw [hbj.out]
  go_wp2_with fail
  refine hcl.out.mono ?_; rintro e w1 ⟨g, cap, rfl, hown, hb1'⟩
  have hown' := Lib.hid hown
  have hcg : w1.cell? ⟨g, k, none⟩ = some (.slice B m d) := by
    rw [hown.cellAt _ (by omega), hu2.out]
  have hfg := hown.frozenAt k
  have hglt := (hown.lt g rfl)
  have hB1' := Lib.hid (hB1.out.below_ hb1')
  have hB2' := Lib.hid (hB2.out.below_ hb1')
  have hbb := Lib.hid (below_trans2 ha'.out (hb1'.mono (by have := ha'.out.size; omega)))
  clear hown
  go_wp2_with fail
  refine (hst.out w1 (hxr.out.below hb1') (by omega) (by omega) (by omega)).mono ?_; rintro e w2 ⟨C, p, q, rfl, hxr2, hx64, hb2⟩
  have hown2 := Lib.hid (own_below hown'.out hb2)
  have hcg2 := hown2.out.cellAt k (by omega)
  rw [hu2.out] at hcg2
  have hfg2 := hown2.out.frozenAt k
  have hB2b := Lib.hid (hB2'.out.below_ hb2)
  have hB1b := Lib.hid (hB1'.out.below_ hb2)
  have hbb2 := Lib.hid (below_trans2 hbb.out hb2)
  have hCb : Hid (∀ ad, C = some ad → w1.heap.size ≤ ad.block) := Lib.hid (fun ad e => by subst e; exact own_lt_block hxr2 _ rfl)
  replace hxr2 := Lib.hid (Row.of_own hxr2 hx64)
  clear hx64
  have hB1c := hB1b.out.far (p := ⟨g, k, none⟩) (by have := hsz.out; simp; omega) (.slice C p q)
  have hB2c := hB2b.out.far (p := ⟨g, k, none⟩) (by have := hsz.out; simp; omega) (.slice C p q)
  have f10 := hB1c.cell 0
  have f20 := hB2c.cell 0
  have f21 := hB2c.cell 1
  have g20 := hB2c.frozen 0
  have g21 := hB2c.frozen 1
  simp only [List.getElem?_cons_zero, List.getElem?_cons_succ] at f10 f20 f21
  clear hB1c hB2c
  have hne : g ≠ w.heap.size + 1 := by have := hsz.out; omega
  go_wp2_with fail
  have hc1 : ((((w2.setCell ⟨g, k, none⟩ (.slice C p q)).setCell ⟨w.heap.size + 1, 0, none⟩ (.int .i64 n)).setCell ⟨w.heap.size + 1, 1, none⟩ (.slice (some ⟨g, 0, none⟩) n cap))).cell? ⟨w.heap.size + 1, 0, none⟩ = some (.int .i64 n) := by go_simp
  have hc2 : ((((w2.setCell ⟨g, k, none⟩ (.slice C p q)).setCell ⟨w.heap.size + 1, 0, none⟩ (.int .i64 n)).setCell ⟨w.heap.size + 1, 1, none⟩ (.slice (some ⟨g, 0, none⟩) n cap))).cell? ⟨w.heap.size + 1, 1, none⟩ = some (.slice (some ⟨g, 0, none⟩) n cap) := by go_simp
  refine bodyPost_ret (v := .tuple #[.agg #[.int .i64 n, .slice (some ⟨g, 0, none⟩) n cap], .int .i64 0]) (by simp [results, Try.results12, go_sem, hc1, hc2]) rfl ⟨_, _, _, rfl, ?_, own_cap hown2.out, ?_⟩
  · refine ⟨_, Rd.of_own' (own_far (own_far (hown2.out.stored k (.slice C p q)).1 (p := ⟨w.heap.size + 1, 0, none⟩) (by simp [Value.ownBlock]; omega) _) (p := ⟨w.heap.size + 1, 1, none⟩) (by simp [Value.ownBlock]; omega) _), ?_⟩
    have hfin : Below w.heap.size w ((((w2.setCell ⟨g, k, none⟩ (.slice C p q)).setCell ⟨w.heap.size + 1, 0, none⟩ (.int .i64 n)).setCell ⟨w.heap.size + 1, 1, none⟩ (.slice (some ⟨g, 0, none⟩) n cap))) := ((hbb2.out.setCell (by have := hsz.out; have := hglt.1; simp; omega) _).setCell (by simp) _).setCell (by simp) _
    have h1 := hrcw.out.below hfin
    rw [setM_nat hx2.out]
    refine h1.set ⟨C, p, q, rfl, ?_⟩ k
    have hz := hb1'.size
    exact ((hxr2.out.setCell (fun ad e => by have := hCb.out ad e; have := hglt.2; simp; omega) _).setCell (fun ad e => by have := hCb.out ad e; have := hsz.out; simp; omega) _).setCell (fun ad e => by have := hCb.out ad e; have := hsz.out; simp; omega) _
  · exact ((hbb2.out.setCell (by have := hsz.out; have := hglt.1; simp; omega) _).setCell (by simp) _).setCell (by simp) _

end Go.Proofs.Ytkikoniihmieiaa

namespace Go.Proofs.Ytkikoniihmieiaa
open Go.RowKit
set_option linter.unusedVariables false

theorem inM_cases {N i j : Int} (h : inM N i j = false) : (i < 0 ∨ N ≤ i) ∨ (belowZ i N = true ∧ (j < 0 ∨ N ≤ j)) := by
  unfold inM at h
  unfold belowZ
  by_cases a : 0 ≤ i <;> by_cases b : i < N <;> by_cases c : 0 ≤ j <;> by_cases d : j < N <;> simp [a, b, c, d] at h ⊢ <;> omega
set_option maxHeartbeats 400000 in
theorem mat_Set_no (N : Int) (A : Option Addr) (n c : Nat) (i j : Int) (w : World) (h3 : inM N i j = false) :
    Calls Try.prog 12 #[.agg #[.int .i64 N, .slice A n c], .int .i64 i, .int .i64 j] w (RetMat 0 [] 1 w) := by
  have ha : Below w.heap.size w ((w.alloc (.cells #[.int .i64 N, .slice A n c] 24)).alloc (.cells #[.int .i64 0, .slice none 0 0] 24)) := ((Below.refl _ _).alloc (Nat.le_refl _) _).alloc (by simp) _
  replace ha := Lib.hid ha
  rcases inM_cases h3 with h | ⟨hi, h⟩
  · have hb := Lib.hid (belowZ_no h)
    clear h h3
    go_enter Try.func12, Try.ntmps12
    go_wp2_with fail
    refine (mat_below _ _ _).mono ?_; rintro e w' ⟨rfl, rfl⟩
    rw [hb.out]
    go_wp2_with fail
    refine bodyPost_ret (v := .tuple #[.agg #[.int .i64 0, .slice none 0 0], .int .i64 1]) (by simp [results, Try.results12, go_sem]) rfl ⟨none, 0, 0, rfl, RowsAt.nil _ _, Nat.le_refl _, ?_⟩
    exact ha.out
  · replace hi := Lib.hid hi
    have hb := Lib.hid (belowZ_no h)
    clear h h3
    go_enter Try.func12, Try.ntmps12
    go_wp2_with fail
    refine (mat_below _ _ _).mono ?_; rintro e w' ⟨rfl, rfl⟩
    rw [hi.out]
    go_wp2_with fail
    refine (mat_below _ _ _).mono ?_; rintro e w' ⟨rfl, rfl⟩
    rw [hb.out]
    go_wp2_with fail
    refine bodyPost_ret (v := .tuple #[.agg #[.int .i64 0, .slice none 0 0], .int .i64 1]) (by simp [results, Try.results12, go_sem]) rfl ⟨none, 0, 0, rfl, RowsAt.nil _ _, Nat.le_refl _, ?_⟩
    exact ha.out

end Go.Proofs.Ytkikoniihmieiaa
