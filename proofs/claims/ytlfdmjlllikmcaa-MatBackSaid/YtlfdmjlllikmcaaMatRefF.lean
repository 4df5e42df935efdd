/- Contracts of the document's own answers for matrices: New (refused), Or. -/
import Derived.Test.YtlfdmjlllikmcaaMatRefE
namespace Go.Proofs.Ytlfdmjlllikmcaa
open Go.RowKit
set_option linter.unusedVariables false

set_option maxHeartbeats 400000 in
theorem ref3_New_no (n : Int) (h : n < 0 ∨ 4097 ≤ n) (w : World) :
    Calls Try.prog 30 #[.int .i64 n] w (RetMat 0 [] 1 w) := by
  have ha : Below w.heap.size w (w.alloc (.cells #[.int .i64 0, .slice none 0 0] 24)) := (Below.refl _ _).alloc (Nat.le_refl _) _
  replace ha := Lib.hid ha
  by_cases h0 : n < 0
  · clear h
    go_enter Try.func30, Try.ntmps30
    go_wp2_with fail
    exact bodyPost_ret (v := .tuple #[.agg #[.int .i64 0, .slice none 0 0], .int .i64 1]) (by simp [results, Try.results30, go_sem]) rfl ⟨none, 0, 0, rfl, RowsAt.nil _ _, Nat.le_refl _, ha.out⟩
  · have h1 : 4096 < n := by omega
    clear h
    go_enter Try.func30, Try.ntmps30
    go_wp2_with fail
    exact bodyPost_ret (v := .tuple #[.agg #[.int .i64 0, .slice none 0 0], .int .i64 1]) (by simp [results, Try.results30, go_sem]) rfl ⟨none, 0, 0, rfl, RowsAt.nil _ _, Nat.le_refl _, ha.out⟩

set_option maxHeartbeats 400000 in
theorem ref3_Or_no (N M : Int) (A B : Option Addr) (n c m d : Nat) (w : World) (h : N ≠ M) :
    Calls Try.prog 14 #[.agg #[.int .i64 N, .slice A n c], .agg #[.int .i64 M, .slice B m d]] w (RetMat 0 [] 1 w) := by
  have hne : (N != M) = true := by simpa using h
  have ha : Below w.heap.size w (((w.alloc (.cells #[.int .i64 N, .slice A n c] 24)).alloc (.cells #[.int .i64 M, .slice B m d] 24)).alloc (.cells #[.int .i64 0, .slice none 0 0] 24)) := (((Below.refl _ _).alloc (Nat.le_refl _) _).alloc (by simp) _).alloc (by simp; omega) _
  replace ha := Lib.hid ha
  clear h
  go_enter Try.func14, Try.ntmps14
  go_wp2_with fail
  exact bodyPost_ret (v := .tuple #[.agg #[.int .i64 0, .slice none 0 0], .int .i64 1]) (by simp [results, Try.results14, go_sem]) rfl ⟨none, 0, 0, rfl, RowsAt.nil _ _, Nat.le_refl _, ha.out⟩
set_option maxRecDepth 100000 in
set_option maxHeartbeats 2000000 in
theorem ref3_Or (A B : Option Addr) (n c d : Nat) (xss yss : List (List Nat)) (w : World) (hr : RowsAt w A n xss) (hs : RowsAt w B n yss) (hn : n ≤ 4096)
    (hl : ∀ (i : Nat) (xs : List Nat), xss[i]? = some xs → xs.length ≤ 1024) (hl2 : ∀ (i : Nat) (xs : List Nat), yss[i]? = some xs → xs.length ≤ 1024) :
    Calls Try.prog 14 #[.agg #[.int .i64 (n : Int), .slice A n c], .agg #[.int .i64 (n : Int), .slice B n d]] w (RetMat (n : Int) (orM xss yss) 0 w) := by
  obtain ⟨i0, hi, hz0, hz1, hz2⟩ := info_parts info_row
  replace hi := Lib.hid hi
  replace hz0 := Lib.hid hz0
  replace hz1 := Lib.hid hz1
  replace hz2 := Lib.hid hz2
  have hxl := hr.len
  obtain ⟨W0, hW0⟩ : ∃ W0, W0 = (((w.alloc (.cells #[.int .i64 n, .slice A n c] 24)).alloc (.cells #[.int .i64 n, .slice B n d] 24)).alloc (.cells #[.int .i64 0, .slice none 0 0] 24)).alloc (.cells #[.int .i64 n, .slice none 0 0] 24) := ⟨_, rfl⟩
  have hBa : MatB W0 w.heap.size 24 n A n c := by rw [hW0]; exact (((MatB.new w _).below_ ((Below.refl _ _).alloc (Nat.le_refl _) _)).below_ ((Below.refl _ _).alloc (Nat.le_refl _) _)).below_ ((Below.refl _ _).alloc (Nat.le_refl _) _)
  have hBb : MatB W0 (w.heap.size + 1) 24 n B n d := by rw [hW0]; exact ((MatB.new1 w _ _).below_ ((Below.refl _ _).alloc (Nat.le_refl _) _)).below_ ((Below.refl _ _).alloc (Nat.le_refl _) _)
  have hI : GrowI w (w.heap.size + 4) n (w.heap.size + 3) (w.heap.size + 2) (.slice none 0 0) [] (orPre xss yss 0) W0 := by
    refine ⟨?_, ?_, World.ownsRow_nil _ _ _ _, OwnRows.nil _ _ _, by rw [hW0]; exact (((((Below.refl _ _).alloc (Nat.le_refl _) _).alloc (by simp) _).alloc (by simp <;> omega) _).alloc (by simp <;> omega) _), by rw [hW0]; simp⟩
    · rw [hW0]
      have h := MatB.new1 (N := 0) (A := none) (n := 0) (c := 0) (w.alloc (.cells #[.int .i64 n, .slice A n c] 24)) (.cells #[.int .i64 n, .slice B n d] 24) 24
      rw [show (w.alloc (.cells #[.int .i64 n, .slice A n c] 24)).heap.size = w.heap.size + 1 from by simp] at h
      exact h.below_ ((Below.refl _ _).alloc (Nat.le_refl _) _)
    · rw [hW0]
      have h := MatB.new1 (N := n) (A := none) (n := 0) (c := 0) ((w.alloc (.cells #[.int .i64 n, .slice A n c] 24)).alloc (.cells #[.int .i64 n, .slice B n d] 24)) (.cells #[.int .i64 0, .slice none 0 0] 24) 24
      rw [show ((w.alloc (.cells #[.int .i64 n, .slice A n c] 24)).alloc (.cells #[.int .i64 n, .slice B n d] 24)).heap.size + 1 = w.heap.size + 3 from by simp] at h
      exact h
  replace hI := Lib.hid hI
  have hne : ((n : Int) != (n : Int)) = false := by simp
  replace hBa := Lib.hid hBa
  replace hBb := Lib.hid hBb
  replace hr := Lib.hid hr
  replace hs := Lib.hid hs
  replace hl := Lib.hid hl
  replace hl2 := Lib.hid hl2
  replace hxl := Lib.hid hxl
  go_enter Try.func14, Try.ntmps14
  go_wp2_with fail
  rw [← hW0]
  clear hW0
  go_loopw [7] (fun i wr => ∃ (v : Value) (vs : List Value), vs.length ≤ n ∧ i = .int .i64 vs.length ∧ Hid (GrowI w (w.heap.size + 4) n (w.heap.size + 3) (w.heap.size + 2) v vs (orPre xss yss vs.length) wr) ∧ Hid (MatB wr w.heap.size 24 n A n c) ∧ Hid (MatB wr (w.heap.size + 1) 24 n B n d)) (fun i _ => n - (intOf i).toNat)
  case atStart => exact ⟨_, [], Nat.zero_le _, rfl, hI, hBa, hBb⟩
  case round =>
    obtain ⟨v, vs, hk, rfl, hI', hA', hB'⟩ := hrel
    clear hI hBa hBb
    obtain ⟨k, hke⟩ : ∃ k, k = vs.length := ⟨_, rfl⟩
    rw [← hke] at hk
    rw [← hke]
    have la0 := hA'.out.c0
    by_cases hlt : k < n
    · replace hke := Lib.hid hke
      obtain ⟨b1, o1, A1, n1, c1, xs, rfl, hbl1, hx, hc1, hrx⟩ := (hr.out.below hI'.out.below).at_ hlt
      obtain ⟨b2, o2, B1, n2, c2, ys, rfl, hbl2, hy, hc2, hry⟩ := (hs.out.below hI'.out.below).at_ hlt
      have hn1 : n1 ≤ 1024 := by have := hrx.len; have := hl.out k xs hx; omega
      have hn2 : n2 ≤ 1024 := by have := hry.len; have := hl2.out k ys hy; omega
      have hstep : Hid (orPre xss yss (k + 1) = orPre xss yss k ++ [orR xs ys]) := Lib.hid (by rw [orPre_succ, getD_at hx, getD_at hy])
      have l1 := Blk.cell hI'.out.loc 1
      have la1 := hA'.out.c1
      have lb1 := hB'.out.c1
      have hk0 : (0 : Int) ≤ (k : Int) := by omega
      have hkn : (k : Int) < (n : Int) := by omega
      simp only [List.getElem?_cons_zero, List.getElem?_cons_succ] at l1
      clear hx hy
      go_wp2_with fail
      refine wp_region_plan 14 [(true, 0), (true, 1), (true, 2), (true, 3), (true, 4), (true, 5), (true, 6), (true, 7), (true, 8), (true, 9), (true, 10), (true, 11), (false, 12), (false, 13)] (by kernel_rfl) (by kernel_rfl) (fun W hW => ?_)
      have p1 : W.cell? ⟨w.heap.size + 3, 1, none⟩ = some v := by rw [hW.out]; exact l1
      have p2 : W.cell? ⟨w.heap.size, 1, none⟩ = some (.slice (some ⟨b1, o1, none⟩) n c) := by rw [hW.out]; exact la1
      have p3 : W.cell? ⟨w.heap.size + 1, 1, none⟩ = some (.slice (some ⟨b2, o2, none⟩) n d) := by rw [hW.out]; exact lb1
      have p4 : W.cell? ⟨b1, o1 + k, none⟩ = some (.slice A1 n1 c1) := by rw [hW.out]; exact hc1
      have p5 : W.cell? ⟨b2, o2 + k, none⟩ = some (.slice B1 n2 c2) := by rw [hW.out]; exact hc2
      have hIW := Lib.hid (show GrowI w (w.heap.size + 4) n (w.heap.size + 3) (w.heap.size + 2) v vs (orPre xss yss vs.length) W by rw [hW.out]; exact hI'.out.keep (Below.refl _ _).drew)
      have hAW := Lib.hid (show MatB W w.heap.size 24 n (some ⟨b1, o1, none⟩) n c by rw [hW.out]; exact Blk.drew hA'.out)
      have hBW := Lib.hid (show MatB W (w.heap.size + 1) 24 n (some ⟨b2, o2, none⟩) n d by rw [hW.out]; exact Blk.drew hB'.out)
      have hC := Lib.hid (ref2_OrO A1 B1 n1 n2 c1 c2 xs ys W (by rw [hW.out]; exact hrx) (by rw [hW.out]; exact hry) (by omega) (by omega))
      clear l1 la1 lb1 la0 hc1 hc2 hI' hA' hB' hrx hry
      simp only [List.drop_succ_cons, List.drop_zero]
      iterate 12
        refine wpPlan_float (v := ?_) rfl (by rfl) (fun w' hw' => ?_) (fun K hK => ?_)
        rotate_left
        · (go_simp; try with_reducible rfl)
        go_simp
        refine hK _ ?_
        clear hK K
      refine wpPlan_only rfl (by rfl) (fun K hK => ?_)
      go_simp
      refine hC.out.mono ?_
      rintro e w1 ⟨C, p, q, rfl, ho, hx64, hb1⟩
      refine hK _ _ hb1 ?_
      clear hK K p1 p2 p3 p4 p5
      refine wpPlan_only rfl (by rfl) (fun K hK => ?_)
      go_simp
      have hba : Below w1.heap.size w1 (w1.alloc (.cells #[.slice C p q] 45)) := (Below.refl _ _).alloc (Nat.le_refl _) _
      refine hK _ _ hba (wpPlan_nil ?_)
      clear hK K
      have hbb := below_trans2 hb1 hba
      have hIa := Lib.hid (hIW.out.keep hbb)
      have hAa := Lib.hid (hAW.out.below_ hbb)
      have hBa := Lib.hid (hBW.out.below_ hbb)
      have hoa := Lib.hid (own_below ho hba)
      replace hbb := Lib.hid hbb
      have hown := hIa.out.out
      rw [← hke.out] at hown
      have hhi := hIa.out.high
      replace hx64 := Lib.hid hx64
      clear hba hb1 ho
      go_wp2_with (at_builtin; refine wpList_append_lies _ rfl (.tmp 24) (.tmp 36) _ rfl (w.heap.size + 4) 45 i0 _ 1 24 Try.underlying22 hi.out hz0.out hz1.out hz2.out rfl (by omega) _ _ _ (by rfl) hown ⟨w1.heap.size, 0, none⟩ 1 1 [.slice C p q] rfl rfl (cell_one_new _ _ _) (by simp [Value.oneCell']) (by omega) (by unfold maxLen; omega) (by omega) hhi _ rfl ?_; intro g cap w2 hown2 hgrow hat hlt1; have hB2 := Blk.grown hIa.out.loc hgrow (fun e => own_ne_blk hIa.out.out hIa.out.loc (by decide) e.symm); have q1 := hB2.cell 1; have q2 := hB2.frozen 1; simp only [List.getElem?_cons_zero, List.getElem?_cons_succ] at q1; clear hB2 hat hlt1)
      refine NoPanic.normal ?_
      have hmore := Lib.hid (hIW.out.more hbb.out hoa.out hx64.out hgrow (by rw [← hke.out]; exact hown2) (by omega) (by omega) (by omega) (by omega) (by omega))
      have hA2 := Lib.hid ((Blk.grown hAa.out hgrow (fun e => own_ne_blk hIa.out.out hAa.out (by decide) e.symm)).far (p := ⟨w.heap.size + 3, 1, none⟩) (by simp <;> omega) (.slice (some ⟨g, 0, none⟩) (k + 1) cap))
      have hB2 := Lib.hid ((Blk.grown hBa.out hgrow (fun e => own_ne_blk hIa.out.out hBa.out (by decide) e.symm)).far (p := ⟨w.heap.size + 3, 1, none⟩) (by simp <;> omega) (.slice (some ⟨g, 0, none⟩) (k + 1) cap))
      clear q1 q2 hown2 hgrow hown
      go_wp2_with fail
      go_roundw
      case rel =>
        refine ⟨.slice (some ⟨g, 0, none⟩) (k + 1) cap, vs ++ [.slice C p q], by have := hke.out; simp; omega, by rw [List.length_append, ← hke.out]; simp; try omega, ?_, hA2, hB2⟩
        have h := hmore.out
        rw [← hke.out, ← hstep.out] at h
        rw [List.length_append, List.length_singleton, ← hke.out]
        exact Lib.hid h
      case measure => simp [intOf]; omega
    · have hkn : k = n := by omega
      have hvn : vs.length = n := by rw [← hke, hkn]
      clear hlt
      obtain rfl := hkn
      have hout := hI'.out.out
      obtain ⟨A', c', hv, hRd⟩ := Rd.of_own hout
      subst hv
      rw [hvn] at hout hRd
      have f0 := hI'.out.res.c0
      have f1 := hI'.out.res.c1
      have g0 := hI'.out.res.frozen 0
      have g1 := hI'.out.res.frozen 1
      have k0 := hI'.out.loc.cell 0
      have k1 := hI'.out.loc.cell 1
      simp only [List.getElem?_cons_zero, List.getElem?_cons_succ] at k0 k1
      rw [hvn] at k1
      have hcc := hI'.out.res.two (.int .i64 k) (.slice A' k c')
      have hc1 := Lib.hid hcc.1
      have hc2 := Lib.hid hcc.2
      replace hvn := Lib.hid hvn
      replace hke := Lib.hid hke
      clear hcc
      go_wp2_with fail
      refine bodyPost_ret (v := .tuple #[.agg #[.int .i64 k, .slice A' k c'], .int .i64 0]) (by simp [results, Try.results14, go_sem, hc1.out, hc2.out]) rfl ⟨_, _, _, rfl, ⟨vs, ?_, ?_⟩, own_cap hout, (hI'.out.below.setCell (by simp <;> omega) _).setCell (by simp <;> omega) _⟩
      · have hne : (Value.slice A' k c').ownBlock ≠ some (w.heap.size + 2) := fun e => by have := own_lt_block hout _ e; omega
        exact Rd.of_own' (own_far (own_far hout (p := ⟨w.heap.size + 2, 0, none⟩) hne _) (p := ⟨w.heap.size + 2, 1, none⟩) hne _)
      · have h := ((hI'.out.rows.far (p := ⟨w.heap.size + 2, 0, none⟩) (by simp <;> omega) (.int .i64 k)).far (p := ⟨w.heap.size + 2, 1, none⟩) (by simp <;> omega) (.slice A' k c')).rows
        have he : orPre xss yss vs.length = orM xss yss := by rw [hvn.out, ← orPre_all, hxl.out]
        rw [he] at h
        exact h

end Go.Proofs.Ytlfdmjlllikmcaa
