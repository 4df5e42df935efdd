/- Contracts of the document's own answers for matrices: Of. -/
import Derived.Test.YtkikoniihmieiaaMatRefE
import Derived.Test.YtkikoniihmieiaaPlanT
namespace Go.Proofs.Ytkikoniihmieiaa
open Go.RowKit
set_option linter.unusedVariables false

theorem Row.putB {w : World} {M : Nat} {t : TypeId} {N : Int} {A : Option Addr} {n c : Nat} (hM : MatB w M t N A n c) {B : Option Addr} {m : Nat} {xs : List Nat} (h : Row w B m xs) (x y : Value) :
    Row ((w.setCell ⟨M, 0, none⟩ x).setCell ⟨M, 1, none⟩ y) B m xs := by
  rcases Nat.eq_zero_or_pos m with rfl | hm
  · rw [List.eq_nil_of_length_eq_zero h.len]; exact Row.nil _ _
  · have hne : ∀ ad, B = some ad → ad.block ≠ M := by
      intro ad e hb
      obtain ⟨b, off, x, e2, _, _, _, hc⟩ := h.at_ hm
      rw [e] at e2
      cases e2
      have hb' : b = M := hb
      subst hb'
      rw [Blk.cell hM] at hc
      match off + 0, hc with
      | 0, hc => simp at hc
      | 1, hc => simp at hc
      | k + 2, hc => simp at hc
    exact (h.setCell hne x).setCell hne y
theorem RowsAt.putB {w : World} {M : Nat} {t : TypeId} {N : Int} {A : Option Addr} {n c : Nat} (hM : MatB w M t N A n c) {B : Option Addr} {m : Nat} {xss : List (List Nat)} (h : RowsAt w B m xss) (hne : 0 < m → ∀ ad, B = some ad → ad.block ≠ M) (x y : Value) :
    RowsAt ((w.setCell ⟨M, 0, none⟩ x).setCell ⟨M, 1, none⟩ y) B m xss := by
  obtain ⟨vs, h1, h2⟩ := h
  refine ⟨vs, ?_, h2.1, fun i v xs a b => ?_⟩
  · rcases Nat.eq_zero_or_pos m with rfl | hm
    · rw [h1.of_nil]; exact Rd.nil _ _
    · exact (h1.setCell (hne hm) x).setCell (hne hm) y
  · obtain ⟨B', m', c', e, hr⟩ := h2.2 i v xs a b
    exact ⟨B', m', c', e, hr.putB hM x y⟩
theorem RowsAt.block_lt {w : World} {A : Option Addr} {n : Nat} {xss : List (List Nat)} (h : RowsAt w A n xss) (hn : 0 < n) : ∀ ad, A = some ad → ad.block < w.heap.size := by
  intro ad e
  obtain ⟨vs, h1, _⟩ := h
  obtain ⟨b, off, e2, hb, _⟩ := h1.2 hn
  rw [e] at e2; cases e2; exact hb
/-- what is known of m and the error at each round's head -/
def OfS (R M n : Nat) (ps : List (Int × Int)) (k : Nat) (wr : World) (er N' : Int) (A' : Option Addr) (n' c' : Nat) : Prop :=
  (er = 0 ∧ N' = n ∧ n' = n ∧ RowsAt wr A' n' (foldP n (ps.take k)) ∧ n' ≤ c' ∧ (∀ x ∈ ps.take k, okP n x = true) ∧ (0 < n' → ∀ ad, A' = some ad → R < ad.block ∧ ad.block ≠ M)) ∨ (er = 1 ∧ ∃ x ∈ ps, okP n x = false)
set_option maxHeartbeats 400000 in
theorem ref3_Of_big (n : Int) (h : n < 0 ∨ 4097 ≤ n) (A : Option Addr) (m c : Nat) (hm : m ≤ 1073741824) (w : World) :
    Calls Try.prog 66 #[.int .i64 n, .slice A m c] w (RetMat 0 [] 1 w) := by
  have hN := Lib.hid (ref3_New_no n h)
  obtain ⟨W0, hW0⟩ : ∃ W0, W0 = w.alloc (.cells #[.int .i64 0, .slice none 0 0] 24) := ⟨_, rfl⟩
  have ha : Below w.heap.size w W0 := by rw [hW0]; exact (Below.refl _ _).alloc (Nat.le_refl _) _
  have hB : MatB W0 w.heap.size 24 0 none 0 0 := by rw [hW0]; exact MatB.new w _
  replace ha := Lib.hid ha
  replace hB := Lib.hid hB
  clear h
  go_enter Try.func66, Try.ntmps66
  go_wp2_with fail
  rw [← hW0]
  clear hW0
  refine (hN.out _).mono ?_; rintro e w1 ⟨C, p, q, rfl, _, _, hb1⟩
  obtain ⟨W2, hW2⟩ : ∃ W2, W2 = w1.alloc (.cells #[.int .i64 0, .slice C p q] 24) := ⟨_, rfl⟩
  have hb2 : Below w1.heap.size w1 W2 := by rw [hW2]; exact (Below.refl _ _).alloc (Nat.le_refl _) _
  have hbb := Lib.hid (below_trans2 (below_trans2 ha.out hb1) hb2)
  have hB1 := (hB.out.below_ hb1).below_ hb2
  have f20 := hB1.c0
  have f21 := hB1.c1
  have g20 := hB1.frozen 0
  have g21 := hB1.frozen 1
  have hcc := hB1.two (.int .i64 0) (.slice none 0 0)
  have hc1 := Lib.hid hcc.1
  have hc2 := Lib.hid hcc.2
  clear hb1 hb2 hcc hB1
  go_wp2_with fail
  rw [← hW2]
  clear hW2
  by_cases hm0 : 0 < m
  · go_loop [7, 8] (fun e i => e = .int .i64 1 ∧ i = .int .i64 0) (fun _ _ => 0)
    case atStart => exact ⟨rfl, rfl⟩
    case round =>
      obtain ⟨rfl, rfl⟩ := hrel
      go_wp2_with fail
      exact bodyPost_ret (v := .tuple #[.agg #[.int .i64 0, .slice none 0 0], .int .i64 1]) (by simp [results, Try.results66, go_sem, hc1.out, hc2.out]) rfl ⟨none, 0, 0, rfl, RowsAt.nil _ _, Nat.le_refl _, (hbb.out.setCell (by simp) _).setCell (by simp) _⟩
  · obtain rfl : m = 0 := by omega
    go_loop [7, 8] (fun e i => e = .int .i64 1 ∧ i = .int .i64 0) (fun _ _ => 0)
    case atStart => exact ⟨rfl, rfl⟩
    case round =>
      obtain ⟨rfl, rfl⟩ := hrel
      go_wp2_with fail
      exact bodyPost_ret (v := .tuple #[.agg #[.int .i64 0, .slice none 0 0], .int .i64 1]) (by simp [results, Try.results66, go_sem, hc1.out, hc2.out]) rfl ⟨none, 0, 0, rfl, RowsAt.nil _ _, Nat.le_refl _, (hbb.out.setCell (by simp) _).setCell (by simp) _⟩

set_option maxRecDepth 100000 in
set_option maxHeartbeats 2000000 in
theorem ref3_Of_in (n : Nat) (hn : n ≤ 4096) (A : Option Addr) (m c : Nat) (ps : List (Int × Int)) (w : World) (hp : PairsAt w A m ps) (hm : m ≤ 1073741824) :
    Calls Try.prog 66 #[.int .i64 (n : Int), .slice A m c] w (RetMat (ofN n ps) (ofM n ps) (ofE n ps) w) := by
  have hN := Lib.hid (ref3_NewF n hn)
  have hin : belowZ (n : Int) 4097 = true := belowZ_yes (by omega) (by omega)
  obtain ⟨W0, hW0⟩ : ∃ W0, W0 = w.alloc (.cells #[.int .i64 0, .slice none 0 0] 24) := ⟨_, rfl⟩
  have ha : Below w.heap.size w W0 := by rw [hW0]; exact (Below.refl _ _).alloc (Nat.le_refl _) _
  have hB : MatB W0 w.heap.size 24 0 none 0 0 := by rw [hW0]; exact MatB.new w _
  have hyes : Hid (ps.all (okP n) = true → ofN n ps = n ∧ ofM n ps = foldP n ps ∧ ofE n ps = 0) := Lib.hid (fun h => by unfold ofN ofM ofE ofOk; rw [hin, h]; simp)
  have hno : Hid (∀ p ∈ ps, okP n p = false → ofN n ps = 0 ∧ ofM n ps = [] ∧ ofE n ps = 1) := Lib.hid (fun p hp h => by
    have : ps.all (okP n) = false := List.all_eq_false.2 ⟨p, hp, by rw [h]; simp⟩
    unfold ofN ofM ofE ofOk; rw [hin, this]; simp)
  replace ha := Lib.hid ha
  replace hB := Lib.hid hB
  replace hp := Lib.hid hp
  clear hin
  go_enter Try.func66, Try.ntmps66
  go_wp2_with fail
  rw [← hW0]
  clear hW0
  refine (hN.out _).mono ?_; rintro e w1 ⟨C, p, q, rfl, hrows, hcap, hb1, hfarC0⟩
  have hpn : p = n := by rw [← hrows.len]; exact (DimM.new n).1
  subst hpn
  have hsz0 := hB.out.lt
  have hfarC : Hid (∀ ad, C = some ad → w.heap.size < ad.block) := Lib.hid (fun ad e => by have := hfarC0 ad e; omega)
  clear hfarC0 hsz0
  obtain ⟨M, hM⟩ : ∃ M, M = w1.heap.size := ⟨_, rfl⟩
  obtain ⟨W2, hW2⟩ : ∃ W2, W2 = w1.alloc (.cells #[.int .i64 p, .slice C p q] 24) := ⟨_, rfl⟩
  have hb2 : Below w1.heap.size w1 W2 := by rw [hW2]; exact (Below.refl _ _).alloc (Nat.le_refl _) _
  have hbb : Below w.heap.size w W2 := below_trans2 (below_trans2 ha.out hb1) hb2
  have hS : OfS w.heap.size M p ps 0 W2 0 p C p q := .inl ⟨rfl, rfl, rfl, by rw [List.take_zero, foldP_nil]; exact hrows.below hb2, hcap, by simp, fun h0 ad e => by have := hrows.block_lt h0 ad e; have := hfarC.out ad e; omega⟩
  have hR : MatB W2 w.heap.size 24 0 none 0 0 := (hB.out.below_ hb1).below_ hb2
  have hL : MatB W2 M 24 p C p q := by rw [hW2, hM]; exact MatB.new w1 _
  have hMw : w.heap.size < M := by have h1 := (hB.out.below_ hb1).lt; omega
  replace hbb := Lib.hid hbb
  replace hS := Lib.hid hS
  replace hR := Lib.hid hR
  replace hL := Lib.hid hL
  clear hrows hb1 hb2 hN hcap hfarC
  go_wp2_with fail
  rw [← hW2, ← hM]
  clear hW2 hM
  go_loopw [7, 8] (fun e i wr => ∃ (k : Nat) (er N' : Int) (A' : Option Addr) (n' c' : Nat), k ≤ m ∧ e = .int .i64 er ∧ i = .int .i64 k ∧ Hid (OfS w.heap.size M p ps k wr er N' A' n' c') ∧ Hid (MatB wr w.heap.size 24 0 none 0 0) ∧ Hid (MatB wr M 24 N' A' n' c') ∧ Hid (Below w.heap.size w wr)) (fun _ i _ => m - (intOf i).toNat)
  case atStart => exact ⟨0, 0, _, _, _, _, Nat.zero_le _, rfl, rfl, hS, hR, hL, hbb⟩
  case round =>
    obtain ⟨k, er, N', A', n', c', hk, rfl, rfl, hSr, hRr, hLr, hbr⟩ := hrel
    clear hS hR hL hbb
    rcases hSr.out with ⟨e0, e1, e2, hrr, hcap, hall, hfar⟩ | ⟨e1, x, hx, hxf⟩
    · subst e0 e1
      obtain rfl : p = n' := e2.symm
      by_cases hlt : k < m
      · obtain ⟨b, off, ⟨x, y⟩, rfl, hbl, hx, ⟨⟨x1, x2⟩, ⟨y1, y2⟩⟩, hc1, hc2⟩ := (hp.out.below hbr.out).at_ hlt
        simp only at x1 x2 y1 y2 hc1 hc2
        have hok1 : okP p (x, y) = true → ∀ z ∈ ps.take (k + 1), okP p z = true := fun h z hz => by
          rw [List.take_succ_eq_append_getElem (List.getElem?_eq_some_iff.1 hx).1, (List.getElem?_eq_some_iff.1 hx).2] at hz
          rcases List.mem_append.1 hz with h5 | h5
          · exact hall z h5
          · rw [List.mem_singleton.1 h5]; exact h
        have hfold := foldP_snoc p ps k _ hx
        have hmem := List.mem_of_getElem? hx
        have hdim := DimM.fold p (ps.take k)
        have hlr : ∀ xs ∈ foldP p (ps.take k), xs.length ≤ 1024 := fun xs hxs => by
          obtain ⟨i, hi⟩ := List.getElem?_of_mem hxs
          have := hdim.2 i xs hi
          have := words_le hn
          omega
        have l0 := hLr.out.c0
        have l1 := hLr.out.c1
        have hk0 : (0 : Int) ≤ (k : Int) := by omega
        have hkm : (k : Int) < (m : Int) := by omega
        have hcall : Hid (∀ W, RowsAt W A' p (foldP p (ps.take k)) → ∃ (N2 : Int) (xss2 : List (List Nat)) (er2 : Int), Calls Try.prog 13 #[.agg #[.int .i64 (p : Int), .slice A' p c'], .int .i64 x, .int .i64 y] W (RetMatF N2 xss2 er2 W) ∧ ((er2 = 0 ∧ N2 = p ∧ xss2 = foldP p (ps.take (k + 1)) ∧ ∀ z ∈ ps.take (k + 1), okP p z = true) ∨ (er2 = 1 ∧ ∃ z ∈ ps, okP p z = false))) := Lib.hid (fun W hW => by
          rcases Bool.eq_false_or_eq_true (okP p (x, y)) with hok | hok
          · exact ⟨_, _, _, ref3_SetF (p : Int) A' p c' _ x y W hW rfl hn hlr hok, .inl ⟨rfl, rfl, hfold.symm, hok1 hok⟩⟩
          · exact ⟨_, _, _, ref3_Set_noF (p : Int) A' p c' x y W hok, .inr ⟨rfl, _, hmem, hok⟩⟩)
        replace hrr := Lib.hid hrr
        clear hx hok1 hfold hmem hdim hlr hall hSr
        go_wp2_with fail
        refine wp_region_planT 13 [(true, 0), (true, 1), (true, 2), (true, 3), (true, 4), (true, 5), (true, 6), (true, 7), (true, 8), (true, 9), (true, 10), (false, 11), (true, 12)] 15 [13, 14] (by kernel_rfl) (by kernel_rfl) (fun W hW => ?_)
        have p0 : W.cell? ⟨M, 0, none⟩ = some (.int .i64 p) := by rw [hW.out]; exact l0
        have p1 : W.cell? ⟨M, 1, none⟩ = some (.slice A' p c') := by rw [hW.out]; exact l1
        have p2 : W.cell? ⟨b, off + k * 2, none⟩ = some (.int .i64 x) := by rw [hW.out]; exact hc1
        have p3 : W.cell? ⟨b, off + k * 2 + 1, none⟩ = some (.int .i64 y) := by rw [hW.out]; exact hc2
        obtain ⟨N2, xss2, er2, hC, hdone⟩ := hcall.out W (by rw [hW.out]; exact hrr.out)
        have hRW := Lib.hid (show MatB W w.heap.size 24 0 none 0 0 by rw [hW.out]; exact Blk.drew hRr.out)
        have hLW := Lib.hid (show MatB W M 24 p A' p c' by rw [hW.out]; exact Blk.drew hLr.out)
        have hbW := Lib.hid (show Below w.heap.size w W by rw [hW.out]; exact hbr.out.drew)
        replace hC := Lib.hid hC
        replace hdone := Lib.hid hdone
        clear l0 l1 hc1 hc2 hRr hLr hbr hrr hcall
        simp only [List.drop_succ_cons, List.drop_zero]
        iterate 11
          refine wpPlanE_float (v := ?_) rfl (by rfl) (fun w' hw' => ?_) (fun K hK => ?_)
          rotate_left
          · (go_simp; try with_reducible rfl)
          go_simp
          refine hK _ ?_
          clear hK K
        refine wpPlanE_only rfl (by rfl) (fun K hK => ?_)
        go_simp
        refine hC.out.mono ?_
        rintro e w4 ⟨C2, n2, c2, rfl, hrows2, hcap2, hb4, hfar2⟩
        refine hK _ _ hb4 ?_
        clear hK K p0 p1 p2 p3
        have hR4 := Lib.hid (hRW.out.below_ hb4)
        have hL4 := hLW.out.below_ hb4
        have hbb4 := below_trans2 hbW.out hb4
        iterate 1
          refine wpPlanE_float (v := ?_) rfl (by rfl) (fun w' hw' => ?_) (fun K hK => ?_)
          rotate_left
          · (go_simp; try with_reducible rfl)
          go_simp
          refine hK _ ?_
          clear hK K
        refine wpPlanE_nil ?_
        iterate 2
          refine wpPlanT_float (v := ?_) rfl (by rfl) (fun w' => ?_) (fun K hK => ?_)
          rotate_left
          · (go_simp; try with_reducible rfl)
          go_simp
          refine hK _ ?_
          clear hK K
        refine wpPlanT_nil ?_
        have f0 := hL4.c0
        have f1 := hL4.c1
        have g0 := hL4.frozen 0
        have g1 := hL4.frozen 1
        have hLf := Lib.hid (hL4.put N2 C2 n2 c2)
        have hRf := Lib.hid ((hR4.out.farB (p := ⟨M, 0, none⟩) (by simp <;> omega) (.int .i64 N2)).farB (p := ⟨M, 1, none⟩) (by simp <;> omega) (.slice C2 n2 c2))
        have hbf := Lib.hid ((hbb4.setCell (p := ⟨M, 0, none⟩) (by simp <;> omega) (.int .i64 N2)).setCell (p := ⟨M, 1, none⟩) (by simp <;> omega) (.slice C2 n2 c2))
        have hMW : M < W.heap.size := hLW.out.lt
        have hrows5 := Lib.hid (hrows2.putB hL4 (fun _ ad e => by have := hfar2 ad e; omega) (.int .i64 N2) (.slice C2 n2 c2))
        have hS5 : Hid (OfS w.heap.size M p ps (k + 1) ((w4.setCell ⟨M, 0, none⟩ (.int .i64 N2)).setCell ⟨M, 1, none⟩ (.slice C2 n2 c2)) er2 N2 C2 n2 c2) := Lib.hid (by
          rcases hdone.out with ⟨d0, d1, d2, d3⟩ | ⟨d0, d1⟩
          · subst d0 d1 d2
            have hl := hrows5.out.len
            rw [(DimM.fold p (ps.take (k + 1))).1] at hl
            exact .inl ⟨rfl, rfl, hl.symm, hrows5.out, hcap2, d3, fun _ ad e => by have := hfar2 ad e; omega⟩
          · exact .inr ⟨d0, d1⟩)
        clear hrows2 hrows5 hdone hfar2
        replace hL4 := Lib.hid hL4
        clear hb4 hbb4
        go_wp2_with fail
        refine NoPanic.normal ?_
        go_wp2_with fail
        go_roundw
        case rel => exact ⟨k + 1, er2, N2, C2, n2, c2, by omega, rfl, rfl, hS5, hRf, hLf, hbf⟩
        case measure => simp [intOf]; omega
      · obtain rfl : k = m := by omega
        have hfull : ps.take k = ps := by rw [← hp.out.1]; exact List.take_length
        rw [hfull] at hrr hall
        obtain ⟨y1, y2, y3⟩ := hyes.out (List.all_eq_true.2 hall)
        have l0 := hLr.out.c0
        have l1 := hLr.out.c1
        have f0 := hRr.out.c0
        have f1 := hRr.out.c1
        have g0 := hRr.out.frozen 0
        have g1 := hRr.out.frozen 1
        have hcc := hRr.out.two (.int .i64 p) (.slice A' p c')
        have hc1 := Lib.hid hcc.1
        have hc2 := Lib.hid hcc.2
        have hfin : Below w.heap.size w ((wr.setCell ⟨w.heap.size, 0, none⟩ (.int .i64 p)).setCell ⟨w.heap.size, 1, none⟩ (.slice A' p c')) := (hbr.out.setCell (by simp) _).setCell (by simp) _
        have hrf := Lib.hid (hrr.putB hRr.out (fun h0 ad e => by have := (hfar h0 ad e).1; omega) (.int .i64 p) (.slice A' p c'))
        replace y1 := Lib.hid y1
        replace y2 := Lib.hid y2
        replace y3 := Lib.hid y3
        replace hfin := Lib.hid hfin
        clear hcc hall hSr hfull hfar hrr
        go_wp2_with fail
        exact bodyPost_ret (v := .tuple #[.agg #[.int .i64 p, .slice A' p c'], .int .i64 0]) (by simp [results, Try.results66, go_sem, hc1.out, hc2.out]) rfl ⟨A', p, c', by rw [y1.out, y3.out], by rw [y2.out]; exact hrf.out, hcap, hfin.out⟩
    · subst e1
      obtain ⟨y1, y2, y3⟩ := hno.out x hx hxf
      have f0 := hRr.out.c0
      have f1 := hRr.out.c1
      have g0 := hRr.out.frozen 0
      have g1 := hRr.out.frozen 1
      have hcc := hRr.out.two (.int .i64 0) (.slice none 0 0)
      have hc1 := Lib.hid hcc.1
      have hc2 := Lib.hid hcc.2
      replace y1 := Lib.hid y1
      replace y2 := Lib.hid y2
      replace y3 := Lib.hid y3
      have hfin : Below w.heap.size w ((wr.setCell ⟨w.heap.size, 0, none⟩ (.int .i64 0)).setCell ⟨w.heap.size, 1, none⟩ (.slice none 0 0)) := (hbr.out.setCell (by simp) _).setCell (by simp) _
      replace hfin := Lib.hid hfin
      clear hcc hSr hx hxf
      by_cases hlt : k < m
      · go_wp2_with fail
        exact bodyPost_ret (v := .tuple #[.agg #[.int .i64 0, .slice none 0 0], .int .i64 1]) (by simp [results, Try.results66, go_sem, hc1.out, hc2.out]) rfl ⟨none, 0, 0, by rw [y1.out, y3.out], by rw [y2.out]; exact RowsAt.nil _ _, Nat.le_refl _, hfin.out⟩
      · obtain rfl : k = m := by omega
        go_wp2_with fail
        exact bodyPost_ret (v := .tuple #[.agg #[.int .i64 0, .slice none 0 0], .int .i64 1]) (by simp [results, Try.results66, go_sem, hc1.out, hc2.out]) rfl ⟨none, 0, 0, by rw [y1.out, y3.out], by rw [y2.out]; exact RowsAt.nil _ _, Nat.le_refl _, hfin.out⟩
theorem ref3_Of (n : Int) (A : Option Addr) (m c : Nat) (ps : List (Int × Int)) (w : World) (hp : PairsAt w A m ps) (hm : m ≤ 1073741824) :
    Calls Try.prog 66 #[.int .i64 n, .slice A m c] w (RetMat (ofN n ps) (ofM n ps) (ofE n ps) w) := by
  by_cases h : 0 ≤ n ∧ n < 4097
  · obtain ⟨k, rfl⟩ := Int.eq_ofNat_of_zero_le h.1
    exact ref3_Of_in k (by omega) A m c ps w hp hm
  · have hb := belowZ_no (i := n) (n := 4097) (by omega)
    have h0 : ofOk n ps = false := by unfold ofOk; rw [hb]; rfl
    have h1 : ofN n ps = 0 ∧ ofM n ps = [] ∧ ofE n ps = 1 := by unfold ofN ofM ofE; rw [h0]; simp
    rw [h1.1, h1.2.1, h1.2.2]
    exact ref3_Of_big n (by omega) A m c hm w

end Go.Proofs.Ytkikoniihmieiaa
