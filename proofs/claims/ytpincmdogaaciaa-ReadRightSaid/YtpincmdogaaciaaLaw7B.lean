/- Layer 7's law ReadRight. -/
import Derived.Test.YtpincmdogaaciaaLaw7A
import Derived.Test.YtpincmdogaaciaaReadMathE
namespace Go.Proofs.Ytpincmdogaaciaa
open Go.RowKit
set_option linter.unusedVariables false

set_option maxRecDepth 100000 in
set_option maxHeartbeats 1000000 in
theorem law7_ReadRight (s : ByteArray) (w : World) : Calls Try.prog 4 #[.string s] w fun e w' => e = .returned (.bool true) ∧ Below w.heap.size w w' := by
  by_cases hs : 1000 < s.size
  · have hs' : (1000 : Int) < (s.size : Int) := by omega
    clear hs
    go_enter Try.func4, Try.ntmps4
    go_wp2_with fail
    refine (law7_awake w).mono ?_; rintro e w1 ⟨rfl, b⟩
    go_wp2_with fail
    go_ret
    exact ⟨rfl, b⟩
  · have hs' : ¬ (1000 : Int) < (s.size : Int) := by omega
    have c1 := Lib.hid (read_Text s w (by omega))
    cases hr : textL s.data.toList with
    | bad k e =>
      rw [hr] at c1
      obtain ⟨hk, he⟩ := textL_bad hr
      rw [size_list] at hk
      have c1' : Hid (Calls Try.prog 8 #[.string s] w fun x w' => ∃ A c, x = .returned (.tuple #[.slice A 0 c, .int .i64 (k : Nat), .int .i64 e]) ∧ Below w.heap.size w w') := Lib.hid (c1.out.mono fun x w' h => by
        obtain ⟨A, n, c, hx, hH, _, _, b⟩ := h
        have hn := hH.len
        have hn' : n = 0 := hn.symm
        subst hn'
        exact ⟨A, c, hx, b⟩)
      replace hr := Lib.hid hr
      clear c1
      rcases he with he | he
      all_goals
        subst he
        go_enter Try.func4, Try.ntmps4
        go_wp2_with fail
        refine c1'.out.mono ?_
        rintro x w1 ⟨A, c, rfl, b⟩
        replace b := Lib.hid b
        have hkI : (k : Int) ≤ (s.size : Int) := by omega
        have hk0 : (0 : Int) ≤ (k : Int) := by omega
        go_wp2_with fail
        refine (law7_awake w1).mono ?_
        rintro x w2 ⟨rfl, b2⟩
        replace b := Lib.hid (below_trans2 b.out b2)
        go_wp2_with fail
        go_ret
        exact ⟨rfl, b.out⟩
    | ok hs1 =>
      rw [hr] at c1
      obtain ⟨N, hN⟩ : ∃ N, N = hs1.length := ⟨_, rfl⟩
      have c1' : Hid (Calls Try.prog 8 #[.string s] w fun x w' => ∃ A c, x = .returned (.tuple #[.slice A N c, .int .i64 0, .int .i64 0]) ∧ HistAt w' A N hs1 ∧ Below w.heap.size w w') := Lib.hid (c1.out.mono fun x w' h => by
        obtain ⟨A, n, c, hx, hH, _, _, b⟩ := h
        have hn := hH.len
        have hn' : n = N := by rw [hN]; exact hn.symm
        subst hn'
        exact ⟨A, c, hx, hH, b⟩)
      clear c1
      by_cases h0 : s.size = 0
      · have hnil : s.data.toList = [] := List.eq_nil_of_length_eq_zero (by rw [size_list]; exact h0)
        have hN0 : N = 0 := by
          rw [hnil] at hr
          have e : textL [] = .ok [] := textT_nil 0
          rw [e] at hr
          injection hr with hr
          rw [hN, ← hr]; rfl
        have h0' : ((s.size : Int) == 0) = true := by rw [h0]; rfl
        subst hN0
        replace hr := Lib.hid hr
        replace hN := Lib.hid hN
        clear hnil h0
        go_enter Try.func4, Try.ntmps4
        go_wp2_with fail
        refine c1'.out.mono ?_; rintro x w1 ⟨A, c, rfl, hH, b⟩
        replace b := Lib.hid b
        clear hH
        go_wp2_with fail
        refine (law7_awake w1).mono ?_; rintro e' w3 ⟨rfl, b3⟩
        replace b := Lib.hid (below_trans2 b.out b3)
        go_wp2_with fail
        go_ret
        exact ⟨rfl, b.out⟩
      · have h0' : ((s.size : Int) == 0) = false := by rw [beq_eq_false_iff_ne]; omega
        have hne : s.data.toList ≠ [] := fun h => h0 (by rw [← size_list, h]; rfl)
        have hl4 : s.data.toList.length ≤ 4096 := by rw [size_list]; omega
        obtain ⟨c, hcl, hc10⟩ := textL_last hr hne
        have hright := textL_right hr hl4
        have hflat := (textT_len _ s.data.toList (Nat.le_refl _) 0 hs1 hr)
        rw [size_list] at hflat hcl
        have hzi : 0 ≤ (s.size : Int) - 1 ∧ (s.size : Int) - 1 < (s.size : Int) := ⟨by omega, by omega⟩
        obtain ⟨y, hy⟩ : ∃ y, y = s.extract 0 (s.size - 1) := ⟨_, rfl⟩
        have hyl : y.data.toList = s.data.toList.take (s.data.toList.length - 1) := by
          rw [hy, ByteArray.data_extract, Array.toList_extract, List.extract, List.drop_zero, size_list, Nat.sub_zero]
        have hys : y.size ≤ 1073741824 := by
          rw [← size_list, hyl]
          refine Nat.le_trans (List.length_take_le _ _) ?_
          rw [size_list]; omega
        have hcz : s[s.size - 1]'(by omega) = c := by
          have h := byte_at s (s.size - 1) (by omega)
          rw [hcl] at h
          injection h with h
          exact h.symm
        have n10 : ((c.toNat : Int) == 10) = true := by rw [beq_iff_eq]; omega
        have hcut := fun g (h : textL y.data.toList = .ok g) => textL_cut hr hne hl4 (by rw [← hyl]; exact h)
        replace hr := Lib.hid hr
        replace hcl := Lib.hid hcl
        replace hyl := Lib.hid hyl
        replace hcut := Lib.hid hcut
        replace hflat := Lib.hid hflat
        replace hright := Lib.hid hright
        replace hN := Lib.hid hN
        have hNs : N ≤ s.size := by rw [hN.out]; exact hflat.out.2
        clear hne hl4 h0 hc10
        go_enter Try.func4, Try.ntmps4
        go_wp2_with fail
        refine c1'.out.mono ?_; rintro x w1 ⟨A, c', rfl, hH, b⟩
        replace b := Lib.hid b
        replace hH := Lib.hid hH
        have c2 := Lib.hid (read_Text y w1 hys)
        go_wp2_with fail
        rw [← hy]
        replace hy := Lib.hid hy
        cases hr2 : textL y.data.toList with
        | bad k e =>
          rw [hr2] at c2
          obtain ⟨_, he⟩ := textL_bad hr2
          have he0 : (e != 0) = true := by rcases he with h | h <;> (subst h; rfl)
          have c2' : Hid (Calls Try.prog 8 #[.string y] w1 fun x w' => ∃ A n c, x = .returned (.tuple #[.slice A n c, .int .i64 (k : Nat), .int .i64 e]) ∧ Below w1.heap.size w1 w') := Lib.hid (c2.out.mono fun x w' h => by
            obtain ⟨A, n, c, hx, _, _, _, b⟩ := h
            exact ⟨A, n, c, hx, b⟩)
          replace hr2 := Lib.hid hr2
          clear c2 he
          refine c2'.out.mono ?_; rintro x w2 ⟨A2, n2, d2, rfl, b2⟩
          replace b := Lib.hid (below_trans2 b.out b2)
          replace hH := Lib.hid (hH.out.below b2)
          clear b2
          go_wp2_with fail
          refine (law7_awake w2).mono ?_; rintro x w3 ⟨rfl, b3⟩
          replace b := Lib.hid (below_trans2 b.out b3)
          replace hH := Lib.hid (hH.out.below b3)
          have cR := Lib.hid (ref6_Right A N c' hs1 w3 hH.out (by omega) (by have := hflat.out.1; omega))
          rw [hright.out] at cR
          clear b3
          go_wp2_with fail
          refine cR.out.mono ?_; rintro x w4 ⟨rfl, b4⟩
          replace b := Lib.hid (below_trans2 b.out b4)
          clear b4
          go_wp2_with fail
          go_ret
          exact ⟨rfl, b.out⟩
        | ok g =>
          rw [hr2] at c2
          have hgl := hcut.out g hr2
          obtain ⟨M, hM⟩ : ∃ M, M = g.length := ⟨_, rfl⟩
          have hNM : N = M + 1 := by rw [hN.out, hM]; exact hgl
          have c2' : Hid (Calls Try.prog 8 #[.string y] w1 fun x w' => ∃ A c, x = .returned (.tuple #[.slice A M c, .int .i64 0, .int .i64 0]) ∧ Below w1.heap.size w1 w') := Lib.hid (c2.out.mono fun x w' h => by
            obtain ⟨A, n, c, hx, hG, _, _, b⟩ := h
            have hn := hG.len
            have hn' : n = M := by rw [hM]; exact hn.symm
            subst hn'
            exact ⟨A, c, hx, b⟩)
          have hlast : ((M : Int) == (N : Int) - 1) = true := by rw [beq_iff_eq]; omega
          replace hr2 := Lib.hid hr2
          replace hgl := Lib.hid hgl
          replace hM := Lib.hid hM
          replace hNM := Lib.hid hNM
          clear c2
          refine c2'.out.mono ?_; rintro x w2 ⟨A2, d2, rfl, b2⟩
          replace b := Lib.hid (below_trans2 b.out b2)
          replace hH := Lib.hid (hH.out.below b2)
          clear b2
          go_wp2_with fail
          refine (law7_awake w2).mono ?_; rintro x w3 ⟨rfl, b3⟩
          replace b := Lib.hid (below_trans2 b.out b3)
          replace hH := Lib.hid (hH.out.below b3)
          have cR := Lib.hid (ref6_Right A N c' hs1 w3 hH.out (by omega) (by have := hflat.out.1; omega))
          rw [hright.out] at cR
          clear b3
          go_wp2_with fail
          refine cR.out.mono ?_; rintro x w4 ⟨rfl, b4⟩
          replace b := Lib.hid (below_trans2 b.out b4)
          clear b4
          go_wp2_with fail
          go_ret
          exact ⟨rfl, b.out⟩

end Go.Proofs.Ytpincmdogaaciaa
