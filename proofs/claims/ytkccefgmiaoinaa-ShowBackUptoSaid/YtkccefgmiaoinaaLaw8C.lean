/- Layer 8's law ShowBack, walked (where what comes in is of no more than 2^40 operations). -/
import Derived.Test.YtkccefgmiaoinaaLaw8A
import Derived.Test.YtkccefgmiaoinaaReadRefB
namespace Go.Proofs.Ytkccefgmiaoinaa
open Go.RowKit
set_option linter.unusedVariables false

theorem data_bytesL (l : List UInt8) : (bytesL l).data.toList = l := by simp [bytesL]
theorem showT_size {hs : List (List OpT)} (hr : rightL hs = true) (ho : OkO (allO hs)) (hn : hs.length ≤ 60) : (bytesL (showT hs)).size ≤ 1073741824 := by
  obtain ⟨h1, h2⟩ := right_told hr ho
  have h3 := showT_le hs (fun o h => (told_len (h1 o h)).1)
  rw [bytesL_size]; omega
set_option maxRecDepth 100000 in
set_option maxHeartbeats 2000000 in
theorem law8_ShowBack (A : Option Addr) (n c : Nat) (hs : List (List OpT)) (y : ByteArray) (w : World) (hX : HistAt w A n hs) (hnc : n ≤ c) (hc : c ≤ 1099511627776) (hF : (allO hs).length ≤ 1099511627776) (hy : y.size ≤ 9223372036854775807) :
    Calls Try.prog 4 #[.slice A n c, .string y] w (RetBool true w) := by
  have hXl := hX.len
  have cSa := Lib.hid (ref6_Small A n c 60 hs w hX (by omega) (by omega))
  replace hX := Lib.hid hX
  replace hXl := Lib.hid hXl
  cases hsa : smallL hs 60 with
  | false =>
    rw [hsa] at cSa
    clear hsa
    go_enter Try.func4, Try.ntmps4
    go_wp2_with fail
    refine cSa.out.mono ?_; rintro e w1 ⟨rfl, b⟩
    have bb := Lib.hid b
    clear b
    go_wp2_with fail
    refine (law8_awake w1).mono ?_; rintro e w9 ⟨rfl, b9⟩
    go_wp2_with fail
    go_ret
    exact ⟨rfl, below_trans2 bb.out b9⟩
  | true =>
    rw [hsa] at cSa
    obtain ⟨hnx, hFx60, -⟩ := smallL_says hsa
    have hl60 : hs.length ≤ 60 := by omega
    rw [hXl.out] at hnx
    clear hsa
    by_cases hy1000 : (1000 : Int) < (y.size : Int)
    · go_enter Try.func4, Try.ntmps4
      go_wp2_with fail
      refine cSa.out.mono ?_; rintro e w1 ⟨rfl, b⟩
      have bb := Lib.hid b
      clear b
      go_wp2_with fail
      refine (law8_awake w1).mono ?_; rintro e w9 ⟨rfl, b9⟩
      go_wp2_with fail
      go_ret
      exact ⟨rfl, below_trans2 bb.out b9⟩
    · cases hr : rightL hs with
      | true =>
        have hS := shown_yes hr
        have hok := okO_all hX.out
        have hback := textL_show hr hok
        have hsz := showT_size hr hok hl60
        obtain ⟨S, hSe⟩ : ∃ S, S = bytesL (showT hs) := ⟨_, rfl⟩
        have hSd : S.data.toList = showT hs := by rw [hSe, data_bytesL]
        rw [← hSe] at hS hsz
        rw [← hSd] at hback
        have e00 : ((0 : Int) == 0) = true := rfl
        replace hback := Lib.hid hback
        replace hr := Lib.hid hr
        replace hS := Lib.hid hS
        replace hSe := Lib.hid hSe
        replace hSd := Lib.hid hSd
        replace hok := Lib.hid hok
        go_enter Try.func4, Try.ntmps4
        go_wp2_with fail
        refine cSa.out.mono ?_; rintro e w1 ⟨rfl, b⟩
        have bb := Lib.hid b
        replace hX := Lib.hid (hX.out.below b)
        clear b cSa
        have c1 := show_Text A n c hs w1 hX.out hnc (by omega) (by omega) hF
        unfold RetShow at c1
        rw [hS.out.1, hS.out.2] at c1
        replace c1 := Lib.hid c1
        go_wp2_with fail
        refine c1.out.mono ?_; rintro e w2 ⟨rfl, b⟩
        replace bb := Lib.hid (below_trans2 bb.out b)
        replace hX := Lib.hid (hX.out.below b)
        clear b c1
        have cR := Lib.hid (ref6_Right A n c hs w2 hX.out (by omega) (by omega))
        rw [hr.out] at cR
        go_wp2_with fail
        refine cR.out.mono ?_; rintro e w3 ⟨rfl, b⟩
        replace bb := Lib.hid (below_trans2 bb.out b)
        replace hX := Lib.hid (hX.out.below b)
        clear b cR
        have cT := ref7_Text S w3 hsz
        rw [hback.out] at cT
        have cT' : Hid (Calls Try.prog 13 #[.string S] w3 fun x w' => ∃ A c, x = .returned (.tuple #[.slice A n c, .int .i64 0, .int .i64 0]) ∧ HistAt w' A n hs ∧ Below w3.heap.size w3 w') := Lib.hid (cT.mono fun x w' h => by
          obtain ⟨A, n', c, hx, hH, hnc, hc, b⟩ := h
          have hn := hH.len
          obtain rfl : n' = n := by rw [← hn]; exact hXl.out
          exact ⟨A, c, hx, hH, b⟩)
        clear cT
        go_wp2_with fail
        refine cT'.out.mono ?_; rintro x w4 ⟨A1, c1, rfl, hG, b⟩
        replace bb := Lib.hid (below_trans2 bb.out b)
        replace hX := Lib.hid (hX.out.below b)
        clear b cT'
        have cS := Lib.hid (ref6_Same A1 A n c1 n c hs hs w4 hG hX.out (by omega) (by omega))
        rw [show decide (hs = hs) = true from decide_eq_true rfl] at cS
        clear hG
        go_wp2_with fail
        refine cS.out.mono ?_; rintro x w5 ⟨rfl, q, rfl⟩
        replace bb := Lib.hid (below_drewN bb.out q)
        clear cS
        obtain ⟨w6, hw6⟩ : ∃ W, W = w4.drewN q := ⟨_, rfl⟩
        rw [← hw6] at bb ⊢
        clear hw6 hX
        -- behind the text of the history: the text that came in is read, and told again
        cases hr2 : textL y.data.toList with
        | bad k e =>
          obtain ⟨_, he⟩ := textL_bad hr2
          have he0 : (e != 0) = true := by rcases he with h | h <;> (subst h; rfl)
          have cT := ref7_Text y w6 (by omega)
          rw [hr2] at cT
          have cT' : Hid (Calls Try.prog 13 #[.string y] w6 fun x w' => ∃ A c, x = .returned (.tuple #[.slice A 0 c, .int .i64 (k : Nat), .int .i64 e]) ∧ HistAt w' A 0 [] ∧ c ≤ 9223372036854775807 ∧ Below w6.heap.size w6 w') := Lib.hid (cT.mono fun x w' h => by
            obtain ⟨A, n, c, hx, hH, _, hc, b⟩ := h
            have hn := hH.len
            obtain rfl : n = 0 := hn.symm
            exact ⟨A, c, hx, hH, hc, b⟩)
          clear cT he
          replace hr2 := Lib.hid hr2
          go_wp2_with fail
          refine cT'.out.mono ?_; rintro x v1 ⟨A2, c2, rfl, hG, hc2, b⟩
          replace bb := Lib.hid (below_trans2 bb.out b)
          clear b cT'
          have cU := show_Text A2 0 c2 [] v1 hG (by omega) (by omega) hc2 (by decide)
          obtain ⟨U, hU⟩ : ∃ U, U = shownS [] := ⟨_, rfl⟩
          obtain ⟨I, hI⟩ : ∃ I, I = shownE [] := ⟨_, rfl⟩
          unfold RetShow at cU
          rw [← hU, ← hI] at cU
          replace cU := Lib.hid cU
          replace hU := Lib.hid hU
          replace hI := Lib.hid hI
          clear hG
          go_wp2_with fail
          refine cU.out.mono ?_; rintro x v2 ⟨rfl, b⟩
          replace bb := Lib.hid (below_trans2 bb.out b)
          clear b cU
          go_wp2_with fail
          refine (law8_awake v2).mono ?_; rintro e v3 ⟨rfl, b⟩
          replace bb := Lib.hid (below_trans2 bb.out b)
          clear b
          go_wp2_with fail
          go_ret
          exact ⟨rfl, bb.out⟩
        | ok ks =>
          have hlen := textT_len _ y.data.toList (Nat.le_refl _) 0 ks hr2
          rw [size_list] at hlen
          have hright := textL_right hr2 (by rw [size_list]; omega)
          have htext := textL_text hr2
          have cT := ref7_Text y w6 (by omega)
          rw [hr2] at cT
          obtain ⟨N, hN⟩ : ∃ N, N = ks.length := ⟨_, rfl⟩
          have cT' : Hid (Calls Try.prog 13 #[.string y] w6 fun x w' => ∃ A c, x = .returned (.tuple #[.slice A N c, .int .i64 0, .int .i64 0]) ∧ HistAt w' A N ks ∧ N ≤ c ∧ c ≤ 9223372036854775807 ∧ Below w6.heap.size w6 w') := Lib.hid (cT.mono fun x w' h => by
            obtain ⟨A, n, c, hx, hH, hnc, hc, b⟩ := h
            have hn := hH.len
            obtain rfl : n = N := by rw [hN]; exact hn.symm
            exact ⟨A, c, hx, hH, hnc, hc, b⟩)
          clear cT
          replace hr2 := Lib.hid hr2
          replace hN := Lib.hid hN
          have hN60 : N ≤ 1000 := by rw [hN.out]; omega
          have hF1 : (allO ks).length ≤ 1099511627776 := by omega
          clear hlen
          go_wp2_with fail
          refine cT'.out.mono ?_; rintro x v1 ⟨A2, c2, rfl, hG, hnc2, hc2, b⟩
          replace bb := Lib.hid (below_trans2 bb.out b)
          clear b cT'
          have cU := show_Text A2 N c2 ks v1 hG hnc2 (by omega) hc2 hF1
          unfold RetShow at cU
          rw [(shown_yes hright).1, (shown_yes hright).2, htext, bytesL_of] at cU
          replace cU := Lib.hid cU
          clear hG hright htext hF1
          have eU : (y.toList == y.toList) = true := by simp
          go_wp2_with fail
          refine cU.out.mono ?_; rintro x v2 ⟨rfl, b⟩
          replace bb := Lib.hid (below_trans2 bb.out b)
          clear b cU
          go_wp2_with fail
          refine (law8_awake v2).mono ?_; rintro e v3 ⟨rfl, b⟩
          replace bb := Lib.hid (below_trans2 bb.out b)
          clear b
          go_wp2_with fail
          go_ret
          exact ⟨rfl, bb.out⟩
      | false =>
        have hS := shown_no hr
        replace hr := Lib.hid hr
        replace hS := Lib.hid hS
        go_enter Try.func4, Try.ntmps4
        go_wp2_with fail
        refine cSa.out.mono ?_; rintro e w1 ⟨rfl, b⟩
        have bb := Lib.hid b
        replace hX := Lib.hid (hX.out.below b)
        clear b cSa
        have c1 := show_Text A n c hs w1 hX.out hnc (by omega) (by omega) hF
        unfold RetShow at c1
        rw [hS.out.1, hS.out.2] at c1
        replace c1 := Lib.hid c1
        go_wp2_with fail
        refine c1.out.mono ?_; rintro e w2 ⟨rfl, b⟩
        replace bb := Lib.hid (below_trans2 bb.out b)
        replace hX := Lib.hid (hX.out.below b)
        clear b c1
        have cR := Lib.hid (ref6_Right A n c hs w2 hX.out (by omega) (by omega))
        rw [hr.out] at cR
        go_wp2_with fail
        refine cR.out.mono ?_; rintro e w3 ⟨rfl, b⟩
        replace bb := Lib.hid (below_trans2 bb.out b)
        clear b cR hX
        have cT := ref7_Text ⟨#[]⟩ w3 (by decide)
        rw [show textL (⟨#[]⟩ : ByteArray).data.toList = .ok [] from textT_nil 0] at cT
        have cT' : Hid (Calls Try.prog 13 #[.string ⟨#[]⟩] w3 fun x w' => ∃ A c, x = .returned (.tuple #[.slice A 0 c, .int .i64 0, .int .i64 0]) ∧ Below w3.heap.size w3 w') := Lib.hid (cT.mono fun x w' h => by
          obtain ⟨A, n', c, hx, hH, hnc, hc, b⟩ := h
          have hn := hH.len
          obtain rfl : n' = 0 := hn.symm
          exact ⟨A, c, hx, b⟩)
        clear cT
        go_wp2_with fail
        refine cT'.out.mono ?_; rintro x w4 ⟨A1, c1, rfl, b⟩
        replace bb := Lib.hid (below_trans2 bb.out b)
        clear b cT'
        go_wp2_with fail
        -- behind the text of the history: the text that came in is read, and told again
        cases hr2 : textL y.data.toList with
        | bad k e =>
          obtain ⟨_, he⟩ := textL_bad hr2
          have he0 : (e != 0) = true := by rcases he with h | h <;> (subst h; rfl)
          have cT := ref7_Text y w4 (by omega)
          rw [hr2] at cT
          have cT' : Hid (Calls Try.prog 13 #[.string y] w4 fun x w' => ∃ A c, x = .returned (.tuple #[.slice A 0 c, .int .i64 (k : Nat), .int .i64 e]) ∧ HistAt w' A 0 [] ∧ c ≤ 9223372036854775807 ∧ Below w4.heap.size w4 w') := Lib.hid (cT.mono fun x w' h => by
            obtain ⟨A, n, c, hx, hH, _, hc, b⟩ := h
            have hn := hH.len
            obtain rfl : n = 0 := hn.symm
            exact ⟨A, c, hx, hH, hc, b⟩)
          clear cT he
          replace hr2 := Lib.hid hr2
          go_wp2_with fail
          refine cT'.out.mono ?_; rintro x v1 ⟨A2, c2, rfl, hG, hc2, b⟩
          replace bb := Lib.hid (below_trans2 bb.out b)
          clear b cT'
          have cU := show_Text A2 0 c2 [] v1 hG (by omega) (by omega) hc2 (by decide)
          obtain ⟨U, hU⟩ : ∃ U, U = shownS [] := ⟨_, rfl⟩
          obtain ⟨I, hI⟩ : ∃ I, I = shownE [] := ⟨_, rfl⟩
          unfold RetShow at cU
          rw [← hU, ← hI] at cU
          replace cU := Lib.hid cU
          replace hU := Lib.hid hU
          replace hI := Lib.hid hI
          clear hG
          go_wp2_with fail
          refine cU.out.mono ?_; rintro x v2 ⟨rfl, b⟩
          replace bb := Lib.hid (below_trans2 bb.out b)
          clear b cU
          go_wp2_with fail
          refine (law8_awake v2).mono ?_; rintro e v3 ⟨rfl, b⟩
          replace bb := Lib.hid (below_trans2 bb.out b)
          clear b
          go_wp2_with fail
          go_ret
          exact ⟨rfl, bb.out⟩
        | ok ks =>
          have hlen := textT_len _ y.data.toList (Nat.le_refl _) 0 ks hr2
          rw [size_list] at hlen
          have hright := textL_right hr2 (by rw [size_list]; omega)
          have htext := textL_text hr2
          have cT := ref7_Text y w4 (by omega)
          rw [hr2] at cT
          obtain ⟨N, hN⟩ : ∃ N, N = ks.length := ⟨_, rfl⟩
          have cT' : Hid (Calls Try.prog 13 #[.string y] w4 fun x w' => ∃ A c, x = .returned (.tuple #[.slice A N c, .int .i64 0, .int .i64 0]) ∧ HistAt w' A N ks ∧ N ≤ c ∧ c ≤ 9223372036854775807 ∧ Below w4.heap.size w4 w') := Lib.hid (cT.mono fun x w' h => by
            obtain ⟨A, n, c, hx, hH, hnc, hc, b⟩ := h
            have hn := hH.len
            obtain rfl : n = N := by rw [hN]; exact hn.symm
            exact ⟨A, c, hx, hH, hnc, hc, b⟩)
          clear cT
          replace hr2 := Lib.hid hr2
          replace hN := Lib.hid hN
          have hN60 : N ≤ 1000 := by rw [hN.out]; omega
          have hF1 : (allO ks).length ≤ 1099511627776 := by omega
          clear hlen
          go_wp2_with fail
          refine cT'.out.mono ?_; rintro x v1 ⟨A2, c2, rfl, hG, hnc2, hc2, b⟩
          replace bb := Lib.hid (below_trans2 bb.out b)
          clear b cT'
          have cU := show_Text A2 N c2 ks v1 hG hnc2 (by omega) hc2 hF1
          unfold RetShow at cU
          rw [(shown_yes hright).1, (shown_yes hright).2, htext, bytesL_of] at cU
          replace cU := Lib.hid cU
          clear hG hright htext hF1
          have eU : (y.toList == y.toList) = true := by simp
          go_wp2_with fail
          refine cU.out.mono ?_; rintro x v2 ⟨rfl, b⟩
          replace bb := Lib.hid (below_trans2 bb.out b)
          clear b cU
          go_wp2_with fail
          refine (law8_awake v2).mono ?_; rintro e v3 ⟨rfl, b⟩
          replace bb := Lib.hid (below_trans2 bb.out b)
          clear b
          go_wp2_with fail
          go_ret
          exact ⟨rfl, bb.out⟩

end Go.Proofs.Ytkccefgmiaoinaa
