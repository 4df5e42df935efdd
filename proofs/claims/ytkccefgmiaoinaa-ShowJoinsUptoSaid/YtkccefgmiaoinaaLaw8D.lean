/- Layer 8's law ShowJoins, walked (where what comes in is of no more than 2^40 operations). -/
import Derived.Test.YtkccefgmiaoinaaLaw8A
import Derived.Test.YtkccefgmiaoinaaHistJoin
namespace Go.Proofs.Ytkccefgmiaoinaa
open Go.RowKit
set_option linter.unusedVariables false

theorem shownS_size {hs : List (List OpT)} (ho : OkO (allO hs)) (hn : hs.length ≤ 4096) : (shownS hs).size ≤ 300000 := by
  cases hr : rightL hs with
  | false => rw [(shown_no hr).1]; decide
  | true =>
    rw [(shown_yes hr).1, bytesL_size]
    obtain ⟨h1, h2⟩ := right_told hr ho
    have h3 := showT_le hs (fun o h => (told_len (h1 o h)).1)
    omega
theorem info_sess8 : (Try.prog.info? 38).map (fun i => (i.zero, i.size, i.bytes)) = some (some (.slice none 0 0), 1, 24) := by kernel_rfl
set_option maxRecDepth 100000 in
set_option maxHeartbeats 4000000 in
theorem law8_ShowJoins (A B : Option Addr) (n c m d : Nat) (xs ys : List (List OpT)) (w : World) (hX : HistAt w A n xs) (hY : HistAt w B m ys) (hnc : n ≤ c) (hc : c ≤ 1099511627776) (hmd : m ≤ d) (hd : d ≤ 1099511627776)
    (hFx : (allO xs).length ≤ 1099511627776) (hFy : (allO ys).length ≤ 1099511627776) :
    Calls Try.prog 5 #[.slice A n c, .slice B m d] w (RetBool true w) := by
  have hXl := hX.len
  have hYl := hY.len
  have hI := Lib.hid (⟨hX, hY, Below.refl _ _⟩ : JoinI w A n xs B m ys w)
  clear hX hY
  replace hXl := Lib.hid hXl
  replace hYl := Lib.hid hYl
  have cSa := Lib.hid (ref6_Small A n c 40 xs w hI.out.x (by omega) (by omega))
  cases hsa : smallL xs 40 with
  | false =>
    rw [hsa] at cSa
    clear hsa
    go_enter Try.func5, Try.ntmps5
    go_wp2_with fail
    refine cSa.out.mono ?_; rintro e w1 ⟨rfl, b4⟩
    replace hI := Lib.hid (hI.out.later b4)
    go_wp2_with fail
    refine (law8_awake w1).mono ?_; rintro e w9 ⟨rfl, b9⟩
    go_wp2_with fail
    go_ret
    exact ⟨rfl, below_trans2 hI.out.b b9⟩
  | true =>
    rw [hsa] at cSa
    obtain ⟨hnx, hFx40, -⟩ := smallL_says hsa
    rw [hXl.out] at hnx
    clear hsa
    go_enter Try.func5, Try.ntmps5
    go_wp2_with fail
    refine cSa.out.mono ?_; rintro e w1 ⟨rfl, b4⟩
    replace hI := Lib.hid (hI.out.later b4)
    clear b4 cSa
    have cSb := Lib.hid (ref6_Small B m d 40 ys w1 hI.out.y (by omega) (by omega))
    cases hsb : smallL ys 40 with
    | false =>
      rw [hsb] at cSb
      clear hsb
      go_wp2_with fail
      refine cSb.out.mono ?_; rintro e w2 ⟨rfl, b5⟩
      replace hI := Lib.hid (hI.out.later b5)
      go_wp2_with fail
      refine (law8_awake w2).mono ?_; rintro e w9 ⟨rfl, b9⟩
      go_wp2_with fail
      go_ret
      exact ⟨rfl, below_trans2 hI.out.b b9⟩
    | true =>
      rw [hsb] at cSb
      obtain ⟨hny, hFy40, -⟩ := smallL_says hsb
      rw [hYl.out] at hny
      clear hsb
      go_wp2_with fail
      refine cSb.out.mono ?_; rintro e w2 ⟨rfl, b5⟩
      replace hI := Lib.hid (hI.out.later b5)
      clear b5 cSb
      obtain ⟨S, hS⟩ : ∃ S, S = shownS xs := ⟨_, rfl⟩
      obtain ⟨E, hE⟩ : ∃ E, E = shownE xs := ⟨_, rfl⟩
      have hSs : S.size ≤ 300000 := by rw [hS]; exact shownS_size hI.out.x.okO (by rw [hXl.out]; omega)
      have c1 := show_Text A n c xs w2 hI.out.x hnc (by omega) (by omega) hFx
      unfold RetShow at c1
      rw [← hS, ← hE] at c1
      replace c1 := Lib.hid c1
      replace hS := Lib.hid hS
      replace hE := Lib.hid hE
      go_wp2_with fail
      refine c1.out.mono ?_; rintro e w3 ⟨rfl, b5⟩
      replace hI := Lib.hid (hI.out.later b5)
      clear b5 c1
      obtain ⟨T, hT⟩ : ∃ T, T = shownS ys := ⟨_, rfl⟩
      obtain ⟨F, hF⟩ : ∃ F, F = shownE ys := ⟨_, rfl⟩
      have hTs : T.size ≤ 300000 := by rw [hT]; exact shownS_size hI.out.y.okO (by rw [hYl.out]; omega)
      have c1 := show_Text B m d ys w3 hI.out.y hmd (by omega) (by omega) hFy
      unfold RetShow at c1
      rw [← hT, ← hF] at c1
      replace c1 := Lib.hid c1
      replace hT := Lib.hid hT
      replace hF := Lib.hid hF
      go_wp2_with fail
      refine c1.out.mono ?_; rintro e w4 ⟨rfl, b5⟩
      replace hI := Lib.hid (hI.out.later b5)
      clear b5 c1
      obtain ⟨i0, hi, hz0, hz1, hz2⟩ := info_parts info_sess8
      replace hi := Lib.hid hi
      replace hz0 := Lib.hid hz0
      replace hz1 := Lib.hid hz1
      replace hz2 := Lib.hid hz2
      obtain ⟨vs, hvr, hvl, hv1, hvs⟩ := hI.out.x.rd
      obtain ⟨us, hur, hul, hu1, hus⟩ := hI.out.y.rd
      have hlit : (w4.alloc (.cells #[] 38)).ownsRow w4.heap.size 38 1 (.slice (some ⟨w4.heap.size, 0, none⟩) 0 0) 0 [] := by
        have h := World.ownsRow_lit (size := 1) (base := w4.heap.size) (e := 38) w4 #[] 0 (Nat.le_refl _) (by omega) (by simp)
        simpa using h
      have hb0 : Below w4.heap.size w4 (w4.alloc (.cells #[] 38)) := (Below.refl _ _).alloc (Nat.le_refl _) _
      have hrd := Lib.hid (hvr.below hb0)
      have hrd2 := Lib.hid hur
      replace hlit := Lib.hid hlit
      replace hb0 := Lib.hid hb0
      replace hv1 := Lib.hid hv1
      replace hu1 := Lib.hid hu1
      replace hvs := Lib.hid hvs
      replace hus := Lib.hid hus
      replace hvl := Lib.hid hvl
      replace hul := Lib.hid hul
      have hvn := Lib.hid hvr.1
      have hun := Lib.hid hur.1
      clear hvr hur
      go_wp2_with (first
        | (at_builtin; refine wpList_append_rd rfl (.tmp 31) (.tmp 32) _ rfl w4.heap.size 38 i0 _ 24 Try.underlying22 hi.out hz0.out hz1.out hz2.out rfl _ 0 _ (by rfl) hlit.out _ n c _ rfl hrd.out hv1.out (by unfold maxLen; omega) (by omega) hb0.out.size ?_; intro v1 w5 hown1 hbb hform; clear hform; rw [Nat.zero_add, List.nil_append] at hown1; replace hown1 := Lib.hid hown1; replace hb0 := Lib.hid (hb0.out.trans hbb); replace hrd2 := Lib.hid (hrd2.out.below hb0.out); clear hbb)
        | (at_builtin; refine wpList_append_rd rfl (.tmp 33) (.tmp 34) _ rfl w4.heap.size 38 i0 _ 24 Try.underlying22 hi.out hz0.out hz1.out hz2.out rfl _ n _ (by rfl) hown1.out _ m d _ rfl hrd2.out hu1.out (by unfold maxLen; omega) (by omega) hb0.out.size ?_; intro v2 w6 hown2 hbb2 hform; clear hform; replace hown2 := Lib.hid hown2; replace hb0 := Lib.hid (hb0.out.trans hbb2); clear hbb2))
      obtain ⟨C, cc, rfl, hnmc, hcc, hH⟩ := HistAt.joined hown2.out hvn.out hun.out hvl.out hul.out (fun i v os h1 h2 => (hvs.out i v os h1 h2).below hb0.out) (fun i v os h1 h2 => (hus.out i v os h1 h2).below hb0.out)
      replace hI := Lib.hid (hI.out.later hb0.out)
      clear hrd hrd2 hlit hown1 hown2 hb0 hv1 hu1 hvs hus hvl hul hvn hun hi hz0 hz1 hz2 i0 vs us
      obtain ⟨q, hq⟩ : ∃ q, q = n + m := ⟨_, rfl⟩
      rw [← hq] at hH hnmc ⊢
      have hFj : (allO (xs ++ ys)).length ≤ 1099511627776 := by rw [allO_append, List.length_append]; omega
      have hrr := rightL_append (xs := xs) (ys := ys) (by omega) (by omega)
      have cC := show_Text C q cc (xs ++ ys) w6 hH hnmc (by omega) hcc hFj
      unfold RetShow at cC
      replace cC := Lib.hid cC
      replace hq := Lib.hid hq
      replace hnmc := Lib.hid hnmc
      replace hFj := Lib.hid hFj
      clear hH
      have k1 : ¬ (9223372036854775807 < S.size + T.size) := by omega
      have eST : ((S ++ T).toList == (S ++ T).toList) = true := by simp
      cases hrx : rightL xs with
      | true =>
        cases hry : rightL ys with
        | true =>
          rw [hrx, hry] at hrr
          have hU : shownS (xs ++ ys) = S ++ T := by
            rw [(shown_yes hrr).1, hS.out, hT.out, (shown_yes hrx).1, (shown_yes hry).1, bytesL_append, showT_append]
          obtain rfl : E = 0 := hE.out.trans (shown_yes hrx).2
          obtain rfl : F = 0 := hF.out.trans (shown_yes hry).2
          rw [hU, (shown_yes hrr).2] at cC
          clear hrx hry hrr hU
          go_wp2_with fail
          refine cC.out.mono ?_; rintro e w7 ⟨rfl, b5⟩
          replace hI := Lib.hid (hI.out.later b5)
          clear b5 cC
          go_wp2_with fail
          refine (law8_awake w7).mono ?_; rintro e w8 ⟨rfl, b5⟩
          replace hI := Lib.hid (hI.out.later b5)
          clear b5
          go_wp2_with fail
          go_ret
          exact ⟨rfl, hI.out.b⟩
        | false =>
          rw [hrx, hry] at hrr
          obtain rfl : E = 0 := hE.out.trans (shown_yes hrx).2
          obtain rfl : F = 1 := hF.out.trans (shown_no hry).2
          rw [(shown_no hrr).1, (shown_no hrr).2] at cC
          clear hrx hry hrr
          go_wp2_with fail
          refine cC.out.mono ?_; rintro e w7 ⟨rfl, b5⟩
          replace hI := Lib.hid (hI.out.later b5)
          clear b5 cC
          go_wp2_with fail
          refine (law8_awake w7).mono ?_; rintro e w8 ⟨rfl, b5⟩
          replace hI := Lib.hid (hI.out.later b5)
          clear b5
          go_wp2_with fail
          go_ret
          exact ⟨rfl, hI.out.b⟩
      | false =>
        have hF01 : F = 0 ∨ F = 1 := by
          cases hry : rightL ys with
          | true => exact .inl (hF.out.trans (shown_yes hry).2)
          | false => exact .inr (hF.out.trans (shown_no hry).2)
        rw [hrx, Bool.false_and] at hrr
        obtain rfl : E = 1 := hE.out.trans (shown_no hrx).2
        rw [(shown_no hrr).1, (shown_no hrr).2] at cC
        clear hrx hrr
        rcases hF01 with rfl | rfl
        all_goals (
          go_wp2_with fail
          refine cC.out.mono ?_; rintro e w7 ⟨rfl, b5⟩
          replace hI := Lib.hid (hI.out.later b5)
          clear b5 cC
          go_wp2_with fail
          refine (law8_awake w7).mono ?_; rintro e w8 ⟨rfl, b5⟩
          replace hI := Lib.hid (hI.out.later b5)
          clear b5
          go_wp2_with fail
          go_ret
          exact ⟨rfl, hI.out.b⟩)

end Go.Proofs.Ytkccefgmiaoinaa
