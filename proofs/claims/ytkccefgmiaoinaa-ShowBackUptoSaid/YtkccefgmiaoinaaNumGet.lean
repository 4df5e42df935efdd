/- The contract of the document's own answer of layer 5: Get. -/
import Derived.Test.YtkccefgmiaoinaaNumRef
import Derived.Test.YtkccefgmiaoinaaPlan
namespace Go.Proofs.Ytkccefgmiaoinaa
open Go.RowKit
set_option linter.unusedVariables false

def RetGet (l : List UInt8) (w : World) (e : Ending) (w' : World) : Prop := e = .returned (.tuple #[.int .i64 (getV l), .int .i64 (getE l)]) ∧ Below w.heap.size w w'
set_option maxRecDepth 100000 in
set_option maxHeartbeats 4000000 in
theorem ref5_Get (s : ByteArray) (w : World) (hs : s.size ≤ 1073741824) :
    Calls Try.prog 29 #[.string s] w (RetGet s.data.toList w) := by
  have bb := Lib.hid (Below.refl w.heap.size w)
  by_cases hs0 : s.size = 0
  · have hbad : Hid (okL s.data.toList = false) := Lib.hid (by
      have h : s.data.toList = [] := List.eq_nil_of_length_eq_zero (by rw [size_list]; exact hs0)
      rw [h]; rfl)
    go_enter Try.func29, Try.ntmps29
    go_wp2_with fail
    exact bodyPost_ret (v := .tuple #[.int .i64 0, .int .i64 2]) (by simp [results, go_sem]) rfl ⟨by rw [(get_bad hbad.out).1, (get_bad hbad.out).2], bb.out⟩
  have hs1 : (0 : Int) < (s.size : Int) := by omega
  obtain ⟨b, hb⟩ : ∃ c : UInt8, s[0]'(by omega) = c := ⟨_, rfl⟩
  have hbl : ∃ r, s.data.toList = b :: r := by
    have h := byte_at s 0 (by omega)
    rw [hb] at h
    cases hh : s.data.toList with
    | nil => rw [hh] at h; simp at h
    | cons y r => rw [hh] at h; simp at h; subst h; exact ⟨r, rfl⟩
  obtain ⟨rb, hbl⟩ := hbl
  by_cases h45 : b.toNat = 45
  · have hneg : Hid (negL s.data.toList = true) := Lib.hid (by rw [hbl]; unfold negL; exact decide_eq_true h45)
    have e45 : ((b.toNat : Int) == 45) = true := by simp; omega
    obtain ⟨d, hd⟩ : ∃ d : ByteArray, s.extract 1 s.size = d := ⟨_, rfl⟩
    have hdl : Hid (d.data.toList = digL s.data.toList) := Lib.hid (by
      unfold digL
      rw [hneg.out, if_pos rfl, ← hd, ByteArray.data_extract, Array.toList_extract, List.extract, List.drop_one]
      exact List.take_of_length_le (by rw [List.length_tail, size_list]; exact Nat.le_refl _))
    have hds : d.size + 1 = s.size := by rw [← size_list d, hdl.out, ← size_list s]; unfold digL; rw [hneg.out, hbl]; rfl
    have hs1' : (1 : Int) ≤ (s.size : Int) := by omega
    replace hbl := Lib.hid hbl
    clear h45 hs0
    go_enter Try.func29, Try.ntmps29
    go_wp2_with fail
    refine wp_region_plan 4 [(true, 0), (true, 1), (true, 2), (true, 3)] (by kernel_rfl) (by kernel_rfl) (fun W hW => ?_)
    replace bb := Lib.hid (show Below w.heap.size w W by rw [hW.out]; exact bb.out.drew)
    clear hW
    simp only [List.drop_succ_cons, List.drop_nil]
    iterate 4
      refine wpPlan_float (v := ?_) rfl (by rfl) (fun w' hw' => ?_) (fun K hK => ?_)
      rotate_left
      · (go_simp; try with_reducible rfl)
      go_simp
      refine hK _ ?_
      clear hK K
    refine wpPlan_nil (NoPanic.normal ?_)
    have hdN := Lib.hid hd
    clear hd hb hs1'
    by_cases hd0 : d.size = 0
    · have hbad : Hid (okL s.data.toList = false) := Lib.hid (by
        have h : d.data.toList = [] := List.eq_nil_of_length_eq_zero (by rw [size_list]; exact hd0)
        unfold okL
        rw [← hdl.out, h]; rfl)
      go_wp2_with fail
      exact bodyPost_ret (v := .tuple #[.int .i64 0, .int .i64 2]) (by simp [results, go_sem]) rfl ⟨by rw [(get_bad hbad.out).1, (get_bad hbad.out).2], bb.out⟩
    have hd1 : (0 : Int) < (d.size : Int) := by omega
    have hde : ((d.size : Int) == 0) = false := by rw [beq_eq_false_iff_ne]; omega
    obtain ⟨c0, hc0⟩ : ∃ c : UInt8, d[0]'(by omega) = c := ⟨_, rfl⟩
    skip
    have hcl0 : ∃ r, d.data.toList = c0 :: r := by
      have h := byte_at d 0 (by omega)
      rw [hc0] at h
      cases hh : d.data.toList with
      | nil => rw [hh] at h; simp at h
      | cons y r => rw [hh] at h; simp at h; subst h; exact ⟨r, rfl⟩
    obtain ⟨r0, hcl0⟩ := hcl0
    have hSpan := Lib.hid (ref5_Span s 0 W hs (by omega) (by omega))
    have hsz : spanZ s 0 = spanN s.data.toList := rfl
    by_cases hsp : spanN s.data.toList = s.size
    · have hall : Hid (d.data.toList.all isD = true) := Lib.hid (by
        rw [hdl.out]
        exact (span_full _).1 (by rw [hsp, size_list]))
      have hne : (((spanZ s 0 : Nat) : Int) != (s.size : Int)) = false := by rw [hsz, hsp]; simp
      by_cases h48 : c0.toNat = 48
      · have e48 : ((c0.toNat : Int) == 48) = true := by simp; omega
        by_cases hl1 : 1 < d.size
        · have hbad : Hid (okL s.data.toList = false) := Lib.hid (by
            unfold okL
            rw [← hdl.out, hcl0]
            have hlen : (c0 :: r0).length = d.size := by rw [← hcl0, size_list]
            have h1 : noughtL (c0 :: r0) = true := by unfold noughtL; exact decide_eq_true h48
            have h2 : decide (1 < (c0 :: r0).length) = true := decide_eq_true (by rw [hlen]; exact hl1)
            rw [h1, h2]; simp)
          have hl1' : (1 : Int) < (d.size : Int) := by omega
          replace hall := Lib.hid hall
          replace hcl0 := Lib.hid hcl0
          clear hsz hsp h48 hd0
          go_wp2_with fail
          refine hSpan.out.mono ?_; rintro e w' ⟨rfl, rfl⟩
          go_wp2_with fail
          exact bodyPost_ret (v := .tuple #[.int .i64 0, .int .i64 2]) (by simp [results, go_sem]) rfl ⟨by rw [(get_bad hbad.out).1, (get_bad hbad.out).2], bb.out⟩
        · have hl1' : ¬ (1 : Int) < (d.size : Int) := by omega
          have hbad : Hid (okL s.data.toList = false) := Lib.hid (by
            unfold okL
            rw [hneg.out, ← hdl.out, hcl0]
            have h1 : noughtL (c0 :: r0) = true := by unfold noughtL; exact decide_eq_true h48
            rw [h1]; simp)
          replace hcl0 := Lib.hid hcl0
          clear hsz hsp h48 hd0
          go_wp2_with fail
          refine hSpan.out.mono ?_; rintro e w' ⟨rfl, rfl⟩
          go_wp2_with fail
          exact bodyPost_ret (v := .tuple #[.int .i64 0, .int .i64 2]) (by simp [results, go_sem]) rfl ⟨by rw [(get_bad hbad.out).1, (get_bad hbad.out).2], bb.out⟩
      · have e48 : ((c0.toNat : Int) == 48) = false := by simp; omega
        have hok : Hid (okL s.data.toList = true) := Lib.hid (by
          unfold okL
          rw [← hdl.out, hall.out, hcl0]
          have h1 : noughtL (c0 :: r0) = false := by unfold noughtL; exact decide_eq_false h48
          rw [h1]; rfl)
        replace hcl0 := Lib.hid hcl0
        clear hsz hsp h48 hd0
        go_wp2_with fail
        refine hSpan.out.mono ?_; rintro e w' ⟨rfl, rfl⟩
        go_wp2_with fail
        go_loop [6, 7] (fun v t => ∃ k : Nat, k ≤ d.size ∧ t = .int .i64 k ∧ v = .int .i64 (-((valN (d.data.toList.take k) : Nat) : Int)) ∧ valN (d.data.toList.take k) ≤ 9223372036854775808) (fun _ t => d.size - (intOf t).toNat)
        case atStart => exact ⟨0, Nat.zero_le _, rfl, rfl, by simp [valN]⟩
        case round =>
          obtain ⟨k, hk, rfl, rfl, hle⟩ := hrel
          obtain ⟨x, hx⟩ : ∃ x, x = valN (d.data.toList.take k) := ⟨_, rfl⟩
          rw [← hx] at hle
          rw [← hx]
          by_cases hlt : k < d.size
          · have h : (0 : Int) ≤ (k : Int) ∧ (k : Int) < (d.size : Int) := ⟨by omega, by omega⟩
            obtain ⟨c, hc⟩ : ∃ c : UInt8, d[k]'hlt = c := ⟨_, rfl⟩
            have hcl : d.data.toList[k]? = some c := by
              rw [byte_at d k hlt]; exact congrArg some hc
            have hdig := List.all_eq_true.1 hall.out c (List.mem_of_getElem? hcl)
            unfold isD at hdig
            simp only [Bool.and_eq_true, decide_eq_true_eq] at hdig
            obtain ⟨g, hg⟩ : ∃ g, g = digV c := ⟨_, rfl⟩
            have hgc : c.toNat = g + 48 := by rw [hg]; unfold digV; omega
            have hg9 : g ≤ 9 := by omega
            have hnext := valN_take_succ hcl
            rw [← hx, ← hg] at hnext
            have hmono := valN_take_le d.data.toList (k + 1)
            rw [hnext] at hmono
            replace hnext := Lib.hid hnext
            replace hx := Lib.hid hx
            replace hg := Lib.hid hg
            replace hcl := Lib.hid hcl
            clear hdig
            have hcI : (c.toNat : Int) = (g : Int) + 48 := by omega
            clear hgc
            have htd : (-9223372036854775808 + (g : Int)).tdiv 10 = -((9223372036854775808 - g) / 10) := by
              rw [show -9223372036854775808 + (g : Int) = -(9223372036854775808 - g) by omega, Int.neg_tdiv, Int.tdiv_eq_ediv_of_nonneg (by omega)]
            go_wp2_with fail
            · have hbad : Hid (fits64 (valZ s.data.toList) = false) := Lib.hid (by
                rw [valZ_neg hneg.out, ← hdl.out]
                exact fits64_no (Or.inl (by omega)))
              exact bodyPost_ret (v := .tuple #[.int .i64 0, .int .i64 3]) (by simp [results, go_sem]) rfl ⟨by rw [(get_large hok.out hbad.out).1, (get_large hok.out hbad.out).2], bb.out⟩
            · refine ⟨⟨k + 1, by omega, by go_num, by rw [hnext.out]; go_num, by rw [hnext.out]; omega⟩, by simp [intOf]; omega⟩
          · have hke : k = d.size := by omega
            have hxv : Hid (x = valN d.data.toList) := Lib.hid (by rw [hx, hke, ← size_list, List.take_length])
            have hgood : Hid (fits64 (valZ s.data.toList) = true) := Lib.hid (by
              rw [valZ_neg hneg.out, ← hdl.out, ← hxv.out]
              exact fits64_yes (by omega) (by omega))
            have hkn : ¬ (k : Int) < (d.size : Int) := by omega
            replace hx := Lib.hid hx
            clear hlt hke
            go_wp2_with fail
            exact bodyPost_ret (v := .tuple #[.int .i64 (-(x : Int)), .int .i64 0]) (by simp [results, go_sem]) rfl ⟨by rw [(get_good hok.out hgood.out).1, (get_good hok.out hgood.out).2, valZ_neg hneg.out, ← hdl.out, ← hxv.out], bb.out⟩
    · have hne : (((spanZ s 0 : Nat) : Int) != (s.size : Int)) = true := by rw [hsz]; simp; omega
      have hbad : Hid (okL s.data.toList = false) := Lib.hid (by
        have h : (digL s.data.toList).all isD = false := by
          rw [← Bool.not_eq_true]
          intro h
          exact hsp (by rw [(span_full _).2 h, size_list])
        unfold okL
        rw [h]; simp)
      replace hcl0 := Lib.hid hcl0
      clear hsz hsp hd0
      go_wp2_with fail
      refine hSpan.out.mono ?_; rintro e w' ⟨rfl, rfl⟩
      go_wp2_with fail
      exact bodyPost_ret (v := .tuple #[.int .i64 0, .int .i64 2]) (by simp [results, go_sem]) rfl ⟨by rw [(get_bad hbad.out).1, (get_bad hbad.out).2], bb.out⟩
  · have hneg : Hid (negL s.data.toList = false) := Lib.hid (by rw [hbl]; unfold negL; exact decide_eq_false h45)
    have e45 : ((b.toNat : Int) == 45) = false := by simp; omega
    have hdl : Hid (s.data.toList = digL s.data.toList) := Lib.hid (by unfold digL; rw [hneg.out]; rfl)
    replace hbl := Lib.hid hbl
    clear h45
    go_enter Try.func29, Try.ntmps29
    go_wp2_with fail
    by_cases hd0 : s.size = 0
    · exact absurd hd0 hs0
    have hd1 : (0 : Int) < (s.size : Int) := by omega
    have hde : ((s.size : Int) == 0) = false := by rw [beq_eq_false_iff_ne]; omega
    obtain ⟨c0, hc0⟩ : ∃ c : UInt8, s[0]'(by omega) = c := ⟨_, rfl⟩
    have hcb : c0 = b := hc0.symm.trans hb
    subst hcb
    clear hb
    have hcl0 : ∃ r, s.data.toList = c0 :: r := by
      have h := byte_at s 0 (by omega)
      rw [hc0] at h
      cases hh : s.data.toList with
      | nil => rw [hh] at h; simp at h
      | cons y r => rw [hh] at h; simp at h; subst h; exact ⟨r, rfl⟩
    obtain ⟨r0, hcl0⟩ := hcl0
    have hSpan := Lib.hid (ref5_Span s 0 w hs (by omega) (by omega))
    have hsz : spanZ s 0 = spanN s.data.toList := rfl
    by_cases hsp : spanN s.data.toList = s.size
    · have hall : Hid (s.data.toList.all isD = true) := Lib.hid (by
        rw [hdl.out]
        exact (span_full _).1 (by rw [hsp, size_list]))
      have hne : (((spanZ s 0 : Nat) : Int) != (s.size : Int)) = false := by rw [hsz, hsp]; simp
      by_cases h48 : c0.toNat = 48
      · have e48 : ((c0.toNat : Int) == 48) = true := by simp; omega
        by_cases hl1 : 1 < s.size
        · have hbad : Hid (okL s.data.toList = false) := Lib.hid (by
            unfold okL
            rw [← hdl.out, hcl0]
            have hlen : (c0 :: r0).length = s.size := by rw [← hcl0, size_list]
            have h1 : noughtL (c0 :: r0) = true := by unfold noughtL; exact decide_eq_true h48
            have h2 : decide (1 < (c0 :: r0).length) = true := decide_eq_true (by rw [hlen]; exact hl1)
            rw [h1, h2]; simp)
          have hl1' : (1 : Int) < (s.size : Int) := by omega
          replace hall := Lib.hid hall
          replace hcl0 := Lib.hid hcl0
          clear hsz hsp h48 hd0
          go_wp2_with fail
          refine hSpan.out.mono ?_; rintro e w' ⟨rfl, rfl⟩
          go_wp2_with fail
          exact bodyPost_ret (v := .tuple #[.int .i64 0, .int .i64 2]) (by simp [results, go_sem]) rfl ⟨by rw [(get_bad hbad.out).1, (get_bad hbad.out).2], bb.out⟩
        · have hl1' : ¬ (1 : Int) < (s.size : Int) := by omega
          have hok : Hid (okL s.data.toList = true) := Lib.hid (by
            unfold okL
            rw [hneg.out, ← hdl.out, hall.out, hcl0]
            have hlen : (c0 :: r0).length = s.size := by rw [← hcl0, size_list]
            have h2 : decide (1 < (c0 :: r0).length) = false := decide_eq_false (by rw [hlen]; exact hl1)
            rw [h2]; simp)
          replace hcl0 := Lib.hid hcl0
          clear hsz hsp h48 hd0
          go_wp2_with fail
          refine hSpan.out.mono ?_; rintro e w' ⟨rfl, rfl⟩
          go_wp2_with fail
          go_loop [6, 7] (fun v t => ∃ k : Nat, k ≤ s.size ∧ t = .int .i64 k ∧ v = .int .i64 ((valN (s.data.toList.take k) : Nat) : Int) ∧ valN (s.data.toList.take k) ≤ 9223372036854775807) (fun _ t => s.size - (intOf t).toNat)
          case atStart => exact ⟨0, Nat.zero_le _, rfl, rfl, by simp [valN]⟩
          case round =>
            obtain ⟨k, hk, rfl, rfl, hle⟩ := hrel
            obtain ⟨x, hx⟩ : ∃ x, x = valN (s.data.toList.take k) := ⟨_, rfl⟩
            rw [← hx] at hle
            rw [← hx]
            by_cases hlt : k < s.size
            · have h : (0 : Int) ≤ (k : Int) ∧ (k : Int) < (s.size : Int) := ⟨by omega, by omega⟩
              obtain ⟨c, hc⟩ : ∃ c : UInt8, s[k]'hlt = c := ⟨_, rfl⟩
              have hcl : s.data.toList[k]? = some c := by
                rw [byte_at s k hlt]; exact congrArg some hc
              have hdig := List.all_eq_true.1 hall.out c (List.mem_of_getElem? hcl)
              unfold isD at hdig
              simp only [Bool.and_eq_true, decide_eq_true_eq] at hdig
              obtain ⟨g, hg⟩ : ∃ g, g = digV c := ⟨_, rfl⟩
              have hgc : c.toNat = g + 48 := by rw [hg]; unfold digV; omega
              have hg9 : g ≤ 9 := by omega
              have hnext := valN_take_succ hcl
              rw [← hx, ← hg] at hnext
              have hmono := valN_take_le s.data.toList (k + 1)
              rw [hnext] at hmono
              replace hnext := Lib.hid hnext
              replace hx := Lib.hid hx
              replace hg := Lib.hid hg
              replace hcl := Lib.hid hcl
              clear hdig
              have hcI : (c.toNat : Int) = (g : Int) + 48 := by omega
              clear hgc
              go_wp2_with fail
              · refine ⟨⟨k + 1, by omega, by go_num, by rw [hnext.out]; go_num, by rw [hnext.out]; omega⟩, by simp [intOf]; omega⟩
              · have hbad : Hid (fits64 (valZ s.data.toList) = false) := Lib.hid (by
                  rw [valZ_pos hneg.out, ← hdl.out]
                  exact fits64_no (Or.inr (by omega)))
                exact bodyPost_ret (v := .tuple #[.int .i64 0, .int .i64 3]) (by simp [results, go_sem]) rfl ⟨by rw [(get_large hok.out hbad.out).1, (get_large hok.out hbad.out).2], bb.out⟩
            · have hke : k = s.size := by omega
              have hxv : Hid (x = valN s.data.toList) := Lib.hid (by rw [hx, hke, ← size_list, List.take_length])
              have hgood : Hid (fits64 (valZ s.data.toList) = true) := Lib.hid (by
                rw [valZ_pos hneg.out, ← hdl.out, ← hxv.out]
                exact fits64_yes (by omega) (by omega))
              have hkn : ¬ (k : Int) < (s.size : Int) := by omega
              replace hx := Lib.hid hx
              clear hlt hke
              go_wp2_with fail
              exact bodyPost_ret (v := .tuple #[.int .i64 (x : Int), .int .i64 0]) (by simp [results, go_sem]) rfl ⟨by rw [(get_good hok.out hgood.out).1, (get_good hok.out hgood.out).2, valZ_pos hneg.out, ← hdl.out, ← hxv.out], bb.out⟩
      · have e48 : ((c0.toNat : Int) == 48) = false := by simp; omega
        have hok : Hid (okL s.data.toList = true) := Lib.hid (by
          unfold okL
          rw [← hdl.out, hall.out, hcl0]
          have h1 : noughtL (c0 :: r0) = false := by unfold noughtL; exact decide_eq_false h48
          rw [h1]; rfl)
        replace hcl0 := Lib.hid hcl0
        clear hsz hsp h48 hd0
        go_wp2_with fail
        refine hSpan.out.mono ?_; rintro e w' ⟨rfl, rfl⟩
        go_wp2_with fail
        go_loop [6, 7] (fun v t => ∃ k : Nat, k ≤ s.size ∧ t = .int .i64 k ∧ v = .int .i64 ((valN (s.data.toList.take k) : Nat) : Int) ∧ valN (s.data.toList.take k) ≤ 9223372036854775807) (fun _ t => s.size - (intOf t).toNat)
        case atStart => exact ⟨0, Nat.zero_le _, rfl, rfl, by simp [valN]⟩
        case round =>
          obtain ⟨k, hk, rfl, rfl, hle⟩ := hrel
          obtain ⟨x, hx⟩ : ∃ x, x = valN (s.data.toList.take k) := ⟨_, rfl⟩
          rw [← hx] at hle
          rw [← hx]
          by_cases hlt : k < s.size
          · have h : (0 : Int) ≤ (k : Int) ∧ (k : Int) < (s.size : Int) := ⟨by omega, by omega⟩
            obtain ⟨c, hc⟩ : ∃ c : UInt8, s[k]'hlt = c := ⟨_, rfl⟩
            have hcl : s.data.toList[k]? = some c := by
              rw [byte_at s k hlt]; exact congrArg some hc
            have hdig := List.all_eq_true.1 hall.out c (List.mem_of_getElem? hcl)
            unfold isD at hdig
            simp only [Bool.and_eq_true, decide_eq_true_eq] at hdig
            obtain ⟨g, hg⟩ : ∃ g, g = digV c := ⟨_, rfl⟩
            have hgc : c.toNat = g + 48 := by rw [hg]; unfold digV; omega
            have hg9 : g ≤ 9 := by omega
            have hnext := valN_take_succ hcl
            rw [← hx, ← hg] at hnext
            have hmono := valN_take_le s.data.toList (k + 1)
            rw [hnext] at hmono
            replace hnext := Lib.hid hnext
            replace hx := Lib.hid hx
            replace hg := Lib.hid hg
            replace hcl := Lib.hid hcl
            clear hdig
            have hcI : (c.toNat : Int) = (g : Int) + 48 := by omega
            clear hgc
            go_wp2_with fail
            · refine ⟨⟨k + 1, by omega, by go_num, by rw [hnext.out]; go_num, by rw [hnext.out]; omega⟩, by simp [intOf]; omega⟩
            · have hbad : Hid (fits64 (valZ s.data.toList) = false) := Lib.hid (by
                rw [valZ_pos hneg.out, ← hdl.out]
                exact fits64_no (Or.inr (by omega)))
              exact bodyPost_ret (v := .tuple #[.int .i64 0, .int .i64 3]) (by simp [results, go_sem]) rfl ⟨by rw [(get_large hok.out hbad.out).1, (get_large hok.out hbad.out).2], bb.out⟩
          · have hke : k = s.size := by omega
            have hxv : Hid (x = valN s.data.toList) := Lib.hid (by rw [hx, hke, ← size_list, List.take_length])
            have hgood : Hid (fits64 (valZ s.data.toList) = true) := Lib.hid (by
              rw [valZ_pos hneg.out, ← hdl.out, ← hxv.out]
              exact fits64_yes (by omega) (by omega))
            have hkn : ¬ (k : Int) < (s.size : Int) := by omega
            replace hx := Lib.hid hx
            clear hlt hke
            go_wp2_with fail
            exact bodyPost_ret (v := .tuple #[.int .i64 (x : Int), .int .i64 0]) (by simp [results, go_sem]) rfl ⟨by rw [(get_good hok.out hgood.out).1, (get_good hok.out hgood.out).2, valZ_pos hneg.out, ← hdl.out, ← hxv.out], bb.out⟩
    · have hne : (((spanZ s 0 : Nat) : Int) != (s.size : Int)) = true := by rw [hsz]; simp; omega
      have hbad : Hid (okL s.data.toList = false) := Lib.hid (by
        have h : (digL s.data.toList).all isD = false := by
          rw [← Bool.not_eq_true]
          intro h
          exact hsp (by rw [(span_full _).2 h, size_list])
        unfold okL
        rw [h]; simp)
      replace hcl0 := Lib.hid hcl0
      clear hsz hsp hd0
      go_wp2_with fail
      refine hSpan.out.mono ?_; rintro e w' ⟨rfl, rfl⟩
      go_wp2_with fail
      exact bodyPost_ret (v := .tuple #[.int .i64 0, .int .i64 2]) (by simp [results, go_sem]) rfl ⟨by rw [(get_bad hbad.out).1, (get_bad hbad.out).2], bb.out⟩

end Go.Proofs.Ytkccefgmiaoinaa
