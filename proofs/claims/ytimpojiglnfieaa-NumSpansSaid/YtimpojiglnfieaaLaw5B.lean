/- The law NumBack of layer 5. -/
import Derived.Test.YtimpojiglnfieaaLaw5A
import Derived.Test.YtimpojiglnfieaaNumFacts
namespace Go.Proofs.Ytimpojiglnfieaa
open Go.RowKit
set_option linter.unusedVariables false

theorem putL_length {n : Int} (n0 : -9223372036854775808 ≤ n) (n1 : n < 9223372036854775808) : (putL n).length ≤ 21 := by
  have h := decL_length 19 n.natAbs (by omega)
  by_cases hn : n < 0
  · rw [putL_neg hn, List.length_cons]; omega
  · rw [putL_pos (by omega)]; omega
theorem bytes_back (s : ByteArray) : (⟨s.data.toList.toArray⟩ : ByteArray) = s := by obtain ⟨⟨l⟩⟩ := s; rfl

set_option maxRecDepth 100000 in
set_option maxHeartbeats 4000000 in
theorem law5_NumBack (n : Int) (s : ByteArray) (w : World) (n0 : -9223372036854775808 ≤ n) (n1 : n < 9223372036854775808) (hs : s.size ≤ 9223372036854775807) :
    Calls Try.prog 4 #[.int .i64 n, .string s] w fun e w' => e = .returned (.bool true) ∧ Below w.heap.size w w' := by
  have cA := Lib.hid law5_awake
  by_cases hl : 100 < s.size
  · have hl' : (100 : Int) < (s.size : Int) := by omega
    go_enter Try.func4, Try.ntmps4
    go_wp2_with fail
    refine (cA.out w).mono ?_; rintro e w1 ⟨rfl, b⟩
    go_wp2_with fail
    go_ret
    exact ⟨rfl, b⟩
  · have hl' : ¬ (100 : Int) < (s.size : Int) := by omega
    obtain ⟨t, ht⟩ : ∃ t : ByteArray, t = ⟨(putL n).toArray⟩ := ⟨_, rfl⟩
    have htl : t.data.toList = putL n := by rw [ht]
    have hts : t.size ≤ 21 := by rw [← size_list, htl]; exact putL_length n0 n1
    have cP := Lib.hid (fun W => by
      have h := num_Put n W n0 n1
      unfold RetS at h
      rw [← ht] at h
      exact h)
    have cG := Lib.hid (fun W => by
      have h := num_Get t W (by omega)
      unfold RetGet at h
      rw [htl, (put_get n0 n1).1, (put_get n0 n1).2] at h
      exact h)
    have cS := Lib.hid (fun W => by
      have h := num_Span t 0 W (by omega) (by decide) (by decide)
      unfold RetI at h
      rw [show spanZ t 0 = t.size from by
        show spanN t.data.toList = t.size
        rw [htl, put_span, ← htl, size_list]] at h
      exact h)
    have cK := Lib.hid (fun W => by
      have h := num_Get s W (by omega)
      unfold RetGet at h
      exact h)
    rcases get_back s.data.toList with ⟨he, hv⟩ | ⟨he, hv⟩
    · obtain ⟨y, hy⟩ : ∃ y, getE s.data.toList = y := ⟨_, rfl⟩
      rw [hv, hy] at cK
      rw [hy] at he
      have he1 : (y == 0) = false := by rw [beq_eq_false_iff_ne]; exact he
      have he2 : (y != 0) = true := by rw [bne, he1]; rfl
      clear hy hv htl ht
      go_enter Try.func4, Try.ntmps4
      go_wp2_with fail
      refine (cP.out w).mono ?_; rintro e w1 ⟨rfl, b⟩
      go_wp2_with fail
      refine (cG.out w1).mono ?_; rintro e w2 ⟨rfl, b2⟩
      replace b := below_trans2 b b2
      clear b2
      go_wp2_with fail
      refine (cK.out w2).mono ?_; rintro e w3 ⟨rfl, b2⟩
      replace b := below_trans2 b b2
      clear b2
      go_wp2_with fail
      refine (cA.out w3).mono ?_; rintro e w4 ⟨rfl, b2⟩
      replace b := below_trans2 b b2
      clear b2
      go_wp2_with fail
      refine (cS.out w4).mono ?_; rintro e w5 ⟨rfl, b2⟩
      replace b := below_trans2 b b2
      clear b2
      go_wp2_with fail
      go_ret
      exact ⟨rfl, b⟩
    · obtain ⟨z, hz⟩ : ∃ z, getV s.data.toList = z := ⟨_, rfl⟩
      have hf := getV_fits s.data.toList
      rw [hz] at hf hv
      rw [hz, he] at cK
      have cB := Lib.hid (fun W => by
        have h := num_Put z W hf.1 hf.2
        unfold RetS at h
        rw [hv, bytes_back] at h
        exact h)
      clear he hv htl ht hf hz
      go_enter Try.func4, Try.ntmps4
      go_wp2_with fail
      refine (cP.out w).mono ?_; rintro e w1 ⟨rfl, b⟩
      go_wp2_with fail
      refine (cG.out w1).mono ?_; rintro e w2 ⟨rfl, b2⟩
      replace b := below_trans2 b b2
      clear b2
      go_wp2_with fail
      refine (cK.out w2).mono ?_; rintro e w3 ⟨rfl, b2⟩
      replace b := below_trans2 b b2
      clear b2
      go_wp2_with fail
      refine (cA.out w3).mono ?_; rintro e w4 ⟨rfl, b2⟩
      replace b := below_trans2 b b2
      clear b2
      go_wp2_with fail
      refine (cS.out w4).mono ?_; rintro e w5 ⟨rfl, b2⟩
      replace b := below_trans2 b b2
      clear b2
      go_wp2_with fail
      refine (cB.out w5).mono ?_; rintro e w6 ⟨rfl, b2⟩
      replace b := below_trans2 b b2
      clear b2
      go_wp2_with fail
      go_ret
      exact ⟨rfl, b⟩

end Go.Proofs.Ytimpojiglnfieaa
