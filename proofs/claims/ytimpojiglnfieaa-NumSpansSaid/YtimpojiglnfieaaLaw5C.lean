/- The law NumSpans of layer 5. -/
import Derived.Test.YtimpojiglnfieaaLaw5B
namespace Go.Proofs.Ytimpojiglnfieaa
open Go.RowKit
set_option linter.unusedVariables false

theorem spanZ_le (s : ByteArray) (q : Nat) (h : q ≤ s.size) : q + spanZ s q ≤ s.size := by
  unfold spanZ
  rw [if_pos (by omega)]
  have := spanN_le (s.data.toList.drop (q : Int).toNat)
  rw [List.length_drop, size_list] at this
  omega
theorem spanZ_sign (s : ByteArray) (q : Nat) (h : q < s.size) (hp : 0 < spanZ s q) : (s[q]'h).toNat = 45 ∨ 48 ≤ (s[q]'h).toNat ∧ (s[q]'h).toNat ≤ 57 := by
  have hl : q < s.data.toList.length := by rw [size_list]; omega
  have e : s.data.toList[q]'hl = s[q]'h := by
    have := byte_at s q h
    rw [List.getElem?_eq_getElem hl] at this
    injection this
  unfold spanZ at hp
  rw [if_pos (by omega), Int.toNat_natCast, List.drop_eq_getElem_cons hl, e] at hp
  obtain ⟨c, hc⟩ : ∃ c, s[q]'h = c := ⟨_, rfl⟩
  rw [hc] at hp ⊢
  by_cases h45 : c.toNat = 45
  · exact .inl h45
  · right
    rw [← isD_iff]
    have hp' : 0 < (if c.toNat = 45 then 1 + digsN (s.data.toList.drop (q + 1)) else digsN (c :: s.data.toList.drop (q + 1))) := hp
    rw [if_neg h45] at hp'
    by_cases hD : isD c = true
    · exact hD
    · unfold digsN at hp'
      rw [List.takeWhile_cons_of_neg hD] at hp'
      simp at hp'
theorem span_join (s t : ByteArray) (n : Int) (ht : t.data.toList = putL n) : spanZ (s ++ t ++ ⟨#[59]⟩) (s.size : Int) = t.size := by
  unfold spanZ
  rw [if_pos (by omega), Int.toNat_natCast]
  have e : (s ++ t ++ ⟨#[59]⟩ : ByteArray).data.toList.drop s.size = putL n ++ [59] := by
    rw [ByteArray.data_append, ByteArray.data_append, Array.toList_append, Array.toList_append, ht, List.append_assoc, ← size_list s, List.drop_left]
  rw [e, put_stop, ← ht, size_list]

set_option maxRecDepth 100000 in
set_option maxHeartbeats 4000000 in
theorem law5_NumSpans (n : Int) (s : ByteArray) (w : World) (n0 : -9223372036854775808 ≤ n) (n1 : n < 9223372036854775808) (hs : s.size ≤ 9223372036854775807) :
    Calls Try.prog 5 #[.int .i64 n, .string s] w fun e w' => e = .returned (.bool true) ∧ Below w.heap.size w w' := by
  have cA := Lib.hid law5_awake
  by_cases hl : 100 < s.size
  · have hl' : (100 : Int) < (s.size : Int) := by omega
    go_enter Try.func5, Try.ntmps5
    go_wp2_with fail
    refine (cA.out w).mono ?_; rintro e w1 ⟨rfl, b⟩
    go_wp2_with fail
    go_ret
    exact ⟨rfl, b⟩
  · have hl' : ¬ (100 : Int) < (s.size : Int) := by omega
    obtain ⟨t, ht⟩ : ∃ t : ByteArray, t = ⟨(putL n).toArray⟩ := ⟨_, rfl⟩
    have htl : t.data.toList = putL n := by rw [ht]
    have hts : t.size ≤ 21 := by rw [← size_list, htl]; exact putL_length n0 n1
    obtain ⟨x, hx⟩ : ∃ x : ByteArray, s ++ t ++ ⟨#[59]⟩ = x := ⟨_, rfl⟩
    have hxs : x.size ≤ 1000 := by rw [← hx, ByteArray.size_append, ByteArray.size_append]; show s.size + t.size + 1 ≤ 1000; omega
    have cP := Lib.hid (fun W => by
      have h := num_Put n W n0 n1
      unfold RetS at h
      rw [← ht] at h
      exact h)
    have hj : spanZ x (s.size : Int) = t.size := by rw [← hx]; exact span_join s t n htl
    have cX := Lib.hid (fun W => by
      have h := num_Span x (s.size : Int) W (by omega) (by omega) (by omega)
      unfold RetI at h
      rw [hj] at h
      exact h)
    have a1 := fun W => run_string_add_sum (P := Try.prog) W s t (by omega)
    have a2 := fun W => run_string_add_sum (P := Try.prog) W (s ++ t) ⟨#[59]⟩ (by rw [ByteArray.size_append]; show s.size + t.size + 1 ≤ _; omega)
    rw [hx] at a2
    clear ht htl hx hj
    go_enter Try.func5, Try.ntmps5
    go_wp2_with fail
    refine (cP.out w).mono ?_; rintro e w1 ⟨rfl, b⟩
    go_wp2_with fail
    refine (cX.out w1).mono ?_; rintro e w2 ⟨rfl, b2⟩
    replace b := below_trans2 b b2
    clear b2 a1 a2 cX cP
    go_wp2_with fail
    go_loopw [7] (fun i W => ∃ q : Nat, q ≤ s.size + 1 ∧ i = .int .i64 q ∧ Below w.heap.size w W) (fun i _ => s.size + 1 - (intOf i).toNat)
    case atStart => exact ⟨0, by omega, rfl, b⟩
    case round =>
      obtain ⟨q, hq, rfl, bb⟩ := hrel
      replace bb := Lib.hid bb
      clear b
      by_cases hle : q ≤ s.size
      · have hle' : (q : Int) ≤ (s.size : Int) := by omega
        have cM := Lib.hid (fun W => by
          have h := num_Span s (q : Int) W (by omega) (by omega) (by omega)
          unfold RetI at h
          exact h)
        have hm := spanZ_le s q hle
        by_cases hm0 : 0 < spanZ s q
        · have hlt : q < s.size := by omega
          have hsg := spanZ_sign s q hlt hm0
          obtain ⟨m, hmm⟩ : ∃ m, spanZ s (q : Int) = m := ⟨_, rfl⟩
          rw [hmm] at cM hm hm0
          obtain ⟨c, hc⟩ : ∃ c : UInt8, s[q]'hlt = c := ⟨_, rfl⟩
          rw [hc] at hsg
          have h : (0 : Int) ≤ (q : Int) ∧ (q : Int) < (s.size : Int) := ⟨by omega, by omega⟩
          have e1 : ¬ (m : Int) < 0 := by omega
          have e2 : ¬ (s.size : Int) < (q : Int) + (m : Int) := by omega
          have e3 : (0 : Int) < (m : Int) := by omega
          have e4 : (q : Int) < (s.size : Int) := by omega
          by_cases h45 : c.toNat = 45
          · have e5 : ((c.toNat : Int) != 45) = false := by rw [bne, show ((c.toNat : Int) == 45) = true from by rw [beq_iff_eq]; omega]; rfl
            clear hsg h45 hm0 hmm
            go_wp2_with fail
            refine (cM.out wr).mono ?_; rintro e w3 ⟨rfl, b⟩
            replace b := below_trans2 bb.out b
            go_wp2_with fail
            exact ⟨⟨q + 1, by omega, by go_num, b⟩, by simp [intOf]; omega⟩
          · have e5 : ((c.toNat : Int) != 45) = true := by rw [bne, show ((c.toNat : Int) == 45) = false from by rw [beq_eq_false_iff_ne]; omega]; rfl
            have e6 : ¬ (c.toNat : Int) < 48 := by omega
            have e7 : ¬ 57 < (c.toNat : Int) := by omega
            clear hsg h45 hm0 hmm
            go_wp2_with fail
            refine (cM.out wr).mono ?_; rintro e w3 ⟨rfl, b⟩
            replace b := below_trans2 bb.out b
            go_wp2_with fail
            exact ⟨⟨q + 1, by omega, by go_num, b⟩, by simp [intOf]; omega⟩
        · have hm1 : spanZ s (q : Int) = 0 := by omega
          rw [hm1] at cM
          have e2 : ¬ (s.size : Int) < (q : Int) + 0 := by omega
          have e3 : ¬ (s.size : Int) < (q : Int) := by omega
          clear hm0 hm hm1
          go_wp2_with fail
          refine (cM.out wr).mono ?_; rintro e w3 ⟨rfl, b⟩
          replace b := below_trans2 bb.out b
          go_wp2_with fail
          exact ⟨⟨q + 1, by omega, by go_num, b⟩, by simp [intOf]; omega⟩
      · have hle' : ¬ (q : Int) ≤ (s.size : Int) := by omega
        go_wp2_with fail
        refine (cA.out wr).mono ?_; rintro e w3 ⟨rfl, b⟩
        replace b := below_trans2 bb.out b
        go_wp2_with fail
        go_ret
        exact ⟨rfl, b⟩

end Go.Proofs.Ytimpojiglnfieaa
