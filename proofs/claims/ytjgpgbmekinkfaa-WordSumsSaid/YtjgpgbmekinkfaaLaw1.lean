/- The walks of the statements of layer 1. -/
import Derived.Test.YtjgpgbmekinkfaaWordRef
import Derived.OpenShut
namespace Go.Proofs.Ytjgpgbmekinkfaa
open Go.RowKit

theorem lowZ3 : lowZ 3 = 7 := by decide
theorem low0_12 : low0 12 = 2 := by rw [low0_def]; decide
theorem pop_12 : pop 12 = 2 := by rw [pop_def]; decide
theorem has_12 : hasB 12 3 = true := by decide
theorem bit5 : bitZ 5 = 32 := by decide

set_option maxHeartbeats 400000 in
theorem awake1 (w : World) : Calls Try.prog 6 #[] w fun e w' => e = .returned (.bool true) ∧ w = w' := by
  have c1 := Lib.hid (word_Low 3 (by omega) (by omega))
  have c2 := Lib.hid (word_First 12 (by omega))
  have c3 := Lib.hid (word_Count 12 (by omega))
  have c4 := Lib.hid (word_Has 12 (by omega) 3 (by omega) (by omega))
  have c5 := Lib.hid (word_Bit 5 (by omega) (by omega))
  rw [lowZ3] at c1
  rw [low0_12] at c2
  rw [pop_12] at c3
  rw [has_12] at c4
  rw [bit5] at c5
  go_enter Try.func6, Try.ntmps6
  go_wp2_with fail
  refine (c1.out _).mono ?_; rintro e w' ⟨rfl, rfl⟩
  go_wp2_with fail
  refine (c2.out _).mono ?_; rintro e w' ⟨rfl, rfl⟩
  go_wp2_with fail
  refine (c3.out _).mono ?_; rintro e w' ⟨rfl, rfl⟩
  go_wp2_with fail
  refine (c4.out _).mono ?_; rintro e w' ⟨rfl, rfl⟩
  go_wp2_with fail
  refine (c5.out _).mono ?_; rintro e w' ⟨rfl, rfl⟩
  go_wp2
  go_ret
  exact ⟨rfl, rfl⟩

set_option maxHeartbeats 400000 in
theorem law_WordTells (a0 : Int) (a1 : Int) (w0 : (Lit.int .u64 a0).wf = true) (w1 : (Lit.int .i64 a1).wf = true) (w : World) :
    Calls Try.prog 3 #[.int .u64 a0, .int .i64 a1] w fun e w' => e = .returned (.bool true) ∧ Grown w w' := by
  have b0 := bounds_u64 w0
  have b1 := bounds_i64 w1
  obtain ⟨x, rfl⟩ := Int.eq_ofNat_of_zero_le b0.1
  have hx : x < 18446744073709551616 := by omega
  have h1 : -9223372036854775808 ≤ a1 := by omega
  have h2 : a1 < 9223372036854775808 := by omega
  clear w0 w1 b0 b1
  go_enter Try.func3, Try.ntmps3
  go_wp2_with fail
  refine (awake1 _).mono ?_; rintro e w' ⟨rfl, rfl⟩
  go_wp2_with fail
  refine (word_Bit _ h1 h2 _).mono ?_; rintro e w' ⟨rfl, rfl⟩
  go_wp2_with fail
  refine (ref_Bit _ h1 h2 _).mono ?_; rintro e w' ⟨rfl, rfl⟩
  go_wp2_with fail
  refine (word_Has _ hx _ h1 h2 _).mono ?_; rintro e w' ⟨rfl, rfl⟩
  go_wp2_with fail
  refine (ref_Has _ hx _ h1 h2 _).mono ?_; rintro e w' ⟨rfl, rfl⟩
  go_wp2_with fail
  refine (word_Count _ hx _).mono ?_; rintro e w' ⟨rfl, rfl⟩
  go_wp2_with fail
  refine (ref_Count _ hx _).mono ?_; rintro e w' ⟨rfl, rfl⟩
  go_wp2_with fail
  refine (word_First _ hx _).mono ?_; rintro e w' ⟨rfl, rfl⟩
  go_wp2_with fail
  refine (ref_First _ hx _).mono ?_; rintro e w' ⟨rfl, rfl⟩
  go_wp2_with fail
  refine (word_Low _ h1 h2 _).mono ?_; rintro e w' ⟨rfl, rfl⟩
  go_wp2_with fail
  refine (ref_Low _ h1 h2 _).mono ?_; rintro e w' ⟨rfl, rfl⟩
  go_wp2
  go_ret
  exact ⟨rfl, Grown.refl _⟩

/-- Low(n), as a number without a sign -/
def lowN (n : Int) : Nat := p2 (if n < 0 then 0 else min n.toNat 64) - 1
theorem lowZ_N (n : Int) : lowZ n = (lowN n : Nat) := by
  unfold lowN
  by_cases h : n < 0
  · rw [if_pos h]; exact lowZ_p2 n 0 (by omega) (by omega)
  · rw [if_neg h]; exact lowZ_p2 n _ (by omega) (by omega)
theorem lowN_lt (n : Int) : lowN n < 18446744073709551616 := by
  unfold lowN p2
  have : 2 ^ (if n < 0 then 0 else min n.toNat 64) ≤ 2 ^ 64 := Nat.pow_le_pow_right (by omega) (by split <;> omega)
  have h2 := Nat.two_pow_pos (if n < 0 then 0 else min n.toNat 64)
  omega
theorem lowN_pop (n : Int) : ((pop (lowN n) : Nat) : Int) = min (max n 0) 64 := by
  unfold lowN p2
  rw [pop_ones _ (by split <;> omega)]; split <;> omega
theorem lowN_has (n : Int) (k : Nat) (hk : k < 64) : hasB (lowN n) k = decide ((k : Int) < n) := by
  rw [hasB_nat]; unfold lowN p2
  rw [Nat.testBit_two_pow_sub_one]
  rw [Bool.eq_iff_iff]; simp only [decide_eq_true_eq]; split <;> omega

set_option maxHeartbeats 400000 in
theorem law_WordLow (a0 : Int) (a1 : Int) (w0 : (Lit.int .i64 a0).wf = true) (w1 : (Lit.int .u8 a1).wf = true) (w : World) :
    Calls Try.prog 5 #[.int .i64 a0, .int .u8 a1] w fun e w' => e = .returned (.bool true) ∧ Grown w w' := by
  have b0 := bounds_i64 w0
  have b1 := bounds_u8 w1
  obtain ⟨i, rfl⟩ := Int.eq_ofNat_of_zero_le b1.1
  have hi : i < 256 := by omega
  have h1 : -9223372036854775808 ≤ a0 := by omega
  have h2 : a0 < 9223372036854775808 := by omega
  have hz := Lib.hid (lowZ_N a0)
  have hl := Lib.hid (lowN_lt a0)
  have hp := Lib.hid (lowN_pop a0)
  have hh := lowN_has a0 (i % 64) (by omega)
  rw [show ((i % 64 : Nat) : Int) = (i : Int) % 64 from by omega] at hh
  replace hh := Lib.hid hh
  clear w0 w1 b0 b1
  have hc : (a0 < 0 ∧ Hid (min (max a0 0) 64 = 0)) ∨ (0 ≤ a0 ∧ a0 ≤ 64 ∧ Hid (min (max a0 0) 64 = a0)) ∨ (64 < a0 ∧ Hid (min (max a0 0) 64 = 64)) := by
    rcases Int.lt_or_le a0 0 with h | h
    · exact .inl ⟨h, Lib.hid (by omega)⟩
    · rcases Int.lt_or_le 64 a0 with h' | h'
      · exact .inr (.inr ⟨h', Lib.hid (by omega)⟩)
      · exact .inr (.inl ⟨h, h', Lib.hid (by omega)⟩)
  rcases hc with ⟨g1, g2⟩ | ⟨g1, g1', g2⟩ | ⟨g1, g2⟩
  all_goals
    replace hp := Lib.hid (hp.out.trans g2.out)
    clear g2
    go_enter Try.func5, Try.ntmps5
    go_wp2_with fail
    refine (word_Low _ h1 h2 _).mono ?_; rintro e w' ⟨rfl, rfl⟩
    rw [hz.out]
    go_wp2_with fail
    refine (awake1 _).mono ?_; rintro e w' ⟨rfl, rfl⟩
    go_wp2_with fail
    refine (word_Count _ hl.out _).mono ?_; rintro e w' ⟨rfl, rfl⟩
    rw [hp.out]
    go_wp2_with fail
    refine (word_Has _ hl.out _ (by omega) (by omega) _).mono ?_; rintro e w' ⟨rfl, rfl⟩
    rw [hh.out]
    go_wp2
    all_goals go_ret
    all_goals exact ⟨by first | rfl | simp, Grown.refl _⟩

theorem mod_p2_succ (x k : Nat) : x % 2 ^ (k + 1) = x % 2 ^ k + 2 ^ k * (x.testBit k).toNat := by
  rw [Nat.pow_succ, Nat.mod_mul, Nat.testBit_eq_decide_div_mod_eq]
  rcases Nat.mod_two_eq_zero_or_one (x / 2 ^ k) with h | h <;> simp [h]
set_option maxHeartbeats 400000 in
theorem law_WordSums (a0 : Int) (w0 : (Lit.int .u64 a0).wf = true) (w : World) :
    Calls Try.prog 4 #[.int .u64 a0] w fun e w' => e = .returned (.bool true) ∧ Grown w w' := by
  have b0 := bounds_u64 w0
  obtain ⟨x, rfl⟩ := Int.eq_ofNat_of_zero_le b0.1
  have hx : x < 18446744073709551616 := by omega
  clear w0 b0
  have hout := Lib.hid (fun i h => hasB_out x i hx h)
  go_enter Try.func4, Try.ntmps4
  go_wp2
  go_loop [3, 4, 5] (fun s n i => ∃ j k : Nat, j ≤ 66 ∧ k = min (j - 1) 64 ∧ i = .int .i64 (j - 1) ∧ s = .int .u64 (x % p2 k : Nat) ∧ n = .int .i64 (pcF k x : Nat)) (fun _ _ i => (65 - intOf i).toNat)
  case atStart => exact ⟨0, 0, by omega, by omega, rfl, by unfold p2; rw [Nat.pow_zero, Nat.mod_one]; rfl, rfl⟩
  case round =>
    obtain ⟨j, k, hj, hk, rfl, rfl, rfl⟩ := hrel
    have hk' := Lib.hid hk
    clear hk
    by_cases hlt : j < 66
    · by_cases hin : 1 ≤ j ∧ j < 65
      · obtain ⟨hj1, hj65⟩ := hin
        obtain rfl : j = k + 1 := by have := hk'.out; omega
        have hk64 : k < 64 := by omega
        have ei : ((k + 1 : Nat) : Int) - 1 = (k : Int) := by omega
        have hpl := pcF_le k x
        have hsn := Lib.hid (pcF_snoc k x)
        have hmo := Lib.hid (mod_p2_succ x k)
        have hlo : x % p2 k < p2 k := Nat.mod_lt _ (p2_pos k)
        have hpp := p2_lt k hk64
        have hb := Lib.hid (bitZ_p2 k (by omega) (by omega))
        rcases Bool.eq_false_or_eq_true (x.testBit k) with ht | ht
        · have hh := Lib.hid ((hasB_nat x k).trans ht)
          have e1 : pcF (k + 1) x = pcF k x + 1 := by rw [hsn.out, ht]; rfl
          have e2 : x % p2 (k + 1) = x % p2 k + p2 k := by unfold p2; rw [hmo.out, ht]; simp
          replace e1 := Lib.hid e1
          replace e2 := Lib.hid e2
          clear ht hk' hj1 hlt
          rw [ei]
          go_wp2_with fail
          refine (word_Has _ hx _ (by omega) (by omega) _).mono ?_; rintro e w' ⟨rfl, rfl⟩
          rw [hh.out]
          go_wp2_with fail
          refine (word_Bit _ (by omega) (by omega) _).mono ?_; rintro e w' ⟨rfl, rfl⟩
          rw [hb.out, Int.toNat_natCast]
          go_wp2
          go_round
          case rel => exact ⟨k + 2, k + 1, by omega, by omega, by go_num, by rw [e2.out]; go_num, by rw [e1.out]; go_num⟩
          case measure => simp [intOf]; omega
        · have hh := Lib.hid ((hasB_nat x k).trans ht)
          have e1 : pcF (k + 1) x = pcF k x := by rw [hsn.out, ht]; rfl
          have e2 : x % p2 (k + 1) = x % p2 k := by unfold p2; rw [hmo.out, ht]; simp
          replace e1 := Lib.hid e1
          replace e2 := Lib.hid e2
          clear ht hk' hj1 hlt
          rw [ei]
          go_wp2_with fail
          refine (word_Has _ hx _ (by omega) (by omega) _).mono ?_; rintro e w' ⟨rfl, rfl⟩
          rw [hh.out]
          go_wp2
          go_round
          case rel => exact ⟨k + 2, k + 1, by omega, by omega, by go_num, by rw [e2.out, Int.natCast_emod], by rw [e1.out]⟩
          case measure => simp [intOf]; omega
      · have ho := Lib.hid (hout.out (j - 1) (by omega))
        go_wp2_with fail
        refine (word_Has _ hx _ (by omega) (by omega) _).mono ?_; rintro e w' ⟨rfl, rfl⟩
        rw [ho.out]
        go_wp2
        go_round
        case rel => exact ⟨j + 1, k, by omega, by have := hk'.out; omega, by go_num, rfl, rfl⟩
        case measure => simp [intOf]; omega
    · obtain rfl : j = 66 := by omega
      obtain rfl : k = 64 := by have := hk'.out; omega
      have e1 := Lib.hid (pop_def x)
      have e2 : x % p2 64 = x := Nat.mod_eq_of_lt hx
      rw [e2, ← e1.out]
      clear e2 hk' hj hlt
      by_cases hz : x = 0
      · subst hz
        have f0 : low0 0 = 64 := low0_none 0 (fun j _ => Nat.zero_testBit j)
        have f1 := pop_zero
        replace f0 := Lib.hid f0
        rw [f1]; clear f1
        go_wp2_with fail
        refine (word_First _ hx _).mono ?_; rintro e w' ⟨rfl, rfl⟩
        rw [f0.out]
        go_wp2_with fail
        refine (awake1 _).mono ?_; rintro e w' ⟨rfl, rfl⟩
        go_wp2_with fail
        refine (word_Count _ hx _).mono ?_; rintro e w' ⟨rfl, rfl⟩
        rw [pop_zero]
        go_wp2
        go_ret
        exact ⟨rfl, Grown.refl _⟩
      · have hx0 : 0 < x := by omega
        have hl64 : low0 x < 64 := by
          rcases Nat.lt_or_ge (low0 x) 64 with h | h
          · exact h
          · exfalso
            have hn := low0_le x
            have hall : ∀ j, x.testBit j = (0 : Nat).testBit j := fun j => by
              rw [Nat.zero_testBit]
              rcases Nat.lt_or_ge j 64 with h' | h'
              · exact low0_before x j (by omega)
              · exact Nat.testBit_lt_two_pow (Nat.lt_of_lt_of_le hx (by rw [show (18446744073709551616 : Nat) = 2 ^ 64 from rfl]; exact Nat.pow_le_pow_right (by omega) h'))
            exact hz (Nat.eq_of_testBit_eq hall)
        have hb := Lib.hid ((hasB_nat x (low0 x)).trans (low0_bit x hl64))
        have hand : bits BinOp.and IntKind.u64 (x : Int) (lowN (low0 x) : Nat) = 0 := by
          rw [u64_and_nat _ _ hx (lowN_lt _)]
          have : x &&& lowN (low0 x) = 0 := by
            apply Nat.eq_of_testBit_eq; intro j
            rw [Nat.testBit_and, Nat.zero_testBit]
            unfold lowN p2
            rw [Nat.testBit_two_pow_sub_one]
            by_cases hj : j < low0 x
            · rw [low0_before x j hj]; rfl
            · have : ¬ j < (if ((low0 x : Nat) : Int) < 0 then 0 else min ((low0 x : Nat) : Int).toNat 64) := by split <;> omega
              rw [decide_eq_false this, Bool.and_false]
          rw [this]; rfl
        replace hand := Lib.hid hand
        have hlz := Lib.hid (lowZ_N (low0 x))
        have hxn : ((x : Int) != 0) = true := by rw [bne_iff_ne]; omega
        have hxe : ((x : Int) == 0) = false := by rw [beq_eq_false_iff_ne]; omega
        go_wp2_with fail
        refine (word_First _ hx _).mono ?_; rintro e w' ⟨rfl, rfl⟩
        go_wp2_with fail
        refine (awake1 _).mono ?_; rintro e w' ⟨rfl, rfl⟩
        go_wp2_with fail
        refine (word_Count _ hx _).mono ?_; rintro e w' ⟨rfl, rfl⟩
        go_wp2_with fail
        refine (word_Has _ hx _ (by omega) (by omega) _).mono ?_; rintro e w' ⟨rfl, rfl⟩
        rw [hb.out]
        go_wp2_with fail
        refine (word_Low _ (by omega) (by omega) _).mono ?_; rintro e w' ⟨rfl, rfl⟩
        rw [hlz.out]
        have hand' := hand.out
        go_wp2
        go_ret
        exact ⟨rfl, Grown.refl _⟩

end Go.Proofs.Ytjgpgbmekinkfaa
