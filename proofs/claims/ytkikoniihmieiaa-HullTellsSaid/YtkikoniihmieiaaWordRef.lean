/- Contracts of the document's own answers for words (package eyewitnessref01). -/
import Derived.Test.YtkikoniihmieiaaWord
namespace Go.Proofs.Ytkikoniihmieiaa
open Go.RowKit

def p2 (k : Nat) : Nat := 2 ^ k
theorem p2_succ (k : Nat) : p2 (k + 1) = p2 k * 2 := by unfold p2; exact Nat.pow_succ 2 k
theorem p2_lt (k : Nat) (h : k < 64) : p2 k ≤ 9223372036854775808 := by
  have : 2 ^ k ≤ 2 ^ 63 := Nat.pow_le_pow_right (by omega) (by omega)
  exact this
theorem p2_lt63 (k : Nat) (h : k < 63) : p2 k ≤ 4611686018427387904 := by
  have : 2 ^ k ≤ 2 ^ 62 := Nat.pow_le_pow_right (by omega) (by omega)
  exact this
theorem p2_pos (k : Nat) : 0 < p2 k := Nat.two_pow_pos k
theorem bitZ_p2 (i : Int) (h0 : 0 ≤ i) (h1 : i < 64) : bitZ i = (p2 i.toNat : Nat) := by
  unfold bitZ p2; rw [if_pos ⟨h0, h1⟩]; simp
theorem bitZ_out (i : Int) (h : i < 0 ∨ 64 ≤ i) : bitZ i = 0 := by
  unfold bitZ; rw [if_neg (by omega)]

set_option maxHeartbeats 400000 in
theorem ref_Bit (i : Int) (h1 : -9223372036854775808 ≤ i) (h2 : i < 9223372036854775808) (w : World) :
    Calls Try.prog 83 #[.int .i64 i] w fun e w' => e = .returned (.int .u64 (bitZ i)) ∧ w = w' := by
  by_cases h0 : i < 0
  · have H := Lib.hid (bitZ_out i (by omega))
    go_enter Try.func83, Try.ntmps83
    go_wp2
    go_ret
    rw [H.out]; exact ⟨rfl, rfl⟩
  by_cases h3 : 63 < i
  · have H := Lib.hid (bitZ_out i (by omega))
    go_enter Try.func83, Try.ntmps83
    go_wp2
    go_ret
    rw [H.out]; exact ⟨rfl, rfl⟩
  · obtain ⟨m, rfl⟩ := Int.eq_ofNat_of_zero_le (show 0 ≤ i by omega)
    have hm : m ≤ 63 := by omega
    have H := Lib.hid (bitZ_p2 m (by omega) (by omega))
    clear h1 h2
    go_enter Try.func83, Try.ntmps83
    go_wp2
    go_loop [0, 3] (fun i n => ∃ j k : Nat, j + k = m ∧ i = .int .i64 j ∧ n = .int .u64 (p2 k)) (fun i _ => (intOf i).toNat)
    case atStart => exact ⟨m, 0, rfl, rfl, rfl⟩
    case round =>
      obtain ⟨j, k, hjk, rfl, rfl⟩ := hrel
      by_cases hj : 0 < j
      · have hp := p2_lt63 k (by omega)
        have hjm : j ≤ 63 := by omega
        have hs := Lib.hid (p2_succ k)
        have hjk' := Lib.hid hjk
        clear hjk
        go_wp2
        go_round
        case rel => exact ⟨j - 1, k + 1, by have := hjk'.out; omega, by rw [show ((j - 1 : Nat) : Int) = (j : Int) - 1 from by omega], by rw [hs.out]; go_num⟩
        case measure => simp [intOf]; omega
      · obtain rfl : j = 0 := by omega
        have hk : k = m := by omega
        subst hk
        clear hjk
        go_wp2
        go_ret
        rw [H.out]; exact ⟨rfl, rfl⟩

theorem hasB_out (x : Nat) (i : Int) (hx : x < 18446744073709551616) (h : i < 0 ∨ 64 ≤ i) : hasB x i = false := by
  unfold hasB
  rcases h with h | h
  · simp; omega
  · have : x.testBit i.toNat = false :=
      Nat.testBit_lt_two_pow (Nat.lt_of_lt_of_le hx (by rw [show (18446744073709551616 : Nat) = 2 ^ 64 from rfl]; exact Nat.pow_le_pow_right (by omega) (by omega)))
    simp [this]
theorem hasB_in (x k : Nat) : hasB x (k : Int) = ((((x / p2 k) % 2 : Nat) : Int) == 1) := by
  unfold hasB p2
  have h0 : (0 : Int) ≤ k := by omega
  rw [Int.toNat_natCast, Nat.testBit_eq_decide_div_mod_eq, Bool.eq_iff_iff, beq_iff_eq]
  simp only [h0, decide_true, Bool.true_and, decide_eq_true_eq]
  generalize x / 2 ^ k % 2 = r
  omega

set_option maxHeartbeats 400000 in
theorem ref_Has (x : Nat) (hx : x < 18446744073709551616) (i : Int) (h1 : -9223372036854775808 ≤ i) (h2 : i < 9223372036854775808) (w : World) :
    Calls Try.prog 79 #[.int .u64 x, .int .i64 i] w fun e w' => e = .returned (.bool (hasB x i)) ∧ w = w' := by
  by_cases h0 : 0 ≤ i ∧ i < 64
  · obtain ⟨m, rfl⟩ := Int.eq_ofNat_of_zero_le h0.1
    have hb := Lib.hid (bitZ_p2 m (by omega) (by omega))
    have H := Lib.hid (hasB_in x m)
    have hp := p2_lt m (by omega)
    have hp0 := p2_pos m
    have hn : ((p2 m : Nat) : Int) != 0 := by rw [bne_iff_ne]; omega
    have hq0 : 0 ≤ (x : Int) / (p2 m : Nat) := Int.ediv_nonneg (by omega) (by omega)
    have hq1 : (x : Int) / (p2 m : Nat) < 18446744073709551616 := Int.lt_of_le_of_lt (Int.ediv_le_self _ (by omega)) (by omega)
    have hd := Lib.hid (Int.natCast_ediv x (p2 m))
    go_enter Try.func79, Try.ntmps79
    go_wp2_with fail
    refine (ref_Bit _ h1 h2 _).mono ?_
    rintro e w' ⟨rfl, rfl⟩
    rw [hb.out, Int.toNat_natCast]
    go_wp2
    go_ret
    rw [H.out, Int.natCast_emod, hd.out]; exact ⟨rfl, rfl⟩
  · have hb := Lib.hid (bitZ_out i (by omega))
    have H := Lib.hid (hasB_out x i hx (by omega))
    go_enter Try.func79, Try.ntmps79
    go_wp2_with fail
    refine (ref_Bit _ h1 h2 _).mono ?_
    rintro e w' ⟨rfl, rfl⟩
    rw [hb.out]
    go_wp2
    go_ret
    rw [H.out]; exact ⟨rfl, rfl⟩


theorem hasB_nat (x k : Nat) : hasB x (k : Int) = x.testBit k := by
  have h0 : (0 : Int) ≤ k := by omega
  unfold hasB; rw [Int.toNat_natCast]; simp only [h0, decide_true, Bool.true_and]


theorem lowZ_p2 (n : Int) (k : Nat) (hk : k ≤ 64) (h : (k : Int) = n ∨ (k = 64 ∧ 64 ≤ n) ∨ (k = 0 ∧ n ≤ 0)) : lowZ n = ((p2 k - 1 : Nat) : Int) := by
  unfold lowZ p2
  have hp := Nat.two_pow_pos k
  have e : ((2 ^ k : Nat) : Int) = (2 : Int) ^ k := by simp
  by_cases h0 : n < 0
  · rw [if_pos h0]; obtain rfl : k = 0 := by omega
    rfl
  · rw [if_neg h0, show min n.toNat 64 = k from by omega, ← e]; omega


end Go.Proofs.Ytkikoniihmieiaa
