/- Contracts of the document's own answers for words (package eyewitnessref01). -/
import Derived.Test.YtjgpgbmekinkfaaWord
namespace Go.Proofs.Ytjgpgbmekinkfaa
open Go.RowKit

def p2 (k : Nat) : Nat := 2 ^ k
theorem p2_succ (k : Nat) : p2 (k + 1) = p2 k * 2 := by unfold p2; exact Nat.pow_succ 2 k
theorem p2_lt (k : Nat) (h : k < 64) : p2 k ≤ 9223372036854775808 := by
  have : 2 ^ k ≤ 2 ^ 63 := Nat.pow_le_pow_right (by omega) (by omega)
  exact this
theorem p2_lt63 (k : Nat) (h : k < 63) : p2 k ≤ 4611686018427387904 := by
  have : 2 ^ k ≤ 2 ^ 62 := Nat.pow_le_pow_right (by omega) (by omega)
  exact this
theorem p2_pos (k : Nat) : 0 < p2 k := Nat.two_pow_pos k
theorem bitZ_p2 (i : Int) (h0 : 0 ≤ i) (h1 : i < 64) : bitZ i = (p2 i.toNat : Nat) := by
  unfold bitZ p2; rw [if_pos ⟨h0, h1⟩]; simp
theorem bitZ_out (i : Int) (h : i < 0 ∨ 64 ≤ i) : bitZ i = 0 := by
  unfold bitZ; rw [if_neg (by omega)]

set_option maxHeartbeats 400000 in
theorem ref_Bit (i : Int) (h1 : -9223372036854775808 ≤ i) (h2 : i < 9223372036854775808) (w : World) :
    Calls Try.prog 8 #[.int .i64 i] w fun e w' => e = .returned (.int .u64 (bitZ i)) ∧ w = w' := by
  by_cases h0 : i < 0
  · have H := Lib.hid (bitZ_out i (by omega))
    go_enter Try.func8, Try.ntmps8
    go_wp2
    go_ret
    rw [H.out]; exact ⟨rfl, rfl⟩
  by_cases h3 : 63 < i
  · have H := Lib.hid (bitZ_out i (by omega))
    go_enter Try.func8, Try.ntmps8
    go_wp2
    go_ret
    rw [H.out]; exact ⟨rfl, rfl⟩
  · obtain ⟨m, rfl⟩ := Int.eq_ofNat_of_zero_le (show 0 ≤ i by omega)
    have hm : m ≤ 63 := by omega
    have H := Lib.hid (bitZ_p2 m (by omega) (by omega))
    clear h1 h2
    go_enter Try.func8, Try.ntmps8
    go_wp2
    go_loop [0, 3] (fun i n => ∃ j k : Nat, j + k = m ∧ i = .int .i64 j ∧ n = .int .u64 (p2 k)) (fun i _ => (intOf i).toNat)
    case atStart => exact ⟨m, 0, rfl, rfl, rfl⟩
    case round =>
      obtain ⟨j, k, hjk, rfl, rfl⟩ := hrel
      by_cases hj : 0 < j
      · have hp := p2_lt63 k (by omega)
        have hjm : j ≤ 63 := by omega
        have hs := Lib.hid (p2_succ k)
        have hjk' := Lib.hid hjk
        clear hjk
        go_wp2
        go_round
        case rel => exact ⟨j - 1, k + 1, by have := hjk'.out; omega, by rw [show ((j - 1 : Nat) : Int) = (j : Int) - 1 from by omega], by rw [hs.out]; go_num⟩
        case measure => simp [intOf]; omega
      · obtain rfl : j = 0 := by omega
        have hk : k = m := by omega
        subst hk
        clear hjk
        go_wp2
        go_ret
        rw [H.out]; exact ⟨rfl, rfl⟩


theorem hasB_out (x : Nat) (i : Int) (hx : x < 18446744073709551616) (h : i < 0 ∨ 64 ≤ i) : hasB x i = false := by
  unfold hasB
  rcases h with h | h
  · simp; omega
  · have : x.testBit i.toNat = false :=
      Nat.testBit_lt_two_pow (Nat.lt_of_lt_of_le hx (by rw [show (18446744073709551616 : Nat) = 2 ^ 64 from rfl]; exact Nat.pow_le_pow_right (by omega) (by omega)))
    simp [this]
theorem hasB_in (x k : Nat) : hasB x (k : Int) = ((((x / p2 k) % 2 : Nat) : Int) == 1) := by
  unfold hasB p2
  have h0 : (0 : Int) ≤ k := by omega
  rw [Int.toNat_natCast, Nat.testBit_eq_decide_div_mod_eq, Bool.eq_iff_iff, beq_iff_eq]
  simp only [h0, decide_true, Bool.true_and, decide_eq_true_eq]
  generalize x / 2 ^ k % 2 = r
  omega

set_option maxHeartbeats 400000 in
theorem ref_Has (x : Nat) (hx : x < 18446744073709551616) (i : Int) (h1 : -9223372036854775808 ≤ i) (h2 : i < 9223372036854775808) (w : World) :
    Calls Try.prog 10 #[.int .u64 x, .int .i64 i] w fun e w' => e = .returned (.bool (hasB x i)) ∧ w = w' := by
  by_cases h0 : 0 ≤ i ∧ i < 64
  · obtain ⟨m, rfl⟩ := Int.eq_ofNat_of_zero_le h0.1
    have hb := Lib.hid (bitZ_p2 m (by omega) (by omega))
    have H := Lib.hid (hasB_in x m)
    have hp := p2_lt m (by omega)
    have hp0 := p2_pos m
    have hn : ((p2 m : Nat) : Int) != 0 := by rw [bne_iff_ne]; omega
    have hq0 : 0 ≤ (x : Int) / (p2 m : Nat) := Int.ediv_nonneg (by omega) (by omega)
    have hq1 : (x : Int) / (p2 m : Nat) < 18446744073709551616 := Int.lt_of_le_of_lt (Int.ediv_le_self _ (by omega)) (by omega)
    have hd := Lib.hid (Int.natCast_ediv x (p2 m))
    go_enter Try.func10, Try.ntmps10
    go_wp2_with fail
    refine (ref_Bit _ h1 h2 _).mono ?_
    rintro e w' ⟨rfl, rfl⟩
    rw [hb.out, Int.toNat_natCast]
    go_wp2
    go_ret
    rw [H.out, Int.natCast_emod, hd.out]; exact ⟨rfl, rfl⟩
  · have hb := Lib.hid (bitZ_out i (by omega))
    have H := Lib.hid (hasB_out x i hx (by omega))
    go_enter Try.func10, Try.ntmps10
    go_wp2_with fail
    refine (ref_Bit _ h1 h2 _).mono ?_
    rintro e w' ⟨rfl, rfl⟩
    rw [hb.out]
    go_wp2
    go_ret
    rw [H.out]; exact ⟨rfl, rfl⟩

set_option maxHeartbeats 400000 in
theorem ref_Count (x : Nat) (hx : x < 18446744073709551616) (w : World) :
    Calls Try.prog 12 #[.int .u64 x] w fun e w' => e = .returned (.int .i64 (pop x : Nat)) ∧ w = w' := by
  have hle := pop_le x
  go_enter Try.func12, Try.ntmps12
  go_wp2
  go_loop [0, 3] (fun v n => ∃ y c : Nat, y < 18446744073709551616 ∧ c + pop y = pop x ∧ v = .int .u64 y ∧ n = .int .i64 c) (fun v _ => (intOf v).toNat)
  case atStart => exact ⟨x, 0, hx, by omega, rfl, rfl⟩
  case round =>
    obtain ⟨y, c, hy, hc, rfl, rfl⟩ := hrel
    by_cases h0 : 0 < y
    · have hs := Lib.hid (pop_step y hy)
      have hcc := Lib.hid hc
      have hb : c ≤ 64 := by omega
      clear hc
      go_wp2
      go_round
      case rel => exact ⟨y / 2, c + y % 2, by omega, by have := hs.out; have := hcc.out; omega, by go_num, by go_num⟩
      case measure => simp [intOf]; omega
    · obtain rfl : y = 0 := by omega
      have hz : c = pop x := by rw [pop_zero] at hc; omega
      subst hz
      clear hc
      go_wp2
      go_ret
      exact ⟨rfl, rfl⟩

theorem hasB_nat (x k : Nat) : hasB x (k : Int) = x.testBit k := by
  have h0 : (0 : Int) ≤ k := by omega
  unfold hasB; rw [Int.toNat_natCast]; simp only [h0, decide_true, Bool.true_and]

set_option maxHeartbeats 400000 in
theorem ref_First (x : Nat) (hx : x < 18446744073709551616) (w : World) :
    Calls Try.prog 14 #[.int .u64 x] w fun e w' => e = .returned (.int .i64 (low0 x : Nat)) ∧ w = w' := by
  go_enter Try.func14, Try.ntmps14
  go_wp2
  go_loop [3] (fun i => ∃ k : Nat, k ≤ 64 ∧ Hid (∀ j, j < k → x.testBit j = false) ∧ i = .int .i64 k) (fun i => (64 - intOf i).toNat)
  case atStart => exact ⟨0, by omega, Lib.hid (fun j hj => absurd hj (by omega)), rfl⟩
  case round =>
    obtain ⟨k, hk, hno, rfl⟩ := hrel
    by_cases hlt : k < 64
    · rcases Bool.eq_false_or_eq_true (x.testBit k) with ht | ht
      · have hl := Lib.hid (low0_of x k hlt ht hno.out)
        have ht' := Lib.hid ((hasB_nat x k).trans ht)
        clear ht
        go_wp2_with fail
        refine (ref_Has x hx _ (by omega) (by omega) _).mono ?_
        rintro e w' ⟨rfl, rfl⟩
        rw [ht'.out]
        go_wp2
        go_ret
        rw [hl.out]; exact ⟨rfl, rfl⟩
      · have ht' := Lib.hid ((hasB_nat x k).trans ht)
        have hno' : Hid (∀ j, j < k + 1 → x.testBit j = false) := Lib.hid (fun j hj => by
          rcases Nat.lt_succ_iff_lt_or_eq.1 hj with h | h
          · exact hno.out j h
          · rw [h]; exact ht)
        clear ht
        go_wp2_with fail
        refine (ref_Has x hx _ (by omega) (by omega) _).mono ?_
        rintro e w' ⟨rfl, rfl⟩
        rw [ht'.out]
        go_wp2
        go_round
        case rel => exact ⟨k + 1, by omega, hno', by go_num⟩
        case measure => simp [intOf]; omega
    · obtain rfl : k = 64 := by omega
      have hl := Lib.hid (low0_none x hno.out)
      go_wp2
      go_ret
      rw [hl.out]; exact ⟨rfl, rfl⟩

theorem lowZ_p2 (n : Int) (k : Nat) (hk : k ≤ 64) (h : (k : Int) = n ∨ (k = 64 ∧ 64 ≤ n) ∨ (k = 0 ∧ n ≤ 0)) : lowZ n = ((p2 k - 1 : Nat) : Int) := by
  unfold lowZ p2
  have hp := Nat.two_pow_pos k
  have e : ((2 ^ k : Nat) : Int) = (2 : Int) ^ k := by simp
  by_cases h0 : n < 0
  · rw [if_pos h0]; obtain rfl : k = 0 := by omega
    rfl
  · rw [if_neg h0, show min n.toNat 64 = k from by omega, ← e]; omega

set_option maxHeartbeats 400000 in
theorem ref_Low (n : Int) (h1 : -9223372036854775808 ≤ n) (h2 : n < 9223372036854775808) (w : World) :
    Calls Try.prog 16 #[.int .i64 n] w fun e w' => e = .returned (.int .u64 (lowZ n)) ∧ w = w' := by
  go_enter Try.func16, Try.ntmps16
  go_wp2
  go_loop [3, 4] (fun v i => ∃ k : Nat, k ≤ 64 ∧ (k = 0 ∨ (k : Int) ≤ n) ∧ i = .int .i64 k ∧ v = .int .u64 (p2 k - 1 : Nat)) (fun _ i => (64 - intOf i).toNat)
  case atStart => exact ⟨0, by omega, by omega, rfl, rfl⟩
  case round =>
    obtain ⟨k, hk, hkn, rfl, rfl⟩ := hrel
    by_cases hlt : k < 64
    · by_cases hn : (k : Int) < n
      · have hp := p2_lt k hlt
        have hp0 := p2_pos k
        have hs := Lib.hid (p2_succ k)
        have hb := Lib.hid (bitZ_p2 k (by omega) (by omega))
        go_wp2_with fail
        refine (ref_Bit _ (by omega) (by omega) _).mono ?_
        rintro e w' ⟨rfl, rfl⟩
        rw [hb.out, Int.toNat_natCast]
        go_wp2
        go_round
        case rel => exact ⟨k + 1, by omega, by omega, by go_num, by
          rw [hs.out, show (((p2 k * 2 - 1 : Nat)) : Int) = ((p2 k - 1 : Nat) : Int) + (p2 k : Nat) from by omega]⟩
        case measure => simp [intOf]; omega
      · have hl := Lib.hid (lowZ_p2 n k hk (by omega))
        go_wp2
        go_ret
        rw [hl.out]; exact ⟨rfl, rfl⟩
    · obtain rfl : k = 64 := by omega
      have hl := Lib.hid (lowZ_p2 n 64 hk (by omega))
      go_wp2
      go_ret
      rw [hl.out]; exact ⟨rfl, rfl⟩
end Go.Proofs.Ytjgpgbmekinkfaa
