/- Contracts of package word. Contracts of the document's own answers for words (package eyewitnessref01). Plain mathematics of rows of words. Contracts of package row. Contracts of package row: clone, Set. Contracts of package row: Or, Sub, Same, Count. Contracts of package row: List. -/
import Derived.Test.YtbeigdbljepfkaaGreatRows
import Derived.Test.YtbeigdbljepfkaaGreatSeenLeastPk1
import Derived.WalkKit
import Derived.WalkSpells
import Derived.WalkLawsBesides
import Derived.Deep.DeepCutAuto
import Derived.Laws.BitsAllLaws
import Derived.Lib.Hide
import Derived.Deep.QuietTactic
import Derived.BigQuiet
import Derived.StillTailTactics
import Derived.Deep.RegionWith
import Derived.Deep.RegionHeld3
import Derived.BigRegion
import Derived.Deep.DrawnRows
namespace Go.Proofs.YtbeigdbljepfkaaGreat
open Go.RowKit

theorem ret_u64 {a b : Int} (h : a = b) : Ending.returned (.int .u64 a) = .returned (.int .u64 b) := by rw [h]
theorem ret_i64 {a b : Int} (h : a = b) : Ending.returned (.int .i64 a) = .returned (.int .i64 b) := by rw [h]
theorem ret_bool {a b : Bool} (h : a = b) : Ending.returned (.bool a) = .returned (.bool b) := by rw [h]

theorem shift_min (i : Int) (h1 : -9223372036854775808 ≤ i) (h2 : i < 9223372036854775808) :
    min (IntKind.u64.wrap i).toNat 64 = if 0 ≤ i then min i.toNat 64 else 64 := by
  rw [IntKind.wrap_u64]; split <;> omega
theorem wrap_pow (n : Nat) (h : n ≤ 64) : IntKind.u64.wrap (2 ^ n) = if n < 64 then 2 ^ n else 0 := by
  rw [IntKind.wrap_u64]
  by_cases hn : n < 64
  · rw [if_pos hn]
    have : (2 : Nat) ^ n < 2 ^ 64 := Nat.pow_lt_pow_right (by omega) hn
    have h2 : ((2 ^ n : Nat) : Int) = (2 : Int) ^ n := by simp
    rw [← h2]; generalize 2 ^ n = q at *; omega
  · obtain rfl : n = 64 := by omega
    rfl
theorem bit_eq (i : Int) (h1 : -9223372036854775808 ≤ i) (h2 : i < 9223372036854775808) :
    IntKind.u64.wrap (2 ^ min (IntKind.u64.wrap i).toNat 64) = bitZ i := by
  rw [shift_min i h1 h2, wrap_pow _ (by split <;> omega)]
  unfold bitZ
  by_cases h0 : 0 ≤ i
  · rw [if_pos h0]
    by_cases h3 : i < 64
    · rw [if_pos (by omega), if_pos ⟨h0, h3⟩, show min i.toNat 64 = i.toNat from by omega]
    · rw [if_neg (by omega), if_neg (by omega)]
  · rw [if_neg h0, if_neg (by omega), if_neg (by omega)]

set_option maxHeartbeats 400000 in
theorem word_Bit (i : Int) (h1 : -9223372036854775808 ≤ i) (h2 : i < 9223372036854775808) (w : World) :
    Calls Tryz.prog 77 #[.int .i64 i] w fun e w' => e = .returned (.int .u64 (bitZ i)) ∧ w = w' := by
  go_enter Tryz.func77, Tryz.ntmps77
  go_wp2
  go_ret
  exact ⟨ret_u64 (bit_eq i h1 h2), rfl⟩

theorem has_eq (x : Nat) (hx : x < 18446744073709551616) (i : Int) (h1 : -9223372036854775808 ≤ i) (h2 : i < 9223372036854775808) :
    (bits BinOp.and IntKind.u64 (↑x / 2 ^ min (IntKind.u64.wrap i).toNat 64) 1 == 1) = hasB x i := by
  rw [shift_min i h1 h2]
  generalize hn : (if 0 ≤ i then min i.toNat 64 else 64) = n
  have e : ((x : Int) / 2 ^ n) = ((x / 2 ^ n : Nat) : Int) := by simp
  rw [e, show (1 : Int) = ((1 : Nat) : Int) from rfl, u64_and_nat _ _ (Nat.lt_of_le_of_lt (Nat.div_le_self _ _) hx) (by omega), Nat.and_one_is_mod]
  unfold hasB
  by_cases h0 : 0 ≤ i
  · rw [if_pos h0] at hn
    have ht : x.testBit i.toNat = x.testBit n := by
      by_cases h3 : i.toNat < 64
      · rw [← hn, show min i.toNat 64 = i.toNat from by omega]
      · have hl : ∀ j, 64 ≤ j → x.testBit j = false := fun j hj =>
          Nat.testBit_lt_two_pow (Nat.lt_of_lt_of_le hx (by rw [show (18446744073709551616 : Nat) = 2 ^ 64 from rfl]; exact Nat.pow_le_pow_right (by omega) hj))
        rw [hl _ (by omega), hl n (by omega)]
    rw [ht, Nat.testBit_eq_decide_div_mod_eq]
    simp only [h0, decide_true, Bool.true_and]
    rw [Bool.eq_iff_iff]; simp; omega
  · rw [if_neg h0] at hn
    subst hn
    have : x / 2 ^ 64 = 0 := Nat.div_eq_of_lt hx
    simp [h0, this]

set_option maxHeartbeats 400000 in
theorem word_Has (x : Nat) (hx : x < 18446744073709551616) (i : Int) (h1 : -9223372036854775808 ≤ i) (h2 : i < 9223372036854775808) (w : World) :
    Calls Tryz.prog 85 #[.int .u64 x, .int .i64 i] w fun e w' => e = .returned (.bool (hasB x i)) ∧ w = w' := by
  have H := Lib.hid (has_eq x hx i h1 h2)
  go_enter Tryz.func85, Tryz.ntmps85
  go_wp2
  go_ret
  exact ⟨ret_bool H.out, rfl⟩

theorem halves_eq (x : Nat) (hx : x < 18446744073709551616) (m n : Nat) (hm : 0 < m) (hn : 2 * m * n = 64) (c d : Int) (hc : c = ((maskF m n : Nat) : Int)) (hl : maskF m n < 18446744073709551616) (hd : d = ((2 ^ m : Nat) : Int)) :
    IntKind.u64.wrap (bits BinOp.and IntKind.u64 (↑x) c + bits BinOp.and IntKind.u64 (↑x / d) c) = ((halvesF m n x : Nat) : Int) := by
  subst hc; subst hd
  rw [show ((x : Int) / ((2 ^ m : Nat) : Int)) = ((x / 2 ^ m : Nat) : Int) from (Int.natCast_ediv _ _).symm]
  rw [u64_and_nat _ _ hx hl, u64_and_nat _ _ (Nat.lt_of_le_of_lt (Nat.div_le_self _ _) hx) hl, ← Int.natCast_add]
  have := halves_lt m n x hm
  rw [hn] at this
  unfold halvesF at this ⊢
  rw [IntKind.wrap_u64]; omega

/-- a number below 2^64 by its eight bytes -/
def by8 (b0 b1 b2 b3 b4 b5 b6 b7 : Nat) : Nat := b0 + 256 * (b1 + 256 * (b2 + 256 * (b3 + 256 * (b4 + 256 * (b5 + 256 * (b6 + 256 * b7))))))
theorem bytes8 (x : Nat) (hx : x < 18446744073709551616) : ∃ b0 b1 b2 b3 b4 b5 b6 b7 : Nat, x = by8 b0 b1 b2 b3 b4 b5 b6 b7 ∧ dsF 256 8 x = b0 + b1 + b2 + b3 + b4 + b5 + b6 + b7 := by
  refine ⟨x % 256, x / 256 % 256, x / 256 / 256 % 256, x / 256 / 256 / 256 % 256, x / 256 / 256 / 256 / 256 % 256, x / 256 / 256 / 256 / 256 / 256 % 256, x / 256 / 256 / 256 / 256 / 256 / 256 % 256, x / 256 / 256 / 256 / 256 / 256 / 256 / 256 % 256, ?_, ?_⟩
  · unfold by8; omega
  · simp only [dsF]; omega
theorem wrap_of (n : Nat) (h : n < 18446744073709551616) : IntKind.u64.wrap (n : Int) = n := by rw [IntKind.wrap_u64]; omega
theorem by8_one (b0 b1 b2 b3 b4 b5 b6 b7 : Nat) (h : b0 + b1 + b2 + b3 + b4 + b5 + b6 + b7 ≤ 64) :
    by8 b0 b1 b2 b3 b4 b5 b6 b7 + by8 b0 b1 b2 b3 b4 b5 b6 b7 / 256 = by8 (b0 + b1) (b1 + b2) (b2 + b3) (b3 + b4) (b4 + b5) (b5 + b6) (b6 + b7) b7 := by unfold by8; omega
theorem by8_two (b0 b1 b2 b3 b4 b5 b6 b7 : Nat) (h0 : b0 < 256) (h1 : b1 < 256) :
    by8 b0 b1 b2 b3 b4 b5 b6 b7 + by8 b0 b1 b2 b3 b4 b5 b6 b7 / 65536 = by8 (b0 + b2) (b1 + b3) (b2 + b4) (b3 + b5) (b4 + b6) (b5 + b7) b6 b7 := by
  have e : by8 b0 b1 b2 b3 b4 b5 b6 b7 / 65536 = b2 + 256 * (b3 + 256 * (b4 + 256 * (b5 + 256 * (b6 + 256 * b7)))) := by unfold by8; omega
  rw [e]; unfold by8; omega
theorem by8_four (b0 b1 b2 b3 b4 b5 b6 b7 : Nat) (h0 : b0 < 256) (h1 : b1 < 256) (h2 : b2 < 256) (h3 : b3 < 256) :
    by8 b0 b1 b2 b3 b4 b5 b6 b7 + by8 b0 b1 b2 b3 b4 b5 b6 b7 / 4294967296 = by8 (b0 + b4) (b1 + b5) (b2 + b6) (b3 + b7) b4 b5 b6 b7 := by
  have e : by8 b0 b1 b2 b3 b4 b5 b6 b7 / 4294967296 = b4 + 256 * (b5 + 256 * (b6 + 256 * b7)) := by unfold by8; omega
  rw [e]; unfold by8; omega
theorem by8_lt (b0 b1 b2 b3 b4 b5 b6 b7 : Nat) (h0 : b0 < 256) (h1 : b1 < 256) (h2 : b2 < 256) (h3 : b3 < 256) (h4 : b4 < 256) (h5 : b5 < 256) (h6 : b6 < 256) (h7 : b7 < 256) :
    by8 b0 b1 b2 b3 b4 b5 b6 b7 < 18446744073709551616 := by unfold by8; omega
/-- one of the three sums at the end, as Go wraps it -/
theorem sum_step (x y d : Nat) (h : x + x / d = y) (hy : y < 18446744073709551616) : IntKind.u64.wrap ((x : Int) + (x : Int) / (d : Int)) = (y : Int) := by
  rw [← Int.natCast_ediv, ← Int.natCast_add, h, wrap_of _ hy]
theorem count_end (x : Nat) (hx : x < 18446744073709551616) (hs : dsF 256 8 x ≤ 64) :
    wrap64 (bits BinOp.and IntKind.u64 (IntKind.u64.wrap (IntKind.u64.wrap (IntKind.u64.wrap (x + (x : Int) / 256) + IntKind.u64.wrap (x + (x : Int) / 256) / 65536) + IntKind.u64.wrap (IntKind.u64.wrap (x + (x : Int) / 256) + IntKind.u64.wrap (x + (x : Int) / 256) / 65536) / 4294967296)) 127) = ((dsF 256 8 x : Nat) : Int) := by
  obtain ⟨b0, b1, b2, b3, b4, b5, b6, b7, hb, hd⟩ := bytes8 x hx
  rw [hd] at hs ⊢
  clear hd
  subst hb
  have s1 := sum_step _ _ 256 (by8_one b0 b1 b2 b3 b4 b5 b6 b7 hs) (by8_lt _ _ _ _ _ _ _ _ (by omega) (by omega) (by omega) (by omega) (by omega) (by omega) (by omega) (by omega))
  have s2 := sum_step _ _ 65536 (by8_two (b0 + b1) (b1 + b2) (b2 + b3) (b3 + b4) (b4 + b5) (b5 + b6) (b6 + b7) b7 (by omega) (by omega)) (by8_lt _ _ _ _ _ _ _ _ (by omega) (by omega) (by omega) (by omega) (by omega) (by omega) (by omega) (by omega))
  have s3 := sum_step _ _ 4294967296 (by8_four (b0 + b1 + (b2 + b3)) (b1 + b2 + (b3 + b4)) (b2 + b3 + (b4 + b5)) (b3 + b4 + (b5 + b6)) (b4 + b5 + (b6 + b7)) (b5 + b6 + b7) (b6 + b7) b7 (by omega) (by omega) (by omega) (by omega)) (by8_lt _ _ _ _ _ _ _ _ (by omega) (by omega) (by omega) (by omega) (by omega) (by omega) (by omega) (by omega))
  simp only [Int.cast_ofNat_Int] at s1 s2 s3
  rw [s1, s2, s3, show (127 : Int) = ((127 : Nat) : Int) from rfl, u64_and_nat _ _ (by8_lt _ _ _ _ _ _ _ _ (by omega) (by omega) (by omega) (by omega) (by omega) (by omega) (by omega) (by omega)) (by omega), show (127 : Nat) = 2 ^ 7 - 1 from rfl, Nat.and_two_pow_sub_one_eq_mod]
  have hm : ∀ a y : Nat, a ≤ 64 → (a + 256 * y) % 2 ^ 7 = a := by omega
  unfold by8
  rw [hm _ _ (by omega)]
  rw [IntWalk.wrap64_in _ (by omega)]; omega

theorem count_all (x : Nat) : dsF 256 8 (halvesF 4 8 (halvesF 2 16 (halvesF 1 32 x))) = pcF 64 x := by
  have h1 := dsF_halves 1 32 x (by omega)
  have h2 := dsF_halves 2 16 (halvesF 1 32 x) (by omega)
  have h3 := dsF_halves 4 8 (halvesF 2 16 (halvesF 1 32 x)) (by omega)
  simp only [Nat.reduceMul, Nat.reducePow] at h1 h2 h3
  rw [h3, h2, h1, dsF_two]

set_option maxHeartbeats 400000 in
theorem word_Count (x : Nat) (hx : x < 18446744073709551616) (w : World) :
    Calls Tryz.prog 95 #[.int .u64 x] w fun e w' => e = .returned (.int .i64 (pop x : Nat)) ∧ w = w' := by
  have a1 := halves_lt 1 32 x (by omega)
  have a2 := halves_lt 2 16 (halvesF 1 32 x) (by omega)
  have a3 := halves_lt 4 8 (halvesF 2 16 (halvesF 1 32 x)) (by omega)
  have A1 := halves_eq x hx 1 32 (by omega) (by omega) 6148914691236517205 2 (by decide) (by decide) (by decide)
  have A2 := halves_eq (halvesF 1 32 x) (by omega) 2 16 (by omega) (by omega) 3689348814741910323 4 (by decide) (by decide) (by decide)
  have A3 := halves_eq (halvesF 2 16 (halvesF 1 32 x)) (by omega) 4 8 (by omega) (by omega) 1085102592571150095 16 (by decide) (by decide) (by decide)
  have hp := pcF_le 64 x
  have A4 := count_end (halvesF 4 8 (halvesF 2 16 (halvesF 1 32 x))) (by omega) (by rw [count_all]; exact hp)
  rw [count_all, ← pop_def] at A4
  replace A1 := Lib.hid A1
  replace A2 := Lib.hid A2
  replace A3 := Lib.hid A3
  replace A4 := Lib.hid A4
  clear a1 a2 a3 hp
  go_enter Tryz.func95, Tryz.ntmps95
  go_upto_region 1 with fail
  go_cut [0] (fun s wx => s = .int .u64 (halvesF 1 32 x : Nat) ∧ w = wx)
  case first =>
    go_wp2_with fail; go_meet
    rw [A1.out]; exact ⟨rfl, rfl⟩
  obtain ⟨rfl, rfl⟩ := hcut
  go_upto_region 2 with fail
  go_cut [0] (fun s wx => s = .int .u64 (halvesF 2 16 (halvesF 1 32 x) : Nat) ∧ w = wx)
  case first =>
    go_wp2_with fail; go_meet
    rw [A2.out]; exact ⟨rfl, rfl⟩
  obtain ⟨rfl, rfl⟩ := hcut
  go_upto_region 3 with fail
  go_cut [0] (fun s wx => s = .int .u64 (halvesF 4 8 (halvesF 2 16 (halvesF 1 32 x)) : Nat) ∧ w = wx)
  case first =>
    go_wp2_with fail; go_meet
    rw [A3.out]; exact ⟨rfl, rfl⟩
  obtain ⟨rfl, rfl⟩ := hcut
  go_wp2
  go_ret
  exact ⟨ret_i64 A4.out, rfl⟩

theorem first_eq (x : Nat) (hx : x < 18446744073709551616) :
    bits BinOp.andNot IntKind.u64 (IntKind.u64.wrap (x - 1)) x = ((2 ^ (low0 x) - 1 : Nat) : Int) := by
  have h := low_bits 64 x hx
  rw [← low0_def] at h
  rw [show IntKind.u64.wrap ((x : Int) - 1) = (((x + (2 ^ 64 - 1)) % 2 ^ 64 : Nat) : Int) from by rw [IntKind.wrap_u64]; omega]
  rw [u64_andNot_nat _ _ (by omega) hx]
  rw [show (18446744073709551615 - x) = 2 ^ 64 - 1 - x from rfl, h]

set_option maxHeartbeats 400000 in
theorem word_First (x : Nat) (hx : x < 18446744073709551616) (w : World) :
    Calls Tryz.prog 76 #[.int .u64 x] w fun e w' => e = .returned (.int .i64 (low0 x : Nat)) ∧ w = w' := by
  have A := first_eq x hx
  have hl : 2 ^ (low0 x) - 1 < 18446744073709551616 := by
    have : 2 ^ (low0 x) ≤ 2 ^ 64 := Nat.pow_le_pow_right (by omega) (low0_le x)
    omega
  have hp := pop_ones (low0 x) (low0_le x)
  replace A := Lib.hid A
  replace hp := Lib.hid hp
  have hl := Lib.hid hl
  go_enter Tryz.func76, Tryz.ntmps76
  go_wp2_with fail
  rw [A.out]
  refine (word_Count _ hl.out _).mono ?_
  rintro e w' ⟨rfl, rfl⟩
  rw [hp.out]
  go_wp2
  go_ret
  exact ⟨rfl, rfl⟩

end Go.Proofs.YtbeigdbljepfkaaGreat

namespace Go.Proofs.YtbeigdbljepfkaaGreat
open Go.RowKit

def p2 (k : Nat) : Nat := 2 ^ k
theorem p2_succ (k : Nat) : p2 (k + 1) = p2 k * 2 := by unfold p2; exact Nat.pow_succ 2 k
theorem p2_lt (k : Nat) (h : k < 64) : p2 k ≤ 9223372036854775808 := by
  have : 2 ^ k ≤ 2 ^ 63 := Nat.pow_le_pow_right (by omega) (by omega)
  exact this
theorem p2_lt63 (k : Nat) (h : k < 63) : p2 k ≤ 4611686018427387904 := by
  have : 2 ^ k ≤ 2 ^ 62 := Nat.pow_le_pow_right (by omega) (by omega)
  exact this
theorem p2_pos (k : Nat) : 0 < p2 k := Nat.two_pow_pos k
theorem bitZ_p2 (i : Int) (h0 : 0 ≤ i) (h1 : i < 64) : bitZ i = (p2 i.toNat : Nat) := by
  unfold bitZ p2; rw [if_pos ⟨h0, h1⟩]; simp
theorem bitZ_out (i : Int) (h : i < 0 ∨ 64 ≤ i) : bitZ i = 0 := by
  unfold bitZ; rw [if_neg (by omega)]

set_option maxHeartbeats 400000 in
theorem ref_Bit (i : Int) (h1 : -9223372036854775808 ≤ i) (h2 : i < 9223372036854775808) (w : World) :
    Calls Tryz.prog 72 #[.int .i64 i] w fun e w' => e = .returned (.int .u64 (bitZ i)) ∧ w = w' := by
  by_cases h0 : i < 0
  · have H := Lib.hid (bitZ_out i (by omega))
    go_enter Tryz.func72, Tryz.ntmps72
    go_wp2
    go_ret
    rw [H.out]; exact ⟨rfl, rfl⟩
  by_cases h3 : 63 < i
  · have H := Lib.hid (bitZ_out i (by omega))
    go_enter Tryz.func72, Tryz.ntmps72
    go_wp2
    go_ret
    rw [H.out]; exact ⟨rfl, rfl⟩
  · obtain ⟨m, rfl⟩ := Int.eq_ofNat_of_zero_le (show 0 ≤ i by omega)
    have hm : m ≤ 63 := by omega
    have H := Lib.hid (bitZ_p2 m (by omega) (by omega))
    clear h1 h2
    go_enter Tryz.func72, Tryz.ntmps72
    go_wp2
    go_loop [0, 3] (fun i n => ∃ j k : Nat, j + k = m ∧ i = .int .i64 j ∧ n = .int .u64 (p2 k)) (fun i _ => (intOf i).toNat)
    case atStart => exact ⟨m, 0, rfl, rfl, rfl⟩
    case round =>
      obtain ⟨j, k, hjk, rfl, rfl⟩ := hrel
      by_cases hj : 0 < j
      · have hp := p2_lt63 k (by omega)
        have hjm : j ≤ 63 := by omega
        have hs := Lib.hid (p2_succ k)
        have hjk' := Lib.hid hjk
        clear hjk
        go_wp2
        go_round
        case rel => exact ⟨j - 1, k + 1, by have := hjk'.out; omega, by rw [show ((j - 1 : Nat) : Int) = (j : Int) - 1 from by omega], by rw [hs.out]; go_num⟩
        case measure => simp [intOf]; omega
      · obtain rfl : j = 0 := by omega
        have hk : k = m := by omega
        subst hk
        clear hjk
        go_wp2
        go_ret
        rw [H.out]; exact ⟨rfl, rfl⟩

theorem hasB_out (x : Nat) (i : Int) (hx : x < 18446744073709551616) (h : i < 0 ∨ 64 ≤ i) : hasB x i = false := by
  unfold hasB
  rcases h with h | h
  · simp; omega
  · have : x.testBit i.toNat = false :=
      Nat.testBit_lt_two_pow (Nat.lt_of_lt_of_le hx (by rw [show (18446744073709551616 : Nat) = 2 ^ 64 from rfl]; exact Nat.pow_le_pow_right (by omega) (by omega)))
    simp [this]
theorem hasB_in (x k : Nat) : hasB x (k : Int) = ((((x / p2 k) % 2 : Nat) : Int) == 1) := by
  unfold hasB p2
  have h0 : (0 : Int) ≤ k := by omega
  rw [Int.toNat_natCast, Nat.testBit_eq_decide_div_mod_eq, Bool.eq_iff_iff, beq_iff_eq]
  simp only [h0, decide_true, Bool.true_and, decide_eq_true_eq]
  generalize x / 2 ^ k % 2 = r
  omega

set_option maxHeartbeats 400000 in
theorem ref_Has (x : Nat) (hx : x < 18446744073709551616) (i : Int) (h1 : -9223372036854775808 ≤ i) (h2 : i < 9223372036854775808) (w : World) :
    Calls Tryz.prog 70 #[.int .u64 x, .int .i64 i] w fun e w' => e = .returned (.bool (hasB x i)) ∧ w = w' := by
  by_cases h0 : 0 ≤ i ∧ i < 64
  · obtain ⟨m, rfl⟩ := Int.eq_ofNat_of_zero_le h0.1
    have hb := Lib.hid (bitZ_p2 m (by omega) (by omega))
    have H := Lib.hid (hasB_in x m)
    have hp := p2_lt m (by omega)
    have hp0 := p2_pos m
    have hn : ((p2 m : Nat) : Int) != 0 := by rw [bne_iff_ne]; omega
    have hq0 : 0 ≤ (x : Int) / (p2 m : Nat) := Int.ediv_nonneg (by omega) (by omega)
    have hq1 : (x : Int) / (p2 m : Nat) < 18446744073709551616 := Int.lt_of_le_of_lt (Int.ediv_le_self _ (by omega)) (by omega)
    have hd := Lib.hid (Int.natCast_ediv x (p2 m))
    go_enter Tryz.func70, Tryz.ntmps70
    go_wp2_with fail
    refine (ref_Bit _ h1 h2 _).mono ?_
    rintro e w' ⟨rfl, rfl⟩
    rw [hb.out, Int.toNat_natCast]
    go_wp2
    go_ret
    rw [H.out, Int.natCast_emod, hd.out]; exact ⟨rfl, rfl⟩
  · have hb := Lib.hid (bitZ_out i (by omega))
    have H := Lib.hid (hasB_out x i hx (by omega))
    go_enter Tryz.func70, Tryz.ntmps70
    go_wp2_with fail
    refine (ref_Bit _ h1 h2 _).mono ?_
    rintro e w' ⟨rfl, rfl⟩
    rw [hb.out]
    go_wp2
    go_ret
    rw [H.out]; exact ⟨rfl, rfl⟩

theorem hasB_nat (x k : Nat) : hasB x (k : Int) = x.testBit k := by
  have h0 : (0 : Int) ≤ k := by omega
  unfold hasB; rw [Int.toNat_natCast]; simp only [h0, decide_true, Bool.true_and]

end Go.Proofs.YtbeigdbljepfkaaGreat

namespace Go.Proofs.YtbeigdbljepfkaaGreat
open Go.RowKit
set_option linter.unusedVariables false

def wordsZ (n : Int) : Int := if n < 0 then 0 else (n + 63) / 64
def inR (n : Nat) (i : Int) : Bool := decide (0 ≤ i) && decide (i < 64 * (n : Int))
/-- is the bit i set? -/
def hasR (xs : List Nat) (i : Int) : Bool := decide (0 ≤ i) && (xs.getD (i.toNat / 64) 0).testBit (i.toNat % 64)
/-- with the bit i -/
def setR (xs : List Nat) (i : Int) : List Nat := if inR xs.length i then xs.set (i.toNat / 64) (xs.getD (i.toNat / 64) 0 ||| 2 ^ (i.toNat % 64)) else xs
/-- both together -/
def orR (a b : List Nat) : List Nat := (List.range (max a.length b.length)).map fun j => a.getD j 0 ||| b.getD j 0
def subR (a b : List Nat) : Bool := (List.range a.length).all fun j => a.getD j 0 &&& b.getD j 0 == a.getD j 0
def countR (xs : List Nat) : Nat := (xs.map pop).sum
def listN (xs : List Nat) : List Nat := (List.range (64 * xs.length)).filter fun i : Nat => hasR xs (i : Int)
def listR (xs : List Nat) : List Int := (listN xs).map Int.ofNat

theorem ofInt_i64 (a : Nat) (ha : a < 9223372036854775808) : (BitVec.ofInt 64 (a : Int)).toNat = a := by
  rw [BitVec.ofInt_natCast, BitVec.toNat_ofNat]; exact Nat.mod_eq_of_lt (by omega)
theorem i64_and_nat (a b : Nat) (ha : a < 9223372036854775808) (hb : b < 9223372036854775808) : bits .and .i64 (a : Int) (b : Int) = ((a &&& b : Nat) : Int) := by
  have hx : a &&& b < 2 ^ 63 := Nat.and_lt_two_pow _ (by omega)
  show IntKind.i64.wrap ((BitVec.ofInt 64 (a : Int) &&& BitVec.ofInt 64 (b : Int)).toNat : Int) = _
  rw [BitVec.toNat_and, ofInt_i64 a ha, ofInt_i64 b hb, IntKind.wrap_i64]
  omega
theorem i64_and_63 (a : Nat) (ha : a < 9223372036854775808) : bits .and .i64 (a : Int) 63 = ((a % 64 : Nat) : Int) := by
  rw [show (63 : Int) = ((63 : Nat) : Int) from rfl, i64_and_nat a 63 ha (by omega), show (63 : Nat) = 2 ^ 6 - 1 from rfl, Nat.and_two_pow_sub_one_eq_mod]

theorem inR_out (n : Nat) (i : Int) (h : i < 0 ∨ 64 * (n : Int) ≤ i) : inR n i = false := by
  unfold inR; rcases h with h | h
  · rw [decide_eq_false (by omega)]; rfl
  · rw [decide_eq_false (p := i < _) (by omega), Bool.and_false]
theorem inR_in (n m : Nat) (h : m < 64 * n) : inR n (m : Int) = true := by
  unfold inR; rw [decide_eq_true (by omega), decide_eq_true (by omega)]; rfl
theorem hasR_out (xs : List Nat) (i : Int) (h : i < 0 ∨ 64 * (xs.length : Int) ≤ i) : hasR xs i = false := by
  unfold hasR
  rcases h with h | h
  · rw [decide_eq_false (by omega)]; rfl
  · rw [List.getD_eq_getElem?_getD, List.getElem?_eq_none (by omega)]; simp
theorem hasR_in (xs : List Nat) (m x : Nat) (h : xs[m / 64]? = some x) : hasR xs (m : Int) = hasB x ((m % 64 : Nat) : Int) := by
  unfold hasR hasB
  rw [Int.toNat_natCast, Int.toNat_natCast, Row.get h, decide_eq_true (by omega), decide_eq_true (by omega)]

/-! ### both together -/
theorem map_range_set {α : Type} (n k : Nat) (f : Nat → α) (v : α) : ((List.range n).map f).set k v = (List.range n).map fun j => if j = k then v else f j := by
  apply List.ext_getElem?; intro j
  rw [List.getElem?_set]
  simp only [List.getElem?_map, List.length_map, List.length_range]
  by_cases hj : j < n
  · rw [List.getElem?_range hj]
    by_cases hk : k = j
    · subst hk; simp [hj]
    · rw [if_neg hk]; simp [Ne.symm hk]
  · rw [List.getElem?_eq_none (by simpa using hj)]
    by_cases hk : k = j
    · subst hk; simp [hj]
    · rw [if_neg hk]; rfl
/-- the longer one a, or'ed with the first k words of b -/
def orK (a b : List Nat) (k : Nat) : List Nat := (List.range a.length).map fun j => if j < k then a.getD j 0 ||| b.getD j 0 else a.getD j 0
theorem orK_zero (a b : List Nat) : orK a b 0 = a := by
  unfold orK; apply List.ext_getElem?; intro j
  simp only [List.getElem?_map]
  by_cases hj : j < a.length
  · rw [List.getElem?_range hj]; simp [List.getD_eq_getElem?_getD, List.getElem?_eq_getElem hj]
  · rw [List.getElem?_eq_none (by simpa using hj), List.getElem?_eq_none (by omega)]; rfl
theorem orK_get (a b : List Nat) (k : Nat) (h : k < a.length) : (orK a b k)[k]? = some (a.getD k 0) := by
  unfold orK; rw [List.getElem?_map, List.getElem?_range h]; simp
theorem orK_set (a b : List Nat) (k : Nat) : (orK a b k).set k (a.getD k 0 ||| b.getD k 0) = orK a b (k + 1) := by
  unfold orK; rw [map_range_set]
  apply List.map_congr_left; intro j _
  by_cases hj : j = k
  · subst hj; simp
  · rw [if_neg hj]
    by_cases h2 : j < k
    · rw [if_pos h2, if_pos (by omega)]
    · rw [if_neg h2, if_neg (by omega)]
theorem orK_all (a b : List Nat) (h : b.length ≤ a.length) : orK a b b.length = orR a b := by
  unfold orK orR
  rw [show max a.length b.length = a.length from by omega]
  apply List.map_congr_left; intro j _
  by_cases hj : j < b.length
  · rw [if_pos hj]
  · rw [if_neg hj, List.getD_eq_getElem?_getD (l := b), List.getElem?_eq_none (by omega)]; simp
theorem orR_comm (a b : List Nat) : orR a b = orR b a := by
  unfold orR; rw [Nat.max_comm]
  apply List.map_congr_left; intro j _; exact Nat.or_comm _ _
theorem orK_lt (a b : List Nat) (k : Nat) (ha : ∀ x ∈ a, x < 18446744073709551616) (hb : ∀ x ∈ b, x < 18446744073709551616) : ∀ x ∈ orK a b k, x < 18446744073709551616 := by
  have hd : ∀ (l : List Nat), (∀ x ∈ l, x < 18446744073709551616) → ∀ j, l.getD j 0 < 18446744073709551616 := fun l hl j => by
    rw [List.getD_eq_getElem?_getD]
    cases hx : l[j]? with
    | none => simp
    | some x => simpa using hl x (List.mem_of_getElem? hx)
  intro x hx
  unfold orK at hx
  obtain ⟨j, _, rfl⟩ := List.mem_map.1 hx
  split
  · exact Nat.or_lt_two_pow (n := 64) (hd a ha j) (hd b hb j)
  · exact hd a ha j

/-! ### a part -/
theorem subR_no (a b : List Nat) (k : Nat) (hk : k < a.length) (h : (a.getD k 0 &&& b.getD k 0 == a.getD k 0) = false) : subR a b = false := by
  unfold subR; rw [List.all_eq_false]; exact ⟨k, List.mem_range.2 hk, by rw [h]; simp⟩
theorem subR_yes (a b : List Nat) (h : ∀ k, k < a.length → (a.getD k 0 &&& b.getD k 0 == a.getD k 0) = true) : subR a b = true := by
  unfold subR; rw [List.all_eq_true]; intro k hk; exact h k (List.mem_range.1 hk)
theorem and_not_zero (x y : Nat) (hx : x < 18446744073709551616) (hy : y < 18446744073709551616) : (x &&& (18446744073709551615 - y) == 0) = (x &&& y == x) := by
  have hb : ∀ j, (18446744073709551615 - y).testBit j = (decide (j < 64) && !y.testBit j) := fun j => by
    rw [show 18446744073709551615 - y = 2 ^ 64 - (y + 1) from by omega]; exact Nat.testBit_two_pow_sub_succ hy j
  have hout : ∀ j, 64 ≤ j → x.testBit j = false := fun j hj => Nat.testBit_lt_two_pow (Nat.lt_of_lt_of_le hx (by rw [show (18446744073709551616 : Nat) = 2 ^ 64 from rfl]; exact Nat.pow_le_pow_right (by omega) hj))
  rw [Bool.eq_iff_iff, beq_iff_eq, beq_iff_eq]
  constructor
  · intro h
    apply Nat.eq_of_testBit_eq; intro j
    have hj : (x &&& (18446744073709551615 - y)).testBit j = false := by rw [h, Nat.zero_testBit]
    rw [Nat.testBit_and, hb] at hj
    rw [Nat.testBit_and]
    by_cases h64 : j < 64
    · rw [decide_eq_true h64, Bool.true_and] at hj
      cases hxj : x.testBit j <;> cases hyj : y.testBit j <;> simp_all
    · rw [hout j (by omega)]; rfl
  · intro h
    apply Nat.eq_of_testBit_eq; intro j
    rw [Nat.testBit_and, hb, Nat.zero_testBit]
    have hj : (x &&& y).testBit j = x.testBit j := by rw [h]
    rw [Nat.testBit_and] at hj
    cases hxj : x.testBit j <;> cases hyj : y.testBit j <;> simp_all
theorem getD_out (b : List Nat) (k : Nat) (h : b.length ≤ k) : b.getD k 0 = 0 := by
  rw [List.getD_eq_getElem?_getD, List.getElem?_eq_none h]; rfl

/-! ### counts, sameness -/
theorem countR_le (xs : List Nat) : countR xs ≤ 64 * xs.length := by
  unfold countR
  induction xs with
  | nil => simp
  | cons x xs ih => simp only [List.map_cons, List.sum_cons, List.length_cons]; have := pop_le x; omega
theorem countR_take (xs : List Nat) (k x : Nat) (h : xs[k]? = some x) : countR (xs.take (k + 1)) = countR (xs.take k) + pop x := by
  have hk : k < xs.length := (List.getElem?_eq_some_iff.1 h).1
  rw [List.take_succ_eq_append_getElem hk]
  have : xs[k] = x := (List.getElem?_eq_some_iff.1 h).2
  unfold countR; simp [this]

/-! ### the list of the bits -/
theorem filter_first (n l : Nat) (p q : Nat → Bool) (hl : l < n) (hp : p l = true) (hlow : ∀ j, j < l → p j = false) (hq : ∀ j, j < n → q j = (p j && decide (j ≠ l))) :
    (List.range n).filter p = l :: (List.range n).filter q := by
  induction n with
  | zero => omega
  | succ n ih =>
    rw [List.range_succ, List.filter_append, List.filter_append]
    by_cases h : l < n
    · rw [ih h (fun j hj => hq j (by omega))]
      have : q n = p n := by rw [hq n (by omega), decide_eq_true (by omega), Bool.and_true]
      simp [List.filter_cons, this]
    · obtain rfl : l = n := by omega
      have h1 : (List.range l).filter p = [] := by
        rw [List.filter_eq_nil_iff]; intro j hj; rw [hlow j (List.mem_range.1 hj)]; simp
      have h2 : (List.range l).filter q = [] := by
        rw [List.filter_eq_nil_iff]; intro j hj
        have hj' := List.mem_range.1 hj
        rw [hq j (by omega), hlow j hj']; simp
      have h3 : q l = false := by rw [hq l (by omega)]; simp
      simp [h1, h2, h3, hp]
def bitsOf (x : Nat) : List Nat := (List.range 64).filter fun j => x.testBit j
theorem bitsOf_zero : bitsOf 0 = [] := by
  unfold bitsOf; rw [List.filter_eq_nil_iff]; intro j _; simp
theorem low0_lt (x : Nat) (hx : x < 18446744073709551616) (h0 : x ≠ 0) : low0 x < 64 := by
  rcases Nat.lt_or_ge (low0 x) 64 with h | h
  · exact h
  · exfalso
    have hn := low0_le x
    refine h0 (Nat.eq_of_testBit_eq fun j => ?_)
    rw [Nat.zero_testBit]
    rcases Nat.lt_or_ge j 64 with h' | h'
    · exact low0_before x j (by omega)
    · exact Nat.testBit_lt_two_pow (Nat.lt_of_lt_of_le hx (by rw [show (18446744073709551616 : Nat) = 2 ^ 64 from rfl]; exact Nat.pow_le_pow_right (by omega) h'))
/-- without the bit i -/
def offN (x i : Nat) : Nat := x &&& (18446744073709551615 - p2 i)
theorem offN_lt (x i : Nat) (hx : x < 18446744073709551616) : offN x i < 18446744073709551616 := Nat.lt_of_le_of_lt Nat.and_le_left hx
theorem offN_bit (x i j : Nat) (hi : i < 64) (hj : j < 64) : (offN x i).testBit j = (x.testBit j && decide (j ≠ i)) := by
  unfold offN
  have hp := p2_lt i hi
  rw [Nat.testBit_and, show 18446744073709551615 - p2 i = 2 ^ 64 - (p2 i + 1) from by omega, Nat.testBit_two_pow_sub_succ (by omega)]
  unfold p2
  rw [Nat.testBit_two_pow, decide_eq_true hj, Bool.true_and]
  congr 1
  by_cases h : i = j
  · subst h; simp
  · simp [h, Ne.symm h]
theorem bitsOf_step (x : Nat) (hx : x < 18446744073709551616) (h0 : x ≠ 0) : bitsOf x = low0 x :: bitsOf (offN x (low0 x)) := by
  have hl := low0_lt x hx h0
  exact filter_first 64 (low0 x) _ _ hl (low0_bit x hl) (low0_before x) (fun j hj => offN_bit x (low0 x) j hl hj)
theorem pop_bits (x : Nat) : pop x = (bitsOf x).length := by
  rw [pop_def]; unfold bitsOf
  have : ∀ k, pcF k x = ((List.range k).filter fun j => x.testBit j).length := by
    intro k
    induction k with
    | zero => rfl
    | succ k ih =>
      rw [pcF_snoc, ih, List.range_succ, List.filter_append, List.length_append]
      cases h : x.testBit k <;> simp [h]
  exact this 64
/-- the list of the first k words' bits -/
def listK (xs : List Nat) (k : Nat) : List Nat := (List.range (64 * k)).filter fun i : Nat => hasR xs (i : Int)
theorem hasR_nat (xs : List Nat) (i : Nat) : hasR xs (i : Int) = (xs.getD (i / 64) 0).testBit (i % 64) := by
  unfold hasR; rw [Int.toNat_natCast, decide_eq_true (by omega), Bool.true_and]
theorem listK_succ (xs : List Nat) (k x : Nat) (h : xs[k]? = some x) : listK xs (k + 1) = listK xs k ++ (bitsOf x).map (64 * k + ·) := by
  unfold listK bitsOf
  rw [show 64 * (k + 1) = 64 * k + 64 from by omega, List.range_add, List.filter_append, List.filter_map]
  congr 2
  apply List.filter_congr
  intro j hj
  have := List.mem_range.1 hj
  show hasR xs ((64 * k + j : Nat) : Int) = _
  rw [hasR_nat, show (64 * k + j) / 64 = k from by omega, show (64 * k + j) % 64 = j from by omega, Row.get h]
theorem listK_all (xs : List Nat) : listK xs xs.length = listN xs := rfl
theorem listK_len (xs : List Nat) (k : Nat) : (listK xs k).length ≤ 64 * k := by
  have := List.length_filter_le (fun i : Nat => hasR xs (i : Int)) (List.range (64 * k))
  rwa [List.length_range] at this
theorem listK_lt (xs : List Nat) (k : Nat) : ∀ i ∈ listK xs k, i < 64 * k := fun i hi => by
  have := List.mem_filter.1 hi
  exact List.mem_range.1 this.1
theorem countR_list (xs : List Nat) : countR xs = (listN xs).length := by
  have : ∀ k, k ≤ xs.length → countR (xs.take k) = (listK xs k).length := by
    intro k hk
    induction k with
    | zero => simp [countR, listK]
    | succ k ih =>
      have hx : xs[k]? = some xs[k] := List.getElem?_eq_getElem (by omega)
      rw [countR_take xs k _ hx, listK_succ xs k _ hx, ih (by omega), List.length_append, List.length_map, pop_bits]
  have h := this xs.length (Nat.le_refl _)
  rwa [List.take_length] at h

/-! ### what the plain answers go through -/
/-- the bits below p that are set -/
def listP (xs : List Nat) (p : Nat) : List Nat := (List.range p).filter fun i : Nat => hasR xs (i : Int)
theorem listP_yes (xs : List Nat) (p : Nat) (h : hasR xs (p : Int) = true) : listP xs (p + 1) = listP xs p ++ [p] := by
  unfold listP; rw [List.range_succ, List.filter_append]; simp [h]
theorem listP_no (xs : List Nat) (p : Nat) (h : hasR xs (p : Int) = false) : listP xs (p + 1) = listP xs p := by
  unfold listP; rw [List.range_succ, List.filter_append]; simp [h]
theorem listP_len (xs : List Nat) (p : Nat) : (listP xs p).length ≤ p := by
  have := List.length_filter_le (fun i : Nat => hasR xs (i : Int)) (List.range p)
  rwa [List.length_range] at this
theorem listN_mem (xs : List Nat) (i : Nat) : i ∈ listN xs ↔ i < 64 * xs.length ∧ hasR xs (i : Int) = true := by
  unfold listN; rw [List.mem_filter, List.mem_range]
theorem listR_len (xs : List Nat) : (listR xs).length = countR xs := by rw [countR_list]; unfold listR; exact List.length_map _
/-- a is a part of b just where each bit of a is one of b -/
theorem subR_iff (a b : List Nat) (ha : ∀ x ∈ a, x < 18446744073709551616) : subR a b = true ↔ ∀ i : Nat, hasR a (i : Int) = true → hasR b (i : Int) = true := by
  have hd : ∀ j, a.getD j 0 < 18446744073709551616 := fun j => by
    rw [List.getD_eq_getElem?_getD]
    cases hx : a[j]? with
    | none => simp
    | some x => simpa using ha x (List.mem_of_getElem? hx)
  have hout : ∀ j r, 64 ≤ r → (a.getD j 0).testBit r = false := fun j r hr => Nat.testBit_lt_two_pow (Nat.lt_of_lt_of_le (hd j) (by rw [show (18446744073709551616 : Nat) = 2 ^ 64 from rfl]; exact Nat.pow_le_pow_right (by omega) hr))
  unfold subR
  rw [List.all_eq_true]
  constructor
  · intro h i hi
    rw [hasR_nat] at hi ⊢
    by_cases hk : i / 64 < a.length
    · have := h (i / 64) (List.mem_range.2 hk)
      rw [beq_iff_eq] at this
      rw [← this, Nat.testBit_and] at hi
      simp only [Bool.and_eq_true] at hi; exact hi.2
    · rw [getD_out a _ (by omega), Nat.zero_testBit] at hi; cases hi
  · intro h k _
    rw [beq_iff_eq]
    apply Nat.eq_of_testBit_eq; intro r
    rw [Nat.testBit_and]
    by_cases hr : r < 64
    · have := h (64 * k + r)
      rw [hasR_nat, hasR_nat, show (64 * k + r) / 64 = k from by omega, show (64 * k + r) % 64 = r from by omega] at this
      cases h1 : (a.getD k 0).testBit r with
      | false => rfl
      | true => rw [this h1]; rfl
    · rw [hout k r (by omega)]; rfl
theorem subR_list (a b : List Nat) (ha : ∀ x ∈ a, x < 18446744073709551616) : subR a b = (listN a).all fun i : Nat => hasR b (i : Int) := by
  rw [Bool.eq_iff_iff, subR_iff a b ha, List.all_eq_true]
  constructor
  · intro h i hi; exact h i ((listN_mem a i).1 hi).2
  · intro h i hi
    refine h i ((listN_mem a i).2 ⟨?_, hi⟩)
    rcases Nat.lt_or_ge i (64 * a.length) with h' | h'
    · exact h'
    · rw [hasR_out a i (.inr (by omega))] at hi; cases hi
/-- without the bit: adding it is or'ing it -/
theorem mod_snoc (x k : Nat) : x % 2 ^ (k + 1) = x % 2 ^ k + 2 ^ k * (x.testBit k).toNat := by
  rw [Nat.pow_succ, Nat.mod_mul, Nat.testBit_eq_decide_div_mod_eq]
  rcases Nat.mod_two_eq_zero_or_one (x / 2 ^ k) with h | h <;> simp [h]
theorem add_or (x r : Nat) (h : x.testBit r = false) : x + p2 r = x ||| p2 r := by
  have hm := mod_snoc x r
  rw [h] at hm
  have hlt := Nat.mod_lt x (Nat.two_pow_pos r)
  have hd := Nat.div_add_mod x (2 ^ (r + 1))
  have hdiv : (2 ^ r + x) / 2 ^ (r + 1) = x / 2 ^ (r + 1) := by
    have hp : 2 ^ (r + 1) = 2 * 2 ^ r := by rw [Nat.pow_succ]; omega
    have e : 2 ^ r + x = 2 ^ (r + 1) * (x / 2 ^ (r + 1)) + (2 ^ r + x % 2 ^ (r + 1)) := by omega
    rw [e, Nat.mul_add_div (Nat.two_pow_pos _), Nat.div_eq_of_lt (a := 2 ^ r + x % 2 ^ (r + 1)) (by simp at hm; omega)]; rfl
  unfold p2
  apply Nat.eq_of_testBit_eq; intro j
  rw [Nat.testBit_or, Nat.testBit_two_pow, Nat.add_comm]
  rcases Nat.lt_trichotomy j r with hj | hj | hj
  · rw [Nat.testBit_two_pow_add_gt hj, decide_eq_false (by omega), Bool.or_false]
  · subst hj; rw [Nat.testBit_two_pow_add_eq, h]; simp
  · obtain ⟨d, rfl⟩ : ∃ d, j = d + (r + 1) := ⟨j - (r + 1), by omega⟩
    rw [← Nat.testBit_div_two_pow, hdiv, Nat.testBit_div_two_pow, decide_eq_false (by omega), Bool.or_false]
theorem or_same (x r : Nat) (h : x.testBit r = true) : x ||| p2 r = x := by
  apply Nat.eq_of_testBit_eq; intro j
  rw [Nat.testBit_or]; unfold p2; rw [Nat.testBit_two_pow]
  by_cases hj : r = j
  · subst hj; rw [h]; rfl
  · simp [hj]
/-- the first k words of both together, nothing behind -/
def orP (N k : Nat) (a b : List Nat) : List Nat := (List.range N).map fun j => if j < k then a.getD j 0 ||| b.getD j 0 else 0
theorem orP_zero (N : Nat) (a b : List Nat) : orP N 0 a b = List.replicate N 0 := by
  unfold orP; apply List.ext_getElem (by simp); intro i _ _; simp
theorem orP_set (N k : Nat) (a b : List Nat) : (orP N k a b).set k (a.getD k 0 ||| b.getD k 0) = orP N (k + 1) a b := by
  unfold orP; rw [map_range_set]
  apply List.map_congr_left; intro j _
  by_cases hj : j = k
  · subst hj; simp
  · rw [if_neg hj]
    by_cases h2 : j < k
    · rw [if_pos h2, if_pos (by omega)]
    · rw [if_neg h2, if_neg (by omega)]
theorem orP_all (N : Nat) (a b : List Nat) (h : N = max a.length b.length) : orP N N a b = orR a b := by
  subst h; unfold orP orR
  apply List.map_congr_left; intro j hj
  rw [if_pos (List.mem_range.1 hj)]

end Go.Proofs.YtbeigdbljepfkaaGreat

namespace Go.Proofs.YtbeigdbljepfkaaGreat
open Go.RowKit
set_option linter.unusedVariables false

theorem info_u64 : (Tryz.prog.info? 105).map (fun i => (i.zero, i.size, i.bytes)) = some (some (.int .u64 0), 1, 8) := by kernel_rfl
theorem info_int : (Tryz.prog.info? 3).map (fun i => (i.zero, i.size, i.bytes)) = some (some (.int .i64 0), 1, 8) := by kernel_rfl
theorem mk_u64 (kl kc : IntKind) (n c : Nat) (hnc : n ≤ c) (hc : c ≤ 35184372088832) (W : World) :
    (Instr.makeSlice 75 (.int kl (n : Int)) (.int kc (c : Int))).run Tryz.prog W = .ok (.slice (some ⟨W.heap.size, 0, none⟩) n c) (W.alloc (.cells (zeros c (.int .u64 0)) 105)) := by
  obtain ⟨i, hi, hz0, hz1, hz2⟩ := info_parts info_u64
  exact run_make_one _ _ i _ Tryz.underlying75 hi hz0 hz1 rfl kl kc n c hnc (by rw [hz2]; omega) (by omega) W
theorem mk_int (kl kc : IntKind) (n c : Nat) (hnc : n ≤ c) (hc : c ≤ 35184372088832) (W : World) :
    (Instr.makeSlice 27 (.int kl (n : Int)) (.int kc (c : Int))).run Tryz.prog W = .ok (.slice (some ⟨W.heap.size, 0, none⟩) n c) (W.alloc (.cells (zeros c (.int .i64 0)) 3)) := by
  obtain ⟨i, hi, hz0, hz1, hz2⟩ := info_parts info_int
  exact run_make_one _ _ i _ Tryz.underlying27 hi hz0 hz1 rfl kl kc n c hnc (by rw [hz2]; omega) (by omega) W

theorem within_eq (n : Nat) (i : Int) (hn : n ≤ 140737488355328) (h1 : -9223372036854775808 ≤ i) (h2 : i < 9223372036854775808) : decide (IntKind.u64.wrap i / 64 < (n : Int)) = inR n i := by
  unfold inR
  rw [IntKind.wrap_u64, Bool.eq_iff_iff]
  simp only [decide_eq_true_eq, Bool.and_eq_true]
  omega
set_option maxHeartbeats 400000 in
theorem row_within (A : Option Addr) (n c : Nat) (i : Int) (hn : n ≤ 140737488355328) (h1 : -9223372036854775808 ≤ i) (h2 : i < 9223372036854775808) (w : World) :
    Calls Tryz.prog 79 #[.slice A n c, .int .i64 i] w fun e w' => e = .returned (.bool (inR n i)) ∧ w = w' := by
  have H := Lib.hid (within_eq n i hn h1 h2)
  go_enter Tryz.func79, Tryz.ntmps79
  go_wp2
  go_ret
  exact ⟨ret_bool H.out, rfl⟩
set_option maxHeartbeats 400000 in
theorem row_Has (A : Option Addr) (n c : Nat) (xs : List Nat) (i : Int) (w : World) (hr : Row w A n xs) (hn : n ≤ 140737488355328) (h1 : -9223372036854775808 ≤ i) (h2 : i < 9223372036854775808) :
    Calls Tryz.prog 57 #[.slice A n c, .int .i64 i] w fun e w' => e = .returned (.bool (hasR xs i)) ∧ w = w' := by
  have hl := hr.len
  by_cases h : 0 ≤ i ∧ i < 64 * (n : Int)
  · obtain ⟨m, rfl⟩ := Int.eq_ofNat_of_zero_le h.1
    have hm : m < 64 * n := by omega
    obtain ⟨b, off, x, rfl, hb, hx, hx64, hc⟩ := hr.at_ (k := m / 64) (by omega)
    have H := Lib.hid (hasR_in xs m x hx)
    have hI := Lib.hid (inR_in n m hm)
    have hA := Lib.hid (i64_and_63 m (by omega))
    clear h hx hr hl
    go_enter Tryz.func57, Tryz.ntmps57
    go_wp2_with fail
    refine (row_within _ n _ m (by omega) (by omega) (by omega) _).mono ?_; rintro e w' ⟨rfl, rfl⟩
    rw [hI.out]
    go_wp2_with fail
    rw [hA.out]
    refine (word_Has x hx64 _ (by omega) (by omega) _).mono ?_; rintro e w' ⟨rfl, rfl⟩
    go_wp2
    go_ret
    rw [H.out]; exact ⟨rfl, rfl⟩
  · have H := Lib.hid (hasR_out xs i (by omega))
    have hI := Lib.hid (inR_out n i (by omega))
    clear h hl hr
    go_enter Tryz.func57, Tryz.ntmps57
    go_wp2_with fail
    refine (row_within _ n _ i (by omega) (by omega) (by omega) _).mono ?_; rintro e w' ⟨rfl, rfl⟩
    rw [hI.out]
    go_wp2
    go_ret
    rw [H.out]; exact ⟨rfl, rfl⟩

theorem wordsZ_nat (n : Int) (h0 : 0 ≤ n) : wordsZ n = (n + 63) / 64 := if_neg (by omega)
set_option maxHeartbeats 400000 in
theorem row_Words (n : Int) (h1 : -9223372036854775808 ≤ n) (h2 : n < 9223372036854775808) (w : World) :
    Calls Tryz.prog 82 #[.int .i64 n] w fun e w' => e = .returned (.int .i64 (wordsZ n)) ∧ w = w' := by
  by_cases h : n < 0
  · have H := Lib.hid (show wordsZ n = 0 from if_pos h)
    go_enter Tryz.func82, Tryz.ntmps82
    go_wp2
    go_ret
    rw [H.out]; exact ⟨rfl, rfl⟩
  · have H := Lib.hid (wordsZ_nat n (by omega))
    go_enter Tryz.func82, Tryz.ntmps82
    go_wp2
    go_ret
    rw [H.out]; exact ⟨rfl, rfl⟩

/-- how many words, as a number without a sign -/
def wordsN (n : Int) : Nat := (wordsZ n).toNat
theorem wordsZ_N (n : Int) : wordsZ n = (wordsN n : Nat) := by unfold wordsN wordsZ; split <;> omega
theorem wordsN_le (n : Int) (h : n ≤ 1099511627776) : wordsN n ≤ 17179869184 := by unfold wordsN wordsZ; split <;> omega
set_option maxHeartbeats 400000 in
theorem row_NewO (n : Int) (h1 : -9223372036854775808 ≤ n) (h2 : n ≤ 1099511627776) (w : World) :
    Calls Tryz.prog 80 #[.int .i64 n] w (RetRowO 105 (List.replicate (wordsN n) 0) w) := by
  have hw := Lib.hid (wordsZ_N n)
  have hle := wordsN_le n h2
  have hmk := mk_u64 .i64 .i64 (wordsN n) (wordsN n) (Nat.le_refl _) (by omega)
  go_enter Tryz.func80, Tryz.ntmps80
  go_wp2_with fail
  refine (row_Words _ (by omega) (by omega) _).mono ?_; rintro e w' ⟨rfl, rfl⟩
  rw [hw.out]
  go_wp2
  go_ret
  refine own_ret (by simpa [u64v] using own_zeros w (wordsN n) (.int .u64 0) 105 (by unfold maxLen; omega)) (by simp) ((Below.refl _ _).alloc (Nat.le_refl _) _)

end Go.Proofs.YtbeigdbljepfkaaGreat

namespace Go.Proofs.YtbeigdbljepfkaaGreat
open Go.RowKit
set_option linter.unusedVariables false

theorem replicate_zero_u64 (n : Nat) : List.replicate n (Value.int .u64 0) = (List.replicate n (0 : Nat)).map u64v := by simp [u64v]
theorem splice_all (cur cs : List Value) (h : cs.length = cur.length) : splice cur 0 cs = cs := by
  unfold splice; simp [h]
theorem own_of_heap {w : World} {base g n : Nat} {t : TypeId} {cs : List Value} (hb : base ≤ g) (hn : cs.length = n) (hm : n ≤ maxLen) (h : w.heap[g]? = some (.cells cs.toArray t (0, 0))) :
    w.ownsRow base t 1 (.slice (some ⟨g, 0, none⟩) n n) n cs :=
  ⟨by simpa using hn, .inr ⟨g, n, cs.toArray, rfl, hb, h, Nat.le_refl _, hm, by simpa using hn, by rw [List.take_of_length_le (by simp; omega)]⟩⟩

/-- what a call that answers a new row of its own ends in -/
def RetOwn (n : Nat) (xs : List Nat) (w : World) (e : Ending) (w' : World) : Prop :=
  ∃ g, e = .returned (.slice (some ⟨g, 0, none⟩) n n) ∧ w'.ownsRow w.heap.size 105 1 (.slice (some ⟨g, 0, none⟩) n n) n (xs.map u64v) ∧ Below w.heap.size w w'

set_option maxHeartbeats 400000 in
theorem row_clone (A : Option Addr) (n c : Nat) (xs : List Nat) (w : World) (hr : Row w A n xs) (hn : n ≤ 17592186044416) :
    Calls Tryz.prog 78 #[.slice A n c] w (RetOwn n xs w) := by
  have hl := Lib.hid hr.len
  have hmk := mk_u64 .i64 .i64 n n (Nat.le_refl _) (by omega)
  obtain ⟨i0, hi, hz0, hz1, hz2⟩ := info_parts info_u64
  have hsz : (Tryz.prog.info? 105).map (·.size) = some 1 := by rw [hi]; simp [hz1]
  replace hsz := Lib.hid hsz
  replace hi := Lib.hid hi
  replace hz0 := Lib.hid hz0
  replace hz1 := Lib.hid hz1
  replace hz2 := Lib.hid hz2
  have hsrc : 0 < (xs.map u64v).length → some (⟨w.heap.size, 0, none⟩ : Addr) = some ⟨w.heap.size, 0, none⟩ ∧ ∃ ad, A = some ad ∧ ∀ j v, (xs.map u64v)[j]? = some v → (w.alloc (.cells (zeros n (.int .u64 0)) 105)).cell? (ad.add j) = some v := by
    intro hp
    obtain ⟨b, off, e, hb, hc⟩ := hr.1.2 (by have := hr.len; simp at hp; omega)
    refine ⟨rfl, _, e, fun j v hv => ?_⟩
    have h := hc j v hv
    have he : (⟨b, off, none⟩ : Addr).add j = ⟨b, off + j, none⟩ := by unfold Addr.add; split <;> simp_all
    rw [he, World.cell?_alloc_lt w _ _ hb]; exact h
  replace hsrc := Lib.hid hsrc
  clear hr
  go_enter Tryz.func78, Tryz.ntmps78
  go_wp2_with (with_reducible refine wpList_copy_splice rfl _ _ _ _ rfl 105 Tryz.underlying75 hsz.out (some ⟨w.heap.size, 0, none⟩) A n n n c rfl rfl w.heap.size 0 (List.replicate n (.int .u64 0)) 105 (heap_alloc_new _ _) (xs.map u64v) (by simp [hl.out]) hsrc.out (by simp [hl.out]) (by simp [u64v, Value.oneCell']) w.heap.size w ((Below.refl _ _).alloc (Nat.le_refl _) _) (Nat.le_refl _) ?_; intro w1 hg1 hb1)
  go_ret
  refine ⟨_, rfl, own_of_heap (Nat.le_refl _) (by simp [hl.out]) (by unfold maxLen; omega) ?_, hb1⟩
  rw [hg1.out, splice_all _ _ (by simp [hl.out])]

theorem word_BitN (r : Nat) (hr : r < 64) (w : World) : Calls Tryz.prog 77 #[.int .i64 (r : Int)] w fun e w' => e = .returned (.int .u64 (p2 r : Nat)) ∧ w = w' := by
  have h := word_Bit (r : Int) (by omega) (by omega) w
  rwa [bitZ_p2 (r : Int) (by omega) (by omega), Int.toNat_natCast] at h
theorem setR_in {xs : List Nat} {m x : Nat} (hm : m < 64 * xs.length) (hx : xs[m / 64]? = some x) : setR xs (m : Int) = xs.set (m / 64) (x ||| p2 (m % 64)) := by
  unfold setR p2
  rw [Int.toNat_natCast, if_pos (inR_in _ _ hm), Row.get hx]
theorem setR_out {xs : List Nat} {i : Int} (h : i < 0 ∨ 64 * (xs.length : Int) ≤ i) : setR xs i = xs := by
  unfold setR; rw [inR_out _ _ h]; rfl
theorem or_p2_lt {x r : Nat} (hx : x < 18446744073709551616) (hr : r < 64) : x ||| p2 r < 18446744073709551616 := by
  have := p2_lt r hr
  exact Nat.or_lt_two_pow (n := 64) hx (by omega)
theorem mem_set_lt {xs : List Nat} {k y B : Nat} (h : ∀ x ∈ xs, x < B) (hy : y < B) : ∀ x ∈ xs.set k y, x < B := fun x hx => by
  rcases List.mem_or_eq_of_mem_set hx with h1 | h1
  · exact h x h1
  · rw [h1]; exact hy

set_option maxHeartbeats 400000 in
theorem row_SetO (A : Option Addr) (n c : Nat) (xs : List Nat) (i : Int) (w : World) (hr : Row w A n xs) (hn : n ≤ 17592186044416) (h1 : -9223372036854775808 ≤ i) (h2 : i < 9223372036854775808) :
    Calls Tryz.prog 54 #[.slice A n c, .int .i64 i] w (RetRowO 105 (setR xs i) w) := by
  have hcl := Lib.hid (row_clone A n c xs w hr hn)
  have hlt := Lib.hid hr.2
  have hl := hr.len
  by_cases h : 0 ≤ i ∧ i < 64 * (n : Int)
  · obtain ⟨m, rfl⟩ := Int.eq_ofNat_of_zero_le h.1
    have hm : m < 64 * n := by omega
    have hI := Lib.hid (inR_in n m hm)
    obtain ⟨x, hx⟩ : ∃ x, xs[m / 64]? = some x := ⟨_, List.getElem?_eq_getElem (by omega)⟩
    have hx64 : x < 18446744073709551616 := hlt.out x (List.mem_of_getElem? hx)
    have hS := setR_in (m := m) (by omega) hx
    obtain ⟨r, hre⟩ : ∃ r, r = m % 64 := ⟨_, rfl⟩
    have hr64 : r < 64 := by omega
    have hA := i64_and_63 m (by omega)
    rw [← hre] at hS hA
    have hE := u64_or_nat x (p2 r) hx64 (by have := p2_lt r hr64; omega)
    have hO := or_p2_lt hx64 hr64
    replace hO := Lib.hid hO
    replace hE := Lib.hid hE
    replace hS := Lib.hid hS
    replace hA := Lib.hid hA
    replace hx := Lib.hid hx
    have hl' := Lib.hid hl
    clear h hl hr hre
    go_enter Tryz.func54, Tryz.ntmps54
    go_wp2_with fail
    refine hcl.out.mono ?_; rintro e w1 ⟨g, rfl, hown, hb⟩
    have hc : w1.cell? ⟨g, m / 64, none⟩ = some (.int .u64 (x : Int)) := by
      rw [hown.cellAt _ (by omega), List.getElem?_map, hx.out]; rfl
    have hf := hown.frozenAt (m / 64)
    have hg := (hown.lt g rfl).1
    go_wp2_with fail
    refine (row_within _ n _ m (by omega) (by omega) (by omega) _).mono ?_; rintro e w' ⟨rfl, rfl⟩
    rw [hI.out]
    go_wp2_with fail
    have hA1 : (0 : Int) ≤ (m : Int) / 64 := by omega
    have hA2 : (m : Int) / 64 < (n : Int) := by omega
    have hA3 : ((m : Int) / 64).toNat = m / 64 := by omega
    refine still_tail 10 (by kernel_rfl) (by kernel_rfl) (fun W hW => ?_)
    have hc' : W.cell? ⟨g, m / 64, none⟩ = some (.int .u64 (x : Int)) := by rw [hW.out]; exact hc
    have hf' : W.frozen? ⟨g, m / 64, none⟩ = false := by rw [hW.out]; exact hf
    have hown' : W.ownsRow w.heap.size 105 1 (.slice (some ⟨g, 0, none⟩) n n) n (xs.map u64v) := by rw [hW.out]; exact hown.drew
    have hb' : Below w.heap.size w W := by rw [hW.out]; exact hb.drew
    clear hc hf hb hown
    simp only [List.take_succ_cons, List.take_zero, List.drop_succ_cons, List.drop_zero]
    repeat
      refine @wpStill_step _ _ _ _ _ _ _ ?_
      intro K hK
      go_simp
      refine hK _ ?_
      clear hK K
    refine @wpStill_step _ _ _ _ _ _ _ ?_
    intro K hK
    go_simp
    rw [hA.out]
    refine ⟨_, still_call (word_BitN _ hr64 _), hK _ ?_⟩
    clear hK K
    repeat
      refine @wpStill_step _ _ _ _ _ _ _ ?_
      intro K hK
      go_simp
      refine hK _ ?_
      clear hK K
    refine wpStill_nil ?_
    go_wp2
    go_ret
    rw [hE.out, hS.out]
    refine own_ret (c := n) ?_ (mem_set_lt hlt.out hO.out) (hb'.setCell hg _)
    rw [List.map_set]
    exact (hown'.stored _ _).1
  · have hI := Lib.hid (inR_out n i (by omega))
    have hS := Lib.hid (setR_out (xs := xs) (i := i) (by omega))
    clear h hl hr
    go_enter Tryz.func54, Tryz.ntmps54
    go_wp2_with fail
    refine hcl.out.mono ?_; rintro e w1 ⟨g, rfl, hown, hb⟩
    go_wp2_with fail
    refine (row_within _ n _ i (by omega) (by omega) (by omega) _).mono ?_; rintro e w' ⟨rfl, rfl⟩
    rw [hI.out]
    go_wp2
    go_ret
    rw [hS.out]
    exact own_ret hown hlt.out (hb)
theorem row_Set (A : Option Addr) (n c : Nat) (xs : List Nat) (i : Int) (w : World) (hr : Row w A n xs) (hn : n ≤ 17592186044416) (h1 : -9223372036854775808 ≤ i) (h2 : i < 9223372036854775808) :
    Calls Tryz.prog 54 #[.slice A n c, .int .i64 i] w (RetRow (setR xs i) w) := (row_SetO A n c xs i w hr hn h1 h2).mono fun _ _ h => h.row

end Go.Proofs.YtbeigdbljepfkaaGreat

namespace Go.Proofs.YtbeigdbljepfkaaGreat
open Go.RowKit
set_option linter.unusedVariables false

theorem orv (x y : Nat) (hx : x < 18446744073709551616) (hy : y < 18446744073709551616) : bits BinOp.or IntKind.u64 (x : Int) (y : Int) = ((x ||| y : Nat) : Int) := u64_or_nat x y hx hy

set_option maxHeartbeats 400000 in
theorem row_Or_ge (A B : Option Addr) (n m c d : Nat) (xs ys : List Nat) (w : World) (hr : Row w A n xs) (hs : Row w B m ys) (hn : n ≤ 17592186044416) (h : m ≤ n) :
    Calls Tryz.prog 94 #[.slice A n c, .slice B m d] w (RetRowO 105 (orR xs ys) w) := by
  have hcl := Lib.hid (row_clone A n c xs w hr hn)
  have hl := Lib.hid hr.len
  have hl2 := Lib.hid hs.len
  have hlt := Lib.hid (orK_lt xs ys m hr.2 hs.2)
  have hd := Lib.hid (Row.getD_lt hr)
  have hall := orK_all xs ys (by rw [hl.out, hl2.out]; exact h)
  rw [hl2.out] at hall
  replace hall := Lib.hid hall
  have h0 : ¬ n < m := by omega
  replace hs := Lib.hid hs
  clear hr
  go_enter Tryz.func94, Tryz.ntmps94
  go_wp2_with fail
  refine hcl.out.mono ?_; rintro e w1 ⟨g, rfl, hown, hb⟩
  have hg := (hown.lt g rfl).1
  go_wp2_with fail
  go_loopw [19] (fun i wr => ∃ k : Nat, k ≤ m ∧ i = .int .i64 k ∧ wr.ownsRow w.heap.size 105 1 (.slice (some ⟨g, 0, none⟩) n n) n ((orK xs ys k).map u64v) ∧ Below w.heap.size w wr) (fun i _ => m - (intOf i).toNat)
  case atStart => exact ⟨0, Nat.zero_le _, rfl, by rw [orK_zero]; exact hown, hb⟩
  case round =>
    obtain ⟨k, hk, rfl, hownr, hbr⟩ := hrel
    clear hown hb
    by_cases hlt' : k < m
    · have hs' := hs.out.below hbr
      obtain ⟨b, off, y, rfl, hbk, hy, hy64, hc⟩ := hs'.at_ hlt'
      have hgx := orK_get xs ys k (by rw [hl.out]; omega)
      have hx64 := hd.out k
      obtain ⟨x, hx⟩ : ∃ x, x = xs.getD k 0 := ⟨_, rfl⟩
      rw [← hx] at hgx hx64
      have hcg : wr.cell? ⟨g, k, none⟩ = some (.int .u64 (x : Int)) := by
        rw [hownr.cellAt _ (by omega), List.getElem?_map, hgx]; rfl
      have hf := hownr.frozenAt k
      have hE := Lib.hid (orv x y hx64 hy64)
      have hst := orK_set xs ys k
      rw [← hx, Row.get hy] at hst
      have hst := Lib.hid hst
      clear hgx hy hs'
      replace hx := Lib.hid hx
      go_wp2
      go_roundw
      case rel =>
        refine ⟨k + 1, by omega, by go_num, ?_, hbr.setCell hg _⟩
        rw [hE.out, ← hst.out, List.map_set]
        exact (hownr.stored _ _).1
      case measure => simp [intOf]; omega
    · obtain rfl : k = m := by omega
      clear hlt'
      go_wp2
      go_ret
      rw [← hall.out]
      exact own_ret hownr hlt.out (hbr)
set_option maxHeartbeats 400000 in
theorem row_Or_lt (A B : Option Addr) (n m c d : Nat) (xs ys : List Nat) (w : World) (hr : Row w A n xs) (hs : Row w B m ys) (hn : n ≤ 17592186044416) (h : m < n) :
    Calls Tryz.prog 94 #[.slice B m d, .slice A n c] w (RetRowO 105 (orR xs ys) w) := by
  have hcl := Lib.hid (row_clone A n c xs w hr hn)
  have hl := Lib.hid hr.len
  have hl2 := Lib.hid hs.len
  have hlt := Lib.hid (orK_lt xs ys m hr.2 hs.2)
  have hd := Lib.hid (Row.getD_lt hr)
  have hall := orK_all xs ys (by rw [hl.out, hl2.out]; omega)
  rw [hl2.out] at hall
  replace hall := Lib.hid hall
  replace hs := Lib.hid hs
  clear hr
  go_enter Tryz.func94, Tryz.ntmps94
  go_wp2_with fail
  refine hcl.out.mono ?_; rintro e w1 ⟨g, rfl, hown, hb⟩
  have hg := (hown.lt g rfl).1
  go_wp2_with fail
  go_loopw [19] (fun i wr => ∃ k : Nat, k ≤ m ∧ i = .int .i64 k ∧ wr.ownsRow w.heap.size 105 1 (.slice (some ⟨g, 0, none⟩) n n) n ((orK xs ys k).map u64v) ∧ Below w.heap.size w wr) (fun i _ => m - (intOf i).toNat)
  case atStart => exact ⟨0, Nat.zero_le _, rfl, by rw [orK_zero]; exact hown, hb⟩
  case round =>
    obtain ⟨k, hk, rfl, hownr, hbr⟩ := hrel
    clear hown hb
    by_cases hlt' : k < m
    · have hs' := hs.out.below hbr
      obtain ⟨b, off, y, rfl, hbk, hy, hy64, hc⟩ := hs'.at_ hlt'
      have hgx := orK_get xs ys k (by rw [hl.out]; omega)
      have hx64 := hd.out k
      obtain ⟨x, hx⟩ : ∃ x, x = xs.getD k 0 := ⟨_, rfl⟩
      rw [← hx] at hgx hx64
      have hcg : wr.cell? ⟨g, k, none⟩ = some (.int .u64 (x : Int)) := by
        rw [hownr.cellAt _ (by omega), List.getElem?_map, hgx]; rfl
      have hf := hownr.frozenAt k
      have hE := Lib.hid (orv x y hx64 hy64)
      have hst := orK_set xs ys k
      rw [← hx, Row.get hy] at hst
      have hst := Lib.hid hst
      clear hgx hy hs'
      replace hx := Lib.hid hx
      go_wp2
      go_roundw
      case rel =>
        refine ⟨k + 1, by omega, by go_num, ?_, hbr.setCell hg _⟩
        rw [hE.out, ← hst.out, List.map_set]
        exact (hownr.stored _ _).1
      case measure => simp [intOf]; omega
    · obtain rfl : k = m := by omega
      clear hlt'
      go_wp2
      go_ret
      rw [← hall.out]
      exact own_ret hownr hlt.out (hbr)
theorem row_OrO (A B : Option Addr) (n m c d : Nat) (xs ys : List Nat) (w : World) (hr : Row w A n xs) (hs : Row w B m ys) (hn : n ≤ 17592186044416) (hm : m ≤ 17592186044416) :
    Calls Tryz.prog 94 #[.slice A n c, .slice B m d] w (RetRowO 105 (orR xs ys) w) := by
  rcases Nat.lt_or_ge n m with h | h
  · rw [orR_comm]; exact row_Or_lt B A m n d c ys xs w hs hr hm h
  · exact row_Or_ge A B n m c d xs ys w hr hs hn h

theorem andNot_eq (x y : Nat) (hx : x < 18446744073709551616) (hy : y < 18446744073709551616) : bits BinOp.andNot IntKind.u64 (x : Int) (y : Int) = ((x &&& (18446744073709551615 - y) : Nat) : Int) := u64_andNot_nat x y hx hy
theorem andNot_test (x y : Nat) (hx : x < 18446744073709551616) (hy : y < 18446744073709551616) : (bits BinOp.andNot IntKind.u64 (x : Int) (y : Int) != 0) = !(x &&& y == x) := by
  rw [andNot_eq x y hx hy, ← and_not_zero x y hx hy, bne]
  congr 1
  rw [Bool.eq_iff_iff, beq_iff_eq, beq_iff_eq]; omega
set_option maxHeartbeats 400000 in
theorem row_Sub (A B : Option Addr) (n m c d : Nat) (xs ys : List Nat) (w : World) (hr : Row w A n xs) (hs : Row w B m ys) (hn : n ≤ 17592186044416) (_hm : m ≤ 17592186044416) :
    Calls Tryz.prog 93 #[.slice A n c, .slice B m d] w fun e w' => e = .returned (.bool (subR xs ys)) ∧ w = w' := by
  have hl := Lib.hid hr.len
  have hl2 := Lib.hid hs.len
  replace hr := Lib.hid hr
  replace hs := Lib.hid hs
  go_enter Tryz.func93, Tryz.ntmps93
  go_wp2
  go_loop [9] (fun i => ∃ k : Nat, k ≤ n ∧ i = .int .i64 k ∧ Hid (∀ j, j < k → (xs.getD j 0 &&& ys.getD j 0 == xs.getD j 0) = true)) (fun i => n - (intOf i).toNat)
  case atStart => exact ⟨0, Nat.zero_le _, rfl, Lib.hid (fun j hj => absurd hj (by omega))⟩
  case round =>
    obtain ⟨k, hk, rfl, hall⟩ := hrel
    by_cases hlt : k < n
    · obtain ⟨b, off, x, rfl, hbk, hx, hx64, hc⟩ := hr.out.at_ hlt
      have hgx := Row.get hx
      clear hx
      by_cases hkm : k < m
      · obtain ⟨b2, off2, y, rfl, hbk2, hy, hy64, hc2⟩ := hs.out.at_ hkm
        have hgy := Row.get hy
        clear hy
        have hT := andNot_test x y hx64 hy64
        rcases Bool.eq_false_or_eq_true (x &&& y == x) with ht | ht
        · have hall' : Hid (∀ j, j < k + 1 → (xs.getD j 0 &&& ys.getD j 0 == xs.getD j 0) = true) := Lib.hid (fun j hj => by
            rcases Nat.lt_succ_iff_lt_or_eq.1 hj with h | h
            · exact hall.out j h
            · rw [h, hgx, hgy]; exact ht)
          rw [ht] at hT
          replace hT : (bits BinOp.andNot IntKind.u64 (x : Int) (y : Int) != 0) = false := hT
          clear ht hgx hgy
          go_wp2
          go_round
          case rel => exact ⟨k + 1, by omega, by go_num, hall'⟩
          case measure => simp [intOf]; omega
        · have hno := Lib.hid (subR_no xs ys k (by rw [hl.out]; exact hlt) (by rw [hgx, hgy]; exact ht))
          rw [ht] at hT
          replace hT : (bits BinOp.andNot IntKind.u64 (x : Int) (y : Int) != 0) = true := hT
          clear ht hgx hgy
          go_wp2
          go_ret
          rw [hno.out]; exact ⟨rfl, rfl⟩
      · have hgy := getD_out ys k (by rw [hl2.out]; omega)
        by_cases hx0 : x = 0
        · subst hx0
          have hall' : Hid (∀ j, j < k + 1 → (xs.getD j 0 &&& ys.getD j 0 == xs.getD j 0) = true) := Lib.hid (fun j hj => by
            rcases Nat.lt_succ_iff_lt_or_eq.1 hj with h | h
            · exact hall.out j h
            · rw [h, hgx, hgy]; rfl)
          clear hgx hgy
          go_wp2
          go_round
          case rel => exact ⟨k + 1, by omega, by go_num, hall'⟩
          case measure => simp [intOf]; omega
        · have hno := Lib.hid (subR_no xs ys k (by rw [hl.out]; exact hlt) (by rw [hgx, hgy, Nat.and_zero, beq_eq_false_iff_ne]; omega))
          have hne : ((x : Int) != 0) = true := by rw [bne_iff_ne]; omega
          clear hgx hgy
          go_wp2
          go_ret
          rw [hno.out]; exact ⟨rfl, rfl⟩
    · have hyes := Lib.hid (subR_yes xs ys (fun j hj => hall.out j (by rw [hl.out] at hj; omega)))
      go_wp2
      go_ret
      rw [hyes.out]; exact ⟨rfl, rfl⟩

set_option maxHeartbeats 400000 in
theorem row_Count (A : Option Addr) (n c : Nat) (xs : List Nat) (w : World) (hr : Row w A n xs) (hn : n ≤ 17592186044416) :
    Calls Tryz.prog 75 #[.slice A n c] w fun e w' => e = .returned (.int .i64 (countR xs : Nat)) ∧ w = w' := by
  have hl := Lib.hid hr.len
  replace hr := Lib.hid hr
  go_enter Tryz.func75, Tryz.ntmps75
  go_wp2
  go_loop [3, 8] (fun s i => ∃ k : Nat, k ≤ n ∧ i = .int .i64 k ∧ s = .int .i64 (countR (xs.take k) : Nat)) (fun _ i => n - (intOf i).toNat)
  case atStart => exact ⟨0, Nat.zero_le _, rfl, rfl⟩
  case round =>
    obtain ⟨k, hk, rfl, rfl⟩ := hrel
    by_cases hlt : k < n
    · obtain ⟨b, off, x, rfl, hbk, hx, hx64, hc⟩ := hr.out.at_ hlt
      have hst := Lib.hid (countR_take xs k x hx)
      have hle : countR (xs.take k) ≤ 64 * k := Nat.le_trans (countR_le _) (by rw [List.length_take]; omega)
      have hp := pop_le x
      clear hx
      go_wp2_with fail
      refine (word_Count x hx64 _).mono ?_; rintro e w' ⟨rfl, rfl⟩
      go_wp2
      go_round
      case rel => exact ⟨k + 1, by omega, by go_num, by rw [hst.out]; go_num⟩
      case measure => simp [intOf]; omega
    · have he : xs.take k = xs := List.take_of_length_le (by rw [hl.out]; omega)
      rw [he]
      clear he
      go_wp2
      go_ret
      exact ⟨rfl, rfl⟩

end Go.Proofs.YtbeigdbljepfkaaGreat

namespace Go.Proofs.YtbeigdbljepfkaaGreat
open Go.RowKit
set_option linter.unusedVariables false

/-- the numbers without a sign, as cells -/
def natv (i : Nat) : Value := .int .i64 (i : Int)
theorem natv_ints (l : List Nat) : l.map natv = (l.map Int.ofNat).map i64v := by
  rw [List.map_map]; rfl
theorem own_ints {w : World} {base n : Nat} {e : TypeId} {v : Value} {zs : List Nat} (h : w.ownsRow base e 1 v n (zs.map natv)) (hx : ∀ x ∈ zs, x < 9223372036854775808) : ∃ A c, v = .slice A n c ∧ Ints w A n (zs.map Int.ofNat) := by
  obtain ⟨A, c, hv, hr⟩ := Rd.of_own h
  refine ⟨A, c, hv, by rw [← natv_ints]; exact hr, fun x hx' => ?_⟩
  obtain ⟨i, hi, rfl⟩ := List.mem_map.1 hx'
  have := hx i hi
  show -9223372036854775808 ≤ (i : Int) ∧ (i : Int) < 9223372036854775808
  omega
theorem off_eq (x i : Nat) (hx : x < 18446744073709551616) (hi : i < 64) : bits BinOp.andNot IntKind.u64 (x : Int) (p2 i : Nat) = (offN x i : Nat) := by
  have := p2_lt i hi
  exact u64_andNot_nat x (p2 i) hx (by omega)

set_option maxHeartbeats 1000000 in
theorem row_ListO (A : Option Addr) (n c : Nat) (xs : List Nat) (w : World) (hr : Row w A n xs) (hn : n ≤ 1073741824) :
    Calls Tryz.prog 53 #[.slice A n c] w (RetIntsO 3 (listR xs) w) := by
  have hcn := Lib.hid (row_Count A n c xs w hr (by omega))
  have hl := Lib.hid hr.len
  have hcle : countR xs ≤ 64 * n := by have := countR_le xs; rw [hr.len] at this; exact this
  have hmk := mk_int .i64 .i64 0 (countR xs) (by omega) (by omega)
  rw [show ((0 : Nat) : Int) = 0 from rfl] at hmk
  obtain ⟨i0, hi, hz0, hz1, hz2⟩ := info_parts info_int
  replace hi := Lib.hid hi
  replace hz0 := Lib.hid hz0
  replace hz1 := Lib.hid hz1
  replace hz2 := Lib.hid hz2
  replace hr := Lib.hid hr
  go_enter Tryz.func53, Tryz.ntmps53
  go_wp2_with fail
  refine hcn.out.mono ?_; rintro e w' ⟨rfl, rfl⟩
  have hown0 := World.ownsRow_made (base := w.heap.size) (e := 3) (size := 1) w (zeros (countR xs) (.int .i64 0)) (countR xs) (Nat.le_refl _) (by unfold maxLen; omega) (by simp [zeros])
  have hb0 : Below w.heap.size w (w.alloc (.cells (zeros (countR xs) (.int .i64 0)) 3)) := (Below.refl _ _).alloc (Nat.le_refl _) _
  go_wp2
  go_loopw [3, 12] (fun l i wr => ∃ k : Nat, k ≤ n ∧ i = .int .i64 k ∧ wr.ownsRow w.heap.size 3 1 l (listK xs k).length ((listK xs k).map natv) ∧ Below w.heap.size w wr) (fun _ i _ => n - (intOf i).toNat)
  case atStart => exact ⟨0, Nat.zero_le _, rfl, hown0, hb0⟩
  case round =>
    obtain ⟨k, hk, rfl, hown, hb⟩ := hrel
    clear hown0 hb0 hmk
    by_cases hlt : k < n
    · obtain ⟨b, off, x, rfl, hbk, hx, hx64, hc⟩ := (hr.out.below hb).at_ hlt
      have hst := Lib.hid (listK_succ xs k x hx)
      clear hx
      go_wp2
      go_loopw [3, 5] (fun l v wi => ∃ (D : List Nat) (r : Nat), r < 18446744073709551616 ∧ v = .int .u64 r ∧ Hid (D ++ (bitsOf r).map (64 * k + ·) = listK xs (k + 1)) ∧ wi.ownsRow w.heap.size 3 1 l D.length (D.map natv) ∧ Below w.heap.size w wi) (fun _ v _ => (bitsOf (intOf v).toNat).length)
      case atStart => exact ⟨_, x, hx64, rfl, Lib.hid hst.out.symm, hown, hb⟩
      case round =>
        obtain ⟨D, r, hr64, rfl, hD, hownD, hbD⟩ := hrel
        clear hown hb hc
        by_cases h0 : r = 0
        · subst h0
          have hD' := hD.out
          rw [bitsOf_zero, List.map_nil, List.append_nil] at hD'
          rw [hD'] at hownD
          clear hD hD' hst
          go_wp2
          go_roundw
          case rel => exact ⟨k + 1, by omega, by go_num, hownD, hbD⟩
          case measure => simp [intOf]; omega
        · have hbs := bitsOf_step r hr64 h0
          have hl64 := low0_lt r hr64 h0
          obtain ⟨i, hie⟩ : ∃ i, i = low0 r := ⟨_, rfl⟩
          have hne : ((r : Int) != 0) = true := by rw [bne_iff_ne]; omega
          have hoff := off_eq r i hr64 (by omega)
          have hof64 := offN_lt r i hr64
          have hfirst := word_First r hr64
          rw [← hie] at hbs hl64 hfirst
          have hDl : D.length ≤ 64 * (k + 1) := by
            have := listK_len xs (k + 1)
            rw [← hD.out, List.length_append] at this; omega
          have hD2 : Hid ((D ++ [64 * k + i]) ++ (bitsOf (offN r i)).map (64 * k + ·) = listK xs (k + 1)) := Lib.hid (by
            rw [← hD.out, hbs]; simp)
          have hlen : (bitsOf r).length = (bitsOf (offN r i)).length + 1 := by rw [hbs]; rfl
          replace hlen := Lib.hid hlen
          replace hoff := Lib.hid hoff
          replace hfirst := Lib.hid hfirst
          clear hbs hie hD hst h0
          go_wp2_with fail
          refine (hfirst.out _).mono ?_; rintro e w' ⟨rfl, rfl⟩
          go_wp2_with (first
            | (at_builtin; refine wpList_append_lies _ rfl (.tmp 21) (.tmp 26) _ rfl w.heap.size 3 i0 _ 1 8 Tryz.underlying27 hi.out hz0.out hz1.out hz2.out rfl (by omega) _ _ _ (by rfl) (hownD.alloc _) ⟨wr.heap.size, 0, none⟩ 1 1 [.int .i64 ((k : Int) * 64 + i)] rfl rfl (cell_one_new _ _ _) (by simp [Value.oneCell']) (by omega) (by unfold maxLen; omega) (by omega) (by have := hbD.size; simp; omega) _ rfl ?_; intro g cap w1 hown1 hgrow hat hlt1; have hb1 := (hbD.alloc hbD.size _).grown hgrow (by have := hbD.size; simp; omega) (own_lt_block hownD); clear hgrow hat hlt1)
            | (go_at_call 77; refine (word_BitN i hl64 _).mono ?_; rintro e w' ⟨rfl, rfl⟩))
          go_roundw
          case rel =>
            refine ⟨D ++ [64 * k + i], offN r i, hof64, by rw [hoff.out], hD2, ?_, hb1⟩
            rw [List.length_append, List.map_append]
            have e : natv (64 * k + i) = .int .i64 ((k : Int) * 64 + i) := by unfold natv; rw [show ((64 * k + i : Nat) : Int) = (k : Int) * 64 + i from by omega]
            rw [List.map_cons, List.map_nil, e]
            exact hown1
          case measure =>
            rw [hoff.out]; simp only [intOf, Int.toNat_natCast]; rw [hlen.out]; omega
    · obtain rfl : k = n := by omega
      have he : listK xs k = listN xs := by rw [← hl.out]; exact listK_all xs
      rw [he] at hown
      have hb64 : ∀ i ∈ listN xs, i < 9223372036854775808 := fun i hi' => by
        have := listK_lt xs xs.length i hi'
        rw [hl.out] at this; omega
      obtain ⟨A', c', rfl, hI⟩ := own_ints hown hb64
      have hO := hown
      rw [natv_ints] at hO
      clear he hb64 hown
      go_wp2
      go_ret
      exact ⟨_, _, _, rfl, hO, hI.2, hb⟩

end Go.Proofs.YtbeigdbljepfkaaGreat
