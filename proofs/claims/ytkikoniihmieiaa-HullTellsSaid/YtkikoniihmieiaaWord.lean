/- Contracts of package word. -/
import Derived.Test.YtkikoniihmieiaaRows
import Derived.Test.YtkikoniihmieiaaWMath
import Derived.WalkKit
import Derived.WalkSpells
import Derived.WalkLawsBesides
import Derived.Deep.DeepCutAuto
import Derived.Laws.BitsAllLaws
import Derived.Lib.Hide
namespace Go.Proofs.Ytkikoniihmieiaa
open Go.RowKit

theorem ret_u64 {a b : Int} (h : a = b) : Ending.returned (.int .u64 a) = .returned (.int .u64 b) := by rw [h]
theorem ret_i64 {a b : Int} (h : a = b) : Ending.returned (.int .i64 a) = .returned (.int .i64 b) := by rw [h]
theorem ret_bool {a b : Bool} (h : a = b) : Ending.returned (.bool a) = .returned (.bool b) := by rw [h]

theorem shift_min (i : Int) (h1 : -9223372036854775808 ≤ i) (h2 : i < 9223372036854775808) :
    min (IntKind.u64.wrap i).toNat 64 = if 0 ≤ i then min i.toNat 64 else 64 := by
  rw [IntKind.wrap_u64]; split <;> omega
theorem wrap_pow (n : Nat) (h : n ≤ 64) : IntKind.u64.wrap (2 ^ n) = if n < 64 then 2 ^ n else 0 := by
  rw [IntKind.wrap_u64]
  by_cases hn : n < 64
  · rw [if_pos hn]
    have : (2 : Nat) ^ n < 2 ^ 64 := Nat.pow_lt_pow_right (by omega) hn
    have h2 : ((2 ^ n : Nat) : Int) = (2 : Int) ^ n := by simp
    rw [← h2]; generalize 2 ^ n = q at *; omega
  · obtain rfl : n = 64 := by omega
    rfl
theorem bit_eq (i : Int) (h1 : -9223372036854775808 ≤ i) (h2 : i < 9223372036854775808) :
    IntKind.u64.wrap (2 ^ min (IntKind.u64.wrap i).toNat 64) = bitZ i := by
  rw [shift_min i h1 h2, wrap_pow _ (by split <;> omega)]
  unfold bitZ
  by_cases h0 : 0 ≤ i
  · rw [if_pos h0]
    by_cases h3 : i < 64
    · rw [if_pos (by omega), if_pos ⟨h0, h3⟩, show min i.toNat 64 = i.toNat from by omega]
    · rw [if_neg (by omega), if_neg (by omega)]
  · rw [if_neg h0, if_neg (by omega), if_neg (by omega)]

set_option maxHeartbeats 400000 in
theorem word_Bit (i : Int) (h1 : -9223372036854775808 ≤ i) (h2 : i < 9223372036854775808) (w : World) :
    Calls Try.prog 82 #[.int .i64 i] w fun e w' => e = .returned (.int .u64 (bitZ i)) ∧ w = w' := by
  go_enter Try.func82, Try.ntmps82
  go_wp2
  go_ret
  exact ⟨ret_u64 (bit_eq i h1 h2), rfl⟩

theorem has_eq (x : Nat) (hx : x < 18446744073709551616) (i : Int) (h1 : -9223372036854775808 ≤ i) (h2 : i < 9223372036854775808) :
    (bits BinOp.and IntKind.u64 (↑x / 2 ^ min (IntKind.u64.wrap i).toNat 64) 1 == 1) = hasB x i := by
  rw [shift_min i h1 h2]
  generalize hn : (if 0 ≤ i then min i.toNat 64 else 64) = n
  have e : ((x : Int) / 2 ^ n) = ((x / 2 ^ n : Nat) : Int) := by simp
  rw [e, show (1 : Int) = ((1 : Nat) : Int) from rfl, u64_and_nat _ _ (Nat.lt_of_le_of_lt (Nat.div_le_self _ _) hx) (by omega), Nat.and_one_is_mod]
  unfold hasB
  by_cases h0 : 0 ≤ i
  · rw [if_pos h0] at hn
    have ht : x.testBit i.toNat = x.testBit n := by
      by_cases h3 : i.toNat < 64
      · rw [← hn, show min i.toNat 64 = i.toNat from by omega]
      · have hl : ∀ j, 64 ≤ j → x.testBit j = false := fun j hj =>
          Nat.testBit_lt_two_pow (Nat.lt_of_lt_of_le hx (by rw [show (18446744073709551616 : Nat) = 2 ^ 64 from rfl]; exact Nat.pow_le_pow_right (by omega) hj))
        rw [hl _ (by omega), hl n (by omega)]
    rw [ht, Nat.testBit_eq_decide_div_mod_eq]
    simp only [h0, decide_true, Bool.true_and]
    rw [Bool.eq_iff_iff]; simp; omega
  · rw [if_neg h0] at hn
    subst hn
    have : x / 2 ^ 64 = 0 := Nat.div_eq_of_lt hx
    simp [h0, this]

set_option maxHeartbeats 400000 in
theorem word_Has (x : Nat) (hx : x < 18446744073709551616) (i : Int) (h1 : -9223372036854775808 ≤ i) (h2 : i < 9223372036854775808) (w : World) :
    Calls Try.prog 84 #[.int .u64 x, .int .i64 i] w fun e w' => e = .returned (.bool (hasB x i)) ∧ w = w' := by
  have H := Lib.hid (has_eq x hx i h1 h2)
  go_enter Try.func84, Try.ntmps84
  go_wp2
  go_ret
  exact ⟨ret_bool H.out, rfl⟩

theorem halves_eq (x : Nat) (hx : x < 18446744073709551616) (m n : Nat) (hm : 0 < m) (hn : 2 * m * n = 64) (c d : Int) (hc : c = ((maskF m n : Nat) : Int)) (hl : maskF m n < 18446744073709551616) (hd : d = ((2 ^ m : Nat) : Int)) :
    IntKind.u64.wrap (bits BinOp.and IntKind.u64 (↑x) c + bits BinOp.and IntKind.u64 (↑x / d) c) = ((halvesF m n x : Nat) : Int) := by
  subst hc; subst hd
  rw [show ((x : Int) / ((2 ^ m : Nat) : Int)) = ((x / 2 ^ m : Nat) : Int) from (Int.natCast_ediv _ _).symm]
  rw [u64_and_nat _ _ hx hl, u64_and_nat _ _ (Nat.lt_of_le_of_lt (Nat.div_le_self _ _) hx) hl, ← Int.natCast_add]
  have := halves_lt m n x hm
  rw [hn] at this
  unfold halvesF at this ⊢
  rw [IntKind.wrap_u64]; omega

/-- a number below 2^64 by its eight bytes -/
def by8 (b0 b1 b2 b3 b4 b5 b6 b7 : Nat) : Nat := b0 + 256 * (b1 + 256 * (b2 + 256 * (b3 + 256 * (b4 + 256 * (b5 + 256 * (b6 + 256 * b7))))))
theorem bytes8 (x : Nat) (hx : x < 18446744073709551616) : ∃ b0 b1 b2 b3 b4 b5 b6 b7 : Nat, x = by8 b0 b1 b2 b3 b4 b5 b6 b7 ∧ dsF 256 8 x = b0 + b1 + b2 + b3 + b4 + b5 + b6 + b7 := by
  refine ⟨x % 256, x / 256 % 256, x / 256 / 256 % 256, x / 256 / 256 / 256 % 256, x / 256 / 256 / 256 / 256 % 256, x / 256 / 256 / 256 / 256 / 256 % 256, x / 256 / 256 / 256 / 256 / 256 / 256 % 256, x / 256 / 256 / 256 / 256 / 256 / 256 / 256 % 256, ?_, ?_⟩
  · unfold by8; omega
  · simp only [dsF]; omega
theorem wrap_of (n : Nat) (h : n < 18446744073709551616) : IntKind.u64.wrap (n : Int) = n := by rw [IntKind.wrap_u64]; omega
theorem by8_one (b0 b1 b2 b3 b4 b5 b6 b7 : Nat) (h : b0 + b1 + b2 + b3 + b4 + b5 + b6 + b7 ≤ 64) :
    by8 b0 b1 b2 b3 b4 b5 b6 b7 + by8 b0 b1 b2 b3 b4 b5 b6 b7 / 256 = by8 (b0 + b1) (b1 + b2) (b2 + b3) (b3 + b4) (b4 + b5) (b5 + b6) (b6 + b7) b7 := by unfold by8; omega
theorem by8_two (b0 b1 b2 b3 b4 b5 b6 b7 : Nat) (h0 : b0 < 256) (h1 : b1 < 256) :
    by8 b0 b1 b2 b3 b4 b5 b6 b7 + by8 b0 b1 b2 b3 b4 b5 b6 b7 / 65536 = by8 (b0 + b2) (b1 + b3) (b2 + b4) (b3 + b5) (b4 + b6) (b5 + b7) b6 b7 := by
  have e : by8 b0 b1 b2 b3 b4 b5 b6 b7 / 65536 = b2 + 256 * (b3 + 256 * (b4 + 256 * (b5 + 256 * (b6 + 256 * b7)))) := by unfold by8; omega
  rw [e]; unfold by8; omega
theorem by8_four (b0 b1 b2 b3 b4 b5 b6 b7 : Nat) (h0 : b0 < 256) (h1 : b1 < 256) (h2 : b2 < 256) (h3 : b3 < 256) :
    by8 b0 b1 b2 b3 b4 b5 b6 b7 + by8 b0 b1 b2 b3 b4 b5 b6 b7 / 4294967296 = by8 (b0 + b4) (b1 + b5) (b2 + b6) (b3 + b7) b4 b5 b6 b7 := by
  have e : by8 b0 b1 b2 b3 b4 b5 b6 b7 / 4294967296 = b4 + 256 * (b5 + 256 * (b6 + 256 * b7)) := by unfold by8; omega
  rw [e]; unfold by8; omega
theorem by8_lt (b0 b1 b2 b3 b4 b5 b6 b7 : Nat) (h0 : b0 < 256) (h1 : b1 < 256) (h2 : b2 < 256) (h3 : b3 < 256) (h4 : b4 < 256) (h5 : b5 < 256) (h6 : b6 < 256) (h7 : b7 < 256) :
    by8 b0 b1 b2 b3 b4 b5 b6 b7 < 18446744073709551616 := by unfold by8; omega
/-- one of the three sums at the end, as Go wraps it -/
theorem sum_step (x y d : Nat) (h : x + x / d = y) (hy : y < 18446744073709551616) : IntKind.u64.wrap ((x : Int) + (x : Int) / (d : Int)) = (y : Int) := by
  rw [← Int.natCast_ediv, ← Int.natCast_add, h, wrap_of _ hy]
theorem count_end (x : Nat) (hx : x < 18446744073709551616) (hs : dsF 256 8 x ≤ 64) :
    wrap64 (bits BinOp.and IntKind.u64 (IntKind.u64.wrap (IntKind.u64.wrap (IntKind.u64.wrap (x + (x : Int) / 256) + IntKind.u64.wrap (x + (x : Int) / 256) / 65536) + IntKind.u64.wrap (IntKind.u64.wrap (x + (x : Int) / 256) + IntKind.u64.wrap (x + (x : Int) / 256) / 65536) / 4294967296)) 127) = ((dsF 256 8 x : Nat) : Int) := by
  obtain ⟨b0, b1, b2, b3, b4, b5, b6, b7, hb, hd⟩ := bytes8 x hx
  rw [hd] at hs ⊢
  clear hd
  subst hb
  have s1 := sum_step _ _ 256 (by8_one b0 b1 b2 b3 b4 b5 b6 b7 hs) (by8_lt _ _ _ _ _ _ _ _ (by omega) (by omega) (by omega) (by omega) (by omega) (by omega) (by omega) (by omega))
  have s2 := sum_step _ _ 65536 (by8_two (b0 + b1) (b1 + b2) (b2 + b3) (b3 + b4) (b4 + b5) (b5 + b6) (b6 + b7) b7 (by omega) (by omega)) (by8_lt _ _ _ _ _ _ _ _ (by omega) (by omega) (by omega) (by omega) (by omega) (by omega) (by omega) (by omega))
  have s3 := sum_step _ _ 4294967296 (by8_four (b0 + b1 + (b2 + b3)) (b1 + b2 + (b3 + b4)) (b2 + b3 + (b4 + b5)) (b3 + b4 + (b5 + b6)) (b4 + b5 + (b6 + b7)) (b5 + b6 + b7) (b6 + b7) b7 (by omega) (by omega) (by omega) (by omega)) (by8_lt _ _ _ _ _ _ _ _ (by omega) (by omega) (by omega) (by omega) (by omega) (by omega) (by omega) (by omega))
  simp only [Int.cast_ofNat_Int] at s1 s2 s3
  rw [s1, s2, s3, show (127 : Int) = ((127 : Nat) : Int) from rfl, u64_and_nat _ _ (by8_lt _ _ _ _ _ _ _ _ (by omega) (by omega) (by omega) (by omega) (by omega) (by omega) (by omega) (by omega)) (by omega), show (127 : Nat) = 2 ^ 7 - 1 from rfl, Nat.and_two_pow_sub_one_eq_mod]
  have hm : ∀ a y : Nat, a ≤ 64 → (a + 256 * y) % 2 ^ 7 = a := by omega
  unfold by8
  rw [hm _ _ (by omega)]
  rw [IntWalk.wrap64_in _ (by omega)]; omega

theorem count_all (x : Nat) : dsF 256 8 (halvesF 4 8 (halvesF 2 16 (halvesF 1 32 x))) = pcF 64 x := by
  have h1 := dsF_halves 1 32 x (by omega)
  have h2 := dsF_halves 2 16 (halvesF 1 32 x) (by omega)
  have h3 := dsF_halves 4 8 (halvesF 2 16 (halvesF 1 32 x)) (by omega)
  simp only [Nat.reduceMul, Nat.reducePow] at h1 h2 h3
  rw [h3, h2, h1, dsF_two]

set_option maxHeartbeats 400000 in
theorem word_Count (x : Nat) (hx : x < 18446744073709551616) (w : World) :
    Calls Try.prog 85 #[.int .u64 x] w fun e w' => e = .returned (.int .i64 (pop x : Nat)) ∧ w = w' := by
  have a1 := halves_lt 1 32 x (by omega)
  have a2 := halves_lt 2 16 (halvesF 1 32 x) (by omega)
  have a3 := halves_lt 4 8 (halvesF 2 16 (halvesF 1 32 x)) (by omega)
  have A1 := halves_eq x hx 1 32 (by omega) (by omega) 6148914691236517205 2 (by decide) (by decide) (by decide)
  have A2 := halves_eq (halvesF 1 32 x) (by omega) 2 16 (by omega) (by omega) 3689348814741910323 4 (by decide) (by decide) (by decide)
  have A3 := halves_eq (halvesF 2 16 (halvesF 1 32 x)) (by omega) 4 8 (by omega) (by omega) 1085102592571150095 16 (by decide) (by decide) (by decide)
  have hp := pcF_le 64 x
  have A4 := count_end (halvesF 4 8 (halvesF 2 16 (halvesF 1 32 x))) (by omega) (by rw [count_all]; exact hp)
  rw [count_all, ← pop_def] at A4
  replace A1 := Lib.hid A1
  replace A2 := Lib.hid A2
  replace A3 := Lib.hid A3
  replace A4 := Lib.hid A4
  clear a1 a2 a3 hp
  go_enter Try.func85, Try.ntmps85
  go_upto_region 1 with fail
  go_cut [0] (fun s wx => s = .int .u64 (halvesF 1 32 x : Nat) ∧ w = wx)
  case first =>
    go_wp2_with fail; go_meet
    rw [A1.out]; exact ⟨rfl, rfl⟩
  obtain ⟨rfl, rfl⟩ := hcut
  go_upto_region 2 with fail
  go_cut [0] (fun s wx => s = .int .u64 (halvesF 2 16 (halvesF 1 32 x) : Nat) ∧ w = wx)
  case first =>
    go_wp2_with fail; go_meet
    rw [A2.out]; exact ⟨rfl, rfl⟩
  obtain ⟨rfl, rfl⟩ := hcut
  go_upto_region 3 with fail
  go_cut [0] (fun s wx => s = .int .u64 (halvesF 4 8 (halvesF 2 16 (halvesF 1 32 x)) : Nat) ∧ w = wx)
  case first =>
    go_wp2_with fail; go_meet
    rw [A3.out]; exact ⟨rfl, rfl⟩
  obtain ⟨rfl, rfl⟩ := hcut
  go_wp2
  go_ret
  exact ⟨ret_i64 A4.out, rfl⟩

theorem first_eq (x : Nat) (hx : x < 18446744073709551616) :
    bits BinOp.andNot IntKind.u64 (IntKind.u64.wrap (x - 1)) x = ((2 ^ (low0 x) - 1 : Nat) : Int) := by
  have h := low_bits 64 x hx
  rw [← low0_def] at h
  rw [show IntKind.u64.wrap ((x : Int) - 1) = (((x + (2 ^ 64 - 1)) % 2 ^ 64 : Nat) : Int) from by rw [IntKind.wrap_u64]; omega]
  rw [u64_andNot_nat _ _ (by omega) hx]
  rw [show (18446744073709551615 - x) = 2 ^ 64 - 1 - x from rfl, h]

set_option maxHeartbeats 400000 in
theorem word_First (x : Nat) (hx : x < 18446744073709551616) (w : World) :
    Calls Try.prog 86 #[.int .u64 x] w fun e w' => e = .returned (.int .i64 (low0 x : Nat)) ∧ w = w' := by
  have A := first_eq x hx
  have hl : 2 ^ (low0 x) - 1 < 18446744073709551616 := by
    have : 2 ^ (low0 x) ≤ 2 ^ 64 := Nat.pow_le_pow_right (by omega) (low0_le x)
    omega
  have hp := pop_ones (low0 x) (low0_le x)
  replace A := Lib.hid A
  replace hp := Lib.hid hp
  have hl := Lib.hid hl
  go_enter Try.func86, Try.ntmps86
  go_wp2_with fail
  rw [A.out]
  refine (word_Count _ hl.out _).mono ?_
  rintro e w' ⟨rfl, rfl⟩
  rw [hp.out]
  go_wp2
  go_ret
  exact ⟨rfl, rfl⟩

theorem low_eq (n : Int) (h0 : 0 ≤ n) : IntKind.u64.wrap (IntKind.u64.wrap (2 ^ min n.toNat 64) - 1) = lowZ n := by
  rw [wrap_pow _ (by omega)]
  unfold lowZ
  rw [if_neg (show ¬ n < 0 by omega)]
  by_cases h : min n.toNat 64 < 64
  · rw [if_pos h]
    have : (2 : Nat) ^ (min n.toNat 64) < 2 ^ 64 := Nat.pow_lt_pow_right (by omega) h
    have hp := Nat.two_pow_pos (min n.toNat 64)
    have e : ((2 ^ (min n.toNat 64) : Nat) : Int) = (2 : Int) ^ (min n.toNat 64) := by simp
    rw [← e, IntKind.wrap_u64]; generalize 2 ^ (min n.toNat 64) = q at *; omega
  · rw [if_neg h, show min n.toNat 64 = 64 from by omega]; rfl

set_option maxHeartbeats 400000 in
theorem word_Low (n : Int) (_h1 : -9223372036854775808 ≤ n) (_h2 : n < 9223372036854775808) (w : World) :
    Calls Try.prog 78 #[.int .i64 n] w fun e w' => e = .returned (.int .u64 (lowZ n)) ∧ w = w' := by
  by_cases h0 : n < 0
  · have H := Lib.hid (show lowZ n = 0 from if_pos h0)
    go_enter Try.func78, Try.ntmps78
    go_wp2
    go_ret
    rw [H.out]; exact ⟨rfl, rfl⟩
  · have H := Lib.hid (low_eq n (by omega))
    go_enter Try.func78, Try.ntmps78
    go_wp2
    go_ret
    exact ⟨ret_u64 H.out, rfl⟩

end Go.Proofs.Ytkikoniihmieiaa
