/- Contracts of package row. -/
import Derived.Test.YtkikoniihmieiaaRows
import Derived.Test.YtkikoniihmieiaaRowMath
import Derived.WalkSpells
import Derived.WalkLawsBesides
import Derived.Deep.DeepCutAuto
import Derived.Deep.QuietTactic
import Derived.BigQuiet
import Derived.StillTailTactics
namespace Go.Proofs.Ytkikoniihmieiaa
open Go.RowKit
set_option linter.unusedVariables false

theorem info_u64 : (Try.prog.info? 56).map (fun i => (i.zero, i.size, i.bytes)) = some (some (.int .u64 0), 1, 8) := by kernel_rfl
theorem info_int : (Try.prog.info? 3).map (fun i => (i.zero, i.size, i.bytes)) = some (some (.int .i64 0), 1, 8) := by kernel_rfl
theorem mk_u64 (kl kc : IntKind) (n c : Nat) (hnc : n ≤ c) (hc : c ≤ 35184372088832) (W : World) :
    (Instr.makeSlice 53 (.int kl (n : Int)) (.int kc (c : Int))).run Try.prog W = .ok (.slice (some ⟨W.heap.size, 0, none⟩) n c) (W.alloc (.cells (zeros c (.int .u64 0)) 56)) := by
  obtain ⟨i, hi, hz0, hz1, hz2⟩ := info_parts info_u64
  exact run_make_one _ _ i _ Try.underlying53 hi hz0 hz1 rfl kl kc n c hnc (by rw [hz2]; omega) (by omega) W
theorem mk_int (kl kc : IntKind) (n c : Nat) (hnc : n ≤ c) (hc : c ≤ 35184372088832) (W : World) :
    (Instr.makeSlice 41 (.int kl (n : Int)) (.int kc (c : Int))).run Try.prog W = .ok (.slice (some ⟨W.heap.size, 0, none⟩) n c) (W.alloc (.cells (zeros c (.int .i64 0)) 3)) := by
  obtain ⟨i, hi, hz0, hz1, hz2⟩ := info_parts info_int
  exact run_make_one _ _ i _ Try.underlying41 hi hz0 hz1 rfl kl kc n c hnc (by rw [hz2]; omega) (by omega) W

theorem within_eq (n : Nat) (i : Int) (hn : n ≤ 140737488355328) (h1 : -9223372036854775808 ≤ i) (h2 : i < 9223372036854775808) : decide (IntKind.u64.wrap i / 64 < (n : Int)) = inR n i := by
  unfold inR
  rw [IntKind.wrap_u64, Bool.eq_iff_iff]
  simp only [decide_eq_true_eq, Bool.and_eq_true]
  omega
set_option maxHeartbeats 400000 in
theorem row_within (A : Option Addr) (n c : Nat) (i : Int) (hn : n ≤ 140737488355328) (h1 : -9223372036854775808 ≤ i) (h2 : i < 9223372036854775808) (w : World) :
    Calls Try.prog 81 #[.slice A n c, .int .i64 i] w fun e w' => e = .returned (.bool (inR n i)) ∧ w = w' := by
  have H := Lib.hid (within_eq n i hn h1 h2)
  go_enter Try.func81, Try.ntmps81
  go_wp2
  go_ret
  exact ⟨ret_bool H.out, rfl⟩
set_option maxHeartbeats 400000 in
theorem row_Has (A : Option Addr) (n c : Nat) (xs : List Nat) (i : Int) (w : World) (hr : Row w A n xs) (hn : n ≤ 140737488355328) (h1 : -9223372036854775808 ≤ i) (h2 : i < 9223372036854775808) :
    Calls Try.prog 52 #[.slice A n c, .int .i64 i] w fun e w' => e = .returned (.bool (hasR xs i)) ∧ w = w' := by
  have hl := hr.len
  by_cases h : 0 ≤ i ∧ i < 64 * (n : Int)
  · obtain ⟨m, rfl⟩ := Int.eq_ofNat_of_zero_le h.1
    have hm : m < 64 * n := by omega
    obtain ⟨b, off, x, rfl, hb, hx, hx64, hc⟩ := hr.at_ (k := m / 64) (by omega)
    have H := Lib.hid (hasR_in xs m x hx)
    have hI := Lib.hid (inR_in n m hm)
    have hA := Lib.hid (i64_and_63 m (by omega))
    clear h hx hr hl
    go_enter Try.func52, Try.ntmps52
    go_wp2_with fail
    refine (row_within _ n _ m (by omega) (by omega) (by omega) _).mono ?_; rintro e w' ⟨rfl, rfl⟩
    rw [hI.out]
    go_wp2_with fail
    rw [hA.out]
    refine (word_Has x hx64 _ (by omega) (by omega) _).mono ?_; rintro e w' ⟨rfl, rfl⟩
    go_wp2
    go_ret
    rw [H.out]; exact ⟨rfl, rfl⟩
  · have H := Lib.hid (hasR_out xs i (by omega))
    have hI := Lib.hid (inR_out n i (by omega))
    clear h hl hr
    go_enter Try.func52, Try.ntmps52
    go_wp2_with fail
    refine (row_within _ n _ i (by omega) (by omega) (by omega) _).mono ?_; rintro e w' ⟨rfl, rfl⟩
    rw [hI.out]
    go_wp2
    go_ret
    rw [H.out]; exact ⟨rfl, rfl⟩

theorem wordsZ_nat (n : Int) (h0 : 0 ≤ n) : wordsZ n = (n + 63) / 64 := if_neg (by omega)
set_option maxHeartbeats 400000 in
theorem row_Words (n : Int) (h1 : -9223372036854775808 ≤ n) (h2 : n < 9223372036854775808) (w : World) :
    Calls Try.prog 58 #[.int .i64 n] w fun e w' => e = .returned (.int .i64 (wordsZ n)) ∧ w = w' := by
  by_cases h : n < 0
  · have H := Lib.hid (show wordsZ n = 0 from if_pos h)
    go_enter Try.func58, Try.ntmps58
    go_wp2
    go_ret
    rw [H.out]; exact ⟨rfl, rfl⟩
  · have H := Lib.hid (wordsZ_nat n (by omega))
    go_enter Try.func58, Try.ntmps58
    go_wp2
    go_ret
    rw [H.out]; exact ⟨rfl, rfl⟩

/-- how many words, as a number without a sign -/
def wordsN (n : Int) : Nat := (wordsZ n).toNat
theorem wordsZ_N (n : Int) : wordsZ n = (wordsN n : Nat) := by unfold wordsN wordsZ; split <;> omega
theorem wordsN_le (n : Int) (h : n ≤ 1099511627776) : wordsN n ≤ 17179869184 := by unfold wordsN wordsZ; split <;> omega
theorem own_row {w : World} {base g n c : Nat} {xs : List Nat} (h : w.ownsRow base 56 1 (.slice (some ⟨g, 0, none⟩) n c) n (xs.map u64v)) (hx : ∀ x ∈ xs, x < 18446744073709551616) : Row w (some ⟨g, 0, none⟩) n xs := by
  obtain ⟨A, c', hv, hr⟩ := Rd.of_own h
  injection hv with h1 h2 h3
  subst h1
  exact ⟨hr, hx⟩
set_option maxHeartbeats 400000 in
theorem row_NewO (n : Int) (h1 : -9223372036854775808 ≤ n) (h2 : n ≤ 1099511627776) (w : World) :
    Calls Try.prog 87 #[.int .i64 n] w (RetRowO 56 (List.replicate (wordsN n) 0) w) := by
  have hw := Lib.hid (wordsZ_N n)
  have hle := wordsN_le n h2
  have hmk := mk_u64 .i64 .i64 (wordsN n) (wordsN n) (Nat.le_refl _) (by omega)
  go_enter Try.func87, Try.ntmps87
  go_wp2_with fail
  refine (row_Words _ (by omega) (by omega) _).mono ?_; rintro e w' ⟨rfl, rfl⟩
  rw [hw.out]
  go_wp2
  go_ret
  refine own_ret (by simpa [u64v] using own_zeros w (wordsN n) (.int .u64 0) 56 (by unfold maxLen; omega)) (by simp) ((Below.refl _ _).alloc (Nat.le_refl _) _)
theorem row_New (n : Int) (h1 : -9223372036854775808 ≤ n) (h2 : n ≤ 1099511627776) (w : World) :
    Calls Try.prog 87 #[.int .i64 n] w (RetRow (List.replicate (wordsN n) 0) w) := (row_NewO n h1 h2 w).mono fun _ _ h => h.row

end Go.Proofs.Ytkikoniihmieiaa
