/- Contracts of package mat: Set (refused). -/
import Derived.Test.YtlfdmjlllikmcaaMatSet
namespace Go.Proofs.Ytlfdmjlllikmcaa
open Go.RowKit
set_option linter.unusedVariables false

theorem inM_cases {N i j : Int} (h : inM N i j = false) : (i < 0 ∨ N ≤ i) ∨ (belowZ i N = true ∧ (j < 0 ∨ N ≤ j)) := by
  unfold inM at h
  unfold belowZ
  by_cases a : 0 ≤ i <;> by_cases b : i < N <;> by_cases c : 0 ≤ j <;> by_cases d : j < N <;> simp [a, b, c, d] at h ⊢ <;> omega
set_option maxHeartbeats 400000 in
theorem mat_Set_no (N : Int) (A : Option Addr) (n c : Nat) (i j : Int) (w : World) (h3 : inM N i j = false) :
    Calls Try.prog 11 #[.agg #[.int .i64 N, .slice A n c], .int .i64 i, .int .i64 j] w (RetMat 0 [] 1 w) := by
  have ha : Below w.heap.size w ((w.alloc (.cells #[.int .i64 N, .slice A n c] 24)).alloc (.cells #[.int .i64 0, .slice none 0 0] 24)) := ((Below.refl _ _).alloc (Nat.le_refl _) _).alloc (by simp) _
  replace ha := Lib.hid ha
  rcases inM_cases h3 with h | ⟨hi, h⟩
  · have hb := Lib.hid (belowZ_no h)
    clear h h3
    go_enter Try.func11, Try.ntmps11
    go_wp2_with fail
    refine (mat_below _ _ _).mono ?_; rintro e w' ⟨rfl, rfl⟩
    rw [hb.out]
    go_wp2_with fail
    refine bodyPost_ret (v := .tuple #[.agg #[.int .i64 0, .slice none 0 0], .int .i64 1]) (by simp [results, Try.results11, go_sem]) rfl ⟨none, 0, 0, rfl, RowsAt.nil _ _, Nat.le_refl _, ?_⟩
    exact ha.out
  · replace hi := Lib.hid hi
    have hb := Lib.hid (belowZ_no h)
    clear h h3
    go_enter Try.func11, Try.ntmps11
    go_wp2_with fail
    refine (mat_below _ _ _).mono ?_; rintro e w' ⟨rfl, rfl⟩
    rw [hi.out]
    go_wp2_with fail
    refine (mat_below _ _ _).mono ?_; rintro e w' ⟨rfl, rfl⟩
    rw [hb.out]
    go_wp2_with fail
    refine bodyPost_ret (v := .tuple #[.agg #[.int .i64 0, .slice none 0 0], .int .i64 1]) (by simp [results, Try.results11, go_sem]) rfl ⟨none, 0, 0, rfl, RowsAt.nil _ _, Nat.le_refl _, ?_⟩
    exact ha.out

end Go.Proofs.Ytlfdmjlllikmcaa
