/- Contracts of package mat: New (refused), put. -/
import Derived.Test.YtlfdmjlllikmcaaMatNew
namespace Go.Proofs.Ytlfdmjlllikmcaa
open Go.RowKit
set_option linter.unusedVariables false

set_option maxHeartbeats 400000 in
theorem mat_New_no (n : Int) (h : n < 0 ∨ 4097 ≤ n) (w : World) :
    Calls Try.prog 27 #[.int .i64 n] w (RetMat 0 [] 1 w) := by
  have hb := Lib.hid (belowZ_no (i := n) (n := 4097) h)
  have ha : Below w.heap.size w (w.alloc (.cells #[.int .i64 0, .slice none 0 0] 24)) := (Below.refl _ _).alloc (Nat.le_refl _) _
  replace ha := Lib.hid ha
  clear h
  go_enter Try.func27, Try.ntmps27
  go_wp2_with fail
  refine (mat_below _ _ _).mono ?_; rintro e w' ⟨rfl, rfl⟩
  rw [hb.out]
  go_wp2_with fail
  exact bodyPost_ret (v := .tuple #[.agg #[.int .i64 0, .slice none 0 0], .int .i64 1]) (by simp [results, Try.results27, go_sem]) rfl ⟨none, 0, 0, rfl, RowsAt.nil _ _, Nat.le_refl _, ha.out⟩

/-- what 'put' ends in -/
def Put (g q y : Nat) (w : World) (e : Ending) (w' : World) : Prop := e = .returned (.tuple #[]) ∧ ∃ k, w' = (w.drewN k).setCell ⟨g, q, none⟩ (u64v y)
set_option maxHeartbeats 400000 in
theorem mat_put (g m c : Nat) (j : Nat) (x : Nat) (w : World) (hm : m ≤ 17592186044416) (hj : j < 64 * m) (hx64 : x < 18446744073709551616) (hc : w.cell? ⟨g, j / 64, none⟩ = some (.int .u64 (x : Int))) (hf : w.frozen? ⟨g, j / 64, none⟩ = false) :
    Calls Try.prog 55 #[.slice (some ⟨g, 0, none⟩) m c, .int .i64 (j : Int)] w (Put g (j / 64) (x ||| p2 (j % 64)) w) := by
  obtain ⟨r, hre⟩ : ∃ r, r = j % 64 := ⟨_, rfl⟩
  have hr64 : r < 64 := by omega
  have hE := u64_or_nat x (p2 r) hx64 (by have := p2_lt r hr64; omega)
  replace hE := Lib.hid hE
  have hA1 : (0 : Int) ≤ (j : Int) / 64 := by omega
  have hA2 : (j : Int) / 64 < (m : Int) := by omega
  have hA3 : ((j : Int) / 64).toNat = j / 64 := by omega
  have hj0 : (0 : Int) ≤ (j : Int) := by omega
  have hrem : (j : Int) % 64 = (r : Int) := by omega
  have hjb : (j : Int) < 9223372036854775807 := by omega
  rw [← hre]
  clear hre
  go_enter Try.func55, Try.ntmps55
  go_wp2_with fail
  refine still_tail 10 (by kernel_rfl) (by kernel_rfl) (fun W hW => ?_)
  have hc' : W.cell? ⟨g, j / 64, none⟩ = some (.int .u64 (x : Int)) := by rw [hW.out]; exact hc
  have hf' : W.frozen? ⟨g, j / 64, none⟩ = false := by rw [hW.out]; exact hf
  clear hc hf
  simp only [List.take_succ_cons, List.take_zero, List.drop_succ_cons, List.drop_zero]
  have htd : (j : Int).tdiv 64 = (j : Int) / 64 := Int.tdiv_eq_ediv_of_nonneg hj0
  have htm : (j : Int).tmod 64 = (r : Int) := by rw [Int.tmod_eq_emod_of_nonneg hj0]; exact hrem
  have hw1 : IntKind.i64.wrap ((j : Int) / 64) = (j : Int) / 64 := by rw [IntKind.wrap_i64]; omega
  have hw2 : IntKind.i64.wrap (r : Int) = (r : Int) := by rw [IntKind.wrap_i64]; omega
  clear hrem
  repeat still_step
  refine wpStill_step (fun K hK => ?_)
  go_simp
  refine ⟨_, still_call (word_BitN r hr64 _), hK _ ?_⟩
  clear hK K
  repeat still_step
  refine wpStill_nil ?_
  clear htd htm hw1 hw2
  go_wp2
  go_end0
  rw [hE.out, hW.out]
  exact ⟨rfl, 1, rfl⟩

end Go.Proofs.Ytlfdmjlllikmcaa
