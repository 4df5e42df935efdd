/- The laws' helper 'pairs' of layer 3. -/
import Derived.Test.YtkikoniihmieiaaLaw3A
namespace Go.Proofs.Ytkikoniihmieiaa
open Go.RowKit
set_option linter.unusedVariables false

/-- a pair is the same as itself -/
theorem pair_self (x y : Int) (w : World) : (Op.equalIn 10000 55 (.agg #[.int .i64 x, .int .i64 y]) (.agg #[.int .i64 x, .int .i64 y])).run Try.prog w = .ok true w := by
  have hu := Try.underlying3
  have hg := Try.isAgg3
  have hs := Try.sizeOf3
  show (Op.equalIn (9999 + 1) _ _ _).run _ _ = _
  unfold Op.equalIn
  simp only [Sem.run_bind, run_underlying Try.underlying55, Result.andThen_ok, Std.Legacy.Range.forIn_eq_forIn_range', Std.Legacy.Range.size, Nat.sub_zero, Nat.add_sub_cancel, Nat.div_one, List.range'_succ, List.range'_zero, List.forIn_cons, List.forIn_nil]
  go_simp
set_option maxHeartbeats 1000000 in
theorem law3_pairs (A B : Option Addr) (n m c d : Nat) (ps : List (Int × Int)) (w : World) (hp : PairsAt w A n ps) (hq : PairsAt w B m ps) (hn : n ≤ 9223372036854775807) :
    Calls Try.prog 19 #[.slice A n c, .slice B m d] w (RetB true w) := by
  obtain rfl : n = m := by rw [← hp.1, hq.1]
  go_enter Try.func19, Try.ntmps19
  go_wp2_with fail
  go_loopw [5] (fun i wr => ∃ k : Nat, k ≤ n ∧ i = .int .i64 k ∧ Hid (Below w.heap.size w wr)) (fun i _ => n - (intOf i).toNat)
  case atStart => exact ⟨0, Nat.zero_le _, rfl, Lib.hid (Below.refl _ _)⟩
  case round =>
    obtain ⟨k, hk, rfl, hb⟩ := hrel
    by_cases hlt : k < n
    · obtain ⟨b, off, ⟨x, y⟩, rfl, hbl, hx, _, c1, c2⟩ := (hp.below hb.out).at_ hlt
      obtain ⟨b', off', ⟨x', y'⟩, rfl, hbl', hx', _, c1', c2'⟩ := (hq.below hb.out).at_ hlt
      rw [hx] at hx'
      simp only [Option.some.injEq, Prod.mk.injEq] at hx'
      obtain ⟨rfl, rfl⟩ := hx'
      simp only at c1 c2 c1' c2'
      have hk0 : (0 : Int) ≤ (k : Int) := by omega
      have hkn : (k : Int) < (n : Int) := by omega
      clear hx
      go_wp2_with fail
      refine wp_region_plan 9 [(true, 0), (true, 1), (true, 2), (true, 3), (true, 4), (true, 5), (true, 6), (true, 7), (true, 8)] (by kernel_rfl) (by kernel_rfl) (fun W hW => ?_)
      have p1 : W.cell? ⟨b, off + k * 2, none⟩ = some (.int .i64 x) := by rw [hW.out]; exact c1
      have p2 : W.cell? ⟨b, off + k * 2 + 1, none⟩ = some (.int .i64 y) := by rw [hW.out]; exact c2
      have p3 : W.cell? ⟨b', off' + k * 2, none⟩ = some (.int .i64 x) := by rw [hW.out]; exact c1'
      have p4 : W.cell? ⟨b', off' + k * 2 + 1, none⟩ = some (.int .i64 y) := by rw [hW.out]; exact c2'
      have hbW := Lib.hid (show Below w.heap.size w W by rw [hW.out]; exact hb.out.drew)
      clear c1 c2 c1' c2'
      simp only [List.drop_succ_cons, List.drop_nil]
      have heq := pair_self x y
      iterate 9
        refine wpPlan_float (v := ?_) rfl (by rfl) (fun w' hw' => ?_) (fun K hK => ?_)
        rotate_left
        · (go_simp; try with_reducible rfl)
        go_simp
        refine hK _ ?_
        clear hK K
      refine wpPlan_nil (NoPanic.normal ?_)
      go_wp2_with fail
      go_roundw
      case rel => exact ⟨k + 1, by omega, by go_num, hbW⟩
      case measure => simp [intOf]; omega
    · obtain rfl : k = n := by omega
      go_wp2_with fail
      go_ret
      exact ⟨rfl, hb.out⟩

end Go.Proofs.Ytkikoniihmieiaa
