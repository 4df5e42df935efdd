/- The laws of layer 5: the fixed example; NumTells. -/
import Derived.Test.YtimpojiglnfieaaNumPutC
import Derived.Test.YtimpojiglnfieaaMem
namespace Go.Proofs.Ytimpojiglnfieaa
open Go.RowKit
set_option linter.unusedVariables false

def minT : List UInt8 := [45, 57, 50, 50, 51, 51, 55, 50, 48, 51, 54, 56, 53, 52, 55, 55, 53, 56, 48, 56]
def maxT : List UInt8 := [57, 50, 50, 51, 51, 55, 50, 48, 51, 54, 56, 53, 52, 55, 55, 53, 56, 48, 56]
theorem awake5_min : getV minT = -9223372036854775808 ∧ getE minT = 0 := ⟨by kernel_rfl, by kernel_rfl⟩
theorem awake5_max : getV maxT = 0 ∧ getE maxT = 3 := ⟨by kernel_rfl, by kernel_rfl⟩
theorem awake5_put : putL (-5) = [45, 53] := by unfold putL; rw [decL_small (by decide)]; rfl
theorem awake5_span : spanZ ⟨#[120, 45, 49, 50, 121]⟩ 1 = 3 := by kernel_rfl

set_option maxRecDepth 100000 in
set_option maxHeartbeats 2000000 in
theorem law5_awake (w : World) : Calls Try.prog 6 #[] w fun e w' => e = .returned (.bool true) ∧ Below w.heap.size w w' := by
  have cMin := Lib.hid (fun W => by
    have h := num_Get ⟨#[45, 57, 50, 50, 51, 51, 55, 50, 48, 51, 54, 56, 53, 52, 55, 55, 53, 56, 48, 56]⟩ W (by decide)
    unfold RetGet at h
    rw [show (⟨#[45, 57, 50, 50, 51, 51, 55, 50, 48, 51, 54, 56, 53, 52, 55, 55, 53, 56, 48, 56]⟩ : ByteArray).data.toList = minT from rfl, awake5_min.1, awake5_min.2] at h
    exact h)
  have cMax := Lib.hid (fun W => by
    have h := num_Get ⟨#[57, 50, 50, 51, 51, 55, 50, 48, 51, 54, 56, 53, 52, 55, 55, 53, 56, 48, 56]⟩ W (by decide)
    unfold RetGet at h
    rw [show (⟨#[57, 50, 50, 51, 51, 55, 50, 48, 51, 54, 56, 53, 52, 55, 55, 53, 56, 48, 56]⟩ : ByteArray).data.toList = maxT from rfl, awake5_max.1, awake5_max.2] at h
    exact h)
  have cPut := Lib.hid (fun W => by
    have h := num_Put (-5) W (by decide) (by decide)
    unfold RetS at h
    rw [awake5_put] at h
    exact h)
  have cSpan := Lib.hid (fun W => by
    have h := num_Span ⟨#[120, 45, 49, 50, 121]⟩ 1 W (by decide) (by decide) (by decide)
    unfold RetI at h
    rw [awake5_span] at h
    exact h)
  go_enter Try.func6, Try.ntmps6
  go_wp2_with fail
  refine (cMin.out w).mono ?_; rintro e w1 ⟨rfl, b1⟩
  go_wp2_with fail
  refine (cMax.out w1).mono ?_; rintro e w2 ⟨rfl, b2⟩
  have b := below_trans2 b1 b2
  clear b1 b2
  go_wp2_with fail
  refine (cPut.out w2).mono ?_; rintro e w3 ⟨rfl, b3⟩
  replace b := below_trans2 b b3
  clear b3
  go_wp2_with fail
  refine (cSpan.out w3).mono ?_; rintro e w4 ⟨rfl, b4⟩
  replace b := below_trans2 b b4
  clear b4
  go_wp2_with fail
  go_ret
  exact ⟨rfl, b⟩

set_option maxRecDepth 100000 in
set_option maxHeartbeats 4000000 in
theorem law5_NumTells (n : Int) (s : ByteArray) (i : Int) (w : World) (n0 : -9223372036854775808 ≤ n) (n1 : n < 9223372036854775808) (i0 : -9223372036854775808 ≤ i) (i1 : i < 9223372036854775808) (hs : s.size ≤ 9223372036854775807) :
    Calls Try.prog 3 #[.int .i64 n, .string s, .int .i64 i] w fun e w' => e = .returned (.bool true) ∧ Below w.heap.size w w' := by
  have cA := Lib.hid law5_awake
  by_cases hl : 100 < s.size
  · have hl' : (100 : Int) < (s.size : Int) := by omega
    go_enter Try.func3, Try.ntmps3
    go_wp2_with fail
    refine (cA.out w).mono ?_; rintro e w1 ⟨rfl, b⟩
    go_wp2_with fail
    go_ret
    exact ⟨rfl, b⟩
  · have hl' : ¬ (100 : Int) < (s.size : Int) := by omega
    have cG := Lib.hid (fun W => num_Get s W (by omega))
    have cR := Lib.hid (fun W => ref5_Get s W (by omega))
    have cP := Lib.hid (fun W => num_Put n W n0 n1)
    have cQ := Lib.hid (fun W => ref5_Put n W n0 n1)
    have cS := Lib.hid (fun W => num_Span s i W (by omega) i0 i1)
    have cT := Lib.hid (fun W => ref5_Span s i W (by omega) i0 i1)
    go_enter Try.func3, Try.ntmps3
    go_wp2_with fail
    refine (cG.out w).mono ?_; rintro e w1 ⟨rfl, b⟩
    go_wp2_with fail
    refine (cR.out w1).mono ?_; rintro e w2 ⟨rfl, b2⟩
    replace b := below_trans2 b b2
    clear b2
    go_wp2_with fail
    refine (cA.out w2).mono ?_; rintro e w3 ⟨rfl, b2⟩
    replace b := below_trans2 b b2
    clear b2
    go_wp2_with fail
    refine (cP.out w3).mono ?_; rintro e w4 ⟨rfl, b2⟩
    replace b := below_trans2 b b2
    clear b2
    go_wp2_with fail
    refine (cQ.out w4).mono ?_; rintro e w5 ⟨rfl, b2⟩
    replace b := below_trans2 b b2
    clear b2
    go_wp2_with fail
    refine (cS.out w5).mono ?_; rintro e w6 ⟨rfl, b2⟩
    replace b := below_trans2 b b2
    clear b2
    go_wp2_with fail
    refine (cT.out w6).mono ?_; rintro e w7 ⟨rfl, rfl⟩
    go_wp2_with fail
    go_ret
    exact ⟨rfl, b⟩

end Go.Proofs.Ytimpojiglnfieaa
