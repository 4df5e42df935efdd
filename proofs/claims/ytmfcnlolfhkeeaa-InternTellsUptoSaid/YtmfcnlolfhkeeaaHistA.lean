/- The code's own contracts of layer 6, first half: names, slices.Grow, slices.Concat, slices.Equal, slices.EqualFunc at operations; Flat, Same. -/
import Derived.Test.YtmfcnlolfhkeeaaHistRefB
import Derived.Lib.AppendZeros
import Derived.RangeFuncRecord
namespace Go.Proofs.Ytmfcnlolfhkeeaa
open Go.RowKit
set_option linter.unusedVariables false
set_option linter.unusedSectionVars false

set_option maxRecDepth 100000 in
set_option maxHeartbeats 2000000 in
theorem hist_named (s : ByteArray) (w : World) (hs : s.size ≤ 9223372036854775807) :
    Calls Try.prog 33 #[.string s] w fun e w' => e = .returned (.bool (nameL s.data.toList)) ∧ w' = w := by
  by_cases h1 : (s.size : Int) < 1
  · have hres : Hid (nameL s.data.toList = false) := Lib.hid (by
      unfold nameL
      rw [name_size, decide_eq_false (by omega : ¬ 1 ≤ s.size), Bool.and_false, Bool.false_and])
    go_enter Try.func33, Try.ntmps33
    go_wp2_with fail
    go_ret
    exact ⟨by rw [hres.out]; rfl, rfl⟩
  · by_cases h8 : (8 : Int) < (s.size : Int)
    · have hres : Hid (nameL s.data.toList = false) := Lib.hid (by
        unfold nameL
        rw [name_size, decide_eq_false (by omega : ¬ s.size ≤ 8), Bool.and_false])
      go_enter Try.func33, Try.ntmps33
      go_wp2_with fail
      go_ret
      exact ⟨by rw [hres.out]; rfl, rfl⟩
    · go_enter Try.func33, Try.ntmps33
      go_wp2_with fail
      go_loop [14] (fun t => ∃ q : Nat, t = .int .i64 q ∧ q ≤ s.size ∧ Hid (∀ j, j < q → ∃ c, s.data.toList[j]? = some c ∧ 97 ≤ c.toNat ∧ c.toNat ≤ 122)) (fun t => s.size - (intOf t).toNat)
      case atStart => exact ⟨0, rfl, by omega, Lib.hid (fun j hj => absurd hj (by omega))⟩
      case round =>
        obtain ⟨q, rfl, hq, hall⟩ := hrel
        by_cases hlt : (q : Int) < (s.size : Int)
        · have h : 0 ≤ (q : Int) ∧ (q : Int) < (s.size : Int) := ⟨by omega, hlt⟩
          have hlt' : q < s.size := by omega
          obtain ⟨c, hc⟩ : ∃ c : UInt8, s[q]'hlt' = c := ⟨_, rfl⟩
          have hcl : Hid (s.data.toList[q]? = some c) := Lib.hid (by rw [name_byte s q hlt', hc])
          by_cases h97 : 97 ≤ c.toNat
          · by_cases h122 : c.toNat ≤ 122
            · have e1 : ¬ (c.toNat : Int) < 97 := by omega
              have e2 : ¬ (122 : Int) < (c.toNat : Int) := by omega
              have hall' : Hid (∀ j, j < q + 1 → ∃ c, s.data.toList[j]? = some c ∧ 97 ≤ c.toNat ∧ c.toNat ≤ 122) := Lib.hid (fun j hj => by
                rcases Nat.lt_succ_iff_lt_or_eq.1 hj with h1 | h1
                · exact hall.out j h1
                · subst h1
                  exact ⟨c, hcl.out, h97, h122⟩)
              clear hall h97 h122
              go_wp2_with fail
              go_round
              case rel => exact ⟨q + 1, by go_num, by omega, hall'⟩
              case measure => simp [intOf]; omega
            · have e1 : ¬ (c.toNat : Int) < 97 := by omega
              have e2 : (122 : Int) < (c.toNat : Int) := by omega
              have hres := Lib.hid (nameL_no hcl.out (by omega))
              clear hall h97 h122
              go_wp2_with fail
              go_ret
              exact ⟨by rw [hres.out]; rfl, rfl⟩
          · have e1 : (c.toNat : Int) < 97 := by omega
            have hres := Lib.hid (nameL_no hcl.out (by omega))
            clear hall h97
            go_wp2_with fail
            go_ret
            exact ⟨by rw [hres.out]; rfl, rfl⟩
        · have hqs : q = s.data.toList.length := by rw [name_size]; omega
          have hres := Lib.hid (nameL_len (l := s.data.toList) (by rw [← hqs]; exact hall.out))
          rw [name_size] at hres
          clear hall hqs
          rw [decide_eq_true (by omega : 1 ≤ s.size), decide_eq_true (by omega : s.size ≤ 8)] at hres
          go_wp2_with fail
          go_ret
          exact ⟨by rw [hres.out]; rfl, rfl⟩

end Go.Proofs.Ytmfcnlolfhkeeaa
