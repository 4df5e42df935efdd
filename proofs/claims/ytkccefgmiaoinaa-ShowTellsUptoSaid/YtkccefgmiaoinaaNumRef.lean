/- The contract of the document's own answer of layer 5: Span. -/
import Derived.Test.YtkccefgmiaoinaaProg
import Derived.Test.YtkccefgmiaoinaaNumMath
import Derived.Below
import Derived.Lib.Hide
namespace Go.Proofs.Ytkccefgmiaoinaa
open Go.RowKit
set_option linter.unusedVariables false

set_option maxRecDepth 100000 in
set_option maxHeartbeats 2000000 in
theorem ref5_Span (s : ByteArray) (i : Int) (w : World) (hs : s.size ≤ 1073741824) (i0 : -9223372036854775808 ≤ i) (i1 : i < 9223372036854775808) :
    Calls Try.prog 28 #[.string s, .int .i64 i] w fun e w' => e = .returned (.int .i64 (spanZ s i : Nat)) ∧ w = w' := by
  by_cases h0 : i < 0
  · have hz : Hid (spanZ s i = 0) := Lib.hid (by unfold spanZ; rw [if_neg (by omega)])
    go_enter Try.func28, Try.ntmps28
    go_wp2_with fail
    go_ret
    rw [hz.out]; exact ⟨rfl, rfl⟩
  by_cases h1 : (s.size : Int) ≤ i
  · have hz : Hid (spanZ s i = 0) := Lib.hid (by unfold spanZ; rw [if_pos (by omega), List.drop_eq_nil_of_le (by rw [size_list]; omega)]; rfl)
    go_enter Try.func28, Try.ntmps28
    go_wp2_with fail
    go_ret
    rw [hz.out]; exact ⟨rfl, rfl⟩
  have h : 0 ≤ i ∧ i < s.size := by omega
  clear h0 h1
  obtain ⟨b, hb⟩ : ∃ b : UInt8, s[i.toNat]'(by omega) = b := ⟨_, rfl⟩
  have hdrop : s.data.toList.drop i.toNat = b :: s.data.toList.drop (i.toNat + 1) := by
    have hl : i.toNat < s.data.toList.length := by rw [size_list]; omega
    have e : s.data.toList[i.toNat]'hl = b := by
      have := byte_at s i.toNat (by omega)
      rw [List.getElem?_eq_getElem hl, hb] at this
      injection this
    rw [List.drop_eq_getElem_cons hl, e]
  by_cases h45 : b.toNat = 45
  · have hz : Hid (spanZ s i = 1 + digsN (s.data.toList.drop (i.toNat + 1))) := Lib.hid (by
      unfold spanZ
      rw [if_pos h.1, hdrop]
      show (if b.toNat = 45 then _ else _) = _
      rw [if_pos h45])
    have e45 : ((b.toNat : Int) == 45) = true := by simp; omega
    clear hdrop h45
    go_enter Try.func28, Try.ntmps28
    go_wp2_with fail
    clear e45 hb
    -- st: 0 or 1
    go_loop [5] (fun t => ∃ q : Nat, t = .int .i64 ((q: Int) + 1) ∧ i + ((q: Int) + 1) ≤ s.size ∧ Hid (∀ j, j < q → ∃ c, (s.data.toList.drop (i.toNat + 1))[j]? = some c ∧ isD c = true)) (fun t => s.size - (intOf t).toNat)
    case atStart => exact ⟨0, rfl, by omega, Lib.hid (fun j hj => absurd hj (by omega))⟩
    case round =>
      obtain ⟨q, rfl, hq, hall⟩ := hrel
      by_cases hlt : i + ((q: Int) + 1) < s.size
      · have h : 0 ≤ i + ((q: Int) + 1) ∧ i + ((q: Int) + 1) < s.size := ⟨by omega, hlt⟩
        obtain ⟨c, hc⟩ : ∃ c : UInt8, s[(i + ((q: Int) + 1)).toNat]'(by omega) = c := ⟨_, rfl⟩
        have hcl : Hid ((s.data.toList.drop (i.toNat + 1))[q]? = some c) := Lib.hid (by
          rw [List.getElem?_drop, show i.toNat + 1 + q = (i + ((q: Int) + 1)).toNat from by omega, byte_at s _ (by omega), hc])
        by_cases h48 : 48 ≤ c.toNat
        · by_cases h57 : c.toNat ≤ 57
          · have e1 : (48 : Int) ≤ (c.toNat : Int) := by omega
            have e2 : (c.toNat : Int) ≤ 57 := by omega
            have hall' : Hid (∀ j, j < q + 1 → ∃ c, (s.data.toList.drop (i.toNat + 1))[j]? = some c ∧ isD c = true) := Lib.hid (fun j hj => by
              rcases Nat.lt_succ_iff_lt_or_eq.1 hj with h1 | h1
              · exact hall.out j h1
              · subst h1
                exact ⟨c, hcl.out, by unfold isD; simp [h48, h57]⟩)
            clear hall h48 h57
            go_wp2_with fail
            go_round
            case rel => exact ⟨q + 1, by go_num, by omega, hall'⟩
            case measure => simp [intOf]; omega
          · have e1 : (48 : Int) ≤ (c.toNat : Int) := by omega
            have e2 : ¬ (c.toNat : Int) ≤ 57 := by omega
            have hres : Hid (digsN (s.data.toList.drop (i.toNat + 1)) = q) := Lib.hid (takeWhile_len _ q hall.out (fun d hd => by
              rw [hcl.out] at hd
              injection hd with hd
              subst hd
              unfold isD; simp; omega))
            clear hall h48 h57
            go_wp2_with fail
            go_ret
            refine ⟨?_, rfl⟩
            rw [hz.out, hres.out, Nat.add_comm]; rfl
        · have e1 : ¬ (48 : Int) ≤ (c.toNat : Int) := by omega
          have hres : Hid (digsN (s.data.toList.drop (i.toNat + 1)) = q) := Lib.hid (takeWhile_len _ q hall.out (fun d hd => by
            rw [hcl.out] at hd
            injection hd with hd
            subst hd
            unfold isD; simp; omega))
          clear hall h48
          go_wp2_with fail
          go_ret
          refine ⟨?_, rfl⟩
          rw [hz.out, hres.out, Nat.add_comm]; rfl
      · have hres : Hid (digsN (s.data.toList.drop (i.toNat + 1)) = q) := Lib.hid (takeWhile_len _ q hall.out (fun d hd => by
          have := (List.getElem?_eq_some_iff.1 hd).1
          rw [List.length_drop, size_list] at this
          omega))
        clear hall
        go_wp2_with fail
        go_ret
        refine ⟨?_, rfl⟩
        rw [hz.out, hres.out, Nat.add_comm]; rfl
  · have hz : Hid (spanZ s i = digsN (s.data.toList.drop (i.toNat + 0))) := Lib.hid (by
      unfold spanZ
      rw [if_pos h.1, Nat.add_zero, hdrop]
      show (if b.toNat = 45 then _ else _) = _
      rw [if_neg h45])
    have e45 : ((b.toNat : Int) == 45) = false := by simp; omega
    clear hdrop h45
    go_enter Try.func28, Try.ntmps28
    go_wp2_with fail
    clear e45 hb
    -- st: 0 or 1
    go_loop [5] (fun t => ∃ q : Nat, t = .int .i64 (q: Int) ∧ i + (q: Int) ≤ s.size ∧ Hid (∀ j, j < q → ∃ c, (s.data.toList.drop (i.toNat + 0))[j]? = some c ∧ isD c = true)) (fun t => s.size - (intOf t).toNat)
    case atStart => exact ⟨0, rfl, by omega, Lib.hid (fun j hj => absurd hj (by omega))⟩
    case round =>
      obtain ⟨q, rfl, hq, hall⟩ := hrel
      by_cases hlt : i + (q: Int) < s.size
      · have h : 0 ≤ i + (q: Int) ∧ i + (q: Int) < s.size := ⟨by omega, hlt⟩
        obtain ⟨c, hc⟩ : ∃ c : UInt8, s[(i + (q: Int)).toNat]'(by omega) = c := ⟨_, rfl⟩
        have hcl : Hid ((s.data.toList.drop (i.toNat + 0))[q]? = some c) := Lib.hid (by
          rw [List.getElem?_drop, show i.toNat + 0 + q = (i + (q: Int)).toNat from by omega, byte_at s _ (by omega), hc])
        by_cases h48 : 48 ≤ c.toNat
        · by_cases h57 : c.toNat ≤ 57
          · have e1 : (48 : Int) ≤ (c.toNat : Int) := by omega
            have e2 : (c.toNat : Int) ≤ 57 := by omega
            have hall' : Hid (∀ j, j < q + 1 → ∃ c, (s.data.toList.drop (i.toNat + 0))[j]? = some c ∧ isD c = true) := Lib.hid (fun j hj => by
              rcases Nat.lt_succ_iff_lt_or_eq.1 hj with h1 | h1
              · exact hall.out j h1
              · subst h1
                exact ⟨c, hcl.out, by unfold isD; simp [h48, h57]⟩)
            clear hall h48 h57
            go_wp2_with fail
            go_round
            case rel => exact ⟨q + 1, by go_num, by omega, hall'⟩
            case measure => simp [intOf]; omega
          · have e1 : (48 : Int) ≤ (c.toNat : Int) := by omega
            have e2 : ¬ (c.toNat : Int) ≤ 57 := by omega
            have hres : Hid (digsN (s.data.toList.drop (i.toNat + 0)) = q) := Lib.hid (takeWhile_len _ q hall.out (fun d hd => by
              rw [hcl.out] at hd
              injection hd with hd
              subst hd
              unfold isD; simp; omega))
            clear hall h48 h57
            go_wp2_with fail
            go_ret
            refine ⟨?_, rfl⟩
            rw [hz.out, hres.out]; rfl
        · have e1 : ¬ (48 : Int) ≤ (c.toNat : Int) := by omega
          have hres : Hid (digsN (s.data.toList.drop (i.toNat + 0)) = q) := Lib.hid (takeWhile_len _ q hall.out (fun d hd => by
            rw [hcl.out] at hd
            injection hd with hd
            subst hd
            unfold isD; simp; omega))
          clear hall h48
          go_wp2_with fail
          go_ret
          refine ⟨?_, rfl⟩
          rw [hz.out, hres.out]; rfl
      · have hres : Hid (digsN (s.data.toList.drop (i.toNat + 0)) = q) := Lib.hid (takeWhile_len _ q hall.out (fun d hd => by
          have := (List.getElem?_eq_some_iff.1 hd).1
          rw [List.length_drop, size_list] at this
          omega))
        clear hall
        go_wp2_with fail
        go_ret
        refine ⟨?_, rfl⟩
        rw [hz.out, hres.out]; rfl

end Go.Proofs.Ytkccefgmiaoinaa
