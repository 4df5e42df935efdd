/- The contracts of slices.Equal at the parts of facts, and of the code's own Same. -/
import Derived.Test.YtcdfpodhiogpiaaInternRefC
import Derived.Test.YtcdfpodhiogpiaaHistA
namespace Go.Proofs.Ytcdfpodhiogpiaa
open Go.RowKit
set_option linter.unusedVariables false
theorem list_eq_at {α : Type} {s t : List α} (hl : s.length = t.length) (h : ∀ i, i < s.length → s[i]? = t[i]?) : s = t := by
  apply List.ext_getElem?
  intro i
  by_cases hi : i < s.length
  · exact h i hi
  · rw [List.getElem?_eq_none (by omega), List.getElem?_eq_none (by omega)]
set_option maxRecDepth 100000 in
set_option maxHeartbeats 2000000 in
theorem equal_int (A B : Option Addr) (n c m d : Nat) (s t : List Int) (w : World) (hX : LAt encI w A n s) (hY : LAt encI w B m t) (hn : n ≤ 9223372036854775807) (hm : m ≤ 9223372036854775807) :
    Calls Try.prog 26 #[.slice A n c, .slice B m d] w fun e w' => e = .returned (.bool (decide (s = t))) ∧ ∃ q, w' = w.drewN q := by
  have hXl := hX.len
  have hYl := hY.len
  by_cases hnm : n = m
  rotate_left
  · have hee : ((n : Int) != (m : Int)) = true := by simp; omega
    have hres : Hid (decide (s = t) = false) := Lib.hid (decide_eq_false (fun e => by subst e; omega))
    clear hnm hX hY
    replace hXl := Lib.hid hXl
    replace hYl := Lib.hid hYl
    go_enter Try.func26, Try.ntmps26
    go_wp2_with fail
    go_ret
    exact ⟨by rw [hres.out]; rfl, 0, rfl⟩
  subst hnm
  have hee : ((n : Int) != (n : Int)) = false := by simp
  replace hX := Lib.hid hX
  replace hY := Lib.hid hY
  replace hXl := Lib.hid hXl
  replace hYl := Lib.hid hYl
  go_enter Try.func26, Try.ntmps26
  go_wp2_with fail
  go_loopw [13] (fun t' wr => ∃ j q : Nat, j ≤ n ∧ t' = .int .i64 j ∧ Hid (∀ i, i < j → s[i]? = t[i]?) ∧ wr = w.drewN q) (fun t' _ => n - (intOf t').toNat)
  case atStart => exact ⟨0, 0, Nat.zero_le _, rfl, Lib.hid (fun i hi => absurd hi (by omega)), rfl⟩
  case round =>
    obtain ⟨j, q2, hj, rfl, hin, rfl⟩ := hrel
    by_cases hjl : j < n
    · have hjl' : (j : Int) < (n : Int) := by omega
      obtain ⟨b3, off3, x, rfl, hb3, hx, hok3, x0⟩ := hX.out.int hjl
      obtain ⟨b4, off4, y, rfl, hb4, hy, hok4, y0⟩ := hY.out.int hjl
      by_cases hxy : x = y
      · have e1 : (x == y) = true := by rw [hxy]; simp
        have e2 : (x != y) = false := by rw [hxy]; simp
        have hin' : Hid (∀ i, i < j + 1 → s[i]? = t[i]?) := Lib.hid (fun i hi => by
          rcases Nat.lt_succ_iff_lt_or_eq.1 hi with h1 | h1
          · exact hin.out i h1
          · subst h1; rw [hx, hy, hxy])
        clear hx hy hjl hxy
        go_wp2_with fail
        go_quiet (fail)
        go_wp2_with fail
        exact ⟨⟨j + 1, _, by omega, by go_num, hin', rfl⟩, by simp [intOf]; omega⟩
      · have hno : Hid (decide (s = t) = false) := Lib.hid (decide_eq_false (fun e => by subst e; rw [hx] at hy; injection hy with hy; exact hxy hy))
        have e1 : (x == y) = false := by simpa using hxy
        have e2 : (x != y) = true := by simpa using hxy
        clear hx hy hjl hxy
        go_wp2_with fail
        go_quiet (fail)
        go_wp2_with fail
        go_ret
        exact ⟨by rw [hno.out]; rfl, _, World.drewN_drewN _ _ _⟩
    · have hjn : j = n := by omega
      have hres := Lib.hid (decide_eq_true (list_eq_at (s := s) (t := t) (by rw [hXl.out, hYl.out]) (by rw [hXl.out, ← hjn]; exact hin.out)))
      have hlt' : ¬ (j : Int) < (n : Int) := by omega
      clear hin hjl hjn
      go_wp2_with fail
      go_ret
      exact ⟨by rw [hres.out]; rfl, _, rfl⟩
end Go.Proofs.Ytcdfpodhiogpiaa
