/- The laws' helper 'awake' of layer 3. -/
import Derived.Test.YtkikoniihmieiaaMatRefH
namespace Go.Proofs.Ytkikoniihmieiaa
open Go.RowKit
set_option linter.unusedVariables false

theorem awake_of : ofN 2 [(0, 1)] = 2 ∧ ofM 2 [(0, 1)] = [[2], [0]] ∧ ofE 2 [(0, 1)] = 0 := by decide
theorem awake_has : hasM [[2], [0]] 0 1 = true := by decide
theorem awake_right : rightM 2 [[2], [0]] = true := by decide
set_option maxHeartbeats 1000000 in
theorem law3_awake (w : World) : Calls Try.prog 9 #[] w (RetB true w) := by
  obtain ⟨W0, hW0⟩ : ∃ W0, W0 = w.alloc (.cells #[.int .i64 0, .int .i64 1] 55) := ⟨_, rfl⟩
  have ha : Below w.heap.size w W0 := by rw [hW0]; exact (Below.refl _ _).alloc (Nat.le_refl _) _
  have hP : PairsAt W0 (some ⟨w.heap.size, 0, none⟩) 1 [(0, 1)] := by
    refine ⟨rfl, by simp, fun _ => ⟨_, _, rfl, by rw [hW0]; simp, fun j p hj => ?_⟩⟩
    have hB : Blk W0 w.heap.size 55 [.int .i64 0, .int .i64 1] := by rw [hW0]; exact Blk.new w _ _
    match j, hj with
    | 0, hj => simp at hj; subst hj; exact ⟨hB.cell 0, hB.cell 1⟩
    | j + 1, hj => simp at hj
  have hO := mat_Of 2 _ 1 1 _ W0 hP (by omega)
  rw [awake_of.1, awake_of.2.1, awake_of.2.2] at hO
  replace hO := Lib.hid hO
  replace ha := Lib.hid ha
  clear hP
  go_enter Try.func9, Try.ntmps9
  go_wp2_with fail
  rw [← hW0]
  clear hW0
  refine hO.out.mono ?_; rintro e w1 ⟨A, n, c, rfl, hr1, hcap1, hb1⟩
  have hn := hr1.len
  simp only [List.length_cons, List.length_nil, Nat.zero_add] at hn
  obtain rfl : n = 2 := by omega
  clear hn
  obtain ⟨W2, hW2⟩ : ∃ W2, W2 = w1.alloc (.cells #[.int .i64 2, .slice A 2 c] 24) := ⟨_, rfl⟩
  have hb2 : Below w1.heap.size w1 W2 := by rw [hW2]; exact (Below.refl _ _).alloc (Nat.le_refl _) _
  have hL : MatB W2 w1.heap.size 24 2 A 2 c := by rw [hW2]; exact MatB.new w1 _
  have hbb := Lib.hid (below_trans2 (below_trans2 ha.out hb1) hb2)
  have hr2 := Lib.hid (hr1.below hb2)
  replace hL := Lib.hid hL
  have q0 := hL.out.c0
  have q1 := hL.out.c1
  rw [hW2] at q0 q1
  clear hr1 hb1 hb2 hO
  have hsn := Lib.hid (mat_Set_no 2 A 2 c 2 0 W2 (by decide))
  go_wp2_with fail
  rw [← hW2]
  clear hW2
  refine hsn.out.mono ?_; rintro e w3 ⟨A3, n3, c3, rfl, hr3, hcap3, hb3⟩
  obtain ⟨W4, hW4⟩ : ∃ W4, W4 = w3.alloc (.cells #[.int .i64 0, .slice A3 n3 c3] 24) := ⟨_, rfl⟩
  have hb4 : Below w3.heap.size w3 W4 := by rw [hW4]; exact (Below.refl _ _).alloc (Nat.le_refl _) _
  have hb5 := below_trans2 hb3 hb4
  have hL4 := Lib.hid (MatB.below_ hL.out hb5)
  have hr4 := Lib.hid (hr2.out.below hb5)
  have hbb4 := Lib.hid (below_trans2 hbb.out hb5)
  obtain ⟨b, off, B0, m0, d0, xs0, e1, hbl, hx0, k0, hrow0⟩ := hr4.out.at_ (k := 0) (by omega)
  obtain ⟨b', off', B1, m1, d1, xs1, e2, _, hx1, k1, hrow1⟩ := hr4.out.at_ (k := 1) (by omega)
  rw [e1] at e2
  cases e2
  subst e1
  simp at hx0 hx1
  subst hx0 hx1
  obtain rfl : m0 = 1 := by have := hrow0.len; simpa using this.symm
  obtain rfl : m1 = 1 := by have := hrow1.len; simpa using this.symm
  obtain ⟨b0, off0, x0, rfl, _, hx0, _, v0⟩ := hrow0.at_ (k := 0) (by omega)
  obtain ⟨b1, off1, x1, rfl, _, hx1, _, v1⟩ := hrow1.at_ (k := 0) (by omega)
  simp at hx0 hx1
  subst hx0 hx1
  have q0 := hL4.out.c0
  have q1 := hL4.out.c1
  simp only [Nat.add_zero] at k0 k1 v0 v1
  rw [hW4] at q0 q1 k0 k1 v0 v1
  have hHas := Lib.hid (fun W hW => mat_Has 2 (some ⟨b, off, none⟩) 2 c [[2], [0]] 0 1 W hW (by omega) (by simp) (by omega) (by omega) (by omega) (by omega))
  have hRight := Lib.hid (fun W hW => mat_Right 2 (some ⟨b, off, none⟩) 2 c [[2], [0]] W hW (by omega) (by
    intro i xs h
    match i, h with
    | 0, h => simp at h; subst h; simp
    | 1, h => simp at h; subst h; simp
    | i + 2, h => simp at h))
  clear hr2 hL hbb hb5 hr3 hb3 hb4 hrow0 hrow1 hsn
  go_wp2_with fail
  rw [← hW4]
  clear hW4
  refine (hHas.out W4 hr4.out).mono ?_; rintro e w5 ⟨rfl, hb5⟩
  rw [awake_has]
  have hr5 := Lib.hid (hr4.out.below hb5)
  have hL5 := hL4.out.below_ hb5
  have q0 := hL5.c0
  have q1 := hL5.c1
  have hbb5 := Lib.hid (below_trans2 hbb4.out hb5)
  clear hL5 hL4 hb5 k0 k1 v0 v1
  go_wp2_with fail
  refine (hRight.out w5 hr5.out).mono ?_; rintro e w6 ⟨rfl, hb6⟩
  rw [awake_right]
  have hbb6 := below_trans2 hbb5.out hb6
  clear hb6
  go_wp2_with fail
  go_ret
  exact ⟨rfl, hbb6⟩

end Go.Proofs.Ytkikoniihmieiaa
