/- The laws' helpers of layer 4: may, awake. -/
import Derived.Test.YtkikoniihmieiaaHullB
import Derived.Test.YtkikoniihmieiaaHullRef
import Derived.Test.YtkikoniihmieiaaMatRefH
namespace Go.Proofs.Ytkikoniihmieiaa
open Go.RowKit
set_option linter.unusedVariables false

set_option maxHeartbeats 1000000 in
theorem law4_may (N : Int) (A : Option Addr) (n c : Nat) (xss : List (List Nat)) (w : World) (hr : RowsAt w A n xss) (hn : n ≤ 9223372036854775807) (hl : ∀ (k : Nat) (xs : List Nat), xss[k]? = some xs → xs.length ≤ 9223372036854775807) :
    Calls Try.prog 28 #[.agg #[.int .i64 N, .slice A n c]] w (RetB (smallM xss 16 && rightM N xss) w) := by
  have hlen := hr.len
  obtain ⟨W0, hW0⟩ : ∃ W0, W0 = w.alloc (.cells #[.int .i64 N, .slice A n c] 24) := ⟨_, rfl⟩
  have ha : Below w.heap.size w W0 := by rw [hW0]; exact below_alloc _ _
  have k1 := Lib.hid (show MatK W0 w.heap.size 24 N A n c xss by rw [hW0]; exact MatK.new w _ hr)
  have hS := Lib.hid (ref3_Small N A n c xss 16 W0 k1.out.2 hn hl (by omega))
  have bb := Lib.hid ha
  clear ha hr
  have qk10 := k1.out.1.c0
  have qk11 := k1.out.1.c1
  go_enter Try.func28, Try.ntmps28
  go_wp2_with fail
  rw [← hW0]
  clear hW0
  go_wp2_with fail
  refine hS.out.mono ?_; rintro e w1 ⟨rfl, b⟩
  replace k1 := Lib.hid (k1.out.below b)
  replace qk10 := k1.out.1.c0
  replace qk11 := k1.out.1.c1
  replace bb := Lib.hid (below_trans2 bb.out b)
  clear b
  clear hS
  cases hs : smallM xss 16 with
  | false =>
    replace hs := Lib.hid hs
    go_wp2_with fail
    go_ret
    rw [hs.out]
    exact ⟨rfl, bb.out⟩
  | true =>
    obtain ⟨s1, s2⟩ := smallM_len hs
    have hR := Lib.hid (ref3_Right N A n c xss w1 k1.out.2 (by omega) (fun k xs hx => by have := s2 xs (List.mem_of_getElem? hx); omega))
    clear s1 s2 hlen
    go_wp2_with fail
    refine hR.out.mono ?_; rintro e w2 ⟨rfl, b⟩
    replace k1 := Lib.hid (k1.out.below b)
    replace qk10 := k1.out.1.c0
    replace qk11 := k1.out.1.c1
    replace bb := Lib.hid (below_trans2 bb.out b)
    clear b
    clear hR
    replace hs := Lib.hid hs
    go_wp2_with fail
    go_ret
    rw [hs.out]
    exact ⟨rfl, bb.out⟩
theorem awake4_of : ofN 3 [(0, 1), (1, 2)] = 3 ∧ ofM 3 [(0, 1), (1, 2)] = [[2], [4], [0]] ∧ ofE 3 [(0, 1), (1, 2)] = 0 := by decide
theorem awake4_close : closeK [[2], [4], [0]] 3 = [[6], [4], [0]] := by decide
theorem awake4_has : hasM [[6], [4], [0]] ((0 : Nat) : Int) ((2 : Nat) : Int) = true := by decide
theorem awake4_closed : closedB [[6], [4], [0]] = true := by decide
theorem awake4_open : closedB [[2], [4], [0]] = false := by decide
theorem awake4_right : rightM 3 [[2], [4], [0]] = true ∧ rightM 3 [[6], [4], [0]] = true := by decide
theorem awake4_good : Good 3 [[2], [4], [0]] ∧ Good 3 [[6], [4], [0]] := by
  refine ⟨?_, ?_⟩
  · obtain ⟨n, h1, h2⟩ := Good.of awake4_right.1 (by intro r hr; simp at hr; rcases hr with rfl | rfl | rfl <;> (intro x hx; simp at hx; omega))
    obtain rfl : n = 3 := by omega
    exact h2
  · obtain ⟨n, h1, h2⟩ := Good.of awake4_right.2 (by intro r hr; simp at hr; rcases hr with rfl | rfl | rfl <;> (intro x hx; simp at hx; omega))
    obtain rfl : n = 3 := by omega
    exact h2
theorem awake4_loop {r : Int} {b : Bool} (h : LoopIs 3 [[6], [4], [0]] r b) : b = false := by
  rcases h with ⟨_, i, _, hi, h1, _⟩ | ⟨h1, _⟩
  · unfold Rel at h1
    match i, hi, h1 with
    | 0, _, h1 => exact absurd h1 (by decide)
    | 1, _, h1 => exact absurd h1 (by decide)
    | 2, _, h1 => exact absurd h1 (by decide)
  · exact h1
set_option maxHeartbeats 2000000 in
theorem law4_awake (w : World) : Calls Try.prog 29 #[] w (RetB true w) := by
  obtain ⟨W0, hW0⟩ : ∃ W0, W0 = w.alloc (.cells #[.int .i64 0, .int .i64 1, .int .i64 1, .int .i64 2] 55) := ⟨_, rfl⟩
  have bb := Lib.hid (show Below w.heap.size w W0 by rw [hW0]; exact below_alloc _ _)
  have hP : PairsAt W0 (some ⟨w.heap.size, 0, none⟩) 2 [(0, 1), (1, 2)] := by
    refine ⟨rfl, by simp, fun _ => ⟨_, _, rfl, by rw [hW0]; simp, fun j p hj => ?_⟩⟩
    have hB : Blk W0 w.heap.size 55 [.int .i64 0, .int .i64 1, .int .i64 1, .int .i64 2] := by rw [hW0]; exact Blk.new w _ _
    match j, hj with
    | 0, hj => simp at hj; subst hj; exact ⟨hB.cell 0, hB.cell 1⟩
    | 1, hj => simp at hj; subst hj; exact ⟨hB.cell 2, hB.cell 3⟩
    | j + 2, hj => simp at hj
  have hO := ref3_Of 3 _ 2 2 _ W0 hP (by omega)
  rw [awake4_of.1, awake4_of.2.1, awake4_of.2.2] at hO
  replace hO := Lib.hid hO
  clear hP
  have cC := Lib.hid (fun A c W hW => by
    have h := hull_Close A 3 c _ W hW awake4_good.1
    rw [awake4_close] at h
    exact h)
  have cL := Lib.hid (fun A c W hW => hull_Loop A 3 c _ W hW (by omega) (fun xs hx => by have := awake4_good.2.small xs hx; omega))
  have cA := Lib.hid (fun A c W => hull_Add_no A 3 c 3 0 W (by omega) (by decide) (by omega) (by omega) (by omega) (by omega))
  have cH := Lib.hid (fun A c W hW => by
    have h := ref3_HasG A 3 c _ awake4_good.2 ((0 : Nat) : Int) ((2 : Nat) : Int) W hW
    rw [awake4_has] at h
    exact h)
  have cD := Lib.hid (fun A c W hW => by
    have h := hull_Closed A 3 c _ W hW awake4_good.2
    rw [awake4_closed] at h
    exact h)
  have cE := Lib.hid (fun A c W hW => by
    have h := hull_Closed A 3 c _ W hW awake4_good.1
    rw [awake4_open] at h
    exact h)
  go_enter Try.func29, Try.ntmps29
  go_wp2_with fail
  rw [← hW0]
  clear hW0
  refine hO.out.mono ?_; rintro e w1 ⟨A1, n1, c1, rfl, r1, _, b⟩
  obtain rfl : n1 = 3 := by have := r1.len; simpa using this.symm
  clear hO
  obtain ⟨W1, hW1⟩ : ∃ W, W = w1.alloc (.cells #[.int .i64 3, .slice A1 3 c1] 24) := ⟨_, rfl⟩
  obtain ⟨G1, hG1⟩ : ∃ G, G = w1.heap.size := ⟨_, rfl⟩
  have ba : Below w1.heap.size w1 W1 := by rw [hW1]; exact below_alloc _ _
  have k1 := Lib.hid (show MatK W1 G1 24 3 A1 3 c1 [[2],[4],[0]] from ⟨by rw [hW1, hG1]; exact MatB.new _ _, r1.below ba⟩)
  replace b := below_trans2 b ba
  clear ba r1
  replace bb := Lib.hid (below_trans2 bb.out b)
  clear b
  go_wp2_with fail
  rw [← hW1, ← hG1]
  clear hW1 hG1
  have qk10 := k1.out.1.c0
  have qk11 := k1.out.1.c1
  refine (cC.out A1 c1 W1 k1.out.2).mono ?_; rintro e w2 ⟨A2, n2, c2, rfl, r2, _, b⟩
  obtain rfl : n2 = 3 := by have := r2.len; simpa using this.symm
  obtain ⟨W2, hW2⟩ : ∃ W, W = w2.alloc (.cells #[.int .i64 3, .slice A2 3 c2] 24) := ⟨_, rfl⟩
  obtain ⟨G2, hG2⟩ : ∃ G, G = w2.heap.size := ⟨_, rfl⟩
  have ba : Below w2.heap.size w2 W2 := by rw [hW2]; exact below_alloc _ _
  have k2 := Lib.hid (show MatK W2 G2 24 3 A2 3 c2 [[6],[4],[0]] from ⟨by rw [hW2, hG2]; exact MatB.new _ _, r2.below ba⟩)
  replace b := below_trans2 b ba
  clear ba r2
  replace k1 := Lib.hid (k1.out.below b)
  replace qk10 := k1.out.1.c0
  replace qk11 := k1.out.1.c1
  replace bb := Lib.hid (below_trans2 bb.out b)
  clear b
  rw [hW2] at qk10 qk11
  go_wp2_with fail
  rw [← hW2, ← hG2]
  rw [← hW2] at qk10 qk11
  clear hW2 hG2
  have qk20 := k2.out.1.c0
  have qk21 := k2.out.1.c1
  refine (cL.out A2 c2 W2 k2.out.2).mono ?_; rintro e w3 ⟨lr, lb, rfl, hlp, b⟩
  obtain rfl := awake4_loop hlp
  clear hlp
  replace k1 := Lib.hid (k1.out.below b)
  replace qk10 := k1.out.1.c0
  replace qk11 := k1.out.1.c1
  replace k2 := Lib.hid (k2.out.below b)
  replace qk20 := k2.out.1.c0
  replace qk21 := k2.out.1.c1
  replace bb := Lib.hid (below_trans2 bb.out b)
  clear b
  go_wp2_with fail
  refine (cA.out A2 c2 w3).mono ?_; rintro e w4 ⟨A4, n4, c4, rfl, r4, _, b⟩
  obtain ⟨W4, hW4⟩ : ∃ W, W = w4.alloc (.cells #[.int .i64 0, .slice A4 n4 c4] 24) := ⟨_, rfl⟩
  obtain ⟨G4, hG4⟩ : ∃ G, G = w4.heap.size := ⟨_, rfl⟩
  have ba : Below w4.heap.size w4 W4 := by rw [hW4]; exact below_alloc _ _
  have k4 := Lib.hid (show MatK W4 G4 24 0 A4 n4 c4 [] from ⟨by rw [hW4, hG4]; exact MatB.new _ _, r4.below ba⟩)
  replace b := below_trans2 b ba
  clear ba r4
  replace k1 := Lib.hid (k1.out.below b)
  replace qk10 := k1.out.1.c0
  replace qk11 := k1.out.1.c1
  replace k2 := Lib.hid (k2.out.below b)
  replace qk20 := k2.out.1.c0
  replace qk21 := k2.out.1.c1
  replace bb := Lib.hid (below_trans2 bb.out b)
  clear b
  rw [hW4] at qk10 qk11 qk20 qk21
  go_wp2_with fail
  rw [← hW4, ← hG4]
  rw [← hW4] at qk10 qk11 qk20 qk21
  clear hW4 hG4
  have qk40 := k4.out.1.c0
  have qk41 := k4.out.1.c1
  refine (cH.out A2 c2 W4 k2.out.2).mono ?_; rintro e w5 ⟨rfl, b⟩
  replace k1 := Lib.hid (k1.out.below b)
  replace qk10 := k1.out.1.c0
  replace qk11 := k1.out.1.c1
  replace k2 := Lib.hid (k2.out.below b)
  replace qk20 := k2.out.1.c0
  replace qk21 := k2.out.1.c1
  replace bb := Lib.hid (below_trans2 bb.out b)
  clear b
  clear k4 qk40 qk41
  go_wp2_with fail
  refine (cD.out A2 c2 w5 k2.out.2).mono ?_; rintro e w6 ⟨rfl, b⟩
  replace k1 := Lib.hid (k1.out.below b)
  replace qk10 := k1.out.1.c0
  replace qk11 := k1.out.1.c1
  replace k2 := Lib.hid (k2.out.below b)
  replace qk20 := k2.out.1.c0
  replace qk21 := k2.out.1.c1
  replace bb := Lib.hid (below_trans2 bb.out b)
  clear b
  go_wp2_with fail
  refine (cE.out A1 c1 w6 k1.out.2).mono ?_; rintro e w7 ⟨rfl, b⟩
  replace k1 := Lib.hid (k1.out.below b)
  replace qk10 := k1.out.1.c0
  replace qk11 := k1.out.1.c1
  replace k2 := Lib.hid (k2.out.below b)
  replace qk20 := k2.out.1.c0
  replace qk21 := k2.out.1.c1
  replace bb := Lib.hid (below_trans2 bb.out b)
  clear b
  go_wp2_with fail
  go_ret
  exact ⟨rfl, bb.out⟩

end Go.Proofs.Ytkikoniihmieiaa
