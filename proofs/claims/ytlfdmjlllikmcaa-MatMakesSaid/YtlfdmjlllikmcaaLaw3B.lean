/- The law MatMakes. -/
import Derived.Test.YtlfdmjlllikmcaaLaw3A
namespace Go.Proofs.Ytlfdmjlllikmcaa
open Go.RowKit
set_option linter.unusedVariables false

theorem equalM_self (N : Int) (xss : List (List Nat)) : equalM N N xss xss = true := by simp [equalM, sameM]
theorem of_in {n : Int} {ps : List (Int × Int)} (h : ofOk n ps = true) : 0 ≤ n ∧ n < 4097 := by
  unfold ofOk at h
  have := (Bool.and_eq_true _ _ ▸ h).1
  by_cases h2 : 0 ≤ n ∧ n < 4097
  · exact h2
  · rw [belowZ_no (i := n) (n := 4097) (by omega)] at this; cases this
theorem of_rows (n : Int) (ps : List (Int × Int)) : (ofM n ps).length ≤ 4096 ∧ ∀ (i : Nat) (xs : List Nat), (ofM n ps)[i]? = some xs → xs.length ≤ 1073741824 := by
  unfold ofM
  by_cases h : ofOk n ps = true
  · have hin := of_in h
    rw [if_pos h]
    have hd := DimM.fold n.toNat ps
    refine ⟨by have := hd.1; omega, fun i xs hx => ?_⟩
    have := hd.2 i xs hx
    have h4 : n.toNat ≤ 4096 := by omega
    have := words_le h4
    omega
  · rw [if_neg h]; exact ⟨by simp, fun i xs hx => by simp at hx⟩
theorem of_nil_in {n : Int} (h : 0 ≤ n ∧ n ≤ 4096) : ofN n [] = n ∧ ofM n [] = newM n.toNat ∧ ofE n [] = 0 := by
  have h0 : ofOk n [] = true := by unfold ofOk; rw [belowZ_yes (by omega) (by omega)]; rfl
  unfold ofN ofM ofE; rw [h0]; simp [foldP_nil]
theorem of_nil_out {n : Int} (h : ¬ (0 ≤ n ∧ n ≤ 4096)) : ofN n [] = 0 ∧ ofM n [] = [] ∧ ofE n [] = 1 := by
  have h0 : ofOk n [] = false := by unfold ofOk; rw [belowZ_no (i := n) (n := 4097) (by omega)]; rfl
  unfold ofN ofM ofE; rw [h0]; simp

theorem mat_New_all (n : Int) (w : World) : Calls Try.prog 27 #[.int .i64 n] w (RetMat (ofN n []) (ofM n []) (ofE n []) w) := by
  by_cases h : 0 ≤ n ∧ n ≤ 4096
  · rw [(of_nil_in h).1, (of_nil_in h).2.1, (of_nil_in h).2.2]
    obtain ⟨k, rfl⟩ := Int.eq_ofNat_of_zero_le h.1
    exact (mat_New k (by omega) w).mono fun _ _ h => RetMatO.ret h
  · rw [(of_nil_out h).1, (of_nil_out h).2.1, (of_nil_out h).2.2]
    exact mat_New_no n (by omega) w
theorem ref3_New_all (n : Int) (w : World) : Calls Try.prog 30 #[.int .i64 n] w (RetMat (ofN n []) (ofM n []) (ofE n []) w) := by
  by_cases h : 0 ≤ n ∧ n ≤ 4096
  · rw [(of_nil_in h).1, (of_nil_in h).2.1, (of_nil_in h).2.2]
    obtain ⟨k, rfl⟩ := Int.eq_ofNat_of_zero_le h.1
    exact ref3_New k (by omega) w
  · rw [(of_nil_out h).1, (of_nil_out h).2.1, (of_nil_out h).2.2]
    exact ref3_New_no n (by omega) w

set_option maxHeartbeats 1000000 in
theorem law_MatMakes_big (n : Int) (A : Option Addr) (m c : Nat) (w : World) (h : 70 < n ∨ 60 < m) (hm : m ≤ 9223372036854775807) (h1 : -9223372036854775808 ≤ n) (h2 : n < 9223372036854775808) :
    Calls Try.prog 4 #[.int .i64 n, .slice A m c] w (RetB true w) := by
  have hN := Lib.hid (mat_New_all n)
  have hcase : (0 ≤ n ∧ n ≤ 4096 ∧ 70 < n) ∨ (0 ≤ n ∧ n ≤ 4096 ∧ ¬ 70 < n ∧ 60 < (m : Int)) ∨ (n < 0 ∧ ¬ 70 < n ∧ 60 < (m : Int)) ∨ (4096 < n ∧ 70 < n) := by omega
  clear h
  rcases hcase with ⟨k0, k1, k2⟩ | ⟨k0, k1, k2, k3⟩ | ⟨k0, k1, k2⟩ | ⟨k0, k1⟩
  · have hv : Hid (ofN n [] = n ∧ ofE n [] = 0) := Lib.hid ⟨(of_nil_in ⟨k0, k1⟩).1, (of_nil_in ⟨k0, k1⟩).2.2⟩
    go_enter Try.func4, Try.ntmps4
    go_wp2_with fail
    refine (hN.out _).mono ?_; rintro e w1 ⟨A1, n1, c1, rfl, _, _, hb1⟩
    rw [hv.out.1, hv.out.2]
    obtain ⟨W2, hW2⟩ : ∃ W2, W2 = w1.alloc (.cells #[.int .i64 n, .slice A1 n1 c1] 24) := ⟨_, rfl⟩
    have hb2 : Below w1.heap.size w1 W2 := by rw [hW2]; exact (Below.refl _ _).alloc (Nat.le_refl _) _
    have hbb := Lib.hid (below_trans2 hb1 hb2)
    clear hb1 hb2
    go_wp2_with fail
    rw [← hW2]
    clear hW2
    refine (law3_awake W2).mono ?_; rintro e w3 ⟨rfl, hb3⟩
    have hb4 := below_trans2 hbb.out hb3
    clear hb3
    go_wp2_with fail
    go_ret
    exact ⟨rfl, hb4⟩
  · have hv : Hid (ofN n [] = n ∧ ofE n [] = 0) := Lib.hid ⟨(of_nil_in ⟨k0, k1⟩).1, (of_nil_in ⟨k0, k1⟩).2.2⟩
    go_enter Try.func4, Try.ntmps4
    go_wp2_with fail
    refine (hN.out _).mono ?_; rintro e w1 ⟨A1, n1, c1, rfl, _, _, hb1⟩
    rw [hv.out.1, hv.out.2]
    obtain ⟨W2, hW2⟩ : ∃ W2, W2 = w1.alloc (.cells #[.int .i64 n, .slice A1 n1 c1] 24) := ⟨_, rfl⟩
    have hb2 : Below w1.heap.size w1 W2 := by rw [hW2]; exact (Below.refl _ _).alloc (Nat.le_refl _) _
    have hbb := Lib.hid (below_trans2 hb1 hb2)
    clear hb1 hb2
    go_wp2_with fail
    rw [← hW2]
    clear hW2
    refine (law3_awake W2).mono ?_; rintro e w3 ⟨rfl, hb3⟩
    have hb4 := below_trans2 hbb.out hb3
    clear hb3
    go_wp2_with fail
    go_ret
    exact ⟨rfl, hb4⟩
  · have hv : Hid (ofN n [] = 0 ∧ ofE n [] = 1) := Lib.hid ⟨(of_nil_out (n := n) (by omega)).1, (of_nil_out (n := n) (by omega)).2.2⟩
    have k4 : ¬ (0 ≤ n) := by omega
    go_enter Try.func4, Try.ntmps4
    go_wp2_with fail
    refine (hN.out _).mono ?_; rintro e w1 ⟨A1, n1, c1, rfl, _, _, hb1⟩
    rw [hv.out.1, hv.out.2]
    obtain ⟨W2, hW2⟩ : ∃ W2, W2 = w1.alloc (.cells #[.int .i64 0, .slice A1 n1 c1] 24) := ⟨_, rfl⟩
    have hb2 : Below w1.heap.size w1 W2 := by rw [hW2]; exact (Below.refl _ _).alloc (Nat.le_refl _) _
    have hbb := Lib.hid (below_trans2 hb1 hb2)
    clear hb1 hb2
    go_wp2_with fail
    rw [← hW2]
    clear hW2
    refine (law3_awake W2).mono ?_; rintro e w3 ⟨rfl, hb3⟩
    have hb4 := below_trans2 hbb.out hb3
    clear hb3
    go_wp2_with fail
    go_ret
    exact ⟨rfl, hb4⟩
  · have hv : Hid (ofN n [] = 0 ∧ ofE n [] = 1) := Lib.hid ⟨(of_nil_out (n := n) (by omega)).1, (of_nil_out (n := n) (by omega)).2.2⟩
    have k4 : 0 ≤ n := by omega
    go_enter Try.func4, Try.ntmps4
    go_wp2_with fail
    refine (hN.out _).mono ?_; rintro e w1 ⟨A1, n1, c1, rfl, _, _, hb1⟩
    rw [hv.out.1, hv.out.2]
    obtain ⟨W2, hW2⟩ : ∃ W2, W2 = w1.alloc (.cells #[.int .i64 0, .slice A1 n1 c1] 24) := ⟨_, rfl⟩
    have hb2 : Below w1.heap.size w1 W2 := by rw [hW2]; exact (Below.refl _ _).alloc (Nat.le_refl _) _
    have hbb := Lib.hid (below_trans2 hb1 hb2)
    clear hb1 hb2
    go_wp2_with fail
    rw [← hW2]
    clear hW2
    refine (law3_awake W2).mono ?_; rintro e w3 ⟨rfl, hb3⟩
    have hb4 := below_trans2 hbb.out hb3
    clear hb3
    go_wp2_with fail
    rw [show decide (n ≤ 4096) = false from decide_eq_false (by omega)]
    go_ret
    exact ⟨rfl, hb4⟩
set_option maxHeartbeats 2000000 in
theorem law_MatMakes (n : Int) (A : Option Addr) (m c : Nat) (ps : List (Int × Int)) (w : World) (hp : PairsAt w A m ps) (hm : m ≤ 9223372036854775807) (h1 : -9223372036854775808 ≤ n) (h2 : n < 9223372036854775808) :
    Calls Try.prog 4 #[.int .i64 n, .slice A m c] w (RetB true w) := by
  by_cases h : 70 < n ∨ 60 < m
  · exact law_MatMakes_big n A m c w h hm h1 h2
  · have k1 : ¬ 70 < n := by omega
    have k2 : ¬ 60 < (m : Int) := by omega
    have hm2 : m ≤ 1073741824 := by omega
    clear h hm
    have hNa := Lib.hid (mat_New_all n)
    have hNb := Lib.hid (ref3_New_all n)
    have hOa := Lib.hid (fun W hW => mat_Of n A m c ps W hW hm2)
    have hOb := Lib.hid (fun W hW => ref3_Of n A m c ps W hW hm2)
    have hd1 := Lib.hid (of_rows n ps)
    have hd2 := Lib.hid (of_rows n [])
    replace hp := Lib.hid hp
    obtain ⟨N, hN⟩ : ∃ N, N = ofN n ps := ⟨_, rfl⟩
    obtain ⟨X, hX⟩ : ∃ X, X = ofM n ps := ⟨_, rfl⟩
    obtain ⟨E, hE⟩ : ∃ E, E = ofE n ps := ⟨_, rfl⟩
    obtain ⟨N', hN'⟩ : ∃ N, N = ofN n [] := ⟨_, rfl⟩
    obtain ⟨X', hX'⟩ : ∃ X, X = ofM n [] := ⟨_, rfl⟩
    obtain ⟨E', hE'⟩ : ∃ E, E = ofE n [] := ⟨_, rfl⟩
    rw [← hN, ← hX, ← hE] at hOa hOb
    rw [← hN', ← hX', ← hE'] at hNa hNb
    rw [← hX] at hd1
    rw [← hX'] at hd2
    clear hN hX hE hN' hX' hE'
    go_enter Try.func4, Try.ntmps4
    go_wp2_with fail
    refine (hOa.out _ hp.out).mono ?_; rintro e w1 ⟨A1, n1, c1, rfl, r1, _, b1⟩
    have z1 : n1 ≤ 1073741824 := by have := r1.len; have := hd1.out.1; omega
    obtain ⟨W1, hW1⟩ : ∃ W, W = w1.alloc (.cells #[.int .i64 N, .slice A1 n1 c1] 24) := ⟨_, rfl⟩
    have ba : Below w1.heap.size w1 W1 := by rw [hW1]; exact (Below.refl _ _).alloc (Nat.le_refl _) _
    have l1 : MatB W1 w1.heap.size 24 N A1 n1 c1 := by rw [hW1]; exact MatB.new w1 _
    obtain ⟨G1, hG1⟩ : ∃ G, G = w1.heap.size := ⟨_, rfl⟩
    rw [← hG1] at l1
    replace r1 := Lib.hid (r1.below ba)
    replace hp := Lib.hid (hp.out.below (below_trans2 b1 ba))
    replace b1 := Lib.hid (below_trans2 b1 ba)
    replace l1 := Lib.hid l1
    clear ba hOa
    go_wp2_with fail
    rw [← hW1, ← hG1]
    clear hW1 hG1
    refine (hOb.out _ hp.out).mono ?_; rintro e w2 ⟨A2, n2, c2, rfl, r2, _, b2⟩
    have z2 : n2 ≤ 1073741824 := by have := r2.len; have := hd1.out.1; omega
    obtain ⟨W2, hW2⟩ : ∃ W, W = w2.alloc (.cells #[.int .i64 N, .slice A2 n2 c2] 24) := ⟨_, rfl⟩
    have ba : Below w2.heap.size w2 W2 := by rw [hW2]; exact (Below.refl _ _).alloc (Nat.le_refl _) _
    have l2 : MatB W2 w2.heap.size 24 N A2 n2 c2 := by rw [hW2]; exact MatB.new w2 _
    obtain ⟨G2, hG2⟩ : ∃ G, G = w2.heap.size := ⟨_, rfl⟩
    rw [← hG2] at l2
    have bx := below_trans2 b2 ba
    replace r2 := Lib.hid (r2.below ba)
    replace r1 := Lib.hid (r1.out.below bx)
    replace l1 := Lib.hid (MatB.below_ l1.out bx)
    replace b2 := Lib.hid (below_trans2 b1.out bx)
    replace l2 := Lib.hid l2
    clear ba hOb hp bx b1
    go_wp2_with fail
    rw [← hW2, ← hG2]
    clear hW2 hG2
    refine (hNa.out _).mono ?_; rintro e w3 ⟨A3, n3, c3, rfl, r3, _, b3⟩
    have z3 : n3 ≤ 1073741824 := by have := r3.len; have := hd2.out.1; omega
    obtain ⟨W3, hW3⟩ : ∃ W, W = w3.alloc (.cells #[.int .i64 N', .slice A3 n3 c3] 24) := ⟨_, rfl⟩
    have ba : Below w3.heap.size w3 W3 := by rw [hW3]; exact (Below.refl _ _).alloc (Nat.le_refl _) _
    have l3 : MatB W3 w3.heap.size 24 N' A3 n3 c3 := by rw [hW3]; exact MatB.new w3 _
    obtain ⟨G3, hG3⟩ : ∃ G, G = w3.heap.size := ⟨_, rfl⟩
    rw [← hG3] at l3
    have bx := below_trans2 b3 ba
    replace r3 := Lib.hid (r3.below ba)
    replace r1 := Lib.hid (r1.out.below bx)
    replace r2 := Lib.hid (r2.out.below bx)
    replace l1 := Lib.hid (MatB.below_ l1.out bx)
    replace l2 := Lib.hid (MatB.below_ l2.out bx)
    replace b3 := Lib.hid (below_trans2 b2.out bx)
    replace l3 := Lib.hid l3
    clear ba hNa bx b2
    go_wp2_with fail
    rw [← hW3, ← hG3]
    clear hW3 hG3
    refine (hNb.out _).mono ?_; rintro e w4 ⟨A4, n4, c4, rfl, r4, _, b4⟩
    have z4 : n4 ≤ 1073741824 := by have := r4.len; have := hd2.out.1; omega
    obtain ⟨W4, hW4⟩ : ∃ W, W = w4.alloc (.cells #[.int .i64 N', .slice A4 n4 c4] 24) := ⟨_, rfl⟩
    have ba : Below w4.heap.size w4 W4 := by rw [hW4]; exact (Below.refl _ _).alloc (Nat.le_refl _) _
    have l4 : MatB W4 w4.heap.size 24 N' A4 n4 c4 := by rw [hW4]; exact MatB.new w4 _
    obtain ⟨G4, hG4⟩ : ∃ G, G = w4.heap.size := ⟨_, rfl⟩
    rw [← hG4] at l4
    have bx := below_trans2 b4 ba
    replace r4 := r4.below ba
    replace r1 := r1.out.below bx
    replace r2 := r2.out.below bx
    replace r3 := r3.out.below bx
    replace l1 := MatB.below_ l1.out bx
    replace l2 := MatB.below_ l2.out bx
    replace l3 := MatB.below_ l3.out bx
    replace b4 := below_trans2 b3.out bx
    replace r1 := Lib.hid r1
    replace r2 := Lib.hid r2
    replace r3 := Lib.hid r3
    replace r4 := Lib.hid r4
    replace l1 := Lib.hid l1
    replace l2 := Lib.hid l2
    replace l3 := Lib.hid l3
    replace l4 := Lib.hid l4
    replace b4 := Lib.hid b4
    clear ba hNb bx b3
    go_wp2_with fail
    rw [← hW4, ← hG4]
    clear hW4 hG4
    refine (law3_awake W4).mono ?_; rintro e w5 ⟨rfl, b5⟩
    replace r1 := Lib.hid (r1.out.below b5)
    replace r2 := Lib.hid (r2.out.below b5)
    replace r3 := Lib.hid (r3.out.below b5)
    replace r4 := Lib.hid (r4.out.below b5)
    replace l1 := MatB.below_ l1.out b5
    replace l2 := MatB.below_ l2.out b5
    replace l3 := MatB.below_ l3.out b5
    replace l4 := MatB.below_ l4.out b5
    replace b5 := Lib.hid (below_trans2 b4.out b5)
    have q10 := l1.c0
    have q11 := l1.c1
    have q20 := l2.c0
    have q21 := l2.c1
    replace l3 := Lib.hid l3
    replace l4 := Lib.hid l4
    clear l1 l2 b4
    go_wp2_with fail
    refine (ref3_Equal N N _ _ _ _ _ _ _ _ _ r1.out r2.out z1 z2 hd1.out.2 hd1.out.2).mono ?_; rintro e w6 ⟨rfl, b6⟩
    rw [equalM_self]
    replace r3 := Lib.hid (r3.out.below b6)
    replace r4 := Lib.hid (r4.out.below b6)
    replace l3 := MatB.below_ l3.out b6
    replace l4 := MatB.below_ l4.out b6
    replace b6 := Lib.hid (below_trans2 b5.out b6)
    have q30 := l3.c0
    have q31 := l3.c1
    have q40 := l4.c0
    have q41 := l4.c1
    clear l3 l4 b5 q10 q11 q20 q21 r1 r2
    go_wp2_with fail
    refine (ref3_Equal N' N' _ _ _ _ _ _ _ _ _ r3.out r4.out z3 z4 hd2.out.2 hd2.out.2).mono ?_; rintro e w7 ⟨rfl, b7⟩
    rw [equalM_self]
    replace b7 := Lib.hid (below_trans2 b6.out b7)
    clear q30 q31 q40 q41 r3 r4 b6
    go_wp2_with fail
    go_ret
    exact ⟨rfl, b7.out⟩

end Go.Proofs.Ytlfdmjlllikmcaa
