/- The law MatOne. -/
import Derived.Test.YtlfdmjlllikmcaaLaw3A
import Derived.Test.YtlfdmjlllikmcaaMatFacts
import Derived.Test.YtlfdmjlllikmcaaMatRefC
namespace Go.Proofs.Ytlfdmjlllikmcaa
open Go.RowKit
set_option linter.unusedVariables false

theorem sum_le : ∀ (l : List Nat) (B : Nat), (∀ x ∈ l, x ≤ B) → l.sum ≤ l.length * B
  | [], B, _ => by simp
  | x :: l, B, h => by
    have h1 := sum_le l B (fun y hy => h y (List.mem_cons_of_mem _ hy))
    have h2 := h x (List.mem_cons_self ..)
    simp only [List.sum_cons, List.length_cons, Nat.add_mul, Nat.one_mul]
    omega
theorem Good.pairs_le {n : Nat} {xss : List (List Nat)} (h : Good n xss) : (pairsM xss).length ≤ 16777216 := by
  rw [pairsM_len]
  have h1 := sum_le (xss.map countR) 4096 (fun x hx => by
    obtain ⟨r, hr, rfl⟩ := List.mem_map.1 hx
    have := countR_le r
    have := h.small r hr
    omega)
  rw [List.length_map, h.len] at h1
  have := h.le
  omega
theorem sameM_self (xss : List (List Nat)) : sameM xss xss = true := by simp [sameM]
theorem rem_nat (i : Int) (n : Nat) (hn : 0 < n) (i0 : 0 ≤ i) (i1 : i ≤ 255) : ∃ a : Nat, (IntKind.i64.wrap i).tmod (n : Int) = (a : Int) ∧ a < n := by
  have h : IntKind.i64.wrap i = i := by rw [IntKind.wrap_i64]; omega
  obtain ⟨k, rfl⟩ := Int.eq_ofNat_of_zero_le i0
  refine ⟨k % n, ?_, Nat.mod_lt _ hn⟩
  rw [h]
  exact (Int.ofNat_tmod k n).symm
set_option maxRecDepth 100000 in
set_option maxHeartbeats 16000000 in
theorem law_MatOne (N : Int) (A : Option Addr) (n c : Nat) (xss : List (List Nat)) (i j : Int) (w : World) (hr : RowsAt w A n xss) (hn : n ≤ 9223372036854775807) (hl : ∀ (k : Nat) (xs : List Nat), xss[k]? = some xs → xs.length ≤ 9223372036854775807)
    (i0 : 0 ≤ i) (i1 : i ≤ 255) (j0 : 0 ≤ j) (j1 : j ≤ 255) :
    Calls Try.prog 6 #[.agg #[.int .i64 N, .slice A n c], .int .u8 i, .int .u8 j] w (RetB true w) := by
  have hS := Lib.hid (fun W hW => ref3_Small N A n c xss 20 W hW hn hl (by omega))
  have hlen := hr.len
  have hw64 := hr.w64
  obtain ⟨W0, hW0⟩ : ∃ W0, W0 = w.alloc (.cells #[.int .i64 N, .slice A n c] 24) := ⟨_, rfl⟩
  have ha : Below w.heap.size w W0 := by rw [hW0]; exact (Below.refl _ _).alloc (Nat.le_refl _) _
  have hB : MatB W0 w.heap.size 24 N A n c := by rw [hW0]; exact MatB.new w _
  have hr0 := Lib.hid (hr.below ha)
  have q0 := hB.c0
  have q1 := hB.c1
  rw [hW0] at q0 q1
  replace ha := Lib.hid ha
  replace hB := Lib.hid hB
  clear hr
  cases hsm : smallM xss 20 with
  | false =>
    go_enter Try.func6, Try.ntmps6
    go_wp2_with fail
    rw [← hW0]
    refine (hS.out W0 hr0.out).mono ?_; rintro e w1 ⟨rfl, hb1⟩
    rw [hsm]
    have hbb := Lib.hid (below_trans2 ha.out hb1)
    clear hb1 q0 q1
    go_wp2_with fail
    refine (law3_awake w1).mono ?_; rintro e w2 ⟨rfl, hb2⟩
    have hb3 := below_trans2 hbb.out hb2
    clear hb2
    go_wp2_with fail
    go_ret
    exact ⟨rfl, hb3⟩
  | true =>
    obtain ⟨sm1, sm2⟩ := smallM_len hsm
    have hn20 : n ≤ 1073741824 := by omega
    have hR := Lib.hid (fun W hW => ref3_Right N A n c xss W hW hn20 (fun k xs hx => by have := sm2 xs (List.mem_of_getElem? hx); omega))
    cases hrt : rightM N xss with
    | false =>
      go_enter Try.func6, Try.ntmps6
      go_wp2_with fail
      rw [← hW0]
      refine (hS.out W0 hr0.out).mono ?_; rintro e w1 ⟨rfl, hb1⟩
      rw [hsm]
      have hB1 := hB.out.below_ hb1
      have q0 := hB1.c0
      have q1 := hB1.c1
      have hr1 := Lib.hid (hr0.out.below hb1)
      have hbb := Lib.hid (below_trans2 ha.out hb1)
      clear hb1 hB1
      go_wp2_with fail
      refine (hR.out w1 hr1.out).mono ?_; rintro e w2 ⟨rfl, hb2⟩
      rw [hrt]
      have hbb2 := Lib.hid (below_trans2 hbb.out hb2)
      clear hb2 q0 q1
      go_wp2_with fail
      refine (law3_awake w2).mono ?_; rintro e w3 ⟨rfl, hb3⟩
      have hb4 := below_trans2 hbb2.out hb3
      clear hb3
      go_wp2_with fail
      go_ret
      exact ⟨rfl, hb4⟩
    | true =>
      obtain ⟨p, rfl, hG⟩ := Good.of hrt hw64
      obtain rfl : n = p := by have := hG.len; omega
      by_cases hz : n = 0
      · have hz' := Lib.hid (show ((n : Int) == 0) = true by simp [hz])
        replace hz := Lib.hid hz
        go_enter Try.func6, Try.ntmps6
        go_wp2_with fail
        rw [← hW0]
        refine (hS.out W0 hr0.out).mono ?_; rintro e w1 ⟨rfl, hb1⟩
        rw [hsm]
        have hB1 := Lib.hid (hB.out.below_ hb1)
        have q0 := hB1.out.c0
        have q1 := hB1.out.c1
        have hr1 := Lib.hid (hr0.out.below hb1)
        have hbb := Lib.hid (below_trans2 ha.out hb1)
        clear hb1
        go_wp2_with fail
        refine (hR.out w1 hr1.out).mono ?_; rintro e w2 ⟨rfl, hb2⟩
        rw [hrt]
        have hB2 := hB1.out.below_ hb2
        have q0 := hB2.c0
        have q1 := hB2.c1
        have hbb2 := Lib.hid (below_trans2 hbb.out hb2)
        have hz2 := hz'.out
        clear hb2 hB2
        go_wp2_with fail
        refine (law3_awake w2).mono ?_; rintro e w3 ⟨rfl, hb3⟩
        have hb4 := below_trans2 hbb2.out hb3
        clear hb3 q0 q1
        go_wp2_with fail
        go_ret
        exact ⟨rfl, hb4⟩
      · have hz' : ¬ (n : Int) = 0 := by omega
        go_enter Try.func6, Try.ntmps6
        go_wp2_with fail
        rw [← hW0]
        refine (hS.out W0 hr0.out).mono ?_; rintro e w1 ⟨rfl, hb1⟩
        rw [hsm]
        have hB1 := Lib.hid (hB.out.below_ hb1)
        have q0 := hB1.out.c0
        have q1 := hB1.out.c1
        have hr1 := Lib.hid (hr0.out.below hb1)
        have hbb := Lib.hid (below_trans2 ha.out hb1)
        clear hb1
        go_wp2_with fail
        refine (hR.out w1 hr1.out).mono ?_; rintro e w2 ⟨rfl, hb2⟩
        rw [hrt]
        have hB2 := Lib.hid (hB1.out.below_ hb2)
        have q0 := hB2.out.c0
        have q1 := hB2.out.c1
        have hr2 := Lib.hid (hr1.out.below hb2)
        have hbb2 := Lib.hid (below_trans2 hbb.out hb2)
        clear hb2 hB1 hr1 hbb ha hr0 hB hS hR hW0
        go_wp2_with fail
        refine wp_region_plan 12 [(true, 0), (true, 1), (true, 2), (true, 3), (true, 4), (true, 5), (true, 6), (true, 7), (true, 8), (true, 9), (true, 10), (true, 11)] (by kernel_rfl) (by kernel_rfl) (fun W hW => ?_)
        have p0 : W.cell? ⟨w.heap.size, 0, none⟩ = some (.int .i64 n) := by rw [hW.out]; exact q0
        have p1 : W.cell? ⟨w.heap.size, 1, none⟩ = some (.slice A n c) := by rw [hW.out]; exact q1
        have hBW := Lib.hid (show MatB W w.heap.size 24 n A n c by rw [hW.out]; exact Blk.drew hB2.out)
        have hbW := Lib.hid (show Below w.heap.size w W by rw [hW.out]; exact hbb2.out.drew)
        have hrW := Lib.hid (show RowsAt W A n xss by rw [hW.out]; exact hr2.out)
        clear q0 q1 hB2 hbb2 hr2
        simp only [List.drop_succ_cons, List.drop_nil]
        iterate 12
          refine wpPlan_float (v := ?_) rfl (by rfl) (fun w' hw' => ?_) (fun K hK => ?_)
          rotate_left
          · (go_simp; try with_reducible rfl)
          go_simp
          refine hK _ ?_
          clear hK K
        obtain ⟨a, hae, ha⟩ := rem_nat i n (by omega) i0 i1
        obtain ⟨b, hbe, hb⟩ := rem_nat j n (by omega) j0 j1
        rw [hae, hbe]
        clear hae hbe i0 i1 j0 j1
        refine wpPlan_nil (NoPanic.normal ?_)
        have f_has := Lib.hid (set_has hG ha hb)
        have f_sub := Lib.hid (set_sub hG ha hb)
        have f_or := Lib.hid (set_or hG ha hb)
        have f_pairs := Lib.hid (set_pairs hG ha hb)
        have hG2 := hG.set ha hb
        have f_right := Lib.hid hG2.right
        have hsm1 : ∀ xs ∈ xss, xs.length ≤ 64 := hG.small
        have hsm2 : ∀ xs ∈ setM xss (a : Int) (b : Int), xs.length ≤ 64 := hG2.small
        have hn64 : n ≤ 4096 := hG.le
        have c_set := Lib.hid (fun W hW => mat_Set (n : Int) A n c xss (a : Int) (b : Int) W hW rfl hn64 (fun xs hx => by have := hsm1 xs hx; omega) (by unfold inM; simp; omega))
        have c_has := Lib.hid (fun W hW => mat_Has (n : Int) A n c xss (a : Int) (b : Int) W hW hn20 (fun xs hx => by have := hsm1 xs hx; omega) (by omega) (by omega) (by omega) (by omega))
        have c_pairs := Lib.hid (fun W hW => mat_Pairs (n : Int) A n c xss W hW hn64 (fun k xs hx => by have := hsm1 xs (List.mem_of_getElem? hx); omega))
        have c_or := Lib.hid (fun C d W hW hW2 => mat_Or A C n c d xss (setM xss (a : Int) (b : Int)) W hW hW2 hn64 (fun k xs ys hx hy => by
          have h1 := hG.row xs (List.mem_of_getElem? hx)
          have h2 := hG2.row ys (List.mem_of_getElem? hy)
          have h3 := hsm1 xs (List.mem_of_getElem? hx)
          exact ⟨by rw [h1.2.2.1, h2.2.2.1], by omega⟩))
        have c_has2 := Lib.hid (fun C d W hW => mat_Has (n : Int) C n d (setM xss (a : Int) (b : Int)) (a : Int) (b : Int) W hW hn20 (fun xs hx => by have := hsm2 xs hx; omega) (by omega) (by omega) (by omega) (by omega))
        have c_pairs2 := Lib.hid (fun C d W hW => mat_Pairs (n : Int) C n d (setM xss (a : Int) (b : Int)) W hW hn64 (fun k xs hx => by have := hsm2 xs (List.mem_of_getElem? hx); omega))
        have c_sub := Lib.hid (fun C d W hW hW2 => mat_Sub A C n c d xss (setM xss (a : Int) (b : Int)) W hW hW2 hn20 (fun k xs hx => by have := hsm1 xs (List.mem_of_getElem? hx); omega) (fun k xs hx => by have := hsm2 xs (List.mem_of_getElem? hx); omega))
        have c_same := Lib.hid (fun C d D d' W hW hW2 => mat_Same C D n d d' (setM xss (a : Int) (b : Int)) (setM xss (a : Int) (b : Int)) W hW hW2 hn20 (fun k xs hx => by have := hsm2 xs (List.mem_of_getElem? hx); omega) (fun k xs hx => by have := hsm2 xs (List.mem_of_getElem? hx); omega))
        have c_right := Lib.hid (fun C d W hW => mat_Right (n : Int) C n d (setM xss (a : Int) (b : Int)) W hW hn20 (fun k xs hx => by have := hsm2 xs (List.mem_of_getElem? hx); omega))
        have hlen2 : (setM xss (a : Int) (b : Int)).length = n := hG2.len
        have hpl : (pairsM xss).length ≤ 16777216 := hG.pairs_le
        clear hl hw64 hG hG2 hsm1 hsm2 hsm sm1 sm2 hrt hn ha hb hz hz' hlen
        go_wp2_with fail
        refine (c_set.out W hrW.out).mono ?_; rintro e w3 ⟨C, n2, d, rfl, r3, _, b3⟩
        obtain rfl : n = n2 := by have := r3.len; omega
        obtain ⟨G3, hG3⟩ : ∃ G, G = w3.heap.size := ⟨_, rfl⟩
        obtain ⟨W3, hW3⟩ : ∃ W, W = w3.alloc (.cells #[.int .i64 n, .slice C n d] 24) := ⟨_, rfl⟩
        have ba : Below w3.heap.size w3 W3 := by rw [hW3]; exact (Below.refl _ _).alloc (Nat.le_refl _) _
        have l3 : MatB W3 G3 24 n C n d := by rw [hW3, hG3]; exact MatB.new w3 _
        have bx := below_trans2 b3 ba
        have r3' := Lib.hid (r3.below ba)
        have rr := Lib.hid (hrW.out.below bx)
        have lm := hBW.out.below_ bx
        have bb := Lib.hid (below_trans2 hbW.out bx)
        have q0 := lm.c0
        have q1 := lm.c1
        have q2 := l3.c0
        have q3 := l3.c1
        rw [hW3] at q0 q1 q2 q3
        rw [hG3] at q2 q3
        replace lm := Lib.hid lm
        replace l3 := Lib.hid l3
        clear b3 ba bx r3 p0 p1 hBW hrW hbW c_set
        go_wp2_with fail
        rw [← hW3, ← hG3]
        clear hW3 hG3 q0 q1 q2 q3
        refine (c_or.out C d W3 rr.out r3'.out).mono ?_; rintro e w5 ⟨D, n5, d5, rfl, r5, _, b5⟩
        rw [f_or.out] at r5
        obtain rfl : n = n5 := by have := r5.len; omega
        obtain ⟨G5, hG5⟩ : ∃ G, G = w5.heap.size := ⟨_, rfl⟩
        obtain ⟨W5, hW5⟩ : ∃ W, W = w5.alloc (.cells #[.int .i64 n, .slice D n d5] 24) := ⟨_, rfl⟩
        have ba : Below w5.heap.size w5 W5 := by rw [hW5]; exact (Below.refl _ _).alloc (Nat.le_refl _) _
        have l5 : MatB W5 G5 24 n D n d5 := by rw [hW5, hG5]; exact MatB.new w5 _
        have bx := below_trans2 b5 ba
        have r5' := Lib.hid (r5.below ba)
        have r35 := Lib.hid (r3'.out.below bx)
        have rr5 := Lib.hid (rr.out.below bx)
        have lm5 := MatB.below_ lm.out bx
        have l35 := Lib.hid (MatB.below_ l3.out bx)
        have bb5 := Lib.hid (below_trans2 bb.out bx)
        have q0 := lm5.c0
        have q1 := lm5.c1
        rw [hW5] at q0 q1
        replace lm5 := Lib.hid lm5
        replace l5 := Lib.hid l5
        clear b5 ba bx r5 lm l3 rr r3' bb c_or f_or
        go_wp2_with fail
        rw [← hW5, ← hG5]
        clear hW5 hG5 q0 q1
        refine (c_has.out W5 rr5.out).mono ?_; rintro e w6 ⟨rfl, b6⟩
        have r56 := Lib.hid (r5'.out.below b6)
        have r36 := Lib.hid (r35.out.below b6)
        have rr6 := Lib.hid (rr5.out.below b6)
        have lm6 := Lib.hid (MatB.below_ lm5.out b6)
        have l36 := Lib.hid (MatB.below_ l35.out b6)
        have l56 := Lib.hid (MatB.below_ l5.out b6)
        have bb6 := Lib.hid (below_trans2 bb5.out b6)
        clear b6 r5' r35 rr5 lm5 l35 l5 bb5 c_has
        cases hh : hasM xss (a : Int) (b : Int)
        case false =>
          rw [hh] at f_pairs
          have hsum : Hid (∀ m1 m2 : Nat, (pairsM (setM xss (a : Int) (b : Int))).length = m1 → (pairsM xss).length = m2 → IntKind.i64.wrap ((m2 : Int) + 1) = (m1 : Int)) := Lib.hid (fun m1 m2 e1 e2 => by
            have h := f_pairs.out
            simp at h
            rw [IntKind.wrap_i64]
            omega)
          clear f_pairs hpl
          go_wp2_with fail
          refine wp_region_plan 41 [(false, 0), (true, 1), (true, 2), (true, 3), (true, 4), (true, 5), (true, 6), (true, 7), (true, 8), (true, 9), (true, 10), (true, 11), (true, 12), (false, 13), (true, 14), (true, 15), (true, 16), (true, 19), (true, 22), (false, 17), (true, 18), (false, 20), (true, 21), (true, 23), (true, 24), (true, 25), (true, 26), (true, 27), (true, 28), (false, 29), (true, 30), (true, 31), (true, 32), (true, 33), (false, 34), (true, 35), (true, 36), (true, 37), (false, 38), (true, 39), (true, 40)] (by kernel_rfl) (by kernel_rfl) (fun W7 hW7 => ?_)
          have r57 := Lib.hid (show RowsAt W7 D n _ by rw [hW7.out]; exact r56.out)
          have r37 := Lib.hid (show RowsAt W7 C n _ by rw [hW7.out]; exact r36.out)
          have rr7 := Lib.hid (show RowsAt W7 A n _ by rw [hW7.out]; exact rr6.out)
          have lm7 := Lib.hid (show MatB W7 _ 24 n A n c by rw [hW7.out]; exact Blk.drew lm6.out)
          have l37 := Lib.hid (show MatB W7 _ 24 n C n d by rw [hW7.out]; exact Blk.drew l36.out)
          have l57 := Lib.hid (show MatB W7 _ 24 n D n d5 by rw [hW7.out]; exact Blk.drew l56.out)
          have bb7 := Lib.hid (show Below w.heap.size w W7 by rw [hW7.out]; exact bb6.out.drew)
          clear r56 r36 rr6 lm6 l36 l56 bb6 hW7
          simp only [List.drop_succ_cons, List.drop_nil]
          refine wpPlan_only rfl (by rfl) (fun K hK => ?_)
          go_simp
          refine (law3_awake W7).mono ?_
          rintro e w8 ⟨rfl, b8⟩
          refine hK _ _ b8 ?_
          have r58 := Lib.hid (r57.out.below b8)
          have r38 := Lib.hid (r37.out.below b8)
          have rr8 := Lib.hid (rr7.out.below b8)
          have lm8 := Lib.hid (MatB.below_ lm7.out b8)
          have l38 := Lib.hid (MatB.below_ l37.out b8)
          have l58 := Lib.hid (MatB.below_ l57.out b8)
          have bb8 := Lib.hid (below_trans2 bb7.out b8)
          have ql30 := l38.out.c0
          have ql31 := l38.out.c1
          clear r57 r37 rr7 lm7 l37 l57 bb7 b8 hK K
          iterate 12
            refine wpPlan_float (v := ?_) rfl (by rfl) (fun w' hw' => ?_) (fun K hK => ?_)
            rotate_left
            · (go_simp; try with_reducible rfl)
            go_simp
            refine hK _ ?_
            clear hK K
          clear ql30 ql31
          refine wpPlan_only rfl (by rfl) (fun K hK => ?_)
          go_simp
          refine (c_has2.out C d w8 r38.out).mono ?_
          rintro e w9 ⟨rfl, b9⟩
          rw [f_has.out]
          refine hK _ _ b9 ?_
          have r59 := Lib.hid (r58.out.below b9)
          have r39 := Lib.hid (r38.out.below b9)
          have rr9 := Lib.hid (rr8.out.below b9)
          have lm9 := Lib.hid (MatB.below_ lm8.out b9)
          have l39 := Lib.hid (MatB.below_ l38.out b9)
          have l59 := Lib.hid (MatB.below_ l58.out b9)
          have bb9 := Lib.hid (below_trans2 bb8.out b9)
          have ql30 := l39.out.c0
          have ql31 := l39.out.c1
          have qlm0 := lm9.out.c0
          have qlm1 := lm9.out.c1
          clear r58 r38 rr8 lm8 l38 l58 bb8 b9 hK K c_has2
          iterate 5
            refine wpPlan_float (v := ?_) rfl (by rfl) (fun w' hw' => ?_) (fun K hK => ?_)
            rotate_left
            · (go_simp; try with_reducible rfl)
            go_simp
            refine hK _ ?_
            clear hK K
          clear ql30 ql31 qlm0 qlm1
          refine wpPlan_only rfl (by rfl) (fun K hK => ?_)
          go_simp
          refine (c_pairs2.out C d w9 r39.out).mono ?_
          rintro e w10 ⟨E1, m1, k1, rfl, hp1, b10⟩
          have hm1 := Lib.hid hp1.1
          refine hK _ _ b10 ?_
          have r510 := Lib.hid (r59.out.below b10)
          have r310 := Lib.hid (r39.out.below b10)
          have rr10 := Lib.hid (rr9.out.below b10)
          have lm10 := Lib.hid (MatB.below_ lm9.out b10)
          have l310 := Lib.hid (MatB.below_ l39.out b10)
          have l510 := Lib.hid (MatB.below_ l59.out b10)
          have bb10 := Lib.hid (below_trans2 bb9.out b10)
          clear r59 r39 rr9 lm9 l39 l59 bb9 b10 hK K hp1 c_pairs2
          iterate 1
            refine wpPlan_float (v := ?_) rfl (by rfl) (fun w' hw' => ?_) (fun K hK => ?_)
            rotate_left
            · (go_simp; try with_reducible rfl)
            go_simp
            refine hK _ ?_
            clear hK K
          refine wpPlan_only rfl (by rfl) (fun K hK => ?_)
          go_simp
          refine (c_pairs.out w10 rr10.out).mono ?_
          rintro e w11 ⟨E2, m2, k2, rfl, hp2, b11⟩
          have hm2 := Lib.hid hp2.1
          refine hK _ _ b11 ?_
          have r511 := Lib.hid (r510.out.below b11)
          have r311 := Lib.hid (r310.out.below b11)
          have rr11 := Lib.hid (rr10.out.below b11)
          have lm11 := Lib.hid (MatB.below_ lm10.out b11)
          have l311 := Lib.hid (MatB.below_ l310.out b11)
          have l511 := Lib.hid (MatB.below_ l510.out b11)
          have bb11 := Lib.hid (below_trans2 bb10.out b11)
          have ql30 := l311.out.c0
          have ql31 := l311.out.c1
          have qlm0 := lm11.out.c0
          have qlm1 := lm11.out.c1
          clear r510 r310 rr10 lm10 l310 l510 bb10 b11 hK K hp2 c_pairs
          iterate 2
            refine wpPlan_float (v := ?_) rfl (by rfl) (fun w' hw' => ?_) (fun K hK => ?_)
            rotate_left
            · (go_simp; try with_reducible rfl)
            go_simp
            refine hK _ ?_
            clear hK K
          rw [hsum.out m1 m2 hm1.out hm2.out]
          iterate 5
            refine wpPlan_float (v := ?_) rfl (by rfl) (fun w' hw' => ?_) (fun K hK => ?_)
            rotate_left
            · (go_simp; try with_reducible rfl)
            go_simp
            refine hK _ ?_
            clear hK K
          clear ql30 ql31 qlm0 qlm1 hsum hm1 hm2
          refine wpPlan_only rfl (by rfl) (fun K hK => ?_)
          go_simp
          refine (c_sub.out C d w11 rr11.out r311.out).mono ?_
          rintro e w12 ⟨rfl, b12⟩
          rw [f_sub.out]
          refine hK _ _ b12 ?_
          have r512 := Lib.hid (r511.out.below b12)
          have r312 := Lib.hid (r311.out.below b12)
          have rr12 := Lib.hid (rr11.out.below b12)
          have lm12 := Lib.hid (MatB.below_ lm11.out b12)
          have l312 := Lib.hid (MatB.below_ l311.out b12)
          have l512 := Lib.hid (MatB.below_ l511.out b12)
          have bb12 := Lib.hid (below_trans2 bb11.out b12)
          have ql30 := l312.out.c0
          have ql31 := l312.out.c1
          have ql50 := l512.out.c0
          have ql51 := l512.out.c1
          clear r511 r311 rr11 lm11 l311 l511 bb11 b12 hK K c_sub
          iterate 4
            refine wpPlan_float (v := ?_) rfl (by rfl) (fun w' hw' => ?_) (fun K hK => ?_)
            rotate_left
            · (go_simp; try with_reducible rfl)
            go_simp
            refine hK _ ?_
            clear hK K
          clear ql30 ql31 ql50 ql51
          refine wpPlan_only rfl (by rfl) (fun K hK => ?_)
          go_simp
          refine (c_same.out D d5 C d w12 r512.out r312.out).mono ?_
          rintro e w13 ⟨rfl, b13⟩
          rw [sameM_self]
          refine hK _ _ b13 ?_
          have r513 := Lib.hid (r512.out.below b13)
          have r313 := Lib.hid (r312.out.below b13)
          have rr13 := Lib.hid (rr12.out.below b13)
          have lm13 := Lib.hid (MatB.below_ lm12.out b13)
          have l313 := Lib.hid (MatB.below_ l312.out b13)
          have l513 := Lib.hid (MatB.below_ l512.out b13)
          have bb13 := Lib.hid (below_trans2 bb12.out b13)
          have ql30 := l313.out.c0
          have ql31 := l313.out.c1
          clear r512 r312 rr12 lm12 l312 l512 bb12 b13 hK K c_same
          iterate 3
            refine wpPlan_float (v := ?_) rfl (by rfl) (fun w' hw' => ?_) (fun K hK => ?_)
            rotate_left
            · (go_simp; try with_reducible rfl)
            go_simp
            refine hK _ ?_
            clear hK K
          clear ql30 ql31
          refine wpPlan_only rfl (by rfl) (fun K hK => ?_)
          go_simp
          refine (c_right.out C d w13 r313.out).mono ?_
          rintro e w14 ⟨rfl, b14⟩
          rw [f_right.out]
          refine hK _ _ b14 ?_
          have bb14 := Lib.hid (below_trans2 bb13.out b14)
          clear b14 hK K
          iterate 2
            refine wpPlan_float (v := ?_) rfl (by rfl) (fun w' hw' => ?_) (fun K hK => ?_)
            rotate_left
            · (go_simp; try with_reducible rfl)
            go_simp
            refine hK _ ?_
            clear hK K
          refine wpPlan_nil (NoPanic.normal ?_)
          go_wp2_with fail
          go_ret
          exact ⟨rfl, bb14.out⟩
        case true =>
          rw [hh] at f_pairs
          have hsum : Hid (∀ m1 m2 : Nat, (pairsM (setM xss (a : Int) (b : Int))).length = m1 → (pairsM xss).length = m2 → m1 = m2 ∧ IntKind.i64.wrap (m2 : Int) = (m2 : Int)) := Lib.hid (fun m1 m2 e1 e2 => by
            have h := f_pairs.out
            simp at h
            refine ⟨by omega, ?_⟩
            rw [IntKind.wrap_i64]
            omega)
          clear f_pairs hpl
          go_wp2_with fail
          refine wp_region_plan 41 [(false, 0), (true, 1), (true, 2), (true, 3), (true, 4), (true, 5), (true, 6), (true, 7), (true, 8), (true, 9), (true, 10), (true, 11), (true, 12), (false, 13), (true, 14), (true, 15), (true, 16), (true, 19), (true, 22), (false, 17), (true, 18), (false, 20), (true, 21), (true, 23), (true, 24), (true, 25), (true, 26), (true, 27), (true, 28), (false, 29), (true, 30), (true, 31), (true, 32), (true, 33), (false, 34), (true, 35), (true, 36), (true, 37), (false, 38), (true, 39), (true, 40)] (by kernel_rfl) (by kernel_rfl) (fun W7 hW7 => ?_)
          have r57 := Lib.hid (show RowsAt W7 D n _ by rw [hW7.out]; exact r56.out)
          have r37 := Lib.hid (show RowsAt W7 C n _ by rw [hW7.out]; exact r36.out)
          have rr7 := Lib.hid (show RowsAt W7 A n _ by rw [hW7.out]; exact rr6.out)
          have lm7 := Lib.hid (show MatB W7 _ 24 n A n c by rw [hW7.out]; exact Blk.drew lm6.out)
          have l37 := Lib.hid (show MatB W7 _ 24 n C n d by rw [hW7.out]; exact Blk.drew l36.out)
          have l57 := Lib.hid (show MatB W7 _ 24 n D n d5 by rw [hW7.out]; exact Blk.drew l56.out)
          have bb7 := Lib.hid (show Below w.heap.size w W7 by rw [hW7.out]; exact bb6.out.drew)
          clear r56 r36 rr6 lm6 l36 l56 bb6 hW7
          simp only [List.drop_succ_cons, List.drop_nil]
          refine wpPlan_only rfl (by rfl) (fun K hK => ?_)
          go_simp
          refine (law3_awake W7).mono ?_
          rintro e w8 ⟨rfl, b8⟩
          refine hK _ _ b8 ?_
          have r58 := Lib.hid (r57.out.below b8)
          have r38 := Lib.hid (r37.out.below b8)
          have rr8 := Lib.hid (rr7.out.below b8)
          have lm8 := Lib.hid (MatB.below_ lm7.out b8)
          have l38 := Lib.hid (MatB.below_ l37.out b8)
          have l58 := Lib.hid (MatB.below_ l57.out b8)
          have bb8 := Lib.hid (below_trans2 bb7.out b8)
          have ql30 := l38.out.c0
          have ql31 := l38.out.c1
          clear r57 r37 rr7 lm7 l37 l57 bb7 b8 hK K
          iterate 12
            refine wpPlan_float (v := ?_) rfl (by rfl) (fun w' hw' => ?_) (fun K hK => ?_)
            rotate_left
            · (go_simp; try with_reducible rfl)
            go_simp
            refine hK _ ?_
            clear hK K
          clear ql30 ql31
          refine wpPlan_only rfl (by rfl) (fun K hK => ?_)
          go_simp
          refine (c_has2.out C d w8 r38.out).mono ?_
          rintro e w9 ⟨rfl, b9⟩
          rw [f_has.out]
          refine hK _ _ b9 ?_
          have r59 := Lib.hid (r58.out.below b9)
          have r39 := Lib.hid (r38.out.below b9)
          have rr9 := Lib.hid (rr8.out.below b9)
          have lm9 := Lib.hid (MatB.below_ lm8.out b9)
          have l39 := Lib.hid (MatB.below_ l38.out b9)
          have l59 := Lib.hid (MatB.below_ l58.out b9)
          have bb9 := Lib.hid (below_trans2 bb8.out b9)
          have ql30 := l39.out.c0
          have ql31 := l39.out.c1
          have qlm0 := lm9.out.c0
          have qlm1 := lm9.out.c1
          clear r58 r38 rr8 lm8 l38 l58 bb8 b9 hK K c_has2
          iterate 5
            refine wpPlan_float (v := ?_) rfl (by rfl) (fun w' hw' => ?_) (fun K hK => ?_)
            rotate_left
            · (go_simp; try with_reducible rfl)
            go_simp
            refine hK _ ?_
            clear hK K
          clear ql30 ql31 qlm0 qlm1
          refine wpPlan_only rfl (by rfl) (fun K hK => ?_)
          go_simp
          refine (c_pairs2.out C d w9 r39.out).mono ?_
          rintro e w10 ⟨E1, m1, k1, rfl, hp1, b10⟩
          have hm1 := Lib.hid hp1.1
          refine hK _ _ b10 ?_
          have r510 := Lib.hid (r59.out.below b10)
          have r310 := Lib.hid (r39.out.below b10)
          have rr10 := Lib.hid (rr9.out.below b10)
          have lm10 := Lib.hid (MatB.below_ lm9.out b10)
          have l310 := Lib.hid (MatB.below_ l39.out b10)
          have l510 := Lib.hid (MatB.below_ l59.out b10)
          have bb10 := Lib.hid (below_trans2 bb9.out b10)
          clear r59 r39 rr9 lm9 l39 l59 bb9 b10 hK K hp1 c_pairs2
          iterate 1
            refine wpPlan_float (v := ?_) rfl (by rfl) (fun w' hw' => ?_) (fun K hK => ?_)
            rotate_left
            · (go_simp; try with_reducible rfl)
            go_simp
            refine hK _ ?_
            clear hK K
          refine wpPlan_only rfl (by rfl) (fun K hK => ?_)
          go_simp
          refine (c_pairs.out w10 rr10.out).mono ?_
          rintro e w11 ⟨E2, m2, k2, rfl, hp2, b11⟩
          have hm2 := Lib.hid hp2.1
          refine hK _ _ b11 ?_
          have r511 := Lib.hid (r510.out.below b11)
          have r311 := Lib.hid (r310.out.below b11)
          have rr11 := Lib.hid (rr10.out.below b11)
          have lm11 := Lib.hid (MatB.below_ lm10.out b11)
          have l311 := Lib.hid (MatB.below_ l310.out b11)
          have l511 := Lib.hid (MatB.below_ l510.out b11)
          have bb11 := Lib.hid (below_trans2 bb10.out b11)
          have ql30 := l311.out.c0
          have ql31 := l311.out.c1
          have qlm0 := lm11.out.c0
          have qlm1 := lm11.out.c1
          clear r510 r310 rr10 lm10 l310 l510 bb10 b11 hK K hp2 c_pairs
          obtain ⟨e12, hwr⟩ := hsum.out m1 m2 hm1.out hm2.out
          subst e12
          iterate 2
            refine wpPlan_float (v := ?_) rfl (by rfl) (fun w' hw' => ?_) (fun K hK => ?_)
            rotate_left
            · (go_simp; try with_reducible rfl)
            go_simp
            refine hK _ ?_
            clear hK K
          try rw [hwr]
          clear hwr
          iterate 5
            refine wpPlan_float (v := ?_) rfl (by rfl) (fun w' hw' => ?_) (fun K hK => ?_)
            rotate_left
            · (go_simp; try with_reducible rfl)
            go_simp
            refine hK _ ?_
            clear hK K
          clear ql30 ql31 qlm0 qlm1 hsum hm1 hm2
          refine wpPlan_only rfl (by rfl) (fun K hK => ?_)
          go_simp
          refine (c_sub.out C d w11 rr11.out r311.out).mono ?_
          rintro e w12 ⟨rfl, b12⟩
          rw [f_sub.out]
          refine hK _ _ b12 ?_
          have r512 := Lib.hid (r511.out.below b12)
          have r312 := Lib.hid (r311.out.below b12)
          have rr12 := Lib.hid (rr11.out.below b12)
          have lm12 := Lib.hid (MatB.below_ lm11.out b12)
          have l312 := Lib.hid (MatB.below_ l311.out b12)
          have l512 := Lib.hid (MatB.below_ l511.out b12)
          have bb12 := Lib.hid (below_trans2 bb11.out b12)
          have ql30 := l312.out.c0
          have ql31 := l312.out.c1
          have ql50 := l512.out.c0
          have ql51 := l512.out.c1
          clear r511 r311 rr11 lm11 l311 l511 bb11 b12 hK K c_sub
          iterate 4
            refine wpPlan_float (v := ?_) rfl (by rfl) (fun w' hw' => ?_) (fun K hK => ?_)
            rotate_left
            · (go_simp; try with_reducible rfl)
            go_simp
            refine hK _ ?_
            clear hK K
          clear ql30 ql31 ql50 ql51
          refine wpPlan_only rfl (by rfl) (fun K hK => ?_)
          go_simp
          refine (c_same.out D d5 C d w12 r512.out r312.out).mono ?_
          rintro e w13 ⟨rfl, b13⟩
          rw [sameM_self]
          refine hK _ _ b13 ?_
          have r513 := Lib.hid (r512.out.below b13)
          have r313 := Lib.hid (r312.out.below b13)
          have rr13 := Lib.hid (rr12.out.below b13)
          have lm13 := Lib.hid (MatB.below_ lm12.out b13)
          have l313 := Lib.hid (MatB.below_ l312.out b13)
          have l513 := Lib.hid (MatB.below_ l512.out b13)
          have bb13 := Lib.hid (below_trans2 bb12.out b13)
          have ql30 := l313.out.c0
          have ql31 := l313.out.c1
          clear r512 r312 rr12 lm12 l312 l512 bb12 b13 hK K c_same
          iterate 3
            refine wpPlan_float (v := ?_) rfl (by rfl) (fun w' hw' => ?_) (fun K hK => ?_)
            rotate_left
            · (go_simp; try with_reducible rfl)
            go_simp
            refine hK _ ?_
            clear hK K
          clear ql30 ql31
          refine wpPlan_only rfl (by rfl) (fun K hK => ?_)
          go_simp
          refine (c_right.out C d w13 r313.out).mono ?_
          rintro e w14 ⟨rfl, b14⟩
          rw [f_right.out]
          refine hK _ _ b14 ?_
          have bb14 := Lib.hid (below_trans2 bb13.out b14)
          clear b14 hK K
          iterate 2
            refine wpPlan_float (v := ?_) rfl (by rfl) (fun w' hw' => ?_) (fun K hK => ?_)
            rotate_left
            · (go_simp; try with_reducible rfl)
            go_simp
            refine hK _ ?_
            clear hK K
          refine wpPlan_nil (NoPanic.normal ?_)
          go_wp2_with fail
          go_ret
          exact ⟨rfl, bb14.out⟩

end Go.Proofs.Ytlfdmjlllikmcaa
