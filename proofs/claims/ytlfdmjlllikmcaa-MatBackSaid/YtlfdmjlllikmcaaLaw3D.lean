/- The law MatBack. -/
import Derived.Test.YtlfdmjlllikmcaaLaw3A
import Derived.Test.YtlfdmjlllikmcaaTurnFacts
import Derived.Test.YtlfdmjlllikmcaaMatRefC
import Derived.Test.YtlfdmjlllikmcaaPlanS
import Derived.Test.YtlfdmjlllikmcaaLaw3C
namespace Go.Proofs.Ytlfdmjlllikmcaa
open Go.RowKit
set_option linter.unusedVariables false

theorem RowsAt.farM {w : World} {C : Option Addr} {n G : Nat} {t : TypeId} {xss : List (List Nat)} (h : RowsAt w C n xss) (hM : MatB w G t 0 none 0 0) (h1 : ∀ r ∈ xss, r.length = 1) : 0 < n → ∀ ad, C = some ad → ad.block ≠ G := by
  intro h0 ad e hb
  obtain ⟨b, off, B, m, c, xs, e2, _, hx, hc, hr⟩ := h.at_ h0
  rw [e] at e2
  cases e2
  have hb' : b = G := hb
  subst hb'
  have hxl := h1 xs (List.mem_of_getElem? hx)
  have hrl := hr.len
  rw [Blk.cell hM] at hc
  match off + 0, hc with
  | 0, hc => simp at hc
  | 1, hc =>
    simp at hc
    omega
  | k + 2, hc => simp at hc
theorem equalM_self' (N : Int) (xss : List (List Nat)) : equalM N N xss xss = true := by simp [equalM, sameM]
set_option maxRecDepth 100000 in
set_option maxHeartbeats 16000000 in
theorem law_MatBack (N : Int) (A : Option Addr) (n c : Nat) (xss : List (List Nat)) (i j : Int) (w : World) (hr : RowsAt w A n xss) (hc : n ≤ c) (hn : n ≤ 9223372036854775807) (hl : ∀ (k : Nat) (xs : List Nat), xss[k]? = some xs → xs.length ≤ 9223372036854775807)
    (i0 : 0 ≤ i) (i1 : i ≤ 255) (j0 : 0 ≤ j) (j1 : j ≤ 255) :
    Calls Try.prog 5 #[.agg #[.int .i64 N, .slice A n c], .int .u8 i, .int .u8 j] w (RetB true w) := by
  have hS := Lib.hid (fun W hW => ref3_Small N A n c xss 20 W hW hn hl (by omega))
  have hlen := hr.len
  have hw64 := hr.w64
  obtain ⟨W0, hW0⟩ : ∃ W0, W0 = w.alloc (.cells #[.int .i64 N, .slice A n c] 24) := ⟨_, rfl⟩
  have ha : Below w.heap.size w W0 := by rw [hW0]; exact (Below.refl _ _).alloc (Nat.le_refl _) _
  have hB : MatB W0 w.heap.size 24 N A n c := by rw [hW0]; exact MatB.new w _
  have hr0 := Lib.hid (hr.below ha)
  have q0 := hB.c0
  have q1 := hB.c1
  rw [hW0] at q0 q1
  replace ha := Lib.hid ha
  replace hB := Lib.hid hB
  clear hr
  cases hsm : smallM xss 20 with
  | false =>
    go_enter Try.func5, Try.ntmps5
    go_wp2_with fail
    rw [← hW0]
    refine (hS.out W0 hr0.out).mono ?_; rintro e w1 ⟨rfl, hb1⟩
    rw [hsm]
    have hbb := Lib.hid (below_trans2 ha.out hb1)
    clear hb1 q0 q1
    go_wp2_with fail
    refine (law3_awake w1).mono ?_; rintro e w2 ⟨rfl, hb2⟩
    have hb3 := below_trans2 hbb.out hb2
    clear hb2
    go_wp2_with fail
    go_ret
    exact ⟨rfl, hb3⟩
  | true =>
    obtain ⟨sm1, sm2⟩ := smallM_len hsm
    have hn20 : n ≤ 1073741824 := by omega
    have hR := Lib.hid (fun W hW => ref3_Right N A n c xss W hW hn20 (fun k xs hx => by have := sm2 xs (List.mem_of_getElem? hx); omega))
    cases hrt : rightM N xss with
    | false =>
      go_enter Try.func5, Try.ntmps5
      go_wp2_with fail
      rw [← hW0]
      refine (hS.out W0 hr0.out).mono ?_; rintro e w1 ⟨rfl, hb1⟩
      rw [hsm]
      have hB1 := hB.out.below_ hb1
      have q0 := hB1.c0
      have q1 := hB1.c1
      have hr1 := Lib.hid (hr0.out.below hb1)
      have hbb := Lib.hid (below_trans2 ha.out hb1)
      clear hb1 hB1
      go_wp2_with fail
      refine (hR.out w1 hr1.out).mono ?_; rintro e w2 ⟨rfl, hb2⟩
      rw [hrt]
      have hbb2 := Lib.hid (below_trans2 hbb.out hb2)
      clear hb2 q0 q1
      go_wp2_with fail
      refine (law3_awake w2).mono ?_; rintro e w3 ⟨rfl, hb3⟩
      have hb4 := below_trans2 hbb2.out hb3
      clear hb3
      go_wp2_with fail
      go_ret
      exact ⟨rfl, hb4⟩
    | true =>
      obtain ⟨p, rfl, hG⟩ := Good.of hrt hw64
      obtain rfl : n = p := by have := hG.len; omega
      have hn20' : n < 64 := by have := hG.len; omega
      have hn64 : n ≤ 4096 := hG.le
      go_enter Try.func5, Try.ntmps5
      go_wp2_with fail
      rw [← hW0]
      refine (hS.out W0 hr0.out).mono ?_; rintro e w1 ⟨rfl, hb1⟩
      rw [hsm]
      have hB1 := Lib.hid (hB.out.below_ hb1)
      have q0 := hB1.out.c0
      have q1 := hB1.out.c1
      have hr1 := Lib.hid (hr0.out.below hb1)
      have hbb := Lib.hid (below_trans2 ha.out hb1)
      clear hb1
      go_wp2_with fail
      refine (hR.out w1 hr1.out).mono ?_; rintro e w2 ⟨rfl, hb2⟩
      rw [hrt]
      have hB2 := Lib.hid (hB1.out.below_ hb2)
      have q0 := hB2.out.c0
      have q1 := hB2.out.c1
      have hr2 := Lib.hid (hr1.out.below hb2)
      have hbb2 := Lib.hid (below_trans2 hbb.out hb2)
      have hone := hG.one hn20'
      have hGt := hG.turn hn20'
      have honet := hGt.one hn20'
      have hsm1 : ∀ xs ∈ xss, xs.length ≤ 64 := hG.small
      have hsmt : ∀ xs ∈ turnM xss, xs.length ≤ 64 := hGt.small
      have hwi : IntKind.i64.wrap i = i := by rw [IntKind.wrap_i64]; omega
      have hwj : IntKind.i64.wrap j = j := by rw [IntKind.wrap_i64]; omega
      have f_tt := Lib.hid (turn_turn hG hn20')
      have f_pairs := Lib.hid (turn_pairs hG hn20')
      have f_has : Hid (hasM (turnM xss) j i = hasM xss i j) := Lib.hid (by
        obtain ⟨a, rfl⟩ := Int.eq_ofNat_of_zero_le i0
        obtain ⟨b, rfl⟩ := Int.eq_ofNat_of_zero_le j0
        exact turnM_has hG hn20' b a)
      have f_of : Hid (ofN (n : Int) (pairsM xss) = n ∧ ofM (n : Int) (pairsM xss) = xss ∧ ofE (n : Int) (pairsM xss) = 0) := Lib.hid (by
        have h0 : ofOk (n : Int) (pairsM xss) = true := by
          unfold ofOk
          rw [belowZ_yes (by omega) (by omega), List.all_eq_true.2 hG.ok]; rfl
        unfold ofN ofM ofE
        rw [h0]; simp [fold_back hG])
      have c_pairs := Lib.hid (fun W hW => mat_Pairs (n : Int) A n c xss W hW hn64 (fun k xs hx => by have := hsm1 xs (List.mem_of_getElem? hx); omega))
      have f_len : (pairsM xss).length ≤ 16777216 := hG.pairs_le
      have c_of := Lib.hid (fun E m1 k1 W hP (hm : m1 ≤ 1073741824) => by
        have h := mat_Of (n : Int) E m1 k1 (pairsM xss) W hP hm
        rw [f_of.out.1, f_of.out.2.1, f_of.out.2.2] at h
        exact h)
      have c_turn := Lib.hid (fun W hW => mat_Turn A n c xss W hW hn20' hc (fun k xs hx => hone xs (List.mem_of_getElem? hx)))
      have c_turn2 := Lib.hid (fun T d W hW (hd : n ≤ d) => by
        have h := mat_Turn T n d (turnM xss) W hW hn20' hd (fun k xs hx => honet xs (List.mem_of_getElem? hx))
        rw [f_tt.out] at h
        exact h)
      have c_equal := Lib.hid (fun C D d d' W hW hW2 => by
        have h := ref3_Equal (n : Int) (n : Int) C D n n d d' xss xss W hW hW2 hn20 hn20 (fun k xs hx => by have := hsm1 xs (List.mem_of_getElem? hx); omega) (fun k xs hx => by have := hsm1 xs (List.mem_of_getElem? hx); omega)
        rw [equalM_self'] at h
        exact h)
      have c_has := Lib.hid (fun W hW => by
        have h := mat_Has (n : Int) A n c xss i j W hW hn20 (fun xs hx => by have := hsm1 xs hx; omega) (by omega) (by omega) (by omega) (by omega)
        rw [← hwi, ← hwj] at h
        rw [hwi, hwj] at h
        exact h)
      have c_has2 := Lib.hid (fun T d W hW => by
        have h := mat_Has (n : Int) T n d (turnM xss) j i W hW hn20 (fun xs hx => by have := hsmt xs hx; omega) (by omega) (by omega) (by omega) (by omega)
        rw [f_has.out] at h
        exact h)
      have c_pairs2 := Lib.hid (fun T d W hW => mat_Pairs (n : Int) T n d (turnM xss) W hW hn64 (fun k xs hx => by have := hsmt xs (List.mem_of_getElem? hx); omega))
      have f_one := Lib.hid hone
      have f_len0 := Lib.hid (show xss.length = n from hG.len)
      have f_tlen := Lib.hid (show (turnM xss).length = n from hGt.len)
      replace hwi := Lib.hid hwi
      replace hwj := Lib.hid hwj
      clear hb2 hB1 hr1 hbb ha hr0 hB hS hR hW0 hone hGt honet hsm1 hsmt hG hsm sm1 sm2 hrt hl hw64 hlen i0 i1 j0 j1
      go_wp2_with fail
      refine wp_region_tree (.flt 0 (.flt 1 (.flt 2 (.two 3 8 (.two 4 8 (.flt 5 (.flt 6 (.flt 7 (.one 8 (.one 9 (.flt 10 .done)))))) (.one 4 (.flt 5 (.flt 6 (.flt 7 (.one 9 (.flt 10 .done))))))) (.one 3 (.one 4 (.flt 5 (.flt 6 (.flt 7 (.one 9 (.flt 10 .done))))))))))) (by kernel_rfl) (by kernel_rfl) (fun W hW => ?_)
      have p0 : W.cell? ⟨w.heap.size, 0, none⟩ = some (.int .i64 n) := by rw [hW.out]; exact q0
      have p1 : W.cell? ⟨w.heap.size, 1, none⟩ = some (.slice A n c) := by rw [hW.out]; exact q1
      have hBW := Lib.hid (show MatB W w.heap.size 24 n A n c by rw [hW.out]; exact Blk.drew hB2.out)
      have hbW := Lib.hid (show Below w.heap.size w W by rw [hW.out]; exact hbb2.out.drew)
      have hrW := Lib.hid (show RowsAt W A n xss by rw [hW.out]; exact hr2.out)
      clear q0 q1 hB2 hbb2 hr2
      iterate 3
        refine wpPT_float (v := ?_) rfl (by rfl) (fun w' hw' => ?_) (fun K hK => ?_)
        rotate_left
        · (go_simp; try with_reducible rfl)
        go_simp
        refine hK _ ?_
        clear hK K
      refine wpPT_two rfl (by rfl) rfl (by rfl) (fun K hK => ?_) (fun K hK => ?_)
      · go_simp
        refine (c_pairs.out W hrW.out).mono ?_; rintro e w3 ⟨E1, m1, k1, rfl, hp1, b3⟩
        have hm1 : m1 ≤ 1073741824 := by have := hp1.1; omega
        refine hK _ _ b3 ?_
        clear hK K
        refine wpPT_two rfl (by rfl) rfl (by rfl) (fun K hK => ?_) (fun K hK => ?_)
        · go_simp
          refine (c_of.out _ _ _ w3 hp1 hm1).mono ?_; rintro e w4 ⟨C, n4, d, rfl, r4, _, b4⟩
          obtain rfl : n = n4 := by have := r4.len; have := f_len0.out; omega
          refine hK _ _ (below_trans2 b3 b4) ?_
          clear hK K
          iterate 3
            refine wpPT_float (v := ?_) rfl (by rfl) (fun w' hw' => ?_) (fun K hK => ?_)
            rotate_left
            · (go_simp; try with_reducible rfl)
            go_simp
            refine hK _ ?_
            clear hK K
          refine wpPT_one rfl (by rfl) (fun K hK => ?_)
          go_simp
          obtain ⟨G, hG⟩ : ∃ G, G = w4.heap.size := ⟨_, rfl⟩
          obtain ⟨w8, hw8⟩ : ∃ w8, w8 = w4.alloc (.cells #[.int .i64 0, .slice none 0 0] 24) := ⟨_, rfl⟩
          rw [← hw8, ← hG]
          have ba : Below w4.heap.size w4 w8 := by rw [hw8]; exact (Below.refl _ _).alloc (Nat.le_refl _) _
          have b8 := below_trans2 (below_trans2 b3 b4) ba
          refine hK _ _ b8 ?_
          clear hK K
          have l78 := Lib.hid (show MatB w8 G 24 0 none 0 0 by rw [hw8, hG]; exact MatB.new w4 _)
          have ra8 := Lib.hid (r4.below ba)
          have rm8 := Lib.hid (hrW.out.below b8)
          have lm8 := Lib.hid (hBW.out.below_ b8)
          have hWG : W.heap.size ≤ G := by have := b3.size; have := b4.size; omega
          have hwG : w.heap.size < G := by have := hBW.out.lt; omega
          have hwW : w.heap.size < W.heap.size := hBW.out.lt
          have hfar : 0 < n → ∀ ad, C = some ad → ad.block ≠ G := fun h0 ad e => by have := r4.block_lt h0 ad e; omega
          clear hw8 hG r4 b3 b4 ba hp1
          have f0 := l78.out.c0
          have f1 := l78.out.c1
          have g0 := l78.out.frozen 0
          have g1 := l78.out.frozen 1
          refine wpPT_one rfl (by rfl) (fun K hK => ?_)
          go_simp
          refine hK _ _ ((b8.setCell (p := ⟨G, 0, none⟩) (by simp <;> omega) (.int .i64 n)).setCell (p := ⟨G, 1, none⟩) (by simp <;> omega) (.slice C n d)) ?_
          clear hK K
          obtain ⟨w9, hw9⟩ : ∃ w9, w9 = (w8.setCell ⟨G, 0, none⟩ (.int .i64 n)).setCell ⟨G, 1, none⟩ (.slice C n d) := ⟨_, rfl⟩
          have l79 := Lib.hid (show MatB w9 G 24 n C n d by rw [hw9]; exact l78.out.put n C n d)
          have ra9 := Lib.hid (show RowsAt w9 C n xss by rw [hw9]; exact ra8.out.putB l78.out (fun h0 => hfar h0) _ _)
          have rm9 := Lib.hid (show RowsAt w9 A n xss by rw [hw9]; exact rm8.out.putB l78.out (fun h0 ad e => by have := hrW.out.block_lt h0 ad e; omega) _ _)
          have lm9 := Lib.hid (show MatB w9 w.heap.size 24 n A n c by rw [hw9]; exact (lm8.out.farB (p := ⟨G, 0, none⟩) (by simp <;> omega) _).farB (p := ⟨G, 1, none⟩) (by simp <;> omega) _)
          have bb9 := Lib.hid (show Below w.heap.size w w9 by rw [hw9]; exact ((below_trans2 hbW.out b8).setCell (p := ⟨G, 0, none⟩) (by simp <;> omega) _).setCell (p := ⟨G, 1, none⟩) (by simp <;> omega) _)
          rw [← hw9]
          iterate 1
            refine wpPT_float (v := ?_) rfl (by rfl) (fun w' hw' => ?_) (fun K hK => ?_)
            rotate_left
            · (go_simp; try with_reducible rfl)
            go_simp
            refine hK _ ?_
            clear hK K
          refine wpPT_done (NoPanic.normal ?_)
          clear hw9 f0 f1 g0 g1 l78 ra8 rm8 lm8 b8 hrW hBW hbW p0 p1 hfar
          have q0 := lm9.out.c0
          have q1 := lm9.out.c1
          go_wp2_with fail
          refine (c_turn.out w9 rm9.out).mono ?_; rintro e w10 ⟨T, nT, dT, rfl, rT, hcT, b10⟩
          obtain rfl : n = nT := by have := rT.len; have := f_tlen.out; omega
          obtain ⟨GT, hGT⟩ : ∃ G, G = w10.heap.size := ⟨_, rfl⟩
          obtain ⟨W11, hW11⟩ : ∃ W, W = w10.alloc (.cells #[.int .i64 n, .slice T n dT] 24) := ⟨_, rfl⟩
          have ba : Below w10.heap.size w10 W11 := by rw [hW11]; exact (Below.refl _ _).alloc (Nat.le_refl _) _
          have l911 := Lib.hid (show MatB W11 GT 24 n T n dT by rw [hW11, hGT]; exact MatB.new w10 _)
          have bx := below_trans2 b10 ba
          have rt11 := Lib.hid (rT.below ba)
          have ra11 := Lib.hid (ra9.out.below bx)
          have rm11 := Lib.hid (rm9.out.below bx)
          have l711 := Lib.hid (MatB.below_ l79.out bx)
          have lm11 := Lib.hid (MatB.below_ lm9.out bx)
          have bb11 := Lib.hid (below_trans2 bb9.out bx)
          clear ba bx b10 rT ra9 rm9 l79 lm9 bb9 q0 q1
          go_wp2_with fail
          rw [← hW11, ← hGT]
          clear hW11 hGT
          refine wp_region_plan 41 [(false, 0), (true, 1), (true, 2), (true, 3), (true, 4), (true, 5), (true, 6), (true, 7), (false, 8), (true, 9), (true, 10), (true, 11), (true, 13), (false, 12), (false, 14), (true, 15), (true, 16), (true, 17), (true, 18), (true, 19), (true, 20), (true, 21), (true, 23), (true, 24), (true, 25), (true, 26), (true, 27), (false, 22), (false, 28), (true, 29), (true, 30), (true, 31), (true, 32), (true, 35), (false, 33), (true, 34), (false, 36), (true, 37), (true, 38), (true, 39), (true, 40)] (by kernel_rfl) (by kernel_rfl) (fun W12 hW12 => ?_)
          have ra12 := Lib.hid (show RowsAt W12 C n xss by rw [hW12.out]; exact ra11.out)
          have rm12 := Lib.hid (show RowsAt W12 A n xss by rw [hW12.out]; exact rm11.out)
          have rt12 := Lib.hid (show RowsAt W12 T n (turnM xss) by rw [hW12.out]; exact rt11.out)
          have l712 := Lib.hid (show MatB W12 _ 24 n C n d by rw [hW12.out]; exact Blk.drew l711.out)
          have lm12 := Lib.hid (show MatB W12 _ 24 n A n c by rw [hW12.out]; exact Blk.drew lm11.out)
          have l912 := Lib.hid (show MatB W12 _ 24 n T n dT by rw [hW12.out]; exact Blk.drew l911.out)
          have bb12 := Lib.hid (show Below w.heap.size w W12 by rw [hW12.out]; exact bb11.out.drew)
          clear ra11 rm11 rt11 l711 lm11 l911 bb11 hW12
          simp only [List.drop_succ_cons, List.drop_nil]
          refine wpPlan_only rfl (by rfl) (fun K hK => ?_)
          go_simp
          refine (law3_awake W12).mono ?_
          rintro e w13 ⟨rfl, b13⟩
          refine hK _ _ b13 ?_
          have ra13 := Lib.hid (ra12.out.below b13)
          have rm13 := Lib.hid (rm12.out.below b13)
          have rt13 := Lib.hid (rt12.out.below b13)
          have l713 := Lib.hid (MatB.below_ l712.out b13)
          have lm13 := Lib.hid (MatB.below_ lm12.out b13)
          have l913 := Lib.hid (MatB.below_ l912.out b13)
          have bb13 := Lib.hid (below_trans2 bb12.out b13)
          clear ra12 rm12 rt12 l712 lm12 l912 bb12 b13 hK K
          have ql70 := l713.out.c0
          have ql71 := l713.out.c1
          have qlm0 := lm13.out.c0
          have qlm1 := lm13.out.c1
          iterate 7
            refine wpPlan_float (v := ?_) rfl (by rfl) (fun w' hw' => ?_) (fun K hK => ?_)
            rotate_left
            · (go_simp; try with_reducible rfl)
            go_simp
            refine hK _ ?_
            clear hK K
          clear ql70 ql71 qlm0 qlm1
          refine wpPlan_only rfl (by rfl) (fun K hK => ?_)
          go_simp
          refine (c_equal.out C A d c w13 ra13.out rm13.out).mono ?_
          rintro e w14 ⟨rfl, b14⟩
          refine hK _ _ b14 ?_
          have rm14 := Lib.hid (rm13.out.below b14)
          have rt14 := Lib.hid (rt13.out.below b14)
          have lm14 := Lib.hid (MatB.below_ lm13.out b14)
          have l914 := Lib.hid (MatB.below_ l913.out b14)
          have bb14 := Lib.hid (below_trans2 bb13.out b14)
          clear ra13 rm13 rt13 l713 lm13 l913 bb13 b14 hK K
          have qlm0 := lm14.out.c0
          have qlm1 := lm14.out.c1
          have ql90 := l914.out.c0
          have ql91 := l914.out.c1
          iterate 4
            refine wpPlan_float (v := ?_) rfl (by rfl) (fun w' hw' => ?_) (fun K hK => ?_)
            rotate_left
            · (go_simp; try with_reducible rfl)
            go_simp
            refine hK _ ?_
            clear hK K
          clear qlm0 qlm1 ql90 ql91
          refine wpPlan_only rfl (by rfl) (fun K hK => ?_)
          go_simp
          refine (c_turn2.out T dT w14 rt14.out hcT).mono ?_
          rintro e w15 ⟨U, nU, dU, rfl, ru15, _, b15⟩
          obtain rfl : n = nU := by have := ru15.len; have := f_len0.out; omega
          replace ru15 := Lib.hid ru15
          refine hK _ _ b15 ?_
          have rm15 := Lib.hid (rm14.out.below b15)
          have rt15 := Lib.hid (rt14.out.below b15)
          have lm15 := Lib.hid (MatB.below_ lm14.out b15)
          have l915 := Lib.hid (MatB.below_ l914.out b15)
          have bb15 := Lib.hid (below_trans2 bb14.out b15)
          clear rm14 rt14 lm14 l914 bb14 b15 hK K
          refine wpPlan_only rfl (by rfl) (fun K hK => ?_)
          go_simp
          refine (c_equal.out U A dU c w15 ru15.out rm15.out).mono ?_
          rintro e w16 ⟨rfl, b16⟩
          refine hK _ _ b16 ?_
          have rm16 := Lib.hid (rm15.out.below b16)
          have rt16 := Lib.hid (rt15.out.below b16)
          have lm16 := Lib.hid (MatB.below_ lm15.out b16)
          have l916 := Lib.hid (MatB.below_ l915.out b16)
          have bb16 := Lib.hid (below_trans2 bb15.out b16)
          clear rm15 rt15 lm15 l915 ru15 bb15 b16 hK K
          have qlm0 := lm16.out.c0
          have qlm1 := lm16.out.c1
          have ql90 := l916.out.c0
          have ql91 := l916.out.c1
          iterate 12
            refine wpPlan_float (v := ?_) rfl (by rfl) (fun w' hw' => ?_) (fun K hK => ?_)
            rotate_left
            · (go_simp; try with_reducible rfl)
            go_simp
            refine hK _ ?_
            clear hK K
          rw [hwi.out, hwj.out]
          clear qlm0 qlm1 ql90 ql91
          refine wpPlan_only rfl (by rfl) (fun K hK => ?_)
          go_simp
          refine (c_has.out w16 rm16.out).mono ?_
          rintro e w17 ⟨rfl, b17⟩
          refine hK _ _ b17 ?_
          have rm17 := Lib.hid (rm16.out.below b17)
          have rt17 := Lib.hid (rt16.out.below b17)
          have lm17 := Lib.hid (MatB.below_ lm16.out b17)
          have l917 := Lib.hid (MatB.below_ l916.out b17)
          have bb17 := Lib.hid (below_trans2 bb16.out b17)
          clear rm16 rt16 lm16 l916 bb16 b17 hK K
          refine wpPlan_only rfl (by rfl) (fun K hK => ?_)
          go_simp
          refine (c_has2.out T dT w17 rt17.out).mono ?_
          rintro e w18 ⟨rfl, b18⟩
          refine hK _ _ b18 ?_
          have rm18 := Lib.hid (rm17.out.below b18)
          have rt18 := Lib.hid (rt17.out.below b18)
          have lm18 := Lib.hid (MatB.below_ lm17.out b18)
          have l918 := Lib.hid (MatB.below_ l917.out b18)
          have bb18 := Lib.hid (below_trans2 bb17.out b18)
          clear rm17 rt17 lm17 l917 bb17 b18 hK K
          have qlm0 := lm18.out.c0
          have qlm1 := lm18.out.c1
          have ql90 := l918.out.c0
          have ql91 := l918.out.c1
          iterate 5
            refine wpPlan_float (v := ?_) rfl (by rfl) (fun w' hw' => ?_) (fun K hK => ?_)
            rotate_left
            · (go_simp; try with_reducible rfl)
            go_simp
            refine hK _ ?_
            clear hK K
          clear qlm0 qlm1 ql90 ql91
          refine wpPlan_only rfl (by rfl) (fun K hK => ?_)
          go_simp
          refine (c_pairs2.out T dT w18 rt18.out).mono ?_
          rintro e w19 ⟨E2, m2, k2, rfl, hp2, b19⟩
          have hm2 := Lib.hid hp2.1
          refine hK _ _ b19 ?_
          have rm19 := Lib.hid (rm18.out.below b19)
          have bb19 := Lib.hid (below_trans2 bb18.out b19)
          clear rm18 rt18 lm18 l918 bb18 b19 hK K hp2
          iterate 1
            refine wpPlan_float (v := ?_) rfl (by rfl) (fun w' hw' => ?_) (fun K hK => ?_)
            rotate_left
            · (go_simp; try with_reducible rfl)
            go_simp
            refine hK _ ?_
            clear hK K
          refine wpPlan_only rfl (by rfl) (fun K hK => ?_)
          go_simp
          refine (c_pairs.out w19 rm19.out).mono ?_
          rintro e w20 ⟨E3, m3, k3, rfl, hp3, b20⟩
          obtain rfl : m2 = m3 := by have := hm2.out; have := hp3.1; have := f_pairs.out; omega
          refine hK _ _ b20 ?_
          have bb20 := Lib.hid (below_trans2 bb19.out b20)
          clear rm19 bb19 b20 hK K hp3
          iterate 4
            refine wpPlan_float (v := ?_) rfl (by rfl) (fun w' hw' => ?_) (fun K hK => ?_)
            rotate_left
            · (go_simp; try with_reducible rfl)
            go_simp
            refine hK _ ?_
            clear hK K
          refine wpPlan_nil (NoPanic.normal ?_)
          go_wp2_with fail
          go_ret
          exact ⟨rfl, bb20.out⟩
        · go_simp
          obtain ⟨G, hG⟩ : ∃ G, G = w3.heap.size := ⟨_, rfl⟩
          obtain ⟨w7, hw7⟩ : ∃ w7, w7 = w3.alloc (.cells #[.int .i64 0, .slice none 0 0] 24) := ⟨_, rfl⟩
          rw [← hw7, ← hG]
          have ba : Below w3.heap.size w3 w7 := by rw [hw7]; exact (Below.refl _ _).alloc (Nat.le_refl _) _
          have b7 := below_trans2 b3 ba
          refine hK _ _ b7 ?_
          clear hK K
          have l77 := Lib.hid (show MatB w7 G 24 0 none 0 0 by rw [hw7, hG]; exact MatB.new w3 _)
          have hp7 := hp1.below ba
          have hWG : W.heap.size ≤ G := by have := b3.size; omega
          have hwW : w.heap.size < W.heap.size := hBW.out.lt
          have hwG : w.heap.size < G := by omega
          clear hw7 hG b3 ba hp1
          refine wpPT_one rfl (by rfl) (fun K hK => ?_)
          go_simp
          refine (c_of.out _ _ _ w7 hp7 hm1).mono ?_
          rintro e w8 ⟨C, n4, d, rfl, r4, _, b4⟩
          obtain rfl : n = n4 := by have := r4.len; have := f_len0.out; omega
          have b8 := below_trans2 b7 b4
          refine hK _ _ b8 ?_
          clear hK K
          have l78 := Lib.hid (MatB.below_ l77.out b4)
          have ra8 := Lib.hid r4
          have rm8 := Lib.hid (hrW.out.below b8)
          have lm8 := Lib.hid (hBW.out.below_ b8)
          have hfar := r4.farM l78.out f_one.out
          clear r4 b4 b7 l77
          iterate 3
            refine wpPT_float (v := ?_) rfl (by rfl) (fun w' hw' => ?_) (fun K hK => ?_)
            rotate_left
            · (go_simp; try with_reducible rfl)
            go_simp
            refine hK _ ?_
            clear hK K
          have f0 := l78.out.c0
          have f1 := l78.out.c1
          have g0 := l78.out.frozen 0
          have g1 := l78.out.frozen 1
          refine wpPT_one rfl (by rfl) (fun K hK => ?_)
          go_simp
          refine hK _ _ ((b8.setCell (p := ⟨G, 0, none⟩) (by simp <;> omega) (.int .i64 n)).setCell (p := ⟨G, 1, none⟩) (by simp <;> omega) (.slice C n d)) ?_
          clear hK K
          obtain ⟨w9, hw9⟩ : ∃ w9, w9 = (w8.setCell ⟨G, 0, none⟩ (.int .i64 n)).setCell ⟨G, 1, none⟩ (.slice C n d) := ⟨_, rfl⟩
          have l79 := Lib.hid (show MatB w9 G 24 n C n d by rw [hw9]; exact l78.out.put n C n d)
          have ra9 := Lib.hid (show RowsAt w9 C n xss by rw [hw9]; exact ra8.out.putB l78.out (fun h0 => hfar h0) _ _)
          have rm9 := Lib.hid (show RowsAt w9 A n xss by rw [hw9]; exact rm8.out.putB l78.out (fun h0 ad e => by have := hrW.out.block_lt h0 ad e; omega) _ _)
          have lm9 := Lib.hid (show MatB w9 w.heap.size 24 n A n c by rw [hw9]; exact (lm8.out.farB (p := ⟨G, 0, none⟩) (by simp <;> omega) _).farB (p := ⟨G, 1, none⟩) (by simp <;> omega) _)
          have bb9 := Lib.hid (show Below w.heap.size w w9 by rw [hw9]; exact ((below_trans2 hbW.out b8).setCell (p := ⟨G, 0, none⟩) (by simp <;> omega) _).setCell (p := ⟨G, 1, none⟩) (by simp <;> omega) _)
          rw [← hw9]
          iterate 1
            refine wpPT_float (v := ?_) rfl (by rfl) (fun w' hw' => ?_) (fun K hK => ?_)
            rotate_left
            · (go_simp; try with_reducible rfl)
            go_simp
            refine hK _ ?_
            clear hK K
          refine wpPT_done (NoPanic.normal ?_)
          clear hw9 f0 f1 g0 g1 l78 ra8 rm8 lm8 b8 hrW hBW hbW p0 p1 hfar
          have q0 := lm9.out.c0
          have q1 := lm9.out.c1
          go_wp2_with fail
          refine (c_turn.out w9 rm9.out).mono ?_; rintro e w10 ⟨T, nT, dT, rfl, rT, hcT, b10⟩
          obtain rfl : n = nT := by have := rT.len; have := f_tlen.out; omega
          obtain ⟨GT, hGT⟩ : ∃ G, G = w10.heap.size := ⟨_, rfl⟩
          obtain ⟨W11, hW11⟩ : ∃ W, W = w10.alloc (.cells #[.int .i64 n, .slice T n dT] 24) := ⟨_, rfl⟩
          have ba : Below w10.heap.size w10 W11 := by rw [hW11]; exact (Below.refl _ _).alloc (Nat.le_refl _) _
          have l911 := Lib.hid (show MatB W11 GT 24 n T n dT by rw [hW11, hGT]; exact MatB.new w10 _)
          have bx := below_trans2 b10 ba
          have rt11 := Lib.hid (rT.below ba)
          have ra11 := Lib.hid (ra9.out.below bx)
          have rm11 := Lib.hid (rm9.out.below bx)
          have l711 := Lib.hid (MatB.below_ l79.out bx)
          have lm11 := Lib.hid (MatB.below_ lm9.out bx)
          have bb11 := Lib.hid (below_trans2 bb9.out bx)
          clear ba bx b10 rT ra9 rm9 l79 lm9 bb9 q0 q1
          go_wp2_with fail
          rw [← hW11, ← hGT]
          clear hW11 hGT
          refine wp_region_plan 41 [(false, 0), (true, 1), (true, 2), (true, 3), (true, 4), (true, 5), (true, 6), (true, 7), (false, 8), (true, 9), (true, 10), (true, 11), (true, 13), (false, 12), (false, 14), (true, 15), (true, 16), (true, 17), (true, 18), (true, 19), (true, 20), (true, 21), (true, 23), (true, 24), (true, 25), (true, 26), (true, 27), (false, 22), (false, 28), (true, 29), (true, 30), (true, 31), (true, 32), (true, 35), (false, 33), (true, 34), (false, 36), (true, 37), (true, 38), (true, 39), (true, 40)] (by kernel_rfl) (by kernel_rfl) (fun W12 hW12 => ?_)
          have ra12 := Lib.hid (show RowsAt W12 C n xss by rw [hW12.out]; exact ra11.out)
          have rm12 := Lib.hid (show RowsAt W12 A n xss by rw [hW12.out]; exact rm11.out)
          have rt12 := Lib.hid (show RowsAt W12 T n (turnM xss) by rw [hW12.out]; exact rt11.out)
          have l712 := Lib.hid (show MatB W12 _ 24 n C n d by rw [hW12.out]; exact Blk.drew l711.out)
          have lm12 := Lib.hid (show MatB W12 _ 24 n A n c by rw [hW12.out]; exact Blk.drew lm11.out)
          have l912 := Lib.hid (show MatB W12 _ 24 n T n dT by rw [hW12.out]; exact Blk.drew l911.out)
          have bb12 := Lib.hid (show Below w.heap.size w W12 by rw [hW12.out]; exact bb11.out.drew)
          clear ra11 rm11 rt11 l711 lm11 l911 bb11 hW12
          simp only [List.drop_succ_cons, List.drop_nil]
          refine wpPlan_only rfl (by rfl) (fun K hK => ?_)
          go_simp
          refine (law3_awake W12).mono ?_
          rintro e w13 ⟨rfl, b13⟩
          refine hK _ _ b13 ?_
          have ra13 := Lib.hid (ra12.out.below b13)
          have rm13 := Lib.hid (rm12.out.below b13)
          have rt13 := Lib.hid (rt12.out.below b13)
          have l713 := Lib.hid (MatB.below_ l712.out b13)
          have lm13 := Lib.hid (MatB.below_ lm12.out b13)
          have l913 := Lib.hid (MatB.below_ l912.out b13)
          have bb13 := Lib.hid (below_trans2 bb12.out b13)
          clear ra12 rm12 rt12 l712 lm12 l912 bb12 b13 hK K
          have ql70 := l713.out.c0
          have ql71 := l713.out.c1
          have qlm0 := lm13.out.c0
          have qlm1 := lm13.out.c1
          iterate 7
            refine wpPlan_float (v := ?_) rfl (by rfl) (fun w' hw' => ?_) (fun K hK => ?_)
            rotate_left
            · (go_simp; try with_reducible rfl)
            go_simp
            refine hK _ ?_
            clear hK K
          clear ql70 ql71 qlm0 qlm1
          refine wpPlan_only rfl (by rfl) (fun K hK => ?_)
          go_simp
          refine (c_equal.out C A d c w13 ra13.out rm13.out).mono ?_
          rintro e w14 ⟨rfl, b14⟩
          refine hK _ _ b14 ?_
          have rm14 := Lib.hid (rm13.out.below b14)
          have rt14 := Lib.hid (rt13.out.below b14)
          have lm14 := Lib.hid (MatB.below_ lm13.out b14)
          have l914 := Lib.hid (MatB.below_ l913.out b14)
          have bb14 := Lib.hid (below_trans2 bb13.out b14)
          clear ra13 rm13 rt13 l713 lm13 l913 bb13 b14 hK K
          have qlm0 := lm14.out.c0
          have qlm1 := lm14.out.c1
          have ql90 := l914.out.c0
          have ql91 := l914.out.c1
          iterate 4
            refine wpPlan_float (v := ?_) rfl (by rfl) (fun w' hw' => ?_) (fun K hK => ?_)
            rotate_left
            · (go_simp; try with_reducible rfl)
            go_simp
            refine hK _ ?_
            clear hK K
          clear qlm0 qlm1 ql90 ql91
          refine wpPlan_only rfl (by rfl) (fun K hK => ?_)
          go_simp
          refine (c_turn2.out T dT w14 rt14.out hcT).mono ?_
          rintro e w15 ⟨U, nU, dU, rfl, ru15, _, b15⟩
          obtain rfl : n = nU := by have := ru15.len; have := f_len0.out; omega
          replace ru15 := Lib.hid ru15
          refine hK _ _ b15 ?_
          have rm15 := Lib.hid (rm14.out.below b15)
          have rt15 := Lib.hid (rt14.out.below b15)
          have lm15 := Lib.hid (MatB.below_ lm14.out b15)
          have l915 := Lib.hid (MatB.below_ l914.out b15)
          have bb15 := Lib.hid (below_trans2 bb14.out b15)
          clear rm14 rt14 lm14 l914 bb14 b15 hK K
          refine wpPlan_only rfl (by rfl) (fun K hK => ?_)
          go_simp
          refine (c_equal.out U A dU c w15 ru15.out rm15.out).mono ?_
          rintro e w16 ⟨rfl, b16⟩
          refine hK _ _ b16 ?_
          have rm16 := Lib.hid (rm15.out.below b16)
          have rt16 := Lib.hid (rt15.out.below b16)
          have lm16 := Lib.hid (MatB.below_ lm15.out b16)
          have l916 := Lib.hid (MatB.below_ l915.out b16)
          have bb16 := Lib.hid (below_trans2 bb15.out b16)
          clear rm15 rt15 lm15 l915 ru15 bb15 b16 hK K
          have qlm0 := lm16.out.c0
          have qlm1 := lm16.out.c1
          have ql90 := l916.out.c0
          have ql91 := l916.out.c1
          iterate 12
            refine wpPlan_float (v := ?_) rfl (by rfl) (fun w' hw' => ?_) (fun K hK => ?_)
            rotate_left
            · (go_simp; try with_reducible rfl)
            go_simp
            refine hK _ ?_
            clear hK K
          rw [hwi.out, hwj.out]
          clear qlm0 qlm1 ql90 ql91
          refine wpPlan_only rfl (by rfl) (fun K hK => ?_)
          go_simp
          refine (c_has.out w16 rm16.out).mono ?_
          rintro e w17 ⟨rfl, b17⟩
          refine hK _ _ b17 ?_
          have rm17 := Lib.hid (rm16.out.below b17)
          have rt17 := Lib.hid (rt16.out.below b17)
          have lm17 := Lib.hid (MatB.below_ lm16.out b17)
          have l917 := Lib.hid (MatB.below_ l916.out b17)
          have bb17 := Lib.hid (below_trans2 bb16.out b17)
          clear rm16 rt16 lm16 l916 bb16 b17 hK K
          refine wpPlan_only rfl (by rfl) (fun K hK => ?_)
          go_simp
          refine (c_has2.out T dT w17 rt17.out).mono ?_
          rintro e w18 ⟨rfl, b18⟩
          refine hK _ _ b18 ?_
          have rm18 := Lib.hid (rm17.out.below b18)
          have rt18 := Lib.hid (rt17.out.below b18)
          have lm18 := Lib.hid (MatB.below_ lm17.out b18)
          have l918 := Lib.hid (MatB.below_ l917.out b18)
          have bb18 := Lib.hid (below_trans2 bb17.out b18)
          clear rm17 rt17 lm17 l917 bb17 b18 hK K
          have qlm0 := lm18.out.c0
          have qlm1 := lm18.out.c1
          have ql90 := l918.out.c0
          have ql91 := l918.out.c1
          iterate 5
            refine wpPlan_float (v := ?_) rfl (by rfl) (fun w' hw' => ?_) (fun K hK => ?_)
            rotate_left
            · (go_simp; try with_reducible rfl)
            go_simp
            refine hK _ ?_
            clear hK K
          clear qlm0 qlm1 ql90 ql91
          refine wpPlan_only rfl (by rfl) (fun K hK => ?_)
          go_simp
          refine (c_pairs2.out T dT w18 rt18.out).mono ?_
          rintro e w19 ⟨E2, m2, k2, rfl, hp2, b19⟩
          have hm2 := Lib.hid hp2.1
          refine hK _ _ b19 ?_
          have rm19 := Lib.hid (rm18.out.below b19)
          have bb19 := Lib.hid (below_trans2 bb18.out b19)
          clear rm18 rt18 lm18 l918 bb18 b19 hK K hp2
          iterate 1
            refine wpPlan_float (v := ?_) rfl (by rfl) (fun w' hw' => ?_) (fun K hK => ?_)
            rotate_left
            · (go_simp; try with_reducible rfl)
            go_simp
            refine hK _ ?_
            clear hK K
          refine wpPlan_only rfl (by rfl) (fun K hK => ?_)
          go_simp
          refine (c_pairs.out w19 rm19.out).mono ?_
          rintro e w20 ⟨E3, m3, k3, rfl, hp3, b20⟩
          obtain rfl : m2 = m3 := by have := hm2.out; have := hp3.1; have := f_pairs.out; omega
          refine hK _ _ b20 ?_
          have bb20 := Lib.hid (below_trans2 bb19.out b20)
          clear rm19 bb19 b20 hK K hp3
          iterate 4
            refine wpPlan_float (v := ?_) rfl (by rfl) (fun w' hw' => ?_) (fun K hK => ?_)
            rotate_left
            · (go_simp; try with_reducible rfl)
            go_simp
            refine hK _ ?_
            clear hK K
          refine wpPlan_nil (NoPanic.normal ?_)
          go_wp2_with fail
          go_ret
          exact ⟨rfl, bb20.out⟩
      · go_simp
        obtain ⟨G, hG⟩ : ∃ G, G = W.heap.size := ⟨_, rfl⟩
        obtain ⟨w6, hw6⟩ : ∃ w6, w6 = W.alloc (.cells #[.int .i64 0, .slice none 0 0] 24) := ⟨_, rfl⟩
        rw [← hw6, ← hG]
        have ba : Below W.heap.size W w6 := by rw [hw6]; exact (Below.refl _ _).alloc (Nat.le_refl _) _
        refine hK _ _ ba ?_
        clear hK K
        have l76 : MatB w6 G 24 0 none 0 0 := by rw [hw6, hG]; exact MatB.new W _
        have hWG : W.heap.size ≤ G := by omega
        have hwW : w.heap.size < W.heap.size := hBW.out.lt
        have hwG : w.heap.size < G := by omega
        clear hw6 hG
        refine wpPT_one rfl (by rfl) (fun K hK => ?_)
        go_simp
        refine (c_pairs.out w6 (hrW.out.below ba)).mono ?_
        rintro e w7 ⟨E1, m1, k1, rfl, hp1, b3⟩
        have hm1 : m1 ≤ 1073741824 := by have := hp1.1; omega
        have b7 := below_trans2 ba b3
        refine hK _ _ b7 ?_
        clear hK K
        have l77 := Lib.hid (MatB.below_ l76 b3)
        clear l76 b3 ba
        refine wpPT_one rfl (by rfl) (fun K hK => ?_)
        go_simp
        refine (c_of.out _ _ _ w7 hp1 hm1).mono ?_
        rintro e w8 ⟨C, n4, d, rfl, r4, _, b4⟩
        obtain rfl : n = n4 := by have := r4.len; have := f_len0.out; omega
        have b8 := below_trans2 b7 b4
        refine hK _ _ b8 ?_
        clear hK K
        have l78 := Lib.hid (MatB.below_ l77.out b4)
        have ra8 := Lib.hid r4
        have rm8 := Lib.hid (hrW.out.below b8)
        have lm8 := Lib.hid (hBW.out.below_ b8)
        have hfar := r4.farM l78.out f_one.out
        clear r4 b4 b7 l77
        iterate 3
          refine wpPT_float (v := ?_) rfl (by rfl) (fun w' hw' => ?_) (fun K hK => ?_)
          rotate_left
          · (go_simp; try with_reducible rfl)
          go_simp
          refine hK _ ?_
          clear hK K
        have f0 := l78.out.c0
        have f1 := l78.out.c1
        have g0 := l78.out.frozen 0
        have g1 := l78.out.frozen 1
        refine wpPT_one rfl (by rfl) (fun K hK => ?_)
        go_simp
        refine hK _ _ ((b8.setCell (p := ⟨G, 0, none⟩) (by simp <;> omega) (.int .i64 n)).setCell (p := ⟨G, 1, none⟩) (by simp <;> omega) (.slice C n d)) ?_
        clear hK K
        obtain ⟨w9, hw9⟩ : ∃ w9, w9 = (w8.setCell ⟨G, 0, none⟩ (.int .i64 n)).setCell ⟨G, 1, none⟩ (.slice C n d) := ⟨_, rfl⟩
        have l79 := Lib.hid (show MatB w9 G 24 n C n d by rw [hw9]; exact l78.out.put n C n d)
        have ra9 := Lib.hid (show RowsAt w9 C n xss by rw [hw9]; exact ra8.out.putB l78.out (fun h0 => hfar h0) _ _)
        have rm9 := Lib.hid (show RowsAt w9 A n xss by rw [hw9]; exact rm8.out.putB l78.out (fun h0 ad e => by have := hrW.out.block_lt h0 ad e; omega) _ _)
        have lm9 := Lib.hid (show MatB w9 w.heap.size 24 n A n c by rw [hw9]; exact (lm8.out.farB (p := ⟨G, 0, none⟩) (by simp <;> omega) _).farB (p := ⟨G, 1, none⟩) (by simp <;> omega) _)
        have bb9 := Lib.hid (show Below w.heap.size w w9 by rw [hw9]; exact ((below_trans2 hbW.out b8).setCell (p := ⟨G, 0, none⟩) (by simp <;> omega) _).setCell (p := ⟨G, 1, none⟩) (by simp <;> omega) _)
        rw [← hw9]
        iterate 1
          refine wpPT_float (v := ?_) rfl (by rfl) (fun w' hw' => ?_) (fun K hK => ?_)
          rotate_left
          · (go_simp; try with_reducible rfl)
          go_simp
          refine hK _ ?_
          clear hK K
        refine wpPT_done (NoPanic.normal ?_)
        clear hw9 f0 f1 g0 g1 l78 ra8 rm8 lm8 b8 hrW hBW hbW p0 p1 hfar
        have q0 := lm9.out.c0
        have q1 := lm9.out.c1
        go_wp2_with fail
        refine (c_turn.out w9 rm9.out).mono ?_; rintro e w10 ⟨T, nT, dT, rfl, rT, hcT, b10⟩
        obtain rfl : n = nT := by have := rT.len; have := f_tlen.out; omega
        obtain ⟨GT, hGT⟩ : ∃ G, G = w10.heap.size := ⟨_, rfl⟩
        obtain ⟨W11, hW11⟩ : ∃ W, W = w10.alloc (.cells #[.int .i64 n, .slice T n dT] 24) := ⟨_, rfl⟩
        have ba : Below w10.heap.size w10 W11 := by rw [hW11]; exact (Below.refl _ _).alloc (Nat.le_refl _) _
        have l911 := Lib.hid (show MatB W11 GT 24 n T n dT by rw [hW11, hGT]; exact MatB.new w10 _)
        have bx := below_trans2 b10 ba
        have rt11 := Lib.hid (rT.below ba)
        have ra11 := Lib.hid (ra9.out.below bx)
        have rm11 := Lib.hid (rm9.out.below bx)
        have l711 := Lib.hid (MatB.below_ l79.out bx)
        have lm11 := Lib.hid (MatB.below_ lm9.out bx)
        have bb11 := Lib.hid (below_trans2 bb9.out bx)
        clear ba bx b10 rT ra9 rm9 l79 lm9 bb9 q0 q1
        go_wp2_with fail
        rw [← hW11, ← hGT]
        clear hW11 hGT
        refine wp_region_plan 41 [(false, 0), (true, 1), (true, 2), (true, 3), (true, 4), (true, 5), (true, 6), (true, 7), (false, 8), (true, 9), (true, 10), (true, 11), (true, 13), (false, 12), (false, 14), (true, 15), (true, 16), (true, 17), (true, 18), (true, 19), (true, 20), (true, 21), (true, 23), (true, 24), (true, 25), (true, 26), (true, 27), (false, 22), (false, 28), (true, 29), (true, 30), (true, 31), (true, 32), (true, 35), (false, 33), (true, 34), (false, 36), (true, 37), (true, 38), (true, 39), (true, 40)] (by kernel_rfl) (by kernel_rfl) (fun W12 hW12 => ?_)
        have ra12 := Lib.hid (show RowsAt W12 C n xss by rw [hW12.out]; exact ra11.out)
        have rm12 := Lib.hid (show RowsAt W12 A n xss by rw [hW12.out]; exact rm11.out)
        have rt12 := Lib.hid (show RowsAt W12 T n (turnM xss) by rw [hW12.out]; exact rt11.out)
        have l712 := Lib.hid (show MatB W12 _ 24 n C n d by rw [hW12.out]; exact Blk.drew l711.out)
        have lm12 := Lib.hid (show MatB W12 _ 24 n A n c by rw [hW12.out]; exact Blk.drew lm11.out)
        have l912 := Lib.hid (show MatB W12 _ 24 n T n dT by rw [hW12.out]; exact Blk.drew l911.out)
        have bb12 := Lib.hid (show Below w.heap.size w W12 by rw [hW12.out]; exact bb11.out.drew)
        clear ra11 rm11 rt11 l711 lm11 l911 bb11 hW12
        simp only [List.drop_succ_cons, List.drop_nil]
        refine wpPlan_only rfl (by rfl) (fun K hK => ?_)
        go_simp
        refine (law3_awake W12).mono ?_
        rintro e w13 ⟨rfl, b13⟩
        refine hK _ _ b13 ?_
        have ra13 := Lib.hid (ra12.out.below b13)
        have rm13 := Lib.hid (rm12.out.below b13)
        have rt13 := Lib.hid (rt12.out.below b13)
        have l713 := Lib.hid (MatB.below_ l712.out b13)
        have lm13 := Lib.hid (MatB.below_ lm12.out b13)
        have l913 := Lib.hid (MatB.below_ l912.out b13)
        have bb13 := Lib.hid (below_trans2 bb12.out b13)
        clear ra12 rm12 rt12 l712 lm12 l912 bb12 b13 hK K
        have ql70 := l713.out.c0
        have ql71 := l713.out.c1
        have qlm0 := lm13.out.c0
        have qlm1 := lm13.out.c1
        iterate 7
          refine wpPlan_float (v := ?_) rfl (by rfl) (fun w' hw' => ?_) (fun K hK => ?_)
          rotate_left
          · (go_simp; try with_reducible rfl)
          go_simp
          refine hK _ ?_
          clear hK K
        clear ql70 ql71 qlm0 qlm1
        refine wpPlan_only rfl (by rfl) (fun K hK => ?_)
        go_simp
        refine (c_equal.out C A d c w13 ra13.out rm13.out).mono ?_
        rintro e w14 ⟨rfl, b14⟩
        refine hK _ _ b14 ?_
        have rm14 := Lib.hid (rm13.out.below b14)
        have rt14 := Lib.hid (rt13.out.below b14)
        have lm14 := Lib.hid (MatB.below_ lm13.out b14)
        have l914 := Lib.hid (MatB.below_ l913.out b14)
        have bb14 := Lib.hid (below_trans2 bb13.out b14)
        clear ra13 rm13 rt13 l713 lm13 l913 bb13 b14 hK K
        have qlm0 := lm14.out.c0
        have qlm1 := lm14.out.c1
        have ql90 := l914.out.c0
        have ql91 := l914.out.c1
        iterate 4
          refine wpPlan_float (v := ?_) rfl (by rfl) (fun w' hw' => ?_) (fun K hK => ?_)
          rotate_left
          · (go_simp; try with_reducible rfl)
          go_simp
          refine hK _ ?_
          clear hK K
        clear qlm0 qlm1 ql90 ql91
        refine wpPlan_only rfl (by rfl) (fun K hK => ?_)
        go_simp
        refine (c_turn2.out T dT w14 rt14.out hcT).mono ?_
        rintro e w15 ⟨U, nU, dU, rfl, ru15, _, b15⟩
        obtain rfl : n = nU := by have := ru15.len; have := f_len0.out; omega
        replace ru15 := Lib.hid ru15
        refine hK _ _ b15 ?_
        have rm15 := Lib.hid (rm14.out.below b15)
        have rt15 := Lib.hid (rt14.out.below b15)
        have lm15 := Lib.hid (MatB.below_ lm14.out b15)
        have l915 := Lib.hid (MatB.below_ l914.out b15)
        have bb15 := Lib.hid (below_trans2 bb14.out b15)
        clear rm14 rt14 lm14 l914 bb14 b15 hK K
        refine wpPlan_only rfl (by rfl) (fun K hK => ?_)
        go_simp
        refine (c_equal.out U A dU c w15 ru15.out rm15.out).mono ?_
        rintro e w16 ⟨rfl, b16⟩
        refine hK _ _ b16 ?_
        have rm16 := Lib.hid (rm15.out.below b16)
        have rt16 := Lib.hid (rt15.out.below b16)
        have lm16 := Lib.hid (MatB.below_ lm15.out b16)
        have l916 := Lib.hid (MatB.below_ l915.out b16)
        have bb16 := Lib.hid (below_trans2 bb15.out b16)
        clear rm15 rt15 lm15 l915 ru15 bb15 b16 hK K
        have qlm0 := lm16.out.c0
        have qlm1 := lm16.out.c1
        have ql90 := l916.out.c0
        have ql91 := l916.out.c1
        iterate 12
          refine wpPlan_float (v := ?_) rfl (by rfl) (fun w' hw' => ?_) (fun K hK => ?_)
          rotate_left
          · (go_simp; try with_reducible rfl)
          go_simp
          refine hK _ ?_
          clear hK K
        rw [hwi.out, hwj.out]
        clear qlm0 qlm1 ql90 ql91
        refine wpPlan_only rfl (by rfl) (fun K hK => ?_)
        go_simp
        refine (c_has.out w16 rm16.out).mono ?_
        rintro e w17 ⟨rfl, b17⟩
        refine hK _ _ b17 ?_
        have rm17 := Lib.hid (rm16.out.below b17)
        have rt17 := Lib.hid (rt16.out.below b17)
        have lm17 := Lib.hid (MatB.below_ lm16.out b17)
        have l917 := Lib.hid (MatB.below_ l916.out b17)
        have bb17 := Lib.hid (below_trans2 bb16.out b17)
        clear rm16 rt16 lm16 l916 bb16 b17 hK K
        refine wpPlan_only rfl (by rfl) (fun K hK => ?_)
        go_simp
        refine (c_has2.out T dT w17 rt17.out).mono ?_
        rintro e w18 ⟨rfl, b18⟩
        refine hK _ _ b18 ?_
        have rm18 := Lib.hid (rm17.out.below b18)
        have rt18 := Lib.hid (rt17.out.below b18)
        have lm18 := Lib.hid (MatB.below_ lm17.out b18)
        have l918 := Lib.hid (MatB.below_ l917.out b18)
        have bb18 := Lib.hid (below_trans2 bb17.out b18)
        clear rm17 rt17 lm17 l917 bb17 b18 hK K
        have qlm0 := lm18.out.c0
        have qlm1 := lm18.out.c1
        have ql90 := l918.out.c0
        have ql91 := l918.out.c1
        iterate 5
          refine wpPlan_float (v := ?_) rfl (by rfl) (fun w' hw' => ?_) (fun K hK => ?_)
          rotate_left
          · (go_simp; try with_reducible rfl)
          go_simp
          refine hK _ ?_
          clear hK K
        clear qlm0 qlm1 ql90 ql91
        refine wpPlan_only rfl (by rfl) (fun K hK => ?_)
        go_simp
        refine (c_pairs2.out T dT w18 rt18.out).mono ?_
        rintro e w19 ⟨E2, m2, k2, rfl, hp2, b19⟩
        have hm2 := Lib.hid hp2.1
        refine hK _ _ b19 ?_
        have rm19 := Lib.hid (rm18.out.below b19)
        have bb19 := Lib.hid (below_trans2 bb18.out b19)
        clear rm18 rt18 lm18 l918 bb18 b19 hK K hp2
        iterate 1
          refine wpPlan_float (v := ?_) rfl (by rfl) (fun w' hw' => ?_) (fun K hK => ?_)
          rotate_left
          · (go_simp; try with_reducible rfl)
          go_simp
          refine hK _ ?_
          clear hK K
        refine wpPlan_only rfl (by rfl) (fun K hK => ?_)
        go_simp
        refine (c_pairs.out w19 rm19.out).mono ?_
        rintro e w20 ⟨E3, m3, k3, rfl, hp3, b20⟩
        obtain rfl : m2 = m3 := by have := hm2.out; have := hp3.1; have := f_pairs.out; omega
        refine hK _ _ b20 ?_
        have bb20 := Lib.hid (below_trans2 bb19.out b20)
        clear rm19 bb19 b20 hK K hp3
        iterate 4
          refine wpPlan_float (v := ?_) rfl (by rfl) (fun w' hw' => ?_) (fun K hK => ?_)
          rotate_left
          · (go_simp; try with_reducible rfl)
          go_simp
          refine hK _ ?_
          clear hK K
        refine wpPlan_nil (NoPanic.normal ?_)
        go_wp2_with fail
        go_ret
        exact ⟨rfl, bb20.out⟩

end Go.Proofs.Ytlfdmjlllikmcaa
