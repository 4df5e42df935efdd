/- The law MatTells. -/
import Derived.Test.YtkikoniihmieiaaLaw3A
import Derived.Test.YtkikoniihmieiaaTurnFacts
import Derived.Test.YtkikoniihmieiaaMatRefC
import Derived.Test.YtkikoniihmieiaaMatRefE
import Derived.Test.YtkikoniihmieiaaMatRefI
import Derived.Test.YtkikoniihmieiaaMatSet
import Derived.Test.YtkikoniihmieiaaPlanS
import Derived.Test.YtkikoniihmieiaaLaw3C
import Derived.Test.YtkikoniihmieiaaLaw3P
import Derived.Test.YtkikoniihmieiaaMatMore
namespace Go.Proofs.Ytkikoniihmieiaa
open Go.RowKit
set_option linter.unusedVariables false

set_option maxRecDepth 100000 in
set_option maxHeartbeats 16000000 in
theorem law_MatTells (N M : Int) (A B : Option Addr) (n c m d : Nat) (xss yss : List (List Nat)) (i j : Int) (w : World) (hr : RowsAt w A n xss) (hs : RowsAt w B m yss) (hc : n ≤ c) (hn : n ≤ 9223372036854775807) (hm : m ≤ 9223372036854775807)
    (hl : ∀ (k : Nat) (xs : List Nat), xss[k]? = some xs → xs.length ≤ 9223372036854775807) (hl2 : ∀ (k : Nat) (xs : List Nat), yss[k]? = some xs → xs.length ≤ 9223372036854775807)
    (i0 : -9223372036854775808 ≤ i) (i1 : i < 9223372036854775808) (j0 : -9223372036854775808 ≤ j) (j1 : j < 9223372036854775808) :
    Calls Try.prog 3 #[.agg #[.int .i64 N, .slice A n c, .int .i64 M, .slice B m d, .int .i64 i, .int .i64 j]] w (RetB true w) := by
  have hSa := Lib.hid (fun W hW => ref3_Small N A n c xss 20 W hW hn hl (by omega))
  have hSb := Lib.hid (fun W hW => ref3_Small M B m d yss 20 W hW hm hl2 (by omega))
  have hla := hr.len
  have hlb := hs.len
  have hw64a := hr.w64
  have hw64b := hs.w64
  obtain ⟨W0, hW0⟩ : ∃ W0, W0 = w.alloc (.cells #[.int .i64 N, .slice A n c, .int .i64 M, .slice B m d, .int .i64 i, .int .i64 j] 26) := ⟨_, rfl⟩
  have ha : Below w.heap.size w W0 := by rw [hW0]; exact below_alloc _ _
  have hB : Blk W0 w.heap.size 26 [.int .i64 N, .slice A n c, .int .i64 M, .slice B m d, .int .i64 i, .int .i64 j] := by rw [hW0]; exact Blk.new w _ _
  have hr0 := Lib.hid (hr.below ha)
  have hs0 := Lib.hid (hs.below ha)
  replace ha := Lib.hid ha
  replace hB := Lib.hid hB
  clear hr hs
  go_enter Try.func3, Try.ntmps3
  go_wp2_with fail
  rw [← hW0]
  clear hW0
  refine wp_region_tree (.flt 0 (.flt 1 (.flt 2 (.flt 3 (.flt 4 (.flt 5 (.flt 6 (.flt 7 (.two 8 9 (.one 9 (.one 10 (.one 11 (.flt 12 (.flt 13 .done))))) (.one 8 (.one 10 (.one 11 (.flt 12 (.flt 13 .done)))))))))))))) (by kernel_rfl) (by kernel_rfl) (fun W hW => ?_)
  have hBW : Blk W w.heap.size 26 [.int .i64 N, .slice A n c, .int .i64 M, .slice B m d, .int .i64 i, .int .i64 j] := by rw [hW.out]; exact Blk.drew hB.out
  have p0 := Blk.cell hBW 0
  have p1 := Blk.cell hBW 1
  have p2 := Blk.cell hBW 2
  have p3 := Blk.cell hBW 3
  have p4 := Blk.cell hBW 4
  have p5 := Blk.cell hBW 5
  simp only [List.getElem?_cons_zero, List.getElem?_cons_succ] at p0 p1 p2 p3 p4 p5
  have hbW := Lib.hid (show Below w.heap.size w W by rw [hW.out]; exact ha.out.drew)
  have hrW := Lib.hid (show RowsAt W A n xss by rw [hW.out]; exact hr0.out)
  have hsW := Lib.hid (show RowsAt W B m yss by rw [hW.out]; exact hs0.out)
  clear hBW hB ha hr0 hs0 hW
  iterate 8
    refine wpPT_float (v := ?_) rfl (by rfl) (fun w' hw' => ?_) (fun K hK => ?_)
    rotate_left
    · (go_simp; try with_reducible rfl)
    go_simp
    refine hK _ ?_
    clear hK K
  apply cut_three (F := fun G3 G4 w9 => MatK w9 G3 24 N A n c xss ∧ MatK w9 G4 24 M B m d yss ∧ Below w.heap.size w w9)
  · intro key
    refine wpPT_two rfl (by rfl) rfl (by rfl) (fun K hK => ?_) (fun K hK => ?_)
    · -- leaf: 8 first (block G3), then 9 (block G4)
      go_simp
      obtain ⟨G3, hG3⟩ : ∃ G, G = W.heap.size := ⟨_, rfl⟩
      obtain ⟨w6, hw6⟩ : ∃ w6, w6 = W.alloc (.cells #[.int .i64 0, .slice none 0 0] 24) := ⟨_, rfl⟩
      rw [← hw6, ← hG3]
      have ba : Below W.heap.size W w6 := by rw [hw6]; exact below_alloc _ _
      refine hK _ _ ba ?_
      clear hK K
      have m1 : MatB w6 G3 24 0 none 0 0 := by rw [hw6, hG3]; exact MatB.new W _
      have hWF : W.heap.size ≤ G3 := by omega
      clear hw6 hG3
      refine wpPT_one rfl (by rfl) (fun K hK => ?_)
      go_simp
      obtain ⟨G4, hG4⟩ : ∃ G, G = w6.heap.size := ⟨_, rfl⟩
      obtain ⟨w7, hw7⟩ : ∃ w7, w7 = w6.alloc (.cells #[.int .i64 0, .slice none 0 0] 24) := ⟨_, rfl⟩
      rw [← hw7, ← hG4]
      have bc : Below w6.heap.size w6 w7 := by rw [hw7]; exact below_alloc _ _
      have b7 := below_trans2 ba bc
      refine hK _ _ b7 ?_
      clear hK K
      have m2 : MatB w7 G4 24 0 none 0 0 := by rw [hw7, hG4]; exact MatB.new w6 _
      have m1' : MatB w7 G3 24 0 none 0 0 := m1.below_ bc
      have hFS : G3 < G4 := by have := m1.lt; omega
      clear hw7 hG4 m1 ba bc
      have mm3 : MatB w7 G3 24 0 none 0 0 := m1'
      have mm4 : MatB w7 G4 24 0 none 0 0 := m2
      have h34 : G3 ≠ G4 := by omega
      have h3W : W.heap.size ≤ G3 := by omega
      have h4W : W.heap.size ≤ G4 := by omega
      clear m1' m2 hFS hWF
      have f0 := mm3.c0
      have f1 := mm3.c1
      have g0 := mm3.frozen 0
      have g1 := mm3.frozen 1
      refine wpPT_one rfl (by rfl) (fun K hK => ?_)
      go_simp
      obtain ⟨w8, hw8⟩ : ∃ w8, w8 = (w7.setCell ⟨G3, 0, none⟩ (.int .i64 N)).setCell ⟨G3, 1, none⟩ (.slice A n c) := ⟨_, rfl⟩
      rw [← hw8]
      have b8 : Below W.heap.size W w8 := by rw [hw8]; exact (b7.setCell (p := ⟨G3, 0, none⟩) (by simp <;> omega) _).setCell (p := ⟨G3, 1, none⟩) (by simp <;> omega) _
      refine hK _ _ b8 ?_
      clear hK K f0 f1 g0 g1
      have n3 : MatB w8 G3 24 N A n c := by rw [hw8]; exact mm3.put N A n c
      have n4 : MatB w8 G4 24 0 none 0 0 := by rw [hw8]; exact (mm4.farB (p := ⟨G3, 0, none⟩) (by simp <;> omega) _).farB (p := ⟨G3, 1, none⟩) (by simp <;> omega) _
      have rA8 : RowsAt w8 A n xss := by rw [hw8]; exact (hrW.out.below b7).putB mm3 (fun h0 ad e => by have := hrW.out.block_lt h0 ad e; omega) _ _
      have rB8 : RowsAt w8 B m yss := by rw [hw8]; exact (hsW.out.below b7).putB mm3 (fun h0 ad e => by have := hsW.out.block_lt h0 ad e; omega) _ _
      clear hw8 mm3 mm4
      have f0 := n4.c0
      have f1 := n4.c1
      have g0 := n4.frozen 0
      have g1 := n4.frozen 1
      refine wpPT_one rfl (by rfl) (fun K hK => ?_)
      go_simp
      obtain ⟨w9, hw9⟩ : ∃ w9, w9 = (w8.setCell ⟨G4, 0, none⟩ (.int .i64 M)).setCell ⟨G4, 1, none⟩ (.slice B m d) := ⟨_, rfl⟩
      rw [← hw9]
      have b9 : Below W.heap.size W w9 := by rw [hw9]; exact (b8.setCell (p := ⟨G4, 0, none⟩) (by simp <;> omega) _).setCell (p := ⟨G4, 1, none⟩) (by simp <;> omega) _
      refine hK _ _ b9 ?_
      clear hK K f0 f1 g0 g1
      have k3 := Lib.hid (show MatK w9 G3 24 N A n c xss by rw [hw9]; exact ⟨(n3.farB (p := ⟨G4, 0, none⟩) (by simp <;> omega) _).farB (p := ⟨G4, 1, none⟩) (by simp <;> omega) _, rA8.putB n4 (fun h0 ad e => by have := hrW.out.block_lt h0 ad e; omega) _ _⟩)
      have k4 := Lib.hid (show MatK w9 G4 24 M B m d yss by rw [hw9]; exact ⟨n4.put M B m d, rB8.putB n4 (fun h0 ad e => by have := hsW.out.block_lt h0 ad e; omega) _ _⟩)
      have bb := Lib.hid (below_trans2 hbW.out b9)
      clear hw9 n3 n4 rA8 rB8 b7 b8 b9 h34 h3W h4W
      iterate 2
        refine wpPT_float (v := ?_) rfl (by rfl) (fun w' hw' => ?_) (fun K hK => ?_)
        rotate_left
        · (go_simp; try with_reducible rfl)
        go_simp
        refine hK _ ?_
        clear hK K
      refine wpPT_done (NoPanic.normal ?_)
      exact key G3 G4 w9 ⟨k3.out, k4.out, bb.out⟩
    · -- leaf: 9 first (block G4), then 8 (block G3)
      go_simp
      obtain ⟨G4, hG4⟩ : ∃ G, G = W.heap.size := ⟨_, rfl⟩
      obtain ⟨w6, hw6⟩ : ∃ w6, w6 = W.alloc (.cells #[.int .i64 0, .slice none 0 0] 24) := ⟨_, rfl⟩
      rw [← hw6, ← hG4]
      have ba : Below W.heap.size W w6 := by rw [hw6]; exact below_alloc _ _
      refine hK _ _ ba ?_
      clear hK K
      have m1 : MatB w6 G4 24 0 none 0 0 := by rw [hw6, hG4]; exact MatB.new W _
      have hWF : W.heap.size ≤ G4 := by omega
      clear hw6 hG4
      refine wpPT_one rfl (by rfl) (fun K hK => ?_)
      go_simp
      obtain ⟨G3, hG3⟩ : ∃ G, G = w6.heap.size := ⟨_, rfl⟩
      obtain ⟨w7, hw7⟩ : ∃ w7, w7 = w6.alloc (.cells #[.int .i64 0, .slice none 0 0] 24) := ⟨_, rfl⟩
      rw [← hw7, ← hG3]
      have bc : Below w6.heap.size w6 w7 := by rw [hw7]; exact below_alloc _ _
      have b7 := below_trans2 ba bc
      refine hK _ _ b7 ?_
      clear hK K
      have m2 : MatB w7 G3 24 0 none 0 0 := by rw [hw7, hG3]; exact MatB.new w6 _
      have m1' : MatB w7 G4 24 0 none 0 0 := m1.below_ bc
      have hFS : G4 < G3 := by have := m1.lt; omega
      clear hw7 hG3 m1 ba bc
      have mm3 : MatB w7 G3 24 0 none 0 0 := m2
      have mm4 : MatB w7 G4 24 0 none 0 0 := m1'
      have h34 : G3 ≠ G4 := by omega
      have h3W : W.heap.size ≤ G3 := by omega
      have h4W : W.heap.size ≤ G4 := by omega
      clear m1' m2 hFS hWF
      have f0 := mm3.c0
      have f1 := mm3.c1
      have g0 := mm3.frozen 0
      have g1 := mm3.frozen 1
      refine wpPT_one rfl (by rfl) (fun K hK => ?_)
      go_simp
      obtain ⟨w8, hw8⟩ : ∃ w8, w8 = (w7.setCell ⟨G3, 0, none⟩ (.int .i64 N)).setCell ⟨G3, 1, none⟩ (.slice A n c) := ⟨_, rfl⟩
      rw [← hw8]
      have b8 : Below W.heap.size W w8 := by rw [hw8]; exact (b7.setCell (p := ⟨G3, 0, none⟩) (by simp <;> omega) _).setCell (p := ⟨G3, 1, none⟩) (by simp <;> omega) _
      refine hK _ _ b8 ?_
      clear hK K f0 f1 g0 g1
      have n3 : MatB w8 G3 24 N A n c := by rw [hw8]; exact mm3.put N A n c
      have n4 : MatB w8 G4 24 0 none 0 0 := by rw [hw8]; exact (mm4.farB (p := ⟨G3, 0, none⟩) (by simp <;> omega) _).farB (p := ⟨G3, 1, none⟩) (by simp <;> omega) _
      have rA8 : RowsAt w8 A n xss := by rw [hw8]; exact (hrW.out.below b7).putB mm3 (fun h0 ad e => by have := hrW.out.block_lt h0 ad e; omega) _ _
      have rB8 : RowsAt w8 B m yss := by rw [hw8]; exact (hsW.out.below b7).putB mm3 (fun h0 ad e => by have := hsW.out.block_lt h0 ad e; omega) _ _
      clear hw8 mm3 mm4
      have f0 := n4.c0
      have f1 := n4.c1
      have g0 := n4.frozen 0
      have g1 := n4.frozen 1
      refine wpPT_one rfl (by rfl) (fun K hK => ?_)
      go_simp
      obtain ⟨w9, hw9⟩ : ∃ w9, w9 = (w8.setCell ⟨G4, 0, none⟩ (.int .i64 M)).setCell ⟨G4, 1, none⟩ (.slice B m d) := ⟨_, rfl⟩
      rw [← hw9]
      have b9 : Below W.heap.size W w9 := by rw [hw9]; exact (b8.setCell (p := ⟨G4, 0, none⟩) (by simp <;> omega) _).setCell (p := ⟨G4, 1, none⟩) (by simp <;> omega) _
      refine hK _ _ b9 ?_
      clear hK K f0 f1 g0 g1
      have k3 := Lib.hid (show MatK w9 G3 24 N A n c xss by rw [hw9]; exact ⟨(n3.farB (p := ⟨G4, 0, none⟩) (by simp <;> omega) _).farB (p := ⟨G4, 1, none⟩) (by simp <;> omega) _, rA8.putB n4 (fun h0 ad e => by have := hrW.out.block_lt h0 ad e; omega) _ _⟩)
      have k4 := Lib.hid (show MatK w9 G4 24 M B m d yss by rw [hw9]; exact ⟨n4.put M B m d, rB8.putB n4 (fun h0 ad e => by have := hsW.out.block_lt h0 ad e; omega) _ _⟩)
      have bb := Lib.hid (below_trans2 hbW.out b9)
      clear hw9 n3 n4 rA8 rB8 b7 b8 b9 h34 h3W h4W
      iterate 2
        refine wpPT_float (v := ?_) rfl (by rfl) (fun w' hw' => ?_) (fun K hK => ?_)
        rotate_left
        · (go_simp; try with_reducible rfl)
        go_simp
        refine hK _ ?_
        clear hK K
      refine wpPT_done (NoPanic.normal ?_)
      exact key G3 G4 w9 ⟨k3.out, k4.out, bb.out⟩
  · intro G3 G4 w9 hk
    have k3 := Lib.hid hk.1
    have k4 := Lib.hid hk.2.1
    have bb := Lib.hid hk.2.2
    clear hk p0 p1 p2 p3 p4 p5 hrW hsW hbW
    have qk30 := k3.out.1.c0
    have qk31 := k3.out.1.c1
    have qk40 := k4.out.1.c0
    have qk41 := k4.out.1.c1
    go_wp2_with fail
    refine (hSa.out w9 k3.out.2).mono ?_; rintro e w10 ⟨rfl, b⟩
    replace k3 := Lib.hid (k3.out.below b)
    replace qk30 := k3.out.1.c0
    replace qk31 := k3.out.1.c1
    replace k4 := Lib.hid (k4.out.below b)
    replace qk40 := k4.out.1.c0
    replace qk41 := k4.out.1.c1
    replace bb := Lib.hid (below_trans2 bb.out b)
    clear b
    cases hsa : smallM xss 20 with
    | false =>
      go_wp2_with fail
      refine (law3_awake w10).mono ?_; rintro e wz ⟨rfl, b⟩
      have bz := below_trans2 bb.out b
      clear b bb
      go_wp2_with fail
      go_ret
      exact ⟨rfl, bz⟩
    | true =>
      go_wp2_with fail
      refine (hSb.out w10 k4.out.2).mono ?_; rintro e w11 ⟨rfl, b⟩
      replace k3 := Lib.hid (k3.out.below b)
      replace qk30 := k3.out.1.c0
      replace qk31 := k3.out.1.c1
      replace k4 := Lib.hid (k4.out.below b)
      replace qk40 := k4.out.1.c0
      replace qk41 := k4.out.1.c1
      replace bb := Lib.hid (below_trans2 bb.out b)
      clear b
      cases hsb : smallM yss 20 with
      | false =>
        go_wp2_with fail
        refine (law3_awake w11).mono ?_; rintro e wz ⟨rfl, b⟩
        have bz := below_trans2 bb.out b
        clear b bb
        go_wp2_with fail
        go_ret
        exact ⟨rfl, bz⟩
      | true =>
        go_wp2_with fail
        obtain ⟨sm1, sm2⟩ := smallM_len hsa
        obtain ⟨sn1, sn2⟩ := smallM_len hsb
        have cRa := Lib.hid (fun W hW => mat_Right N A n c xss W hW (by omega) (fun k xs hx => by have := sm2 xs (List.mem_of_getElem? hx); omega))
        have cRa3 := Lib.hid (fun W hW => ref3_Right N A n c xss W hW (by omega) (fun k xs hx => by have := sm2 xs (List.mem_of_getElem? hx); omega))
        have cRb3 := Lib.hid (fun W hW => ref3_Right M B m d yss W hW (by omega) (fun k xs hx => by have := sn2 xs (List.mem_of_getElem? hx); omega))
        clear hSa hSb hsa hsb
        go_wp2_with fail
        refine wp_region_plan 5 [(true, 0), (true, 2), (false, 1), (false, 3), (true, 4)] (by kernel_rfl) (by kernel_rfl) (fun W1 hW1 => ?_)
        replace k3 := Lib.hid (show MatK W1 G3 24 N A n c xss by rw [hW1.out]; exact k3.out.drew)
        replace k4 := Lib.hid (show MatK W1 G4 24 M B m d yss by rw [hW1.out]; exact k4.out.drew)
        replace bb := Lib.hid (show Below w.heap.size w W1 by rw [hW1.out]; exact bb.out.drew)
        clear hW1 qk30 qk31 qk40 qk41
        have qk30 := k3.out.1.c0
        have qk31 := k3.out.1.c1
        have qk40 := k4.out.1.c0
        have qk41 := k4.out.1.c1
        simp only [List.drop_succ_cons, List.drop_nil]
        iterate 2
          refine wpPlan_float (v := ?_) rfl (by rfl) (fun w' hw' => ?_) (fun K hK => ?_)
          rotate_left
          · (go_simp; try with_reducible rfl)
          go_simp
          refine hK _ ?_
          clear hK K
        refine wpPlan_only rfl (by rfl) (fun K hK => ?_)
        go_simp
        refine (cRa.out W1 k3.out.2).mono ?_
        rintro e w12 ⟨rfl, b⟩
        refine hK _ _ b ?_
        clear hK K
        replace k3 := Lib.hid (k3.out.below b)
        replace qk30 := k3.out.1.c0
        replace qk31 := k3.out.1.c1
        replace k4 := Lib.hid (k4.out.below b)
        replace qk40 := k4.out.1.c0
        replace qk41 := k4.out.1.c1
        replace bb := Lib.hid (below_trans2 bb.out b)
        clear b
        refine wpPlan_only rfl (by rfl) (fun K hK => ?_)
        go_simp
        refine (cRa3.out w12 k3.out.2).mono ?_
        rintro e w13 ⟨rfl, b⟩
        refine hK _ _ b ?_
        clear hK K
        replace k3 := Lib.hid (k3.out.below b)
        replace qk30 := k3.out.1.c0
        replace qk31 := k3.out.1.c1
        replace k4 := Lib.hid (k4.out.below b)
        replace qk40 := k4.out.1.c0
        replace qk41 := k4.out.1.c1
        replace bb := Lib.hid (below_trans2 bb.out b)
        clear b
        iterate 1
          refine wpPlan_float (v := ?_) rfl (by rfl) (fun w' hw' => ?_) (fun K hK => ?_)
          rotate_left
          · (go_simp; try with_reducible rfl)
          go_simp
          refine hK _ ?_
          clear hK K
        refine wpPlan_nil (NoPanic.normal ?_)
        go_wp2_with fail
        refine (cRa3.out w13 k3.out.2).mono ?_; rintro e w14 ⟨rfl, b⟩
        replace k3 := Lib.hid (k3.out.below b)
        replace qk30 := k3.out.1.c0
        replace qk31 := k3.out.1.c1
        replace k4 := Lib.hid (k4.out.below b)
        replace qk40 := k4.out.1.c0
        replace qk41 := k4.out.1.c1
        replace bb := Lib.hid (below_trans2 bb.out b)
        clear b
        cases hra : rightM N xss with
        | false =>
          go_wp2_with fail
          refine (law3_awake w14).mono ?_; rintro e wz ⟨rfl, b⟩
          have bz := below_trans2 bb.out b
          clear b bb
          go_wp2_with fail
          go_ret
          exact ⟨rfl, bz⟩
        | true =>
          go_wp2_with fail
          refine (cRb3.out w14 k4.out.2).mono ?_; rintro e w15 ⟨rfl, b⟩
          replace k3 := Lib.hid (k3.out.below b)
          replace qk30 := k3.out.1.c0
          replace qk31 := k3.out.1.c1
          replace k4 := Lib.hid (k4.out.below b)
          replace qk40 := k4.out.1.c0
          replace qk41 := k4.out.1.c1
          replace bb := Lib.hid (below_trans2 bb.out b)
          clear b
          cases hrb : rightM M yss with
          | false =>
            go_wp2_with fail
            refine (law3_awake w15).mono ?_; rintro e wz ⟨rfl, b⟩
            have bz := below_trans2 bb.out b
            clear b bb
            go_wp2_with fail
            go_ret
            exact ⟨rfl, bz⟩
          | true =>
            clear cRa cRa3 cRb3
            obtain ⟨p, rfl, hGa⟩ := Good.of hra hw64a
            obtain rfl : n = p := by have := hGa.len; omega
            obtain ⟨q, rfl, hGb⟩ := Good.of hrb hw64b
            obtain rfl : m = q := by have := hGb.len; omega
            have hn64 : n < 64 := by omega
            have hone := hGa.one hn64
            have hsma : ∀ (k : Nat) (xs : List Nat), xss[k]? = some xs → xs.length ≤ 64 := fun k xs hx => hGa.small xs (List.mem_of_getElem? hx)
            have hsmb : ∀ (k : Nat) (xs : List Nat), yss[k]? = some xs → xs.length ≤ 64 := fun k xs hx => hGb.small xs (List.mem_of_getElem? hx)
            obtain ⟨sN, sM, sE, cs, cs3, hs1, hs2⟩ : ∃ (sN : Int) (sM : List (List Nat)) (sE : Int), Hid (∀ W, RowsAt W A n xss → Calls Try.prog 12 #[.agg #[.int .i64 (n : Int), .slice A n c], .int .i64 i, .int .i64 j] W (RetMat sN sM sE W)) ∧
                Hid (∀ W, RowsAt W A n xss → Calls Try.prog 13 #[.agg #[.int .i64 (n : Int), .slice A n c], .int .i64 i, .int .i64 j] W (RetMat sN sM sE W)) ∧ sM.length ≤ 4096 ∧ ∀ (k : Nat) (xs : List Nat), sM[k]? = some xs → xs.length ≤ 64 := by
              cases h3 : inM (n : Int) i j with
              | true =>
                obtain ⟨a, b, he, ha, hb⟩ := okP_nat (x := (i, j)) h3
                simp only [Prod.mk.injEq] at he
                have hG := hGa.set ha hb
                rw [← he.1, ← he.2] at hG
                exact ⟨_, _, _, Lib.hid (fun W hW => mat_Set (n : Int) A n c xss i j W hW rfl hGa.le (fun xs hx => by have := hGa.small xs hx; omega) h3), Lib.hid (fun W hW => ref3_Set (n : Int) A n c xss i j W hW rfl hGa.le (fun xs hx => by have := hGa.small xs hx; omega) h3), by have := hG.len; have := hG.le; omega, fun k xs hx => hG.small xs (List.mem_of_getElem? hx)⟩
              | false => exact ⟨0, [], 1, Lib.hid (fun W hW => mat_Set_no (n : Int) A n c i j W h3), Lib.hid (fun W hW => ref3_Set_no (n : Int) A n c i j W h3), by simp, by simp⟩
            obtain ⟨oN, oM, oE, co, co3, ho1, ho2⟩ : ∃ (oN : Int) (oM : List (List Nat)) (oE : Int), Hid (∀ W, RowsAt W A n xss → RowsAt W B m yss → Calls Try.prog 14 #[.agg #[.int .i64 (n : Int), .slice A n c], .agg #[.int .i64 (m : Int), .slice B m d]] W (RetMat oN oM oE W)) ∧
                Hid (∀ W, RowsAt W A n xss → RowsAt W B m yss → Calls Try.prog 15 #[.agg #[.int .i64 (n : Int), .slice A n c], .agg #[.int .i64 (m : Int), .slice B m d]] W (RetMat oN oM oE W)) ∧ oM.length ≤ 4096 ∧ ∀ (k : Nat) (xs : List Nat), oM[k]? = some xs → xs.length ≤ 64 := by
              by_cases hnm : n = m
              · subst hnm
                exact ⟨_, _, _, Lib.hid (fun W h1 h2 => mat_Or A B n c d xss yss W h1 h2 hGa.le (hGa.same_len hGb)), Lib.hid (fun W h1 h2 => ref3_Or A B n c d xss yss W h1 h2 hGa.le (fun k xs hx => by have := hsma k xs hx; omega) (fun k xs hx => by have := hsmb k xs hx; omega)), by rw [orM_len, hGa.len]; exact hGa.le, fun k xs hx => orM_small hGa hGb xs (List.mem_of_getElem? hx)⟩
              · exact ⟨0, [], 1, Lib.hid (fun W h1 h2 => mat_Or_no (n : Int) (m : Int) A B n c m d W (by omega)), Lib.hid (fun W h1 h2 => ref3_Or_no (n : Int) (m : Int) A B n c m d W (by omega)), by simp, by simp⟩
            obtain ⟨ub, cu, cu3⟩ : ∃ ub : Bool, Hid (∀ W, RowsAt W A n xss → RowsAt W B m yss → Calls Try.prog 24 #[.agg #[.int .i64 (n : Int), .slice A n c], .agg #[.int .i64 (m : Int), .slice B m d]] W (RetB ub W)) ∧
                Hid (∀ W, RowsAt W A n xss → RowsAt W B m yss → Calls Try.prog 25 #[.agg #[.int .i64 (n : Int), .slice A n c], .agg #[.int .i64 (m : Int), .slice B m d]] W (RetB ub W)) := by
              by_cases hnm : n = m
              · subst hnm
                exact ⟨_, Lib.hid (fun W h1 h2 => mat_Sub A B n c d xss yss W h1 h2 (by omega) (fun k xs hx => by have := hsma k xs hx; omega) (fun k xs hx => by have := hsmb k xs hx; omega)), Lib.hid (fun W h1 h2 => ref3_Sub A B n c d xss yss W h1 h2 (by omega) (fun k xs hx => by have := hsma k xs hx; omega) (fun k xs hx => by have := hsmb k xs hx; omega))⟩
              · exact ⟨false, Lib.hid (fun W h1 h2 => mat_Sub_no (n : Int) (m : Int) A B n m c d W (by omega)), Lib.hid (fun W h1 h2 => ref3_Sub_no (n : Int) (m : Int) A B n m c d W (by omega) (by omega))⟩
            obtain ⟨vb, cv, cv3⟩ : ∃ vb : Bool, Hid (∀ W, RowsAt W A n xss → RowsAt W B m yss → Calls Try.prog 26 #[.agg #[.int .i64 (n : Int), .slice A n c], .agg #[.int .i64 (m : Int), .slice B m d]] W (RetB vb W)) ∧
                Hid (∀ W, RowsAt W A n xss → RowsAt W B m yss → Calls Try.prog 27 #[.agg #[.int .i64 (n : Int), .slice A n c], .agg #[.int .i64 (m : Int), .slice B m d]] W (RetB vb W)) := by
              by_cases hnm : n = m
              · subst hnm
                refine ⟨sameM xss yss, Lib.hid (fun W h1 h2 => mat_Same A B n c d xss yss W h1 h2 (by omega) (fun k xs hx => by have := hsma k xs hx; omega) (fun k xs hx => by have := hsmb k xs hx; omega)), Lib.hid (fun W h1 h2 => ?_)⟩
                rw [same_sub hGa hGb]
                exact ref3_Same A B n c d xss yss W h1 h2 (by omega) (fun k xs hx => by have := hsma k xs hx; omega) (fun k xs hx => by have := hsmb k xs hx; omega)
              · exact ⟨false, Lib.hid (fun W h1 h2 => mat_Same_no (n : Int) (m : Int) A B n m c d W (by omega)), Lib.hid (fun W h1 h2 => ref3_Same_no (n : Int) (m : Int) A B n m c d W (by omega) (by omega))⟩
            have ch := Lib.hid (fun W hW => mat_Has (n : Int) A n c xss i j W hW (by omega) (fun xs hx => by have := hGa.small xs hx; omega) i0 i1 j0 j1)
            have ch3 := Lib.hid (fun W hW => by
              have h := ref3_Has A n c xss i j W hW hGa.le (fun k xs hx => by have := hsma k xs hx; omega)
              rw [hGa.in_has] at h
              exact h)
            have cp := Lib.hid (fun W hW => mat_Pairs (n : Int) A n c xss W hW hGa.le (fun k xs hx => by have := hsma k xs hx; omega))
            have cp3 := Lib.hid (fun W hW => ref3_Pairs A n c xss W hW hGa.le (fun k xs hx => by have := hsma k xs hx; omega))
            have cpp := Lib.hid (fun E1 E2 n1 n2 c1 c2 W h1 h2 (h3 : n1 ≤ 16777216) => law3_pairs E1 E2 n1 n2 c1 c2 (pairsM xss) W h1 h2 (by omega))
            have ct := Lib.hid (fun W hW => mat_Turn A n c xss W hW hn64 hc (fun k xs hx => hone xs (List.mem_of_getElem? hx)))
            have ct3 := Lib.hid (fun W hW => by
              have h := ref3_Turn A n c xss W hW hGa.le (fun k xs hx => by have := hsma k xs hx; omega) hGa.okT
              rw [show turned (pairsM xss) = (pairsM xss).map (fun x => (x.2, x.1)) from rfl, fold_turned hGa hn64] at h
              exact h)
            have hGt := hGa.turn hn64
            have ceq := Lib.hid (fun K P n1 n2 d1 d2 zss W (h1 : RowsAt W P n1 zss) E2 (h2 : RowsAt W E2 n2 zss) (hz : zss.length ≤ 4096) (hzz : ∀ (k : Nat) (xs : List Nat), zss[k]? = some xs → xs.length ≤ 64) => by
              have l1 := h1.len
              have l2 := h2.len
              have h := ref3_Equal K K P E2 n1 n2 d1 d2 zss zss W h1 h2 (by omega) (by omega) (fun k xs hx => by have := hzz k xs hx; omega) (fun k xs hx => by have := hzz k xs hx; omega)
              rw [equalM_self'] at h
              exact h)
            have hpl := Lib.hid hGa.pairs_le
            have htl := Lib.hid (show (turnM xss).length ≤ 4096 by rw [hGt.len]; exact hGt.le)
            have htm := Lib.hid (show ∀ (k : Nat) (xs : List Nat), (turnM xss)[k]? = some xs → xs.length ≤ 64 from fun k xs hx => hGt.small xs (List.mem_of_getElem? hx))
            replace hs1 := Lib.hid hs1
            replace hs2 := Lib.hid hs2
            replace ho1 := Lib.hid ho1
            replace ho2 := Lib.hid ho2
            clear hGt hone hsma hsmb hGa hGb hn64 hra hrb hw64a hw64b hla hlb sm1 sm2 sn1 sn2 hl hl2 hn hm i0 i1 j0 j1 hc
            go_wp2_with fail
            refine (cs.out w15 k3.out.2).mono ?_; rintro e w16 ⟨C7, n7, c7, rfl, r7, _, b⟩
            obtain ⟨w17, hw17⟩ : ∃ W, W = w16.alloc (.cells #[.int .i64 sN, .slice C7 n7 c7] 24) := ⟨_, rfl⟩
            obtain ⟨G7, hG7⟩ : ∃ G, G = w16.heap.size := ⟨_, rfl⟩
            have ba : Below w16.heap.size w16 w17 := by rw [hw17]; exact below_alloc _ _
            have k7 := Lib.hid (show MatK w17 G7 24 sN C7 n7 c7 sM from ⟨by rw [hw17, hG7]; exact MatB.new _ _, r7.below ba⟩)
            replace b := below_trans2 b ba
            clear ba r7
            replace k3 := Lib.hid (k3.out.below b)
            replace qk30 := k3.out.1.c0
            replace qk31 := k3.out.1.c1
            replace k4 := Lib.hid (k4.out.below b)
            replace qk40 := k4.out.1.c0
            replace qk41 := k4.out.1.c1
            replace bb := Lib.hid (below_trans2 bb.out b)
            clear b
            rw [hw17] at qk30 qk31 qk40 qk41
            go_wp2_with fail
            rw [← hw17, ← hG7]
            rw [← hw17] at qk30 qk31 qk40 qk41
            clear hw17 hG7
            have qk70 := k7.out.1.c0
            have qk71 := k7.out.1.c1
            refine (cs3.out w17 k3.out.2).mono ?_; rintro e w18 ⟨C9, n9, c9, rfl, r9, _, b⟩
            obtain ⟨w19, hw19⟩ : ∃ W, W = w18.alloc (.cells #[.int .i64 sN, .slice C9 n9 c9] 24) := ⟨_, rfl⟩
            obtain ⟨G9, hG9⟩ : ∃ G, G = w18.heap.size := ⟨_, rfl⟩
            have ba : Below w18.heap.size w18 w19 := by rw [hw19]; exact below_alloc _ _
            have k9 := Lib.hid (show MatK w19 G9 24 sN C9 n9 c9 sM from ⟨by rw [hw19, hG9]; exact MatB.new _ _, r9.below ba⟩)
            replace b := below_trans2 b ba
            clear ba r9
            replace k3 := Lib.hid (k3.out.below b)
            replace qk30 := k3.out.1.c0
            replace qk31 := k3.out.1.c1
            replace k4 := Lib.hid (k4.out.below b)
            replace qk40 := k4.out.1.c0
            replace qk41 := k4.out.1.c1
            replace k7 := Lib.hid (k7.out.below b)
            replace qk70 := k7.out.1.c0
            replace qk71 := k7.out.1.c1
            replace bb := Lib.hid (below_trans2 bb.out b)
            clear b
            rw [hw19] at qk30 qk31 qk40 qk41 qk70 qk71
            go_wp2_with fail
            rw [← hw19, ← hG9]
            rw [← hw19] at qk30 qk31 qk40 qk41 qk70 qk71
            clear hw19 hG9
            have qk90 := k9.out.1.c0
            have qk91 := k9.out.1.c1
            refine (co.out w19 k3.out.2 k4.out.2).mono ?_; rintro e w20 ⟨C11, n11, c11, rfl, r11, _, b⟩
            obtain ⟨w21, hw21⟩ : ∃ W, W = w20.alloc (.cells #[.int .i64 oN, .slice C11 n11 c11] 24) := ⟨_, rfl⟩
            obtain ⟨G11, hG11⟩ : ∃ G, G = w20.heap.size := ⟨_, rfl⟩
            have ba : Below w20.heap.size w20 w21 := by rw [hw21]; exact below_alloc _ _
            have k11 := Lib.hid (show MatK w21 G11 24 oN C11 n11 c11 oM from ⟨by rw [hw21, hG11]; exact MatB.new _ _, r11.below ba⟩)
            replace b := below_trans2 b ba
            clear ba r11
            replace k3 := Lib.hid (k3.out.below b)
            replace qk30 := k3.out.1.c0
            replace qk31 := k3.out.1.c1
            replace k4 := Lib.hid (k4.out.below b)
            replace qk40 := k4.out.1.c0
            replace qk41 := k4.out.1.c1
            replace k7 := Lib.hid (k7.out.below b)
            replace qk70 := k7.out.1.c0
            replace qk71 := k7.out.1.c1
            replace k9 := Lib.hid (k9.out.below b)
            replace qk90 := k9.out.1.c0
            replace qk91 := k9.out.1.c1
            replace bb := Lib.hid (below_trans2 bb.out b)
            clear b
            rw [hw21] at qk30 qk31 qk40 qk41 qk70 qk71 qk90 qk91
            go_wp2_with fail
            rw [← hw21, ← hG11]
            rw [← hw21] at qk30 qk31 qk40 qk41 qk70 qk71 qk90 qk91
            clear hw21 hG11
            have qk110 := k11.out.1.c0
            have qk111 := k11.out.1.c1
            refine (co3.out w21 k3.out.2 k4.out.2).mono ?_; rintro e w22 ⟨C13, n13, c13, rfl, r13, _, b⟩
            obtain ⟨w23, hw23⟩ : ∃ W, W = w22.alloc (.cells #[.int .i64 oN, .slice C13 n13 c13] 24) := ⟨_, rfl⟩
            obtain ⟨G13, hG13⟩ : ∃ G, G = w22.heap.size := ⟨_, rfl⟩
            have ba : Below w22.heap.size w22 w23 := by rw [hw23]; exact below_alloc _ _
            have k13 := Lib.hid (show MatK w23 G13 24 oN C13 n13 c13 oM from ⟨by rw [hw23, hG13]; exact MatB.new _ _, r13.below ba⟩)
            replace b := below_trans2 b ba
            clear ba r13
            replace k3 := Lib.hid (k3.out.below b)
            replace qk30 := k3.out.1.c0
            replace qk31 := k3.out.1.c1
            replace k4 := Lib.hid (k4.out.below b)
            replace qk40 := k4.out.1.c0
            replace qk41 := k4.out.1.c1
            replace k7 := Lib.hid (k7.out.below b)
            replace qk70 := k7.out.1.c0
            replace qk71 := k7.out.1.c1
            replace k9 := Lib.hid (k9.out.below b)
            replace qk90 := k9.out.1.c0
            replace qk91 := k9.out.1.c1
            replace k11 := Lib.hid (k11.out.below b)
            replace qk110 := k11.out.1.c0
            replace qk111 := k11.out.1.c1
            replace bb := Lib.hid (below_trans2 bb.out b)
            clear b
            rw [hw23] at qk30 qk31 qk40 qk41 qk70 qk71 qk90 qk91 qk110 qk111
            go_wp2_with fail
            rw [← hw23, ← hG13]
            rw [← hw23] at qk30 qk31 qk40 qk41 qk70 qk71 qk90 qk91 qk110 qk111
            clear hw23 hG13
            have qk130 := k13.out.1.c0
            have qk131 := k13.out.1.c1
            simp only [List.append_eq, List.cons_append, List.nil_append]
            refine wp_region_plan 65 [(false, 0), (true, 1), (true, 2), (true, 3), (true, 4), (true, 6), (true, 7), (true, 8), (false, 5), (false, 9), (true, 10), (true, 11), (true, 12), (true, 13), (true, 14), (false, 15), (true, 16), (true, 17), (true, 18), (true, 19), (true, 20), (true, 21), (true, 22), (true, 23), (true, 24), (false, 25), (true, 26), (true, 27), (true, 28), (true, 29), (true, 30), (true, 31), (true, 32), (true, 33), (true, 35), (false, 34), (false, 36), (false, 37), (true, 38), (true, 39), (true, 40), (true, 42), (false, 41), (false, 43), (false, 44), (true, 45), (true, 46), (true, 47), (true, 48), (true, 50), (true, 51), (false, 49), (false, 52), (true, 53), (true, 54), (true, 55), (true, 56), (true, 57), (true, 59), (true, 60), (false, 58), (false, 61), (true, 62), (true, 63), (true, 64)] (by kernel_rfl) (by kernel_rfl) (fun W24 hW24 => ?_)
            replace k3 := Lib.hid (show MatK W24 G3 24 n A n c xss by rw [hW24.out]; exact k3.out.drew)
            replace k4 := Lib.hid (show MatK W24 G4 24 m B m d yss by rw [hW24.out]; exact k4.out.drew)
            replace k7 := Lib.hid (show MatK W24 G7 24 sN C7 n7 c7 sM by rw [hW24.out]; exact k7.out.drew)
            replace k9 := Lib.hid (show MatK W24 G9 24 sN C9 n9 c9 sM by rw [hW24.out]; exact k9.out.drew)
            replace k11 := Lib.hid (show MatK W24 G11 24 oN C11 n11 c11 oM by rw [hW24.out]; exact k11.out.drew)
            replace k13 := Lib.hid (show MatK W24 G13 24 oN C13 n13 c13 oM by rw [hW24.out]; exact k13.out.drew)
            replace bb := Lib.hid (show Below w.heap.size w W24 by rw [hW24.out]; exact bb.out.drew)
            clear hW24 qk30 qk31 qk40 qk41 qk70 qk71 qk90 qk91 qk110 qk111 qk130 qk131
            simp only [List.drop_succ_cons, List.drop_nil]
            have qk30 := k3.out.1.c0
            have qk31 := k3.out.1.c1
            have qk40 := k4.out.1.c0
            have qk41 := k4.out.1.c1
            have qk70 := k7.out.1.c0
            have qk71 := k7.out.1.c1
            have qk90 := k9.out.1.c0
            have qk91 := k9.out.1.c1
            have qk110 := k11.out.1.c0
            have qk111 := k11.out.1.c1
            have qk130 := k13.out.1.c0
            have qk131 := k13.out.1.c1
            refine wpPlan_only rfl (by rfl) (fun K hK => ?_)
            go_simp
            refine (law3_awake W24).mono ?_
            rintro e w24 ⟨rfl, b⟩
            refine hK _ _ b ?_
            clear hK K
            replace k3 := Lib.hid (k3.out.below b)
            replace qk30 := k3.out.1.c0
            replace qk31 := k3.out.1.c1
            replace k4 := Lib.hid (k4.out.below b)
            replace qk40 := k4.out.1.c0
            replace qk41 := k4.out.1.c1
            replace k7 := Lib.hid (k7.out.below b)
            replace qk70 := k7.out.1.c0
            replace qk71 := k7.out.1.c1
            replace k9 := Lib.hid (k9.out.below b)
            replace qk90 := k9.out.1.c0
            replace qk91 := k9.out.1.c1
            replace k11 := Lib.hid (k11.out.below b)
            replace qk110 := k11.out.1.c0
            replace qk111 := k11.out.1.c1
            replace k13 := Lib.hid (k13.out.below b)
            replace qk130 := k13.out.1.c0
            replace qk131 := k13.out.1.c1
            replace bb := Lib.hid (below_trans2 bb.out b)
            clear b
            iterate 7
              refine wpPlan_float (v := ?_) rfl (by rfl) (fun w' hw' => ?_) (fun K hK => ?_)
              rotate_left
              · (go_simp; try with_reducible rfl)
              go_simp
              refine hK _ ?_
              clear hK K
            refine wpPlan_only rfl (by rfl) (fun K hK => ?_)
            go_simp
            refine (ch.out w24 k3.out.2).mono ?_
            rintro e w25 ⟨rfl, b⟩
            refine hK _ _ b ?_
            clear hK K
            replace k3 := Lib.hid (k3.out.below b)
            replace qk30 := k3.out.1.c0
            replace qk31 := k3.out.1.c1
            replace k4 := Lib.hid (k4.out.below b)
            replace qk40 := k4.out.1.c0
            replace qk41 := k4.out.1.c1
            replace k7 := Lib.hid (k7.out.below b)
            replace qk70 := k7.out.1.c0
            replace qk71 := k7.out.1.c1
            replace k9 := Lib.hid (k9.out.below b)
            replace qk90 := k9.out.1.c0
            replace qk91 := k9.out.1.c1
            replace k11 := Lib.hid (k11.out.below b)
            replace qk110 := k11.out.1.c0
            replace qk111 := k11.out.1.c1
            replace k13 := Lib.hid (k13.out.below b)
            replace qk130 := k13.out.1.c0
            replace qk131 := k13.out.1.c1
            replace bb := Lib.hid (below_trans2 bb.out b)
            clear b
            refine wpPlan_only rfl (by rfl) (fun K hK => ?_)
            go_simp
            refine (ch3.out w25 k3.out.2).mono ?_
            rintro e w26 ⟨rfl, b⟩
            refine hK _ _ b ?_
            clear hK K
            replace k3 := Lib.hid (k3.out.below b)
            replace qk30 := k3.out.1.c0
            replace qk31 := k3.out.1.c1
            replace k4 := Lib.hid (k4.out.below b)
            replace qk40 := k4.out.1.c0
            replace qk41 := k4.out.1.c1
            replace k7 := Lib.hid (k7.out.below b)
            replace qk70 := k7.out.1.c0
            replace qk71 := k7.out.1.c1
            replace k9 := Lib.hid (k9.out.below b)
            replace qk90 := k9.out.1.c0
            replace qk91 := k9.out.1.c1
            replace k11 := Lib.hid (k11.out.below b)
            replace qk110 := k11.out.1.c0
            replace qk111 := k11.out.1.c1
            replace k13 := Lib.hid (k13.out.below b)
            replace qk130 := k13.out.1.c0
            replace qk131 := k13.out.1.c1
            replace bb := Lib.hid (below_trans2 bb.out b)
            clear b
            iterate 5
              refine wpPlan_float (v := ?_) rfl (by rfl) (fun w' hw' => ?_) (fun K hK => ?_)
              rotate_left
              · (go_simp; try with_reducible rfl)
              go_simp
              refine hK _ ?_
              clear hK K
            clear qk70 qk71 qk90 qk91
            refine wpPlan_only rfl (by rfl) (fun K hK => ?_)
            go_simp
            refine (ceq.out sN _ _ _ _ _ sM w26 k7.out.2 _ k9.out.2 hs1.out hs2.out).mono ?_
            rintro e w27 ⟨rfl, b⟩
            refine hK _ _ b ?_
            clear hK K
            replace k3 := Lib.hid (k3.out.below b)
            replace qk30 := k3.out.1.c0
            replace qk31 := k3.out.1.c1
            replace k4 := Lib.hid (k4.out.below b)
            replace qk40 := k4.out.1.c0
            replace qk41 := k4.out.1.c1
            replace k11 := Lib.hid (k11.out.below b)
            replace qk110 := k11.out.1.c0
            replace qk111 := k11.out.1.c1
            replace k13 := Lib.hid (k13.out.below b)
            replace qk130 := k13.out.1.c0
            replace qk131 := k13.out.1.c1
            replace bb := Lib.hid (below_trans2 bb.out b)
            clear b
            clear k7 k9
            iterate 9
              refine wpPlan_float (v := ?_) rfl (by rfl) (fun w' hw' => ?_) (fun K hK => ?_)
              rotate_left
              · (go_simp; try with_reducible rfl)
              go_simp
              refine hK _ ?_
              clear hK K
            clear qk110 qk111 qk130 qk131
            refine wpPlan_only rfl (by rfl) (fun K hK => ?_)
            go_simp
            refine (ceq.out oN _ _ _ _ _ oM w27 k11.out.2 _ k13.out.2 ho1.out ho2.out).mono ?_
            rintro e w28 ⟨rfl, b⟩
            refine hK _ _ b ?_
            clear hK K
            replace k3 := Lib.hid (k3.out.below b)
            replace qk30 := k3.out.1.c0
            replace qk31 := k3.out.1.c1
            replace k4 := Lib.hid (k4.out.below b)
            replace qk40 := k4.out.1.c0
            replace qk41 := k4.out.1.c1
            replace bb := Lib.hid (below_trans2 bb.out b)
            clear b
            clear k11 k13
            iterate 9
              refine wpPlan_float (v := ?_) rfl (by rfl) (fun w' hw' => ?_) (fun K hK => ?_)
              rotate_left
              · (go_simp; try with_reducible rfl)
              go_simp
              refine hK _ ?_
              clear hK K
            refine wpPlan_only rfl (by rfl) (fun K hK => ?_)
            go_simp
            refine (cp.out w28 k3.out.2).mono ?_
            rintro e w29 ⟨E1, m1, d1, rfl, hp1, b⟩
            refine hK _ _ b ?_
            clear hK K
            replace k3 := Lib.hid (k3.out.below b)
            replace qk30 := k3.out.1.c0
            replace qk31 := k3.out.1.c1
            replace k4 := Lib.hid (k4.out.below b)
            replace qk40 := k4.out.1.c0
            replace qk41 := k4.out.1.c1
            replace bb := Lib.hid (below_trans2 bb.out b)
            clear b
            replace hp1 := Lib.hid hp1
            refine wpPlan_only rfl (by rfl) (fun K hK => ?_)
            go_simp
            refine (cp3.out w29 k3.out.2).mono ?_
            rintro e w30 ⟨E2, m2, d2, rfl, hp2, b⟩
            have hm1 : m1 ≤ 16777216 := by have := hpl.out; have := hp1.out.1; omega
            have hpp := Lib.hid (cpp.out E1 E2 m1 m2 d1 d2 w30 (hp1.out.below b) hp2 hm1)
            refine hK _ _ b ?_
            clear hK K hp1 hp2 hm1
            replace k3 := Lib.hid (k3.out.below b)
            replace qk30 := k3.out.1.c0
            replace qk31 := k3.out.1.c1
            replace k4 := Lib.hid (k4.out.below b)
            replace qk40 := k4.out.1.c0
            replace qk41 := k4.out.1.c1
            replace bb := Lib.hid (below_trans2 bb.out b)
            clear b
            refine wpPlan_only rfl (by rfl) (fun K hK => ?_)
            go_simp
            refine (hpp.out).mono ?_
            rintro e w31 ⟨rfl, b⟩
            refine hK _ _ b ?_
            clear hK K
            replace k3 := Lib.hid (k3.out.below b)
            replace qk30 := k3.out.1.c0
            replace qk31 := k3.out.1.c1
            replace k4 := Lib.hid (k4.out.below b)
            replace qk40 := k4.out.1.c0
            replace qk41 := k4.out.1.c1
            replace bb := Lib.hid (below_trans2 bb.out b)
            clear b
            clear hpp
            iterate 4
              refine wpPlan_float (v := ?_) rfl (by rfl) (fun w' hw' => ?_) (fun K hK => ?_)
              rotate_left
              · (go_simp; try with_reducible rfl)
              go_simp
              refine hK _ ?_
              clear hK K
            refine wpPlan_only rfl (by rfl) (fun K hK => ?_)
            go_simp
            refine (ct.out w31 k3.out.2).mono ?_
            rintro e w32 ⟨T1, t1, u1, rfl, rt1, _, b⟩
            refine hK _ _ b ?_
            clear hK K
            replace k3 := Lib.hid (k3.out.below b)
            replace qk30 := k3.out.1.c0
            replace qk31 := k3.out.1.c1
            replace k4 := Lib.hid (k4.out.below b)
            replace qk40 := k4.out.1.c0
            replace qk41 := k4.out.1.c1
            replace bb := Lib.hid (below_trans2 bb.out b)
            clear b
            replace rt1 := Lib.hid rt1
            refine wpPlan_only rfl (by rfl) (fun K hK => ?_)
            go_simp
            refine (ct3.out w32 k3.out.2).mono ?_
            rintro e w33 ⟨T2, t2, u2, rfl, rt2, _, b⟩
            have hqq := Lib.hid (ceq.out (n : Int) T1 t1 t2 u1 u2 _ w33 (rt1.out.below b) T2 rt2 htl.out htm.out)
            refine hK _ _ b ?_
            clear hK K rt1 rt2
            replace k3 := Lib.hid (k3.out.below b)
            replace qk30 := k3.out.1.c0
            replace qk31 := k3.out.1.c1
            replace k4 := Lib.hid (k4.out.below b)
            replace qk40 := k4.out.1.c0
            replace qk41 := k4.out.1.c1
            replace bb := Lib.hid (below_trans2 bb.out b)
            clear b
            refine wpPlan_only rfl (by rfl) (fun K hK => ?_)
            go_simp
            refine (hqq.out).mono ?_
            rintro e w34 ⟨rfl, b⟩
            refine hK _ _ b ?_
            clear hK K
            replace k3 := Lib.hid (k3.out.below b)
            replace qk30 := k3.out.1.c0
            replace qk31 := k3.out.1.c1
            replace k4 := Lib.hid (k4.out.below b)
            replace qk40 := k4.out.1.c0
            replace qk41 := k4.out.1.c1
            replace bb := Lib.hid (below_trans2 bb.out b)
            clear b
            clear hqq
            iterate 6
              refine wpPlan_float (v := ?_) rfl (by rfl) (fun w' hw' => ?_) (fun K hK => ?_)
              rotate_left
              · (go_simp; try with_reducible rfl)
              go_simp
              refine hK _ ?_
              clear hK K
            refine wpPlan_only rfl (by rfl) (fun K hK => ?_)
            go_simp
            refine (cu.out w34 k3.out.2 k4.out.2).mono ?_
            rintro e w35 ⟨rfl, b⟩
            refine hK _ _ b ?_
            clear hK K
            replace k3 := Lib.hid (k3.out.below b)
            replace qk30 := k3.out.1.c0
            replace qk31 := k3.out.1.c1
            replace k4 := Lib.hid (k4.out.below b)
            replace qk40 := k4.out.1.c0
            replace qk41 := k4.out.1.c1
            replace bb := Lib.hid (below_trans2 bb.out b)
            clear b
            refine wpPlan_only rfl (by rfl) (fun K hK => ?_)
            go_simp
            refine (cu3.out w35 k3.out.2 k4.out.2).mono ?_
            rintro e w36 ⟨rfl, b⟩
            refine hK _ _ b ?_
            clear hK K
            replace k3 := Lib.hid (k3.out.below b)
            replace qk30 := k3.out.1.c0
            replace qk31 := k3.out.1.c1
            replace k4 := Lib.hid (k4.out.below b)
            replace qk40 := k4.out.1.c0
            replace qk41 := k4.out.1.c1
            replace bb := Lib.hid (below_trans2 bb.out b)
            clear b
            iterate 7
              refine wpPlan_float (v := ?_) rfl (by rfl) (fun w' hw' => ?_) (fun K hK => ?_)
              rotate_left
              · (go_simp; try with_reducible rfl)
              go_simp
              refine hK _ ?_
              clear hK K
            refine wpPlan_only rfl (by rfl) (fun K hK => ?_)
            go_simp
            refine (cv.out w36 k3.out.2 k4.out.2).mono ?_
            rintro e w37 ⟨rfl, b⟩
            refine hK _ _ b ?_
            clear hK K
            replace k3 := Lib.hid (k3.out.below b)
            replace qk30 := k3.out.1.c0
            replace qk31 := k3.out.1.c1
            replace k4 := Lib.hid (k4.out.below b)
            replace qk40 := k4.out.1.c0
            replace qk41 := k4.out.1.c1
            replace bb := Lib.hid (below_trans2 bb.out b)
            clear b
            refine wpPlan_only rfl (by rfl) (fun K hK => ?_)
            go_simp
            refine (cv3.out w37 k3.out.2 k4.out.2).mono ?_
            rintro e w38 ⟨rfl, b⟩
            refine hK _ _ b ?_
            clear hK K
            replace bb := Lib.hid (below_trans2 bb.out b)
            clear b
            clear k3 k4 qk30 qk31 qk40 qk41
            iterate 3
              refine wpPlan_float (v := ?_) rfl (by rfl) (fun w' hw' => ?_) (fun K hK => ?_)
              rotate_left
              · (go_simp; try with_reducible rfl)
              go_simp
              refine hK _ ?_
              clear hK K
            refine wpPlan_nil (NoPanic.normal ?_)
            go_wp2_with fail
            go_ret
            exact ⟨rfl, bb.out⟩

end Go.Proofs.Ytkikoniihmieiaa
