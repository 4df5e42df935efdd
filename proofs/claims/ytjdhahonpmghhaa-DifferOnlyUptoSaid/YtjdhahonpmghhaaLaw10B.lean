/- Layer 10's law DifferOnly, walked (where what comes in is of no more than 2^40 operations). -/
import Derived.Test.YtjdhahonpmghhaaLaw10A
import Derived.Test.YtjdhahonpmghhaaPlanS
import Derived.BigQuiet
namespace Go.Proofs.Ytjdhahonpmghhaa
open Go.RowKit
set_option linter.unusedVariables false
theorem cut_two {Goal F : Nat → Nat → World → Prop} {R : Prop} (h1 : (∀ a b c, F a b c → Goal a b c) → R) (h2 : ∀ a b c, F a b c → Goal a b c) : R := h1 h2
set_option maxRecDepth 100000 in
set_option maxHeartbeats 4000000 in
theorem law10_DifferOnly (A : Option Addr) (n c : Nat) (hs : List (List OpT)) (w : World) (hX : HistAt w A n hs) (hnc : n ≤ c) (hc : c ≤ 1099511627776) (hF : (allO hs).length ≤ 1099511627776) :
    Calls Try.prog 4 #[.slice A n c] w (RetBool true w) := by
  -- a law of one history hs (at A n c) that guards itself by Small 60 and Right: walked to the call of Of in the world w2; hX : HistAt w2 .., b12 : Below w.heap.size w w2, hri' : rightL hs = true
  have hXl := Lib.hid hX.len
  have cS := Lib.hid (ref6_Small A n c 60 hs w hX (by omega) (by omega))
  replace hX := Lib.hid hX
  cases hsa : smallL hs 60 with
  | false =>
    rw [hsa] at cS
    clear hsa
    go_enter Try.func4, Try.ntmps4
    go_wp2_with fail
    refine cS.out.mono ?_; rintro e w1 ⟨rfl, b1⟩
    go_wp2_with fail
    refine (law10_awake w1).mono ?_; rintro e w9 ⟨rfl, b9⟩
    go_wp2_with fail
    go_ret
    exact ⟨rfl, below_trans2 b1 b9⟩
  | true =>
    rw [hsa] at cS
    obtain ⟨hnx, hFx, hnm8⟩ := smallL_says hsa
    rw [hXl.out] at hnx
    replace hnm8 := Lib.hid hnm8
    clear hsa
    go_enter Try.func4, Try.ntmps4
    go_wp2_with fail
    refine cS.out.mono ?_; rintro e w1 ⟨rfl, b1⟩
    replace hX := Lib.hid (hX.out.below b1)
    have cR := Lib.hid (ref6_Right A n c hs w1 hX.out (by omega) (by omega))
    cases hri : rightL hs with
    | false =>
      rw [hri] at cR
      clear hri
      go_wp2_with fail
      refine cR.out.mono ?_; rintro e w2 ⟨rfl, b2⟩
      go_wp2_with fail
      refine (law10_awake w2).mono ?_; rintro e w9 ⟨rfl, b9⟩
      go_wp2_with fail
      go_ret
      exact ⟨rfl, below_trans2 (below_trans2 b1 b2) b9⟩
    | true =>
      rw [hri] at cR
      have hri' := Lib.hid hri
      clear hri
      go_wp2_with fail
      refine cR.out.mono ?_; rintro e w2 ⟨rfl, b2⟩
      replace hX := Lib.hid (hX.out.below b2)
      have b12 := Lib.hid (below_trans2 b1 b2)
      clear b1 b2 cS cR
      -- behind HEAD9: the document's facts f of the history, in a variable g, in the world V; hB : FBox w g x f V; hX carried over
      obtain ⟨f, hf⟩ : ∃ f : Fac, f = facO hs := ⟨_, rfl⟩
      have c1 := ref9_Of A n c hs w2 hX.out (by omega) hF
      rw [hri'.out, if_pos rfl, if_pos rfl, ← hf] at c1
      replace c1 := Lib.hid c1
      replace hf := Lib.hid hf
      go_wp2_with fail
      refine c1.out.mono ?_; rintro e w3 ⟨x, rfl, hG, b3⟩
      replace hX := Lib.hid (hX.out.below b3)
      have hB := Lib.hid ((FBox.new hG).from_ (below_trans2 b12.out b3))
      obtain ⟨V, hV⟩ : ∃ W, W = w3.alloc (.cells #[.slice x.A x.n x.c, .slice x.B x.m x.d, .slice x.C x.k x.e] 30) := ⟨_, rfl⟩
      obtain ⟨g, hg⟩ : ∃ g, g = w3.heap.size := ⟨_, rfl⟩
      replace hX := Lib.hid (show HistAt V A n hs from by rw [hV]; exact hX.out.below ((Below.refl _ _).alloc (Nat.le_refl _) _))
      rw [← hV, ← hg] at hB
      clear b3 c1 hG b12
      have p0 := hB.out.c0
      have p1 := hB.out.c1
      have p2 := hB.out.c2
      have him : x.m ≤ 60 := by rw [← hB.out.f.is.len, hf.out]; show (hisF hs).2.length ≤ 60; rw [hisF_len]; omega
      have cA := fun W hW => differ_Check x f W hW
      clear hX
      rcases checkF_cases f.items with ⟨hnone, hr⟩ | ⟨j, r, hs', -, hr⟩
      · rw [hr] at cA
        replace cA := Lib.hid cA
        go_wp2_with (rw [← hV, ← hg]; clear hV; replace hg := Lib.hid hg)
        refine (cA.out _ hB.out.f).mono ?_; rintro e w4 ⟨rfl, b⟩
        replace hB := Lib.hid (hB.out.later b)
        clear p0 p1 p2 b
        go_wp2_with fail
        go_loopw [10] (fun t wr => ∃ k : Nat, k ≤ x.m ∧ t = .int .i64 k ∧ Hid (FBox w g x f wr)) (fun t _ => x.m - (intOf t).toNat)
        case atStart => exact ⟨0, Nat.zero_le _, rfl, hB⟩
        case round =>
          clear hB
          obtain ⟨k, hk, rfl, hB⟩ := hrel
          have p0 := hB.out.c0
          have p1 := hB.out.c1
          have p2 := hB.out.c2
          by_cases hlt : k < x.m
          · have hlt' : (k : Int) < (x.m : Int) := by omega
            obtain ⟨ib, io, it, hxB, hib, hx, hxo, i0, i1, i2, i3, i4⟩ := hB.out.f.is.item hlt
            rw [hxB] at p1
            have hst := stepC_none (hnone k) hx
            obtain ⟨xs, xp, xw, xa, xl⟩ := it
            simp only at i0 i1 i2 i3 i4 hst
            obtain ⟨V1, hV1⟩ : ∃ W, W = wr.alloc (.cells #[.int .i64 xs, .int .i64 xp, .bool xw, .int .i64 xa, .int .i64 xl] 40) := ⟨_, rfl⟩
            obtain ⟨g1, hg1⟩ : ∃ g, g = wr.heap.size := ⟨_, rfl⟩
            have bV : Below wr.heap.size wr V1 := by rw [hV1]; exact (Below.refl _ _).alloc (Nat.le_refl _) _
            have kIt : Blk V1 g1 40 [.int .i64 xs, .int .i64 xp, .bool xw, .int .i64 xa, .int .i64 xl] := by rw [hV1, hg1]; exact Blk.new wr _ _
            have hBV := Lib.hid (hB.out.later bV)
            have j3 := kIt.cell 3
            have j4 := kIt.cell 4
            simp only [List.getElem?_cons_zero, List.getElem?_cons_succ] at j3 j4
            have w0 := hBV.out.c0
            have w1 := hBV.out.c1
            have w2 := hBV.out.c2
            have cW := differ_Write x f xa xl ⟨hxo.v0, hxo.v1⟩ ⟨hxo.x0, hxo.x1⟩ V1 hBV.out.f
            unfold RetWrite at cW
            cases xw with
            | false =>
              obtain ⟨o1, ho1⟩ : ∃ r : Int, r = (((writeF f.items xa xl).getD 0 : Nat) : Int) := ⟨_, rfl⟩
              obtain ⟨o2, ho2⟩ : ∃ r, r = (writeF f.items xa xl).isSome := ⟨_, rfl⟩
              rw [← ho1, ← ho2] at cW
              replace cW := Lib.hid cW
              replace kIt := Lib.hid kIt
              clear hst hxo hx hxB hlt hnone ho1 ho2 bV
              go_wp2_with (rw [← hV1, ← hg1]; clear hV1; replace hg1 := Lib.hid hg1)
              refine cW.out.mono ?_; rintro e w5 ⟨rfl, b5⟩
              have hB5 := Lib.hid (hBV.out.later b5)
              replace kIt := Lib.hid (kIt.out.below b5 kIt.out.lt)
              clear w0 w1 w2 j3 j4 p0 p1 p2 i0 i1 i2 i3 i4 b5 hB hBV cW
              have j2 := kIt.out.cell 2
              have j4 := kIt.out.cell 4
              simp only [List.getElem?_cons_zero, List.getElem?_cons_succ] at j2 j4
              go_wp2_with fail
              exact ⟨⟨k + 1, by omega, by go_num, hB5⟩, by simp [intOf]; omega⟩
            | true =>
              obtain ⟨hw1, hl0⟩ := hst rfl
              rw [hw1] at cW
              replace cW : Hid (Calls Try.prog 12 _ V1 fun e w' => e = .returned (.tuple #[.int .i64 (k : Int), .bool true]) ∧ Below V1.heap.size V1 w') := Lib.hid cW
              replace kIt := Lib.hid kIt
              have e0 : (xl == 0) = false := by simp [hl0]
              have e1 : ((k : Int) != (k : Int)) = false := by simp
              replace hw1 := Lib.hid hw1
              replace hl0 := Lib.hid hl0
              clear hst hxo hx hxB hlt hnone bV
              go_wp2_with (rw [← hV1, ← hg1]; clear hV1; replace hg1 := Lib.hid hg1)
              refine cW.out.mono ?_; rintro e w5 ⟨rfl, b5⟩
              have hB5 := Lib.hid (hBV.out.later b5)
              replace kIt := Lib.hid (kIt.out.below b5 kIt.out.lt)
              clear w0 w1 w2 j3 j4 p0 p1 p2 i0 i1 i2 i3 i4 b5 hB hBV cW
              have j2 := kIt.out.cell 2
              have j4 := kIt.out.cell 4
              simp only [List.getElem?_cons_zero, List.getElem?_cons_succ] at j2 j4
              go_wp2_with fail
              exact ⟨⟨k + 1, by omega, by go_num, hB5⟩, by simp [intOf]; omega⟩
          · have hlt' : ¬ (k : Int) < (x.m : Int) := by omega
            clear hlt
            go_wp2_with fail
            refine (law10_awake wr).mono ?_; rintro e w5 ⟨rfl, b5⟩
            go_wp2_with fail
            go_ret
            exact ⟨rfl, below_trans2 hB.out.o b5⟩
      · obtain ⟨i, ia, ib, hia, hib, e1, e2, wa, wb, eva, evl, hcase⟩ := stepC_some hs'
        obtain ⟨r1, r2, r3⟩ := r
        simp only at e1 e2 hcase
        have him' := hB.out.f.is.len
        have hil := (List.getElem?_eq_some_iff.1 hia).1
        have hjl := (List.getElem?_eq_some_iff.1 hib).1
        have hij : i ≤ j := by rcases hcase with h | h <;> omega
        have hr3 : (r3 != 0) = true := by rcases hcase with h | h <;> (rw [h.1]; rfl)
        rw [hr] at cA
        replace cA := Lib.hid cA
        have d1 : decide (r1 < 0) = false := decide_eq_false (by omega)
        have d2 : decide (r2 < r1) = false := decide_eq_false (by omega)
        have d3 : decide ((x.m : Int) ≤ r2) = false := decide_eq_false (by omega)
        have b1 : 0 ≤ r1 ∧ r1 < (x.m : Int) := ⟨by omega, by omega⟩
        have b2 : 0 ≤ r2 ∧ r2 < (x.m : Int) := ⟨by omega, by omega⟩
        have him2 : i < x.m := by omega
        have hjm2 : j < x.m := by omega
        have t1 : r1.toNat = i := by omega
        have t2 : r2.toNat = j := by omega
        replace hr := Lib.hid hr
        replace hs' := Lib.hid hs'
        replace hcase := Lib.hid hcase
        replace e1 := Lib.hid e1
        replace e2 := Lib.hid e2
        replace wa := Lib.hid wa
        replace wb := Lib.hid wb
        replace eva := Lib.hid eva
        replace evl := Lib.hid evl
        replace hia := Lib.hid hia
        replace hib := Lib.hid hib
        clear hil hjl him'
        go_wp2_with (rw [← hV, ← hg]; clear hV; replace hg := Lib.hid hg)
        refine (cA.out _ hB.out.f).mono ?_; rintro e w4 ⟨rfl, b⟩
        replace hB := Lib.hid (hB.out.later b)
        clear p0 p1 p2 b cA
        have p0 := hB.out.c0
        have p1 := hB.out.c1
        go_wp2_with fail
        refine wp_region_tree (.flt 0 (.flt 1 (.flt 2 (.flt 3 (.flt 4 (.flt 5 (.flt 6 (.flt 7 (.flt 8 (.flt 9 (.two 10 11 (.one 11 (.one 12 (.one 13 .done))) (.one 10 (.one 12 (.one 13 .done)))))))))))))) (by kernel_rfl) (by kernel_rfl) (fun U hU => ?_)
        have hBU := Lib.hid (show FBox w g x f U from by rw [hU.out]; exact hB.out.later (Below.refl _ _).drew)
        clear p0 p1 hU hB
        have p1 := hBU.out.c1
        obtain ⟨yb, yo, y, hyB, hyb, hy, hyo, i0, i1, i2, i3, i4⟩ := hBU.out.f.is.item him2
        obtain ⟨zb, zo, z, hzB, hzb, hz, hzo, j0, j1, j2, j3, j4⟩ := hBU.out.f.is.item hjm2
        rw [hia.out] at hy
        injection hy with hy
        subst hy
        rw [hib.out] at hz
        injection hz with hz
        subst hz
        rw [hyB] at p1 hzB
        injection hzB with hzB
        injection hzB with hz1 hz2
        subst hz1; subst hz2
        clear hyB hyo hzo hyb hzb
        iterate 10
          refine wpPT_float (v := ?_) rfl (by rfl) (fun w' hw' => ?_) (fun K hK => ?_)
          rotate_left
          · (go_simp; try with_reducible rfl)
          go_simp
          refine hK _ ?_
          clear hK K
        clear i0 i1 i2 i3 i4 j0 j1 j2 j3 j4 p1
        apply cut_two (F := fun G3 G4 w9 => Blk w9 G3 40 ia.cells ∧ Blk w9 G4 40 ib.cells ∧ Below U.heap.size U w9)
        · intro key
          refine wpPT_two rfl (by rfl) rfl (by rfl) (fun K hK => ?_) (fun K hK => ?_)
          · go_simp
            obtain ⟨G3, hG3⟩ : ∃ G, G = U.heap.size := ⟨_, rfl⟩
            obtain ⟨w6, hw6⟩ : ∃ w6, w6 = U.alloc (.cells #[.int .i64 0, .int .i64 0, .bool false, .int .i64 0, .int .i64 0] 40) := ⟨_, rfl⟩
            rw [← hw6, ← hG3]
            have ba : Below U.heap.size U w6 := by rw [hw6]; exact (Below.refl _ _).alloc (Nat.le_refl _) _
            refine hK _ _ ba ?_
            clear hK K
            have m1 : Blk w6 G3 40 itZ.cells := by rw [hw6, hG3]; exact Blk.new U _ _
            have hWF : U.heap.size ≤ G3 := by omega
            clear hw6 hG3
            refine wpPT_one rfl (by rfl) (fun K hK => ?_)
            go_simp
            obtain ⟨G4, hG4⟩ : ∃ G, G = w6.heap.size := ⟨_, rfl⟩
            obtain ⟨w7, hw7⟩ : ∃ w7, w7 = w6.alloc (.cells #[.int .i64 0, .int .i64 0, .bool false, .int .i64 0, .int .i64 0] 40) := ⟨_, rfl⟩
            rw [← hw7, ← hG4]
            have bc : Below w6.heap.size w6 w7 := by rw [hw7]; exact (Below.refl _ _).alloc (Nat.le_refl _) _
            have b7 := below_trans2 ba bc
            refine hK _ _ b7 ?_
            clear hK K
            have m2 : Blk w7 G4 40 itZ.cells := by rw [hw7, hG4]; exact Blk.new w6 _ _
            have hFS : G3 < G4 := by have := m1.lt; omega
            replace m1 : Blk w7 G3 40 itZ.cells := m1.below bc m1.lt
            clear hw7 hG4 ba bc
            have mm3 : Blk w7 G3 40 itZ.cells := m1
            have mm4 : Blk w7 G4 40 itZ.cells := m2
            have h34 : G3 ≠ G4 := by omega
            have h3W : U.heap.size ≤ G3 := by omega
            have h4W : U.heap.size ≤ G4 := by omega
            clear m1 m2 hFS hWF
            have f0 : World.cell? w7 ⟨G3, 0, none⟩ = some (.int .i64 0) := Blk.cell mm3 0
            have f1 : World.cell? w7 ⟨G3, 1, none⟩ = some (.int .i64 0) := Blk.cell mm3 1
            have f2 : World.cell? w7 ⟨G3, 2, none⟩ = some (.bool false) := Blk.cell mm3 2
            have f3 : World.cell? w7 ⟨G3, 3, none⟩ = some (.int .i64 0) := Blk.cell mm3 3
            have f4 : World.cell? w7 ⟨G3, 4, none⟩ = some (.int .i64 0) := Blk.cell mm3 4
            have z0 := Blk.frozen mm3 0
            have z1 := Blk.frozen mm3 1
            have z2 := Blk.frozen mm3 2
            have z3 := Blk.frozen mm3 3
            have z4 := Blk.frozen mm3 4
            refine wpPT_one rfl (by rfl) (fun K hK => ?_)
            go_simp
            obtain ⟨w8, hw8⟩ : ∃ w8, w8 = putIt w7 G3 ia := ⟨_, rfl⟩
            have hw8' := hw8
            unfold putIt at hw8'
            rw [← hw8']
            have b8 : Below U.heap.size U w8 := by rw [hw8]; exact putIt_below b7 h3W _
            refine hK _ _ b8 ?_
            clear hK K f0 f1 f2 f3 f4 z0 z1 z2 z3 z4
            have n3 : Blk w8 G3 40 ia.cells := by rw [hw8]; exact putIt_blk mm3 ia
            have n4 : Blk w8 G4 40 itZ.cells := by rw [hw8]; exact putIt_far mm4 (fun h => h34 h.symm) ia
            clear hw8 hw8' mm3 mm4
            have f0 : World.cell? w8 ⟨G4, 0, none⟩ = some (.int .i64 0) := Blk.cell n4 0
            have f1 : World.cell? w8 ⟨G4, 1, none⟩ = some (.int .i64 0) := Blk.cell n4 1
            have f2 : World.cell? w8 ⟨G4, 2, none⟩ = some (.bool false) := Blk.cell n4 2
            have f3 : World.cell? w8 ⟨G4, 3, none⟩ = some (.int .i64 0) := Blk.cell n4 3
            have f4 : World.cell? w8 ⟨G4, 4, none⟩ = some (.int .i64 0) := Blk.cell n4 4
            have z0 := Blk.frozen n4 0
            have z1 := Blk.frozen n4 1
            have z2 := Blk.frozen n4 2
            have z3 := Blk.frozen n4 3
            have z4 := Blk.frozen n4 4
            refine wpPT_one rfl (by rfl) (fun K hK => ?_)
            go_simp
            obtain ⟨w9, hw9⟩ : ∃ w9, w9 = putIt w8 G4 ib := ⟨_, rfl⟩
            have hw9' := hw9
            unfold putIt at hw9'
            rw [← hw9']
            have b9 : Below U.heap.size U w9 := by rw [hw9]; exact putIt_below b8 h4W _
            refine hK _ _ b9 ?_
            clear hK K f0 f1 f2 f3 f4 z0 z1 z2 z3 z4
            refine key G3 G4 w9 ⟨by rw [hw9]; exact putIt_far n3 h34 ib, by rw [hw9]; exact putIt_blk n4 ib, b9⟩
          · go_simp
            obtain ⟨G4, hG4⟩ : ∃ G, G = U.heap.size := ⟨_, rfl⟩
            obtain ⟨w6, hw6⟩ : ∃ w6, w6 = U.alloc (.cells #[.int .i64 0, .int .i64 0, .bool false, .int .i64 0, .int .i64 0] 40) := ⟨_, rfl⟩
            rw [← hw6, ← hG4]
            have ba : Below U.heap.size U w6 := by rw [hw6]; exact (Below.refl _ _).alloc (Nat.le_refl _) _
            refine hK _ _ ba ?_
            clear hK K
            have m1 : Blk w6 G4 40 itZ.cells := by rw [hw6, hG4]; exact Blk.new U _ _
            have hWF : U.heap.size ≤ G4 := by omega
            clear hw6 hG4
            refine wpPT_one rfl (by rfl) (fun K hK => ?_)
            go_simp
            obtain ⟨G3, hG3⟩ : ∃ G, G = w6.heap.size := ⟨_, rfl⟩
            obtain ⟨w7, hw7⟩ : ∃ w7, w7 = w6.alloc (.cells #[.int .i64 0, .int .i64 0, .bool false, .int .i64 0, .int .i64 0] 40) := ⟨_, rfl⟩
            rw [← hw7, ← hG3]
            have bc : Below w6.heap.size w6 w7 := by rw [hw7]; exact (Below.refl _ _).alloc (Nat.le_refl _) _
            have b7 := below_trans2 ba bc
            refine hK _ _ b7 ?_
            clear hK K
            have m2 : Blk w7 G3 40 itZ.cells := by rw [hw7, hG3]; exact Blk.new w6 _ _
            have hFS : G4 < G3 := by have := m1.lt; omega
            replace m1 : Blk w7 G4 40 itZ.cells := m1.below bc m1.lt
            clear hw7 hG3 ba bc
            have mm3 : Blk w7 G3 40 itZ.cells := m2
            have mm4 : Blk w7 G4 40 itZ.cells := m1
            have h34 : G3 ≠ G4 := by omega
            have h3W : U.heap.size ≤ G3 := by omega
            have h4W : U.heap.size ≤ G4 := by omega
            clear m1 m2 hFS hWF
            have f0 : World.cell? w7 ⟨G3, 0, none⟩ = some (.int .i64 0) := Blk.cell mm3 0
            have f1 : World.cell? w7 ⟨G3, 1, none⟩ = some (.int .i64 0) := Blk.cell mm3 1
            have f2 : World.cell? w7 ⟨G3, 2, none⟩ = some (.bool false) := Blk.cell mm3 2
            have f3 : World.cell? w7 ⟨G3, 3, none⟩ = some (.int .i64 0) := Blk.cell mm3 3
            have f4 : World.cell? w7 ⟨G3, 4, none⟩ = some (.int .i64 0) := Blk.cell mm3 4
            have z0 := Blk.frozen mm3 0
            have z1 := Blk.frozen mm3 1
            have z2 := Blk.frozen mm3 2
            have z3 := Blk.frozen mm3 3
            have z4 := Blk.frozen mm3 4
            refine wpPT_one rfl (by rfl) (fun K hK => ?_)
            go_simp
            obtain ⟨w8, hw8⟩ : ∃ w8, w8 = putIt w7 G3 ia := ⟨_, rfl⟩
            have hw8' := hw8
            unfold putIt at hw8'
            rw [← hw8']
            have b8 : Below U.heap.size U w8 := by rw [hw8]; exact putIt_below b7 h3W _
            refine hK _ _ b8 ?_
            clear hK K f0 f1 f2 f3 f4 z0 z1 z2 z3 z4
            have n3 : Blk w8 G3 40 ia.cells := by rw [hw8]; exact putIt_blk mm3 ia
            have n4 : Blk w8 G4 40 itZ.cells := by rw [hw8]; exact putIt_far mm4 (fun h => h34 h.symm) ia
            clear hw8 hw8' mm3 mm4
            have f0 : World.cell? w8 ⟨G4, 0, none⟩ = some (.int .i64 0) := Blk.cell n4 0
            have f1 : World.cell? w8 ⟨G4, 1, none⟩ = some (.int .i64 0) := Blk.cell n4 1
            have f2 : World.cell? w8 ⟨G4, 2, none⟩ = some (.bool false) := Blk.cell n4 2
            have f3 : World.cell? w8 ⟨G4, 3, none⟩ = some (.int .i64 0) := Blk.cell n4 3
            have f4 : World.cell? w8 ⟨G4, 4, none⟩ = some (.int .i64 0) := Blk.cell n4 4
            have z0 := Blk.frozen n4 0
            have z1 := Blk.frozen n4 1
            have z2 := Blk.frozen n4 2
            have z3 := Blk.frozen n4 3
            have z4 := Blk.frozen n4 4
            refine wpPT_one rfl (by rfl) (fun K hK => ?_)
            go_simp
            obtain ⟨w9, hw9⟩ : ∃ w9, w9 = putIt w8 G4 ib := ⟨_, rfl⟩
            have hw9' := hw9
            unfold putIt at hw9'
            rw [← hw9']
            have b9 : Below U.heap.size U w9 := by rw [hw9]; exact putIt_below b8 h4W _
            refine hK _ _ b9 ?_
            clear hK K f0 f1 f2 f3 f4 z0 z1 z2 z3 z4
            refine key G3 G4 w9 ⟨by rw [hw9]; exact putIt_far n3 h34 ib, by rw [hw9]; exact putIt_blk n4 ib, b9⟩
        · intro G3 G4 w9 hk
          have k3 := Lib.hid hk.1
          have k4 := Lib.hid hk.2.1
          have hB9 := Lib.hid (hBU.out.later hk.2.2)
          clear hk hBU
          refine NoPanic.normal ?_
          go_wp2_with fail
          refine (law10_awake w9).mono ?_; rintro e w10 ⟨rfl, b10⟩
          replace hB9 := Lib.hid (hB9.out.later b10)
          replace k3 := Lib.hid (k3.out.below b10 k3.out.lt)
          replace k4 := Lib.hid (k4.out.below b10 k4.out.lt)
          obtain ⟨a1, ap, aw, aa, al⟩ := ia
          obtain ⟨bx, bp, bw, ba, bl⟩ := ib
          have haw : aw = true := wa.out
          have hbw : bw = true := wb.out
          have hva : aa = ba := eva.out
          have hvl : al = bl := evl.out
          subst haw; subst hbw; subst hva; subst hvl
          have y2 : w10.cell? ⟨G3, 2, none⟩ = some (.bool true) := Blk.cell k3.out 2
          have y3 : w10.cell? ⟨G3, 3, none⟩ = some (.int .i64 aa) := Blk.cell k3.out 3
          have y4 : w10.cell? ⟨G3, 4, none⟩ = some (.int .i64 al) := Blk.cell k3.out 4
          have z2 : w10.cell? ⟨G4, 2, none⟩ = some (.bool true) := Blk.cell k4.out 2
          have z3 : w10.cell? ⟨G4, 3, none⟩ = some (.int .i64 aa) := Blk.cell k4.out 3
          have z4 : w10.cell? ⟨G4, 4, none⟩ = some (.int .i64 al) := Blk.cell k4.out 4
          have c1 : (aa == aa) = true := by simp
          have c2 : (al == al) = true := by simp
          clear hia hib wa wb eva evl k3 k4 hs' hr b10 d1 d2 d3 b1 b2
          rcases hcase.out with ⟨h5, hij5, hl0⟩ | ⟨h4, hij4, hl4⟩
          · have c3 : (r3 == 5) = true := by rw [h5]; rfl
            have c4 : (r1 == r2) = true := by rw [e1.out, e2.out, hij5]; simp
            have c5 : (al == 0) = true := by rw [show al = 0 from hl0]; rfl
            replace hl0 := Lib.hid hl0
            replace h5 := Lib.hid h5
            replace hij5 := Lib.hid hij5
            clear hcase hij hr3
            go_wp2_with fail
            go_ret
            exact ⟨rfl, hB9.out.o⟩
          · have c3 : (r3 == 5) = false := by rw [h4]; rfl
            have c6 : (r3 == 4) = true := by rw [h4]; rfl
            have c4 : decide (r1 < r2) = true := decide_eq_true (by have := e1.out; have := e2.out; omega)
            have c5 : (al != 0) = true := by simpa using hl4
            replace hl4 := Lib.hid hl4
            replace h4 := Lib.hid h4
            replace hij4 := Lib.hid hij4
            clear hcase hij hr3
            go_wp2_with fail
            go_ret
            exact ⟨rfl, hB9.out.o⟩
end Go.Proofs.Ytjdhahonpmghhaa
