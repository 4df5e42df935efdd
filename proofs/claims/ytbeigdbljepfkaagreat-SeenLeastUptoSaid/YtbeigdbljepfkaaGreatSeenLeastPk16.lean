/- Layer 18's law SeenLeast, walked (where what comes in is of no more than 2^40 operations). -/
import Derived.Test.YtbeigdbljepfkaaGreatSeenLeastPk15
import Derived.Test.YtbeigdbljepfkaaGreatSeenLeastPk6
import Derived.Test.YtbeigdbljepfkaaGreatSeenLeastPk4
namespace Go.Proofs.YtbeigdbljepfkaaGreat
open Go.RowKit
set_option linter.unusedVariables false
theorem tmod_small18c (x n : Nat) (h : x < 256) : (IntKind.i64.wrap (x : Int)).tmod (n : Int) = ((x % n : Nat) : Int) := by
  rw [show IntKind.i64.wrap (x : Int) = (x : Int) from by rw [IntKind.wrap_i64]; omega]
  exact (Int.ofNat_tmod x n).symm
theorem wrap_small18c (z : Int) (h0 : 0 ≤ z) (h1 : z < 100000) : IntKind.i64.wrap z = z := by rw [IntKind.wrap_i64]; omega
set_option maxRecDepth 100000 in
set_option maxHeartbeats 8000000 in
theorem law18_SeenLeast (A B : Option Addr) (n c m d o : Nat) (hs : List (List OpT)) (ps : List (Nat × Nat)) (w : World) (hX : HistAt w A n hs) (hP : Pairs8 w B m ps) (hm63 : m ≤ 9223372036854775807) (hnc : n ≤ c) (hc : c ≤ 1099511627776) (hF : (allO hs).length ≤ 1099511627776) (ho : o < 256) :
    Calls Tryz.prog 4 #[.slice A n c, .int .u8 (o : Int), .slice B m d] w (RetBool true w) := by
  by_cases hm40 : m ≤ 20
  · have hml : decide ((20 : Int) < (m : Int)) = false := decide_eq_false (by omega)
    have hmlt : ¬ (20 : Int) < (m : Int) := by omega
    -- a law of one history hs (at A n c) that guards itself by Small 14, then asks for whole facts: walked to where they lie (hB : FBox w g x f V, V not yet named: hV, hg); f's hf, hw, hm30
    have hXl := Lib.hid hX.len
    have cS := Lib.hid (ref6_Small A n c 14 hs w hX (by omega) (by omega))
    replace hX := Lib.hid hX
    cases hsa : smallL hs 14 with
    | false =>
      rw [hsa] at cS
      clear hsa
      go_enter Tryz.func4, Tryz.ntmps4
      go_wp2_with fail
      refine cS.out.mono ?_; rintro e w1 ⟨rfl, b1⟩
      go_wp2_with fail
      refine (law18_awake w1).mono ?_; rintro e w9 ⟨rfl, b9⟩
      go_wp2_with fail
      go_ret
      exact ⟨rfl, below_trans2 b1 b9⟩
    | true =>
      rw [hsa] at cS
      obtain ⟨hnx, hFx, hnm8⟩ := smallL_says hsa
      rw [hXl.out] at hnx
      replace hnm8 := Lib.hid hnm8
      clear hsa
      go_enter Tryz.func4, Tryz.ntmps4
      go_wp2_with fail
      refine cS.out.mono ?_; rintro e w1 ⟨rfl, b1⟩
      replace hX := Lib.hid (hX.out.below b1)
      have c1 := Lib.hid (ref11_Of A n c hs w1 hX.out (by omega) (by omega))
      go_wp2_with fail
      refine c1.out.mono ?_; rintro e w3 ⟨x, rfl, hG, b3⟩
      obtain ⟨V, hV⟩ : ∃ W, W = w3.alloc (.cells #[.slice x.A x.n x.c, .slice x.B x.m x.d, .slice x.C x.k x.e] 29) := ⟨_, rfl⟩
      obtain ⟨g, hg⟩ : ∃ g, g = w3.heap.size := ⟨_, rfl⟩
      have bV : Below w3.heap.size w3 V := by rw [hV]; exact (Below.refl _ _).alloc (Nat.le_refl _) _
      cases hok : okO11 hs with
      | false =>
        have bb := Lib.hid (below_trans2 (below_trans2 b1 b3) bV)
        clear hG b1 b3 bV hok c1 cS
        go_wp2_with (rw [← hV, ← hg]; clear hV; replace hg := Lib.hid hg)
        refine (law18_awake V).mono ?_; rintro e w9 ⟨rfl, b9⟩
        go_wp2_with fail
        go_ret
        exact ⟨rfl, below_trans2 bb.out b9⟩
      | true =>
        obtain ⟨f, hf⟩ : ∃ f : Fac, f = fillF (facO hs) := ⟨_, rfl⟩
        have hGf := hG hok
        rw [← hf] at hGf
        have hw : WholeF f := by rw [hf]; exact fillF_whole _
        have hff : f.frm = fromF f.items := by rw [hf]; rfl
        have hm30 : x.m ≤ 14 := by
          rw [← hGf.is.len, hf]
          show (hisF hs).2.length ≤ 14
          rw [hisF_len]; omega
        have hB := Lib.hid ((FBox.new hGf).from_ (below_trans2 b1 b3))
        rw [← hV, ← hg] at hB
        replace hX := Lib.hid ((hX.out.below b3).below bV)
        replace hok := Lib.hid hok
        replace hf := Lib.hid hf
        clear hG hGf b1 b3 bV c1 cS
        clear hX
        replace hml := Lib.hid hml
        replace hmlt := Lib.hid hmlt
        replace hP := Lib.hid (show Pairs8 V B m ps from hP.below hB.out.o)
        have hil := hB.out.f.is.len
        by_cases hz : x.m = 0
        · have hz0 : ((x.m : Int) == 0) = true := by rw [hz]; rfl
          replace hz := Lib.hid hz
          have p0 := hB.out.c0
          have p1 := hB.out.c1
          have p2 := hB.out.c2
          go_wp2_with (rw [← hV, ← hg]; clear hV; replace hg := Lib.hid hg)
          refine (law18_awake V).mono ?_; rintro e w9 ⟨rfl, b9⟩
          go_wp2_with fail
          go_ret
          exact ⟨rfl, below_trans2 hB.out.o b9⟩
        · have hz0 : ((x.m : Int) == 0) = false := by rw [beq_eq_false_iff_ne]; omega
          have hkp := Nat.mod_lt o (show 0 < x.m by omega)
          obtain ⟨k, hk⟩ : ∃ k, k = o % x.m := ⟨_, rfl⟩
          have hkv := Lib.hid (show (o : Int) % (x.m : Int) = (k : Int) from by rw [hk]; exact (Int.natCast_emod o x.m).symm)
          rw [← hk] at hkp
          replace hk := Lib.hid hk
          have gC : Good x.m (coM f) := by rw [← hil]; exact (coM_hull hw (by omega)).1
          have hccl : ClosedM (coM f) := (coM_hull hw (by omega)).closed
          have hsx := seenX_hist hB.out.f hf.out (by omega)
          have cO := fun W hW => ref13_Co x f W hW (by omega) hw
          obtain ⟨cm, hcm⟩ : ∃ m, m = coM f := ⟨_, rfl⟩
          rw [← hcm] at cO gC hccl
          have hMl := Lib.hid gC.len
          replace cO := Lib.hid cO
          have gB := (within_facts gC (wihO cm (k : Int) x.m)).1
          have hBcl := within_closed gC hccl (wihO cm (k : Int) x.m)
          have cW := fun A c W hW => ref16_With A x.m c cm (k : Int) W hW gC
          have cI := fun A c L m d W hR hI hmm => ref4_Within A L x.m c m d cm (wihO cm (k : Int) x.m) W hR gC (by omega) hI hmm
          have cP := fun A c W hW hR => seen_Of x f A c cm (k : Int) W hW hR gC (by omega) hw (by omega) (by omega) hsx hccl
          have cKp := fun W hW => ref16_Kept x f (k : Int) W hW (by omega)
          have hkok := keptF_ok f.items (k : Int)
          have hklen := keptF_len f.items (k : Int)
          have hwl : (wihO cm (k : Int) x.m).length ≤ 1048576 := by
            unfold wihO
            split
            · exact Nat.le_trans (wihF_len _ _ _) (by omega)
            · simp
          obtain ⟨wl, hwle⟩ : ∃ l, l = wihO cm (k : Int) x.m := ⟨_, rfl⟩
          obtain ⟨Bm, hBe⟩ : ∃ M, M = withinM x.m cm (wihO cm (k : Int) x.m) := ⟨_, rfl⟩
          obtain ⟨kept, hke⟩ : ∃ l, l = keptF f.items (pastF f.items (k : Int) f.items.length) := ⟨_, rfl⟩
          rw [← hBe] at gB hBcl cI cP
          rw [← hwle] at cW cI hwl
          rw [← hke] at cP cKp hkok hklen
          rw [hil] at hkok hklen
          have gB' : Good f.items.length Bm := by rw [hil]; exact gB
          have hposB := Lib.hid (fun h0 => rows_len_pos gB h0)
          have hBl := Lib.hid gB.len
          replace hccl := Lib.hid hccl
          replace hsx := Lib.hid hsx
          replace hBcl := Lib.hid hBcl
          replace cW := Lib.hid cW
          replace cI := Lib.hid cI
          replace cP := Lib.hid cP
          replace cKp := Lib.hid cKp
          replace hkok := Lib.hid hkok
          replace hklen := Lib.hid hklen
          replace hwl := Lib.hid hwl
          replace gC := Lib.hid gC
          replace gB := Lib.hid gB
          replace gB' := Lib.hid gB'
          replace hil := Lib.hid hil
          replace hw := Lib.hid hw
          clear hBe hke hwle hcm
          have p0 := hB.out.c0
          have p1 := hB.out.c1
          have p2 := hB.out.c2
          go_wp2_with (rw [← hV, ← hg]; clear hV; replace hg := Lib.hid hg)
          refine (cO.out V hB.out.f).mono ?_; rintro e w5 ⟨A1, n1, d1, rfl, hR, hc1, b⟩
          obtain rfl : n1 = x.m := by rw [← hR.len]; exact hMl.out
          -- a call's matrix (N A n c x, hR) laid into a variable: W, g; kM : MatK W g ..
          obtain ⟨W1, hW1⟩ : ∃ W, W = World.alloc w5 (.cells #[.int .i64 (x.m : Int), .slice A1 x.m d1] 34) := ⟨_, rfl⟩
          obtain ⟨gm, hgm⟩ : ∃ g, g = (World.heap w5).size := ⟨_, rfl⟩
          have bW1 : Below (World.heap w5).size w5 W1 := by rw [hW1]; exact below_alloc _ _
          have kM := Lib.hid (show MatK W1 gm 34 (x.m : Int) A1 x.m d1 cm from by rw [hW1, hgm]; exact MatK.new w5 _ hR)
          replace hB := Lib.hid ((hB.out.later b).later bW1)
          replace hP := Lib.hid ((hP.out.below b).below bW1)
          clear bW1 hR b p0 p1 p2 cO
          replace cW := Lib.hid (cW.out A1 d1)
          replace cI := Lib.hid (fun L m d W hR hI hmm => cI.out A1 d1 L m d W hR hI hmm)
          have p0 := hB.out.c0
          have p1 := hB.out.c1
          have p2 := hB.out.c2
          go_wp2_with (rw [← hW1, ← hgm]; clear hW1; replace hgm := Lib.hid hgm)
          rw [hkv.out]
          clear p0 p1 p2
          refine wp_region_tree (.flt 0 (.flt 1 (.flt 2 (.two 3 5 (.two 4 5 (.one 5 (.one 6 .done)) (.one 4 (.one 6 .done))) (.one 3 (.one 4 (.one 6 .done))))))) (by kernel_rfl) (by kernel_rfl) (fun U hU => ?_)
          have hU' : Below W1.heap.size W1 U := by rw [hU.out]; exact (Below.refl _ _).drew
          replace hB := Lib.hid (hB.out.later hU')
          replace hP := Lib.hid (hP.out.below hU')
          replace kM := Lib.hid (kM.out.below hU')
          clear hU hU'
          have bW : Below U.heap.size U U := Below.refl _ _
          obtain ⟨B0, hB0⟩ : ∃ B0, B0 = Bm := ⟨_, rfl⟩
          apply cut_seven (F := fun (M : Nat) (w9 : World) (D2 : Option Addr) (m2 d2 : Nat) (C : Option Addr) (dC : Nat) => MatK w9 M 34 (x.m : Int) C x.m dC Bm ∧ x.m ≤ dC ∧ Below U.heap.size U w9)
          · intro key
            have m0 := kM.out.1.c0
            have m1 := kM.out.1.c1
            iterate 3
              refine wpPT_float (v := ?_) rfl (by rfl) (fun w' hw' => ?_) (fun K hK => ?_)
              rotate_left
              · (go_simp; try with_reducible rfl)
              go_simp
              refine hK _ ?_
              clear hK K
            clear m0 m1
            refine wpPT_two rfl (by rfl) rfl (by rfl) (fun K hK => ?_) (fun K hK => ?_)
            · skip
              go_simp
              refine (cW.out U (kM.out.below bW).2).mono ?_; rintro e v1 ⟨D2, m2, d2, rfl, hI, hmd2, hdm2, b⟩
              have hm2 := Lib.hid hI.len
              replace hI := Lib.hid hI
              replace bW := below_trans2 bW b
              refine hK _ _ bW ?_
              clear hK K
              refine wpPT_two rfl (by rfl) rfl (by rfl) (fun K hK => ?_) (fun K hK => ?_)
              · skip
                go_simp
                refine (cI.out D2 m2 d2 v1 (kM.out.below bW).2 hI.out.ints (by have := hm2.out; have := hwl.out; omega)).mono ?_; rintro e v2 ⟨C, n3, dC, rfl, rC, hdC, b⟩
                obtain rfl : n3 = x.m := by rw [← rC.len]; exact hBl.out
                replace bW := below_trans2 bW b
                refine hK _ _ bW ?_
                clear hK K
                refine wpPT_one rfl (by rfl) (fun K hK => ?_)
                go_simp
                obtain ⟨M, hM⟩ : ∃ M, M = (World.heap v2).size := ⟨_, rfl⟩
                obtain ⟨v3, hw'⟩ : ∃ X : World, X = World.alloc v2 (.cells #[.int .i64 0, .slice none 0 0] 34) := ⟨_, rfl⟩
                rw [← hw', ← hM]
                have b : Below (World.heap v2).size v2 v3 := by rw [hw']; exact below_alloc _ _
                have hUM : U.heap.size ≤ M := by rw [hM]; exact bW.size
                replace bW := below_trans2 bW b
                refine hK _ _ bW ?_
                clear hK K
                have kN := Lib.hid (show MatB v3 M 34 0 none 0 0 from by rw [hw', hM]; exact MatB.new _ _)
                have hne : 0 < x.m → ∀ ad, C = some ad → ad.block ≠ M := fun h0 ad e => by have := rC.block_lt h0 ad e; omega
                replace rC := rC.below b
                clear hM hw' b
                have f0 := kN.out.c0
                have f1 := kN.out.c1
                have g0 := kN.out.frozen 0
                have g1 := kN.out.frozen 1
                refine wpPT_one rfl (by rfl) (fun K hK => ?_)
                go_simp
                obtain ⟨wz, hw'⟩ : ∃ X : World, X = (World.setCell v3 ⟨M, 0, none⟩ (.int .i64 (x.m : Int))).setCell ⟨M, 1, none⟩ (.slice C x.m dC) := ⟨_, rfl⟩
                rw [← hw']
                have hMV := Lib.hid (show MatK wz M 34 (x.m : Int) C x.m dC Bm from ⟨by rw [hw']; exact kN.out.put _ _ _ _, by rw [hw']; exact rC.putB kN.out hne _ _⟩)
                replace bW : Below U.heap.size U wz := by rw [hw']; exact (bW.setCell (p := ⟨M, 0, none⟩) hUM _).setCell (p := ⟨M, 1, none⟩) hUM _
                refine hK _ _ bW ?_
                clear hK K f0 f1 g0 g1 hw' rC kN hne
                refine wpPT_done (NoPanic.normal ?_)
                exact key M wz D2 m2 d2 C dC ⟨hMV.out, hdC, bW⟩
              · skip
                go_simp
                obtain ⟨M, hM⟩ : ∃ M, M = (World.heap v1).size := ⟨_, rfl⟩
                obtain ⟨v4, hw'⟩ : ∃ X : World, X = World.alloc v1 (.cells #[.int .i64 0, .slice none 0 0] 34) := ⟨_, rfl⟩
                rw [← hw', ← hM]
                have b : Below (World.heap v1).size v1 v4 := by rw [hw']; exact below_alloc _ _
                have hUM : U.heap.size ≤ M := by rw [hM]; exact bW.size
                replace bW := below_trans2 bW b
                refine hK _ _ bW ?_
                clear hK K
                have kN := Lib.hid (show MatB v4 M 34 0 none 0 0 from by rw [hw', hM]; exact MatB.new _ _)
                replace hI := Lib.hid (hI.out.below b)
                clear hM hw' b
                refine wpPT_one rfl (by rfl) (fun K hK => ?_)
                go_simp
                refine (cI.out D2 m2 d2 v4 (kM.out.below bW).2 hI.out.ints (by have := hm2.out; have := hwl.out; omega)).mono ?_; rintro e v5 ⟨C, n3, dC, rfl, rC, hdC, b⟩
                obtain rfl : n3 = x.m := by rw [← rC.len]; exact hBl.out
                replace bW := below_trans2 bW b
                refine hK _ _ bW ?_
                clear hK K
                replace kN := Lib.hid (kN.out.below_ b)
                have hne : 0 < x.m → ∀ ad, C = some ad → ad.block ≠ M := fun h0 => rC.farZ kN.out (hposB.out h0) h0
                clear b
                have f0 := kN.out.c0
                have f1 := kN.out.c1
                have g0 := kN.out.frozen 0
                have g1 := kN.out.frozen 1
                refine wpPT_one rfl (by rfl) (fun K hK => ?_)
                go_simp
                obtain ⟨wz, hw'⟩ : ∃ X : World, X = (World.setCell v5 ⟨M, 0, none⟩ (.int .i64 (x.m : Int))).setCell ⟨M, 1, none⟩ (.slice C x.m dC) := ⟨_, rfl⟩
                rw [← hw']
                have hMV := Lib.hid (show MatK wz M 34 (x.m : Int) C x.m dC Bm from ⟨by rw [hw']; exact kN.out.put _ _ _ _, by rw [hw']; exact rC.putB kN.out hne _ _⟩)
                replace bW : Below U.heap.size U wz := by rw [hw']; exact (bW.setCell (p := ⟨M, 0, none⟩) hUM _).setCell (p := ⟨M, 1, none⟩) hUM _
                refine hK _ _ bW ?_
                clear hK K f0 f1 g0 g1 hw' rC kN hne
                refine wpPT_done (NoPanic.normal ?_)
                exact key M wz D2 m2 d2 C dC ⟨hMV.out, hdC, bW⟩
            · skip
              go_simp
              obtain ⟨M, hM⟩ : ∃ M, M = (World.heap U).size := ⟨_, rfl⟩
              obtain ⟨v6, hw'⟩ : ∃ X : World, X = World.alloc U (.cells #[.int .i64 0, .slice none 0 0] 34) := ⟨_, rfl⟩
              rw [← hw', ← hM]
              have b : Below (World.heap U).size U v6 := by rw [hw']; exact below_alloc _ _
              have hUM : U.heap.size ≤ M := by rw [hM]; exact bW.size
              replace bW := below_trans2 bW b
              refine hK _ _ bW ?_
              clear hK K
              have kN := Lib.hid (show MatB v6 M 34 0 none 0 0 from by rw [hw', hM]; exact MatB.new _ _)
              clear hM hw' b
              refine wpPT_one rfl (by rfl) (fun K hK => ?_)
              go_simp
              refine (cW.out v6 (kM.out.below bW).2).mono ?_; rintro e v7 ⟨D2, m2, d2, rfl, hI, hmd2, hdm2, b⟩
              have hm2 := Lib.hid hI.len
              replace hI := Lib.hid hI
              replace bW := below_trans2 bW b
              refine hK _ _ bW ?_
              clear hK K
              replace kN := Lib.hid (kN.out.below_ b)
              refine wpPT_one rfl (by rfl) (fun K hK => ?_)
              go_simp
              refine (cI.out D2 m2 d2 v7 (kM.out.below bW).2 hI.out.ints (by have := hm2.out; have := hwl.out; omega)).mono ?_; rintro e v8 ⟨C, n3, dC, rfl, rC, hdC, b⟩
              obtain rfl : n3 = x.m := by rw [← rC.len]; exact hBl.out
              replace bW := below_trans2 bW b
              refine hK _ _ bW ?_
              clear hK K
              replace kN := Lib.hid (kN.out.below_ b)
              have hne : 0 < x.m → ∀ ad, C = some ad → ad.block ≠ M := fun h0 => rC.farZ kN.out (hposB.out h0) h0
              clear b
              have f0 := kN.out.c0
              have f1 := kN.out.c1
              have g0 := kN.out.frozen 0
              have g1 := kN.out.frozen 1
              refine wpPT_one rfl (by rfl) (fun K hK => ?_)
              go_simp
              obtain ⟨wz, hw'⟩ : ∃ X : World, X = (World.setCell v8 ⟨M, 0, none⟩ (.int .i64 (x.m : Int))).setCell ⟨M, 1, none⟩ (.slice C x.m dC) := ⟨_, rfl⟩
              rw [← hw']
              have hMV := Lib.hid (show MatK wz M 34 (x.m : Int) C x.m dC Bm from ⟨by rw [hw']; exact kN.out.put _ _ _ _, by rw [hw']; exact rC.putB kN.out hne _ _⟩)
              replace bW : Below U.heap.size U wz := by rw [hw']; exact (bW.setCell (p := ⟨M, 0, none⟩) hUM _).setCell (p := ⟨M, 1, none⟩) hUM _
              refine hK _ _ bW ?_
              clear hK K f0 f1 g0 g1 hw' rC kN hne
              refine wpPT_done (NoPanic.normal ?_)
              exact key M wz D2 m2 d2 C dC ⟨hMV.out, hdC, bW⟩
          · intro M w9 D2 m2 d2 C dC hk9
            obtain ⟨kB, hdC, hb9⟩ := hk9
            replace kB := Lib.hid kB
            replace hB := Lib.hid (hB.out.later hb9)
            replace hP := Lib.hid (hP.out.below hb9)
            replace kM := Lib.hid (kM.out.below hb9)
            clear hb9 bW cW cI hwl hposB hBl hB0
            have p0 := hB.out.c0
            have p1 := hB.out.c1
            have p2 := hB.out.c2
            have m0 := kM.out.1.c0
            have m1 := kM.out.1.c1
            go_wp2_with fail
            refine (cP.out A1 d1 w9 hB.out.f kM.out.2).mono ?_; rintro e w6 ⟨j0, A2, dX, E1, k1, e1, rfl, hs0, hR, hcX, hL1, hk1, he1, b⟩
            obtain ⟨rz, hrz⟩ : ∃ z : Int, z = ((j0 + 1 : Nat) : Int) := ⟨_, rfl⟩
            rw [← hrz]
            replace hrz := Lib.hid hrz
            have hX1 := seX_good (kept := kept) gB'.out j0
            have hX2 := seX_closed (kept := kept) gB'.out hBcl.out j0
            have hX3 := fun i j h => seX_base (f := f) (kept := kept) gB'.out i j h j0
            have hX4 := seL_len (kept := kept) gB'.out j0
            have hX5 := seL_ge (f := f) (kept := kept) (B := Bm) j0 hs0.1
            have hX6 : j0 = 0 → seL f kept Bm j0 = [] := fun h => by rw [h]; rfl
            have hX7 := fun Y (hY : ClosedM Y) hs hn => seX_least (kept := kept) gB'.out (Y := Y) (keptY := kept) hY hs (fun _ h => h) (fun r hr => (hkok.out r hr).1) hn j0
            have hX8 := hs0.2
            obtain ⟨X, hXe⟩ : ∃ X, X = seX f kept Bm j0 := ⟨_, rfl⟩
            obtain ⟨es, hes⟩ : ∃ l, l = seL f kept Bm j0 := ⟨_, rfl⟩
            rw [← hXe] at hR hX1 hX2 hX3 hX7 hX8
            rw [← hes] at hL1 hX4 hX5 hX6
            rw [hil.out] at hX1
            obtain ⟨W, hWe⟩ : ∃ W, W = cntW f.items f.items.length := ⟨_, rfl⟩
            rw [← hWe] at hX4
            rw [hL1.len] at hX4 hX5
            have hX9 : j0 = 0 ↔ k1 = 0 := ⟨fun h => by rw [← hL1.len, hX6 h]; rfl, fun h => by omega⟩
            have hsX : subM Bm X = true := (sub_rel gB.out hX1).2 hX3
            replace hX2' := Lib.hid ((closedB_iff hX1).2 hX2)
            have hlX : Hid (∀ (i : Nat) (xs : List Nat), X[i]? = some xs → xs.length ≤ 1024) := Lib.hid (fun i xs h => Nat.le_trans (hX1.small xs (List.mem_of_getElem? h)) (by decide))
            have hlB : Hid (∀ (i : Nat) (xs : List Nat), Bm[i]? = some xs → xs.length ≤ 1024) := Lib.hid (fun i xs h => Nat.le_trans (gB.out.small xs (List.mem_of_getElem? h)) (by decide))
            replace hX1 := Lib.hid hX1
            replace hX4 := Lib.hid hX4
            replace hX5 := Lib.hid hX5
            replace hX7 := Lib.hid hX7
            replace hX8 := Lib.hid hX8
            replace hX9 := Lib.hid hX9
            replace hWe := Lib.hid hWe
            replace hsX := Lib.hid hsX
            -- a call's matrix (N A n c x, hR) laid into a variable: W, g; kA : MatK W g ..
            obtain ⟨W2, hW2⟩ : ∃ W, W = World.alloc w6 (.cells #[.int .i64 (x.m : Int), .slice A2 x.m dX] 34) := ⟨_, rfl⟩
            obtain ⟨ga, hga⟩ : ∃ g, g = (World.heap w6).size := ⟨_, rfl⟩
            have bW2 : Below (World.heap w6).size w6 W2 := by rw [hW2]; exact below_alloc _ _
            have kA := Lib.hid (show MatK W2 ga 34 (x.m : Int) A2 x.m dX X from by rw [hW2, hga]; exact MatK.new w6 _ hR)
            replace hB := Lib.hid ((hB.out.later b).later bW2)
            replace hP := Lib.hid ((hP.out.below b).below bW2)
            replace kB := Lib.hid ((kB.out.below b).below bW2)
            clear bW2 hR b p0 p1 p2 m0 m1 cP hL1 hXe hes hX3 hX6 hs0 hX2 kM
            have a0 := kA.out.1.c0
            have a1 := kA.out.1.c1
            have b0 := kB.out.1.c0
            have b1 := kB.out.1.c1
            have e1' : ((x.m : Int) != (x.m : Int)) = false := by simp
            have cR := ref3_Right (x.m : Int) A2 x.m dX X W2 kA.out.2 (by omega) hlX.out
            rw [hX1.out.right] at cR
            replace cR := Lib.hid cR
            go_wp2_with (rw [← hW2, ← hga]; clear hW2; replace hga := Lib.hid hga)
            refine cR.out.mono ?_; rintro e v1 ⟨rfl, b⟩
            replace hB := Lib.hid (hB.out.later b)
            replace hP := Lib.hid (hP.out.below b)
            replace kA := Lib.hid (kA.out.below b)
            replace kB := Lib.hid (kB.out.below b)
            clear b a0 a1 b0 b1 cR
            have a0 := kA.out.1.c0
            have a1 := kA.out.1.c1
            have b0 := kB.out.1.c0
            have b1 := kB.out.1.c1
            have cS := ref3_Sub C A2 x.m dC dX Bm X v1 kB.out.2 kA.out.2 (by omega) (fun i xs h => Nat.le_trans (hlB.out i xs h) (by decide)) (fun i xs h => Nat.le_trans (hlX.out i xs h) (by decide))
            rw [hsX.out] at cS
            replace cS := Lib.hid cS
            go_wp2_with fail
            refine cS.out.mono ?_; rintro e v2 ⟨rfl, b⟩
            replace hB := Lib.hid (hB.out.later b)
            replace hP := Lib.hid (hP.out.below b)
            replace kA := Lib.hid (kA.out.below b)
            replace kB := Lib.hid (kB.out.below b)
            clear b a0 a1 b0 b1 cS
            have a0 := kA.out.1.c0
            have a1 := kA.out.1.c1
            have cC := ref4_Closed A2 x.m dX X v2 kA.out.2 hX1.out
            rw [hX2'.out] at cC
            replace cC := Lib.hid cC
            go_wp2_with fail
            refine cC.out.mono ?_; rintro e v3 ⟨rfl, b⟩
            replace hB := Lib.hid (hB.out.later b)
            replace hP := Lib.hid (hP.out.below b)
            replace kA := Lib.hid (kA.out.below b)
            replace kB := Lib.hid (kB.out.below b)
            clear b a0 a1 cC
            have p0 := hB.out.c0
            have p1 := hB.out.c1
            have p2 := hB.out.c2
            go_wp2_with fail
            refine (cKp.out v3 hB.out.f).mono ?_; rintro e v4 ⟨D, m3, d3, rfl, hK3, hmd3, hdm3, b⟩
            have hm3 : m3 ≤ 64 := by rw [← hK3.len]; have := hklen.out; omega
            replace hB := Lib.hid (hB.out.later b)
            replace hP := Lib.hid (hP.out.below b)
            replace kA := Lib.hid (kA.out.below b)
            replace kB := Lib.hid (kB.out.below b)
            replace hK3 := Lib.hid hK3
            clear b p0 p1 p2 cKp
            have cN := Lib.hid (fun A c Y (hY : Good x.m Y) W hW hR hL => ref18_NewF x f A c Y D m3 d3 kept W hW hR hY hL hkok.out (by omega) hm3 hw.out)
            have p0 := hB.out.c0
            have p1 := hB.out.c1
            have p2 := hB.out.c2
            have a0 := kA.out.1.c0
            have a1 := kA.out.1.c1
            go_wp2_with fail
            refine (cN.out A2 dX X hX1.out v4 hB.out.f kA.out.2 hK3.out).mono ?_; rintro e v5 ⟨E2, k2, e2, rfl, hL2, -, -, b, -⟩
            obtain rfl : k2 = 0 := by rw [← hL2.len, hX8.out]; rfl
            replace hB := Lib.hid (hB.out.later b)
            replace hP := Lib.hid (hP.out.below b)
            replace kA := Lib.hid (kA.out.below b)
            replace kB := Lib.hid (kB.out.below b)
            replace hK3 := Lib.hid (hK3.out.below b)
            clear b p0 p1 p2 a0 a1 hL2
            go_wp2_with fail
            go_loopw [17, 18] (fun u t wr => ∃ i : Nat, i ≤ x.m ∧ u = .int .i64 (cntW f.items i : Int) ∧ t = .int .i64 (i : Int) ∧ wr = v5) (fun _ t _ => x.m - (intOf t).toNat)
            case atStart => exact ⟨0, Nat.zero_le _, rfl, rfl, rfl⟩
            case round =>
              obtain ⟨i, hi, rfl, rfl, rfl⟩ := hrel
              have p0 := hB.out.c0
              have p1 := hB.out.c1
              have p2 := hB.out.c2
              by_cases hlt : i < x.m
              · have hlt' : (i : Int) < (x.m : Int) := by omega
                have bi : 0 ≤ (i : Int) ∧ (i : Int) < (x.m : Int) := by omega
                have hcs := cntW_succ f.items i
                have hcl := cntW_le f.items i
                obtain ⟨ib, io, u, hxB, -, hu, -, -, -, i2, -, -⟩ := hB.out.f.is.item hlt
                rw [hxB] at p1
                have hwb : wrB f.items i = u.wr := by unfold wrB; rw [hu]
                rw [hwb] at hcs
                obtain ⟨us, up, uw, ua, ul⟩ := u
                simp only at i2 hcs
                obtain ⟨q, hq⟩ : ∃ q, q = cntW f.items i := ⟨_, rfl⟩
                rw [← hq] at hcs hcl ⊢
                clear hxB hu hq hwb
                cases uw with
                | true =>
                  rw [if_pos rfl] at hcs
                  replace hcs := Lib.hid hcs
                  go_wp2_with fail
                  exact ⟨⟨i + 1, by omega, by rw [hcs.out]; go_num, by go_num, trivial⟩, by simp [intOf]; omega⟩
                | false =>
                  rw [if_neg (by simp)] at hcs
                  replace hcs := Lib.hid hcs
                  go_wp2_with fail
                  exact ⟨⟨i + 1, by omega, by rw [hcs.out], by go_num, trivial⟩, by simp [intOf]; omega⟩
              · have hlt' : ¬ (i : Int) < (x.m : Int) := by omega
                obtain rfl : i = x.m := by omega
                have hcl := cntW_le f.items x.m
                have hWm : W = cntW f.items x.m := by rw [hWe.out, hil.out]
                rw [← hWm] at hcl ⊢
                clear hlt
                have hW14 : W ≤ 14 := by omega
                have hpm : W * W ≤ 14 * 14 := Nat.mul_le_mul hW14 hW14
                have hmul : (W : Int) * (W : Int) = ((W * W : Nat) : Int) := by simp
                obtain ⟨pr, hpr⟩ : ∃ p, p = W * W := ⟨_, rfl⟩
                rw [← hpr] at hmul hpm
                have hk1p : k1 ≤ pr := by rw [hpr]; exact hX4.out
                have hj0p : j0 ≤ k1 := hX5.out
                have hz9 := hX9.out
                have hrz' := hrz.out
                have q1 : decide ((pr : Int) < (k1 : Int)) = false := decide_eq_false (by omega)
                have q2 : decide ((pr : Int) + 1 < rz) = false := decide_eq_false (by omega)
                have q3 : decide (rz < 1) = false := decide_eq_false (by omega)
                have q1' : decide (pr < k1) = false := decide_eq_false (by omega)
                have q45 : ((rz == 1) = true ∧ ((k1 : Int) == 0) = true) ∨ ((rz == 1) = false ∧ ((k1 : Int) == 0) = false) := by
                  by_cases h : j0 = 0
                  · have := hz9.1 h
                    exact .inl ⟨by rw [beq_iff_eq]; omega, by rw [beq_iff_eq]; omega⟩
                  · have : k1 ≠ 0 := fun h' => h (hz9.2 h')
                    exact .inr ⟨by rw [beq_eq_false_iff_ne]; omega, by rw [beq_eq_false_iff_ne]; omega⟩
                replace hpr := Lib.hid hpr
                replace hWm := Lib.hid hWm
                replace hrz' := Lib.hid hrz'
                replace hz9 := Lib.hid hz9
                obtain ⟨gn, hgn⟩ : ∃ g, g = wr.heap.size := ⟨_, rfl⟩
                obtain ⟨Wn, hWn⟩ : ∃ W, W = wr.alloc (.cells #[.int .i64 (x.m : Int), .slice C x.m dC] 34) := ⟨_, rfl⟩
                have bn : Below wr.heap.size wr Wn := by rw [hWn]; exact below_alloc _ _
                have hT := Lib.hid (show MV Wn gn x.m C dC Bm from ⟨by rw [hWn, hgn]; exact MatB.new wr _, kB.out.2.below bn, hdC, fun h0 ad e => by have := kB.out.2.block_lt h0 ad e; omega⟩)
                have hg3 : wr.heap.size ≤ gn := by omega
                have hbb := Lib.hid bn
                have b0 := kB.out.1.c0
                have b1 := kB.out.1.c1
                clear bn
                obtain ⟨v6, hv6⟩ : ∃ v6, v6 = wr := ⟨_, rfl⟩
                have hinv : Hid (Good x.m Bm ∧ ∀ i j, Rel Bm i j → Rel Bm i j) := Lib.hid ⟨gB.out, fun _ _ h => h⟩
                rcases q45 with ⟨q4, q5⟩ | ⟨q4, q5⟩
                · go_wp2_with (rw [← hWn, ← hgn]; clear hWn; replace hgn := Lib.hid hgn)
                  clear b0 b1 p0 p1 p2 q1 q2 q3 q1' q4 q5 hmul
                  go_loopw [20] (fun t wr => ∃ (q : Nat) (A3 : Option Addr) (d3 : Nat) (Y : List (List Nat)), q ≤ m ∧ t = .int .i64 (q : Int) ∧ Hid (Good x.m Y ∧ ∀ i j, Rel Bm i j → Rel Y i j) ∧ Hid (Below v6.heap.size v6 wr) ∧ Hid (MV wr gn x.m A3 d3 Y)) (fun t _ => m - (intOf t).toNat)
                  case atStart => exact ⟨0, _, _, _, Nat.zero_le _, rfl, hinv, by rw [hv6]; exact hbb, hT⟩
                  case round =>
                    subst hv6
                    clear hT hbb hinv
                    obtain ⟨q, A3, d3, Y, hq, rfl, hY, hbb, hT⟩ := hrel
                    have hgY := Lib.hid hY.out.1
                    by_cases hql : q < m
                    · have hqI : (q : Int) < (m : Int) := by omega
                      have bq : 0 ≤ (q : Int) ∧ (q : Int) < (m : Int) := by omega
                      have h0 : 0 < x.m := by omega
                      have hm0 : ¬ x.m = 0 := by omega
                      obtain ⟨bb8, off, px, py, hB8, hbl, hpx, ⟨hx8, hy8⟩, c0, c1⟩ := (hP.out.below hbb.out).at_ hql
                      have hxk := Lib.hid (tmod_small18c px x.m hx8)
                      have hyk := Lib.hid (tmod_small18c py x.m hy8)
                      have hxl := Nat.mod_lt px h0
                      have hyl := Nat.mod_lt py h0
                      have hYn : Hid (Good x.m (setM Y ((px % x.m : Nat) : Int) ((py % x.m : Nat) : Int)) ∧ ∀ i j, Rel Bm i j → Rel (setM Y ((px % x.m : Nat) : Int) ((py % x.m : Nat) : Int)) i j) := Lib.hid ⟨hgY.out.set hxl hyl, fun i j h => (rel_set hgY.out hxl hyl i j).2 (.inl (hY.out.2 i j h))⟩
                      have cS := Lib.hid (fun W (hW : RowsAt W A3 x.m Y) => ref3_SetF (x.m : Int) A3 x.m d3 Y ((px % x.m : Nat) : Int) ((py % x.m : Nat) : Int) W hW rfl (by omega) (fun xs hx => Nat.le_trans (hgY.out.small xs hx) (by decide)) (by unfold inM; simp only [Bool.and_eq_true, decide_eq_true_eq]; omega))
                      clear hpx hbl
                      subst hB8
                      replace hql := Lib.hid hql
                      go_wp2_with fail
                      refine wp_region_planT 21 [(true, 0), (true, 1), (true, 2), (true, 3), (true, 4), (true, 5), (true, 6), (true, 7), (true, 8), (true, 9), (true, 10), (true, 11), (true, 12), (true, 13), (true, 14), (true, 15), (true, 16), (true, 17), (true, 18), (false, 19), (true, 20)] 23 [21, 22] (by kernel_rfl) (by kernel_rfl) (fun U hU => ?_)
                      have hU' : Below wr.heap.size wr U := by rw [hU.out]; exact (Below.refl _ _).drew
                      replace hbb := Lib.hid (below_trans2 hbb.out hU')
                      replace hT := Lib.hid (hT.out.later hU')
                      replace c0 : U.cell? ⟨bb8, off + q * 2, none⟩ = some (.int .u8 (px : Int)) := by rw [hU.out]; exact c0
                      replace c1 : U.cell? ⟨bb8, off + q * 2 + 1, none⟩ = some (.int .u8 (py : Int)) := by rw [hU.out]; exact c1
                      clear hU hU'
                      simp only [List.drop_succ_cons, List.drop_zero]
                      have t0 := hT.out.loc.c0
                      have t1 := hT.out.loc.c1
                      iterate 19
                        refine wpPlanE_float (v := ?_) rfl (by rfl) (fun w' hw' => ?_) (fun K hK => ?_)
                        rotate_left
                        · (go_simp; try with_reducible rfl)
                        go_simp
                        refine hK _ ?_
                        clear hK K
                      rw [hxk.out, hyk.out]
                      clear c0 c1 t0 t1
                      refine wpPlanE_only rfl (by rfl) (fun K hK => ?_)
                      go_simp
                      refine (cS.out U hT.out.rows).mono ?_
                      rintro e w8 ⟨C2, n2, c2, rfl, hrows2, hcap2, b4, hfar2⟩
                      obtain rfl : n2 = x.m := by rw [← hrows2.len]; exact hYn.out.1.len
                      refine hK _ _ b4 ?_
                      clear hK K
                      have hT4 := Lib.hid (hT.out.put b4 hrows2 hcap2 hfar2)
                      have kN := hT.out.loc.below_ b4
                      have hbb4 := Lib.hid (((below_trans2 hbb.out b4).setCell (p := ⟨gn, 0, none⟩) hg3 (.int .i64 (x.m : Int))).setCell (p := ⟨gn, 1, none⟩) hg3 (.slice C2 x.m c2))
                      clear cS hrows2 hfar2 b4
                      iterate 1
                        refine wpPlanE_float (v := ?_) rfl (by rfl) (fun w' hw' => ?_) (fun K hK => ?_)
                        rotate_left
                        · (go_simp; try with_reducible rfl)
                        go_simp
                        refine hK _ ?_
                        clear hK K
                      refine wpPlanE_nil ?_
                      iterate 2
                        refine wpPlanT_float (v := ?_) rfl (by rfl) (fun w' => ?_) (fun K hK => ?_)
                        rotate_left
                        · (go_simp; try with_reducible rfl)
                        go_simp
                        refine hK _ ?_
                        clear hK K
                      refine wpPlanT_nil ?_
                      have m0 := kN.c0
                      have m1 := kN.c1
                      have g0 := kN.frozen 0
                      have g1 := kN.frozen 1
                      clear kN
                      go_wp2_with fail
                      refine NoPanic.normal ?_
                      go_wp2_with fail
                      go_roundw
                      case rel => exact ⟨q + 1, C2, c2, _, by have := hql.out; omega, by go_num, hYn, hbb4, hT4⟩
                      case measure => simp [intOf]; have := hql.out; omega
                    · have hqI : ¬ (q : Int) < (m : Int) := by omega
                      have cC := Lib.hid (ref4_Close A3 x.m d3 Y wr hT.out.rows hgY.out (by omega))
                      have hcl := closeK_hull hgY.out
                      have hinv : Hid (Good x.m (closeK Y x.m) ∧ ClosedM (closeK Y x.m) ∧ ∀ i j, Rel Bm i j → Rel (closeK Y x.m) i j) := Lib.hid ⟨hcl.1, hcl.closed, fun i j h => (hcl.2 i j).2 (.one (hY.out.2 i j h))⟩
                      have t0 := hT.out.loc.c0
                      have t1 := hT.out.loc.c1
                      clear hql hcl
                      go_wp2_with fail
                      refine cC.out.mono ?_; rintro e w5 ⟨A5, n5, c5, rfl, r5, hc5, b5⟩
                      obtain rfl : n5 = x.m := by rw [← r5.len]; exact hinv.out.1.len
                      have hN5 := hT.out.later b5
                      have hfar : 0 < x.m → ∀ ad, A5 = some ad → ad.block ≠ gn := fun h0 => r5.farK (show MatK w5 gn 34 (x.m : Int) A3 x.m d3 Y from ⟨hN5.loc, hN5.rows⟩) h0 h0
                      have hbb5 := Lib.hid (((below_trans2 hbb.out b5).setCell (p := ⟨gn, 0, none⟩) hg3 (.int .i64 (x.m : Int))).setCell (p := ⟨gn, 1, none⟩) hg3 (.slice A5 x.m c5))
                      obtain ⟨W6, hW6⟩ : ∃ W : World, W = (w5.setCell ⟨gn, 0, none⟩ (.int .i64 (x.m : Int))).setCell ⟨gn, 1, none⟩ (.slice A5 x.m c5) := ⟨_, rfl⟩
                      have hT6 := Lib.hid (show MV W6 gn x.m A5 c5 (closeK Y x.m) from ⟨by rw [hW6]; exact hN5.loc.put _ _ _ _, by rw [hW6]; exact r5.putB hN5.loc hfar _ _, hc5, hfar⟩)
                      rw [← hW6] at hbb5
                      have t0' := hN5.loc.c0
                      have t1' := hN5.loc.c1
                      have g0 := hN5.loc.frozen 0
                      have g1 := hN5.loc.frozen 1
                      clear t0 t1 hbb hT cC hN5 hfar r5 b5 hY hgY
                      go_wp2_with (rw [← hW6]; clear hW6)
                      clear t0' t1' g0 g1
                      go_loopw [21] (fun t wr => ∃ (q : Nat) (A3 : Option Addr) (d3 : Nat) (Y : List (List Nat)), q ≤ 200 ∧ t = .int .i64 (q : Int) ∧ Hid (Good x.m Y ∧ ClosedM Y ∧ ∀ i j, Rel Bm i j → Rel Y i j) ∧ Hid (Below v6.heap.size v6 wr) ∧ Hid (MV wr gn x.m A3 d3 Y)) (fun t _ => 200 - (intOf t).toNat)
                      case atStart => exact ⟨0, _, _, _, Nat.zero_le _, rfl, hinv, hbb5, hT6⟩
                      case round =>
                        clear hT6 hbb5 hinv
                        obtain ⟨q, A3, d3, Y, hq, rfl, hY, hbb, hT⟩ := hrel
                        have hgY := Lib.hid hY.out.1
                        have hBr := Lib.hid (hB.out.later hbb.out)
                        by_cases hql : q < 200
                        · have hqI : (q : Int) < 200 := by omega
                          have hkr := Lib.hid (hK3.out.below hbb.out)
                          have cNr := Lib.hid (cN.out A3 d3 Y hgY.out wr hBr.out.f hT.out.rows hkr.out)
                          have hnil := fun h => hX7.out Y hY.out.2.1 hY.out.2.2 h
                          have hsome := fun y (h : y ∈ newF f Y kept) => newF_some h
                          obtain ⟨nl, hnl⟩ : ∃ l, l = newF f Y kept := ⟨_, rfl⟩
                          rw [← hnl] at cNr hnil hsome
                          replace hnil := Lib.hid hnil
                          replace hsome := Lib.hid hsome
                          have p0 := hBr.out.c0
                          have p1 := hBr.out.c1
                          have p2 := hBr.out.c2
                          have t0 := hT.out.loc.c0
                          have t1 := hT.out.loc.c1
                          replace hql := Lib.hid hql
                          replace hnl := Lib.hid hnl
                          go_wp2_with fail
                          refine cNr.out.mono ?_; rintro e w7 ⟨E2, ne, e2, rfl, hL2, hnc2, hcm2, b7, -⟩
                          have kAr := Lib.hid ((kA.out.below hbb.out).below b7)
                          replace hBr := Lib.hid (hBr.out.later b7)
                          replace hbb := Lib.hid (below_trans2 hbb.out b7)
                          replace hT := Lib.hid (hT.out.later b7)
                          clear b7 t0 t1 p0 p1 p2 cNr hkr
                          rcases Nat.eq_zero_or_pos ne with hne | hne
                          · subst hne
                            have hle := hnil.out (List.eq_nil_of_length_eq_zero hL2.len)
                            have hsY : Hid (subM X Y = true) := Lib.hid ((sub_rel hX1.out hgY.out).2 hle)
                            clear hL2 hle
                            go_wp2_with fail
                            refine (law18_awake w7).mono ?_; rintro e v8 ⟨rfl, b8⟩
                            have kAs := Lib.hid (kAr.out.below b8)
                            have hTs := Lib.hid (hT.out.later b8)
                            have hBs := Lib.hid (hBr.out.later b8)
                            have a0 := kAs.out.1.c0
                            have a1 := kAs.out.1.c1
                            have t0 := hTs.out.loc.c0
                            have t1 := hTs.out.loc.c1
                            have hlY : Hid (∀ (i : Nat) (xs : List Nat), Y[i]? = some xs → xs.length ≤ 1024) := Lib.hid (fun i xs h => Nat.le_trans (hgY.out.small xs (List.mem_of_getElem? h)) (by decide))
                            have cS := ref3_Sub A2 A3 x.m dX d3 X Y v8 kAs.out.2 hTs.out.rows (by omega) (fun i xs h => Nat.le_trans (hlX.out i xs h) (by decide)) (fun i xs h => Nat.le_trans (hlY.out i xs h) (by decide))
                            rw [hsY.out] at cS
                            replace cS := Lib.hid cS
                            go_wp2_with fail
                            refine cS.out.mono ?_; rintro e v9 ⟨rfl, b9⟩
                            go_wp2_with fail
                            go_ret
                            exact ⟨rfl, below_trans2 hBs.out.o b9⟩
                          · obtain ⟨p, hp⟩ : ∃ p, ne = p + 1 := ⟨ne - 1, by omega⟩
                            subst hp
                            have hps : p < 100000 := by
                              have h1 := hL2.len
                              have h2 : nl.length ≤ x.m * x.m := by rw [hnl.out]; unfold newF; rw [hil.out]; exact nwA_len _ _
                              have h3 : x.m * x.m ≤ 14 * 14 := Nat.mul_le_mul (by omega) (by omega)
                              omega
                            obtain ⟨eb, eo, y, hE2, -, hy, -, y0, y1, -⟩ := hL2.edge (show p < p + 1 by omega)
                            obtain ⟨ya, yb, hya, hyb, hy1, hy2, -⟩ := hsome.out y (List.mem_of_getElem? hy)
                            rw [hil.out] at hya hyb
                            rw [hy1] at y0
                            rw [hy2] at y1
                            have hset := rel_set hgY.out hya hyb
                            have hgs := hgY.out.set hya hyb
                            have hcl := closeK_hull hgs
                            have hYn : Hid (Good x.m (closeK (setM Y (ya : Int) (yb : Int)) x.m) ∧ ClosedM (closeK (setM Y (ya : Int) (yb : Int)) x.m) ∧ ∀ i j, Rel Bm i j → Rel (closeK (setM Y (ya : Int) (yb : Int)) x.m) i j) := Lib.hid ⟨hcl.1, hcl.closed, fun i j h => (hcl.2 i j).2 (.one ((hset i j).2 (.inl (hY.out.2.2 i j h))))⟩
                            have cA := Lib.hid (fun W (hW : RowsAt W A3 x.m Y) => ref4_Add A3 x.m d3 Y ya yb W hW hgY.out (by omega) hya hyb)
                            have e9 : ((p : Int) + 1 == 0) = false := by rw [beq_eq_false_iff_ne]; omega
                            have hpw := wrap_small18c (p : Int) (by omega) (by omega)
                            have hpw2 := wrap_small18c ((p : Int) + 1 - 1) (by omega) (by omega)
                            have bp : 0 ≤ (p : Int) ∧ (p : Int) < (p : Int) + 1 := by omega
                            subst hE2
                            replace hpw := Lib.hid hpw
                            replace hpw2 := Lib.hid hpw2
                            clear hy hset hgs hcl hy1 hy2 hL2
                            go_wp2_with fail
                            refine wp_region_planT 17 [(true, 0), (true, 1), (true, 2), (true, 3), (true, 4), (true, 5), (true, 6), (true, 7), (true, 8), (true, 9), (true, 10), (true, 11), (true, 12), (true, 13), (true, 14), (false, 15), (true, 16)] 19 [17, 18] (by kernel_rfl) (by kernel_rfl) (fun U hU => ?_)
                            have hU' : Below w7.heap.size w7 U := by rw [hU.out]; exact (Below.refl _ _).drew
                            replace hbb := Lib.hid (below_trans2 hbb.out hU')
                            replace hT := Lib.hid (hT.out.later hU')
                            replace y0 : U.cell? ⟨eb, eo + p * 3, none⟩ = some (.int .i64 (ya : Int)) := by rw [hU.out]; exact y0
                            replace y1 : U.cell? ⟨eb, eo + p * 3 + 1, none⟩ = some (.int .i64 (yb : Int)) := by rw [hU.out]; exact y1
                            clear hU hU'
                            simp only [List.drop_succ_cons, List.drop_zero]
                            have t0 := hT.out.loc.c0
                            have t1 := hT.out.loc.c1
                            have hpw' := hpw.out
                            have hpw2' := hpw2.out
                            iterate 15
                              refine wpPlanE_float (v := ?_) rfl (by rfl) (fun w' hw' => ?_) (fun K hK => ?_)
                              rotate_left
                              · (go_simp; try with_reducible rfl)
                              go_simp
                              refine hK _ ?_
                              clear hK K
                            clear y0 y1 t0 t1 hpw' hpw2'
                            refine wpPlanE_only rfl (by rfl) (fun K hK => ?_)
                            go_simp
                            refine (cA.out U hT.out.rows).mono ?_
                            rintro e w8 ⟨C2, n2, c2, rfl, hrows2, hcap2, b4⟩
                            obtain rfl : n2 = x.m := by rw [← hrows2.len]; exact hYn.out.1.len
                            refine hK _ _ b4 ?_
                            clear hK K
                            have hN8 := hT.out.later b4
                            have hfar : 0 < x.m → ∀ ad, C2 = some ad → ad.block ≠ gn := fun h0 => hrows2.farK (show MatK w8 gn 34 (x.m : Int) A3 x.m d3 Y from ⟨hN8.loc, hN8.rows⟩) h0 h0
                            have hbb4 := Lib.hid (((below_trans2 hbb.out b4).setCell (p := ⟨gn, 0, none⟩) hg3 (.int .i64 (x.m : Int))).setCell (p := ⟨gn, 1, none⟩) hg3 (.slice C2 x.m c2))
                            have hT4 := Lib.hid (show MV ((w8.setCell ⟨gn, 0, none⟩ (.int .i64 (x.m : Int))).setCell ⟨gn, 1, none⟩ (.slice C2 x.m c2)) gn x.m C2 c2 (closeK (setM Y (ya : Int) (yb : Int)) x.m) from ⟨hN8.loc.put _ _ _ _, hrows2.putB hN8.loc hfar _ _, hcap2, hfar⟩)
                            have kN := hN8.loc
                            clear cA hrows2 b4 hN8 hfar
                            iterate 1
                              refine wpPlanE_float (v := ?_) rfl (by rfl) (fun w' hw' => ?_) (fun K hK => ?_)
                              rotate_left
                              · (go_simp; try with_reducible rfl)
                              go_simp
                              refine hK _ ?_
                              clear hK K
                            refine wpPlanE_nil ?_
                            iterate 2
                              refine wpPlanT_float (v := ?_) rfl (by rfl) (fun w' => ?_) (fun K hK => ?_)
                              rotate_left
                              · (go_simp; try with_reducible rfl)
                              go_simp
                              refine hK _ ?_
                              clear hK K
                            refine wpPlanT_nil ?_
                            have m0 := kN.c0
                            have m1 := kN.c1
                            have g0 := kN.frozen 0
                            have g1 := kN.frozen 1
                            clear kN
                            go_wp2_with fail
                            refine NoPanic.normal ?_
                            go_wp2_with fail
                            go_roundw
                            case rel => exact ⟨q + 1, C2, c2, _, by have := hql.out; omega, by go_num, hYn, hbb4, hT4⟩
                            case measure => simp [intOf]; have := hql.out; omega
                        · have hqI : ¬ (q : Int) < 200 := by omega
                          clear hql
                          go_wp2_with fail
                          refine (law18_awake wr).mono ?_; rintro e v9 ⟨rfl, b9⟩
                          go_wp2_with fail
                          go_ret
                          exact ⟨rfl, below_trans2 hBr.out.o b9⟩
                · go_wp2_with (rw [← hWn, ← hgn]; clear hWn; replace hgn := Lib.hid hgn)
                  clear b0 b1 p0 p1 p2 q1 q2 q3 q1' q4 q5 hmul
                  go_loopw [20] (fun t wr => ∃ (q : Nat) (A3 : Option Addr) (d3 : Nat) (Y : List (List Nat)), q ≤ m ∧ t = .int .i64 (q : Int) ∧ Hid (Good x.m Y ∧ ∀ i j, Rel Bm i j → Rel Y i j) ∧ Hid (Below v6.heap.size v6 wr) ∧ Hid (MV wr gn x.m A3 d3 Y)) (fun t _ => m - (intOf t).toNat)
                  case atStart => exact ⟨0, _, _, _, Nat.zero_le _, rfl, hinv, by rw [hv6]; exact hbb, hT⟩
                  case round =>
                    subst hv6
                    clear hT hbb hinv
                    obtain ⟨q, A3, d3, Y, hq, rfl, hY, hbb, hT⟩ := hrel
                    have hgY := Lib.hid hY.out.1
                    by_cases hql : q < m
                    · have hqI : (q : Int) < (m : Int) := by omega
                      have bq : 0 ≤ (q : Int) ∧ (q : Int) < (m : Int) := by omega
                      have h0 : 0 < x.m := by omega
                      have hm0 : ¬ x.m = 0 := by omega
                      obtain ⟨bb8, off, px, py, hB8, hbl, hpx, ⟨hx8, hy8⟩, c0, c1⟩ := (hP.out.below hbb.out).at_ hql
                      have hxk := Lib.hid (tmod_small18c px x.m hx8)
                      have hyk := Lib.hid (tmod_small18c py x.m hy8)
                      have hxl := Nat.mod_lt px h0
                      have hyl := Nat.mod_lt py h0
                      have hYn : Hid (Good x.m (setM Y ((px % x.m : Nat) : Int) ((py % x.m : Nat) : Int)) ∧ ∀ i j, Rel Bm i j → Rel (setM Y ((px % x.m : Nat) : Int) ((py % x.m : Nat) : Int)) i j) := Lib.hid ⟨hgY.out.set hxl hyl, fun i j h => (rel_set hgY.out hxl hyl i j).2 (.inl (hY.out.2 i j h))⟩
                      have cS := Lib.hid (fun W (hW : RowsAt W A3 x.m Y) => ref3_SetF (x.m : Int) A3 x.m d3 Y ((px % x.m : Nat) : Int) ((py % x.m : Nat) : Int) W hW rfl (by omega) (fun xs hx => Nat.le_trans (hgY.out.small xs hx) (by decide)) (by unfold inM; simp only [Bool.and_eq_true, decide_eq_true_eq]; omega))
                      clear hpx hbl
                      subst hB8
                      replace hql := Lib.hid hql
                      go_wp2_with fail
                      refine wp_region_planT 21 [(true, 0), (true, 1), (true, 2), (true, 3), (true, 4), (true, 5), (true, 6), (true, 7), (true, 8), (true, 9), (true, 10), (true, 11), (true, 12), (true, 13), (true, 14), (true, 15), (true, 16), (true, 17), (true, 18), (false, 19), (true, 20)] 23 [21, 22] (by kernel_rfl) (by kernel_rfl) (fun U hU => ?_)
                      have hU' : Below wr.heap.size wr U := by rw [hU.out]; exact (Below.refl _ _).drew
                      replace hbb := Lib.hid (below_trans2 hbb.out hU')
                      replace hT := Lib.hid (hT.out.later hU')
                      replace c0 : U.cell? ⟨bb8, off + q * 2, none⟩ = some (.int .u8 (px : Int)) := by rw [hU.out]; exact c0
                      replace c1 : U.cell? ⟨bb8, off + q * 2 + 1, none⟩ = some (.int .u8 (py : Int)) := by rw [hU.out]; exact c1
                      clear hU hU'
                      simp only [List.drop_succ_cons, List.drop_zero]
                      have t0 := hT.out.loc.c0
                      have t1 := hT.out.loc.c1
                      iterate 19
                        refine wpPlanE_float (v := ?_) rfl (by rfl) (fun w' hw' => ?_) (fun K hK => ?_)
                        rotate_left
                        · (go_simp; try with_reducible rfl)
                        go_simp
                        refine hK _ ?_
                        clear hK K
                      rw [hxk.out, hyk.out]
                      clear c0 c1 t0 t1
                      refine wpPlanE_only rfl (by rfl) (fun K hK => ?_)
                      go_simp
                      refine (cS.out U hT.out.rows).mono ?_
                      rintro e w8 ⟨C2, n2, c2, rfl, hrows2, hcap2, b4, hfar2⟩
                      obtain rfl : n2 = x.m := by rw [← hrows2.len]; exact hYn.out.1.len
                      refine hK _ _ b4 ?_
                      clear hK K
                      have hT4 := Lib.hid (hT.out.put b4 hrows2 hcap2 hfar2)
                      have kN := hT.out.loc.below_ b4
                      have hbb4 := Lib.hid (((below_trans2 hbb.out b4).setCell (p := ⟨gn, 0, none⟩) hg3 (.int .i64 (x.m : Int))).setCell (p := ⟨gn, 1, none⟩) hg3 (.slice C2 x.m c2))
                      clear cS hrows2 hfar2 b4
                      iterate 1
                        refine wpPlanE_float (v := ?_) rfl (by rfl) (fun w' hw' => ?_) (fun K hK => ?_)
                        rotate_left
                        · (go_simp; try with_reducible rfl)
                        go_simp
                        refine hK _ ?_
                        clear hK K
                      refine wpPlanE_nil ?_
                      iterate 2
                        refine wpPlanT_float (v := ?_) rfl (by rfl) (fun w' => ?_) (fun K hK => ?_)
                        rotate_left
                        · (go_simp; try with_reducible rfl)
                        go_simp
                        refine hK _ ?_
                        clear hK K
                      refine wpPlanT_nil ?_
                      have m0 := kN.c0
                      have m1 := kN.c1
                      have g0 := kN.frozen 0
                      have g1 := kN.frozen 1
                      clear kN
                      go_wp2_with fail
                      refine NoPanic.normal ?_
                      go_wp2_with fail
                      go_roundw
                      case rel => exact ⟨q + 1, C2, c2, _, by have := hql.out; omega, by go_num, hYn, hbb4, hT4⟩
                      case measure => simp [intOf]; have := hql.out; omega
                    · have hqI : ¬ (q : Int) < (m : Int) := by omega
                      have cC := Lib.hid (ref4_Close A3 x.m d3 Y wr hT.out.rows hgY.out (by omega))
                      have hcl := closeK_hull hgY.out
                      have hinv : Hid (Good x.m (closeK Y x.m) ∧ ClosedM (closeK Y x.m) ∧ ∀ i j, Rel Bm i j → Rel (closeK Y x.m) i j) := Lib.hid ⟨hcl.1, hcl.closed, fun i j h => (hcl.2 i j).2 (.one (hY.out.2 i j h))⟩
                      have t0 := hT.out.loc.c0
                      have t1 := hT.out.loc.c1
                      clear hql hcl
                      go_wp2_with fail
                      refine cC.out.mono ?_; rintro e w5 ⟨A5, n5, c5, rfl, r5, hc5, b5⟩
                      obtain rfl : n5 = x.m := by rw [← r5.len]; exact hinv.out.1.len
                      have hN5 := hT.out.later b5
                      have hfar : 0 < x.m → ∀ ad, A5 = some ad → ad.block ≠ gn := fun h0 => r5.farK (show MatK w5 gn 34 (x.m : Int) A3 x.m d3 Y from ⟨hN5.loc, hN5.rows⟩) h0 h0
                      have hbb5 := Lib.hid (((below_trans2 hbb.out b5).setCell (p := ⟨gn, 0, none⟩) hg3 (.int .i64 (x.m : Int))).setCell (p := ⟨gn, 1, none⟩) hg3 (.slice A5 x.m c5))
                      obtain ⟨W6, hW6⟩ : ∃ W : World, W = (w5.setCell ⟨gn, 0, none⟩ (.int .i64 (x.m : Int))).setCell ⟨gn, 1, none⟩ (.slice A5 x.m c5) := ⟨_, rfl⟩
                      have hT6 := Lib.hid (show MV W6 gn x.m A5 c5 (closeK Y x.m) from ⟨by rw [hW6]; exact hN5.loc.put _ _ _ _, by rw [hW6]; exact r5.putB hN5.loc hfar _ _, hc5, hfar⟩)
                      rw [← hW6] at hbb5
                      have t0' := hN5.loc.c0
                      have t1' := hN5.loc.c1
                      have g0 := hN5.loc.frozen 0
                      have g1 := hN5.loc.frozen 1
                      clear t0 t1 hbb hT cC hN5 hfar r5 b5 hY hgY
                      go_wp2_with (rw [← hW6]; clear hW6)
                      clear t0' t1' g0 g1
                      go_loopw [21] (fun t wr => ∃ (q : Nat) (A3 : Option Addr) (d3 : Nat) (Y : List (List Nat)), q ≤ 200 ∧ t = .int .i64 (q : Int) ∧ Hid (Good x.m Y ∧ ClosedM Y ∧ ∀ i j, Rel Bm i j → Rel Y i j) ∧ Hid (Below v6.heap.size v6 wr) ∧ Hid (MV wr gn x.m A3 d3 Y)) (fun t _ => 200 - (intOf t).toNat)
                      case atStart => exact ⟨0, _, _, _, Nat.zero_le _, rfl, hinv, hbb5, hT6⟩
                      case round =>
                        clear hT6 hbb5 hinv
                        obtain ⟨q, A3, d3, Y, hq, rfl, hY, hbb, hT⟩ := hrel
                        have hgY := Lib.hid hY.out.1
                        have hBr := Lib.hid (hB.out.later hbb.out)
                        by_cases hql : q < 200
                        · have hqI : (q : Int) < 200 := by omega
                          have hkr := Lib.hid (hK3.out.below hbb.out)
                          have cNr := Lib.hid (cN.out A3 d3 Y hgY.out wr hBr.out.f hT.out.rows hkr.out)
                          have hnil := fun h => hX7.out Y hY.out.2.1 hY.out.2.2 h
                          have hsome := fun y (h : y ∈ newF f Y kept) => newF_some h
                          obtain ⟨nl, hnl⟩ : ∃ l, l = newF f Y kept := ⟨_, rfl⟩
                          rw [← hnl] at cNr hnil hsome
                          replace hnil := Lib.hid hnil
                          replace hsome := Lib.hid hsome
                          have p0 := hBr.out.c0
                          have p1 := hBr.out.c1
                          have p2 := hBr.out.c2
                          have t0 := hT.out.loc.c0
                          have t1 := hT.out.loc.c1
                          replace hql := Lib.hid hql
                          replace hnl := Lib.hid hnl
                          go_wp2_with fail
                          refine cNr.out.mono ?_; rintro e w7 ⟨E2, ne, e2, rfl, hL2, hnc2, hcm2, b7, -⟩
                          have kAr := Lib.hid ((kA.out.below hbb.out).below b7)
                          replace hBr := Lib.hid (hBr.out.later b7)
                          replace hbb := Lib.hid (below_trans2 hbb.out b7)
                          replace hT := Lib.hid (hT.out.later b7)
                          clear b7 t0 t1 p0 p1 p2 cNr hkr
                          rcases Nat.eq_zero_or_pos ne with hne | hne
                          · subst hne
                            have hle := hnil.out (List.eq_nil_of_length_eq_zero hL2.len)
                            have hsY : Hid (subM X Y = true) := Lib.hid ((sub_rel hX1.out hgY.out).2 hle)
                            clear hL2 hle
                            go_wp2_with fail
                            refine (law18_awake w7).mono ?_; rintro e v8 ⟨rfl, b8⟩
                            have kAs := Lib.hid (kAr.out.below b8)
                            have hTs := Lib.hid (hT.out.later b8)
                            have hBs := Lib.hid (hBr.out.later b8)
                            have a0 := kAs.out.1.c0
                            have a1 := kAs.out.1.c1
                            have t0 := hTs.out.loc.c0
                            have t1 := hTs.out.loc.c1
                            have hlY : Hid (∀ (i : Nat) (xs : List Nat), Y[i]? = some xs → xs.length ≤ 1024) := Lib.hid (fun i xs h => Nat.le_trans (hgY.out.small xs (List.mem_of_getElem? h)) (by decide))
                            have cS := ref3_Sub A2 A3 x.m dX d3 X Y v8 kAs.out.2 hTs.out.rows (by omega) (fun i xs h => Nat.le_trans (hlX.out i xs h) (by decide)) (fun i xs h => Nat.le_trans (hlY.out i xs h) (by decide))
                            rw [hsY.out] at cS
                            replace cS := Lib.hid cS
                            go_wp2_with fail
                            refine cS.out.mono ?_; rintro e v9 ⟨rfl, b9⟩
                            go_wp2_with fail
                            go_ret
                            exact ⟨rfl, below_trans2 hBs.out.o b9⟩
                          · obtain ⟨p, hp⟩ : ∃ p, ne = p + 1 := ⟨ne - 1, by omega⟩
                            subst hp
                            have hps : p < 100000 := by
                              have h1 := hL2.len
                              have h2 : nl.length ≤ x.m * x.m := by rw [hnl.out]; unfold newF; rw [hil.out]; exact nwA_len _ _
                              have h3 : x.m * x.m ≤ 14 * 14 := Nat.mul_le_mul (by omega) (by omega)
                              omega
                            obtain ⟨eb, eo, y, hE2, -, hy, -, y0, y1, -⟩ := hL2.edge (show p < p + 1 by omega)
                            obtain ⟨ya, yb, hya, hyb, hy1, hy2, -⟩ := hsome.out y (List.mem_of_getElem? hy)
                            rw [hil.out] at hya hyb
                            rw [hy1] at y0
                            rw [hy2] at y1
                            have hset := rel_set hgY.out hya hyb
                            have hgs := hgY.out.set hya hyb
                            have hcl := closeK_hull hgs
                            have hYn : Hid (Good x.m (closeK (setM Y (ya : Int) (yb : Int)) x.m) ∧ ClosedM (closeK (setM Y (ya : Int) (yb : Int)) x.m) ∧ ∀ i j, Rel Bm i j → Rel (closeK (setM Y (ya : Int) (yb : Int)) x.m) i j) := Lib.hid ⟨hcl.1, hcl.closed, fun i j h => (hcl.2 i j).2 (.one ((hset i j).2 (.inl (hY.out.2.2 i j h))))⟩
                            have cA := Lib.hid (fun W (hW : RowsAt W A3 x.m Y) => ref4_Add A3 x.m d3 Y ya yb W hW hgY.out (by omega) hya hyb)
                            have e9 : ((p : Int) + 1 == 0) = false := by rw [beq_eq_false_iff_ne]; omega
                            have hpw := wrap_small18c (p : Int) (by omega) (by omega)
                            have hpw2 := wrap_small18c ((p : Int) + 1 - 1) (by omega) (by omega)
                            have bp : 0 ≤ (p : Int) ∧ (p : Int) < (p : Int) + 1 := by omega
                            subst hE2
                            replace hpw := Lib.hid hpw
                            replace hpw2 := Lib.hid hpw2
                            clear hy hset hgs hcl hy1 hy2 hL2
                            go_wp2_with fail
                            refine wp_region_planT 17 [(true, 0), (true, 1), (true, 2), (true, 3), (true, 4), (true, 5), (true, 6), (true, 7), (true, 8), (true, 9), (true, 10), (true, 11), (true, 12), (true, 13), (true, 14), (false, 15), (true, 16)] 19 [17, 18] (by kernel_rfl) (by kernel_rfl) (fun U hU => ?_)
                            have hU' : Below w7.heap.size w7 U := by rw [hU.out]; exact (Below.refl _ _).drew
                            replace hbb := Lib.hid (below_trans2 hbb.out hU')
                            replace hT := Lib.hid (hT.out.later hU')
                            replace y0 : U.cell? ⟨eb, eo + p * 3, none⟩ = some (.int .i64 (ya : Int)) := by rw [hU.out]; exact y0
                            replace y1 : U.cell? ⟨eb, eo + p * 3 + 1, none⟩ = some (.int .i64 (yb : Int)) := by rw [hU.out]; exact y1
                            clear hU hU'
                            simp only [List.drop_succ_cons, List.drop_zero]
                            have t0 := hT.out.loc.c0
                            have t1 := hT.out.loc.c1
                            have hpw' := hpw.out
                            have hpw2' := hpw2.out
                            iterate 15
                              refine wpPlanE_float (v := ?_) rfl (by rfl) (fun w' hw' => ?_) (fun K hK => ?_)
                              rotate_left
                              · (go_simp; try with_reducible rfl)
                              go_simp
                              refine hK _ ?_
                              clear hK K
                            clear y0 y1 t0 t1 hpw' hpw2'
                            refine wpPlanE_only rfl (by rfl) (fun K hK => ?_)
                            go_simp
                            refine (cA.out U hT.out.rows).mono ?_
                            rintro e w8 ⟨C2, n2, c2, rfl, hrows2, hcap2, b4⟩
                            obtain rfl : n2 = x.m := by rw [← hrows2.len]; exact hYn.out.1.len
                            refine hK _ _ b4 ?_
                            clear hK K
                            have hN8 := hT.out.later b4
                            have hfar : 0 < x.m → ∀ ad, C2 = some ad → ad.block ≠ gn := fun h0 => hrows2.farK (show MatK w8 gn 34 (x.m : Int) A3 x.m d3 Y from ⟨hN8.loc, hN8.rows⟩) h0 h0
                            have hbb4 := Lib.hid (((below_trans2 hbb.out b4).setCell (p := ⟨gn, 0, none⟩) hg3 (.int .i64 (x.m : Int))).setCell (p := ⟨gn, 1, none⟩) hg3 (.slice C2 x.m c2))
                            have hT4 := Lib.hid (show MV ((w8.setCell ⟨gn, 0, none⟩ (.int .i64 (x.m : Int))).setCell ⟨gn, 1, none⟩ (.slice C2 x.m c2)) gn x.m C2 c2 (closeK (setM Y (ya : Int) (yb : Int)) x.m) from ⟨hN8.loc.put _ _ _ _, hrows2.putB hN8.loc hfar _ _, hcap2, hfar⟩)
                            have kN := hN8.loc
                            clear cA hrows2 b4 hN8 hfar
                            iterate 1
                              refine wpPlanE_float (v := ?_) rfl (by rfl) (fun w' hw' => ?_) (fun K hK => ?_)
                              rotate_left
                              · (go_simp; try with_reducible rfl)
                              go_simp
                              refine hK _ ?_
                              clear hK K
                            refine wpPlanE_nil ?_
                            iterate 2
                              refine wpPlanT_float (v := ?_) rfl (by rfl) (fun w' => ?_) (fun K hK => ?_)
                              rotate_left
                              · (go_simp; try with_reducible rfl)
                              go_simp
                              refine hK _ ?_
                              clear hK K
                            refine wpPlanT_nil ?_
                            have m0 := kN.c0
                            have m1 := kN.c1
                            have g0 := kN.frozen 0
                            have g1 := kN.frozen 1
                            clear kN
                            go_wp2_with fail
                            refine NoPanic.normal ?_
                            go_wp2_with fail
                            go_roundw
                            case rel => exact ⟨q + 1, C2, c2, _, by have := hql.out; omega, by go_num, hYn, hbb4, hT4⟩
                            case measure => simp [intOf]; have := hql.out; omega
                        · have hqI : ¬ (q : Int) < 200 := by omega
                          clear hql
                          go_wp2_with fail
                          refine (law18_awake wr).mono ?_; rintro e v9 ⟨rfl, b9⟩
                          go_wp2_with fail
                          go_ret
                          exact ⟨rfl, below_trans2 hBr.out.o b9⟩
  · have hml : decide ((20 : Int) < (m : Int)) = true := decide_eq_true (by omega)
    have hmlt : (20 : Int) < (m : Int) := by omega
    clear hm40
    -- a law of (h, l) with more than 14 pairs: hml, hmlt say so
    have cS := ref6_Small A n c 14 hs w hX (by omega) (by omega)
    clear hX hP
    obtain ⟨sb, hsb⟩ : ∃ b, b = smallL hs 14 := ⟨_, rfl⟩
    rw [← hsb] at cS
    replace cS := Lib.hid cS
    clear hsb
    cases sb with
    | false =>
      go_enter Tryz.func4, Tryz.ntmps4
      go_wp2_with fail
      refine cS.out.mono ?_; rintro e w1 ⟨rfl, b1⟩
      go_wp2_with fail
      refine (law18_awake w1).mono ?_; rintro e w9 ⟨rfl, b9⟩
      go_wp2_with fail
      go_ret
      exact ⟨rfl, below_trans2 b1 b9⟩
    | true =>
      go_enter Tryz.func4, Tryz.ntmps4
      go_wp2_with fail
      refine cS.out.mono ?_; rintro e w1 ⟨rfl, b1⟩
      go_wp2_with fail
      refine (law18_awake w1).mono ?_; rintro e w9 ⟨rfl, b9⟩
      go_wp2_with fail
      go_ret
      exact ⟨rfl, below_trans2 b1 b9⟩
theorem law18_SeenLeastI (A B : Option Addr) (n c m d : Nat) (v : Int) (hs : List (List OpT)) (ps : List (Nat × Nat)) (w : World) (hX : HistAt w A n hs) (hP : Pairs8 w B m ps) (hm63 : m ≤ 9223372036854775807) (hnc : n ≤ c) (hc : c ≤ 1099511627776) (hF : (allO hs).length ≤ 1099511627776) (v0 : 0 ≤ v) (v1 : v ≤ 255) :
    Calls Tryz.prog 4 #[.slice A n c, .int .u8 v, .slice B m d] w (RetBool true w) := by
  obtain ⟨o, rfl⟩ := Int.eq_ofNat_of_zero_le v0
  exact law18_SeenLeast A B n c m d o hs ps w hX hP hm63 hnc hc hF (by omega)
end Go.Proofs.YtbeigdbljepfkaaGreat
