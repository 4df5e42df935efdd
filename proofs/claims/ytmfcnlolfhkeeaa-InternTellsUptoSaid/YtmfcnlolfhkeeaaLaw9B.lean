/- Layer 9's law InternTells, walked (where what comes in is of no more than 2^40 operations). -/
import Derived.Test.YtmfcnlolfhkeeaaLaw9A
namespace Go.Proofs.Ytmfcnlolfhkeeaa
open Go.RowKit
set_option linter.unusedVariables false

/-- what InternTells keeps -/
structure TI (w : World) (A : Option Addr) (n : Nat) (hs : List (List OpT)) (u v : FV) (fa fb : Fac) (wr : World) : Prop where
  x : HistAt wr A n hs
  a : FactsAt wr u fa
  b : FactsAt wr v fb
  ka : Blk wr w.heap.size 27 [.slice u.A u.n u.c, .slice u.B u.m u.d, .slice u.C u.k u.e]
  kb : Blk wr (w.heap.size + 1) 27 [.slice v.A v.n v.c, .slice v.B v.m v.d, .slice v.C v.k v.e]
  o : Below w.heap.size w wr
theorem TI.later {w : World} {A : Option Addr} {n : Nat} {hs : List (List OpT)} {u v : FV} {fa fb : Fac} {wr w' : World} (h : TI w A n hs u v fa fb wr) (hb : Below wr.heap.size wr w') : TI w A n hs u v fa fb w' :=
  ⟨h.x.below hb, h.a.below hb, h.b.below hb, h.ka.below hb h.ka.lt, h.kb.below hb h.kb.lt, below_trans2 h.o hb⟩
set_option maxRecDepth 100000 in
set_option maxHeartbeats 4000000 in
theorem law9_InternTells (A : Option Addr) (n c : Nat) (hs : List (List OpT)) (u v : FV) (fa fb : Fac) (w : World) (hX : HistAt w A n hs) (hU : FactsAt w u fa) (hV : FactsAt w v fb) (hnc : n ≤ c) (hc : c ≤ 1099511627776) (hF : (allO hs).length ≤ 1099511627776) :
    Calls Try.prog 3 #[.slice A n c, .agg #[.slice u.A u.n u.c, .slice u.B u.m u.d, .slice u.C u.k u.e], .agg #[.slice v.A v.n v.c, .slice v.B v.m v.d, .slice v.C v.k v.e]] w (RetBool true w) := by
  have hXl := Lib.hid hX.len
  obtain ⟨W0, hW0⟩ : ∃ W, W = w.alloc (.cells #[.slice u.A u.n u.c, .slice u.B u.m u.d, .slice u.C u.k u.e] 27) := ⟨_, rfl⟩
  obtain ⟨W, hW⟩ : ∃ W, W = W0.alloc (.cells #[.slice v.A v.n v.c, .slice v.B v.m v.d, .slice v.C v.k v.e] 27) := ⟨_, rfl⟩
  have hI : Hid (TI w A n hs u v fa fb W) := by
    have b0 : Below w.heap.size w W0 := by rw [hW0]; exact (Below.refl _ _).alloc (Nat.le_refl _) _
    have b1 : Below W0.heap.size W0 W := by rw [hW]; exact (Below.refl _ _).alloc (Nat.le_refl _) _
    have k0 : Blk W0 w.heap.size 27 [.slice u.A u.n u.c, .slice u.B u.m u.d, .slice u.C u.k u.e] := by rw [hW0]; exact Blk.new w _ _
    have k1 : Blk W W0.heap.size 27 [.slice v.A v.n v.c, .slice v.B v.m v.d, .slice v.C v.k v.e] := by rw [hW]; exact Blk.new W0 _ _
    rw [show W0.heap.size = w.heap.size + 1 from by rw [hW0, World.size_alloc]] at k1
    have bb := below_trans2 b0 b1
    exact Lib.hid ⟨hX.below bb, hU.below bb, hV.below bb, k0.below b1 k0.lt, k1, bb⟩
  clear hX hU hV
  have cS := Lib.hid (ref6_Small A n c 60 hs W hI.out.x (by omega) (by omega))
  have p0 := hI.out.ka.cell 0
  have p1 := hI.out.ka.cell 1
  have p2 := hI.out.ka.cell 2
  have q0 := hI.out.kb.cell 0
  have q1 := hI.out.kb.cell 1
  have q2 := hI.out.kb.cell 2
  cases hsa : smallL hs 60 with
  | false =>
    rw [hsa] at cS
    clear hsa
    go_enter Try.func3, Try.ntmps3
    go_wp2_with (rw [← hW0, ← hW]; clear hW hW0)
    refine cS.out.mono ?_; rintro e w1 ⟨rfl, b4⟩
    replace hI := Lib.hid (hI.out.later b4)
    go_wp2_with fail
    refine (law9_awake w1).mono ?_; rintro e w9 ⟨rfl, b9⟩
    go_wp2_with fail
    go_ret
    exact ⟨rfl, below_trans2 hI.out.o b9⟩
  | true =>
    rw [hsa] at cS
    obtain ⟨hnx, hFx60, -⟩ := smallL_says hsa
    rw [hXl.out] at hnx
    clear hsa
    go_enter Try.func3, Try.ntmps3
    go_wp2_with (rw [← hW0, ← hW]; clear hW hW0)
    refine cS.out.mono ?_; rintro e w1 ⟨rfl, b4⟩
    replace hI := Lib.hid (hI.out.later b4)
    clear b4 cS p0 p1 p2 q0 q1 q2
    have p0 := hI.out.ka.cell 0
    have p1 := hI.out.ka.cell 1
    have p2 := hI.out.ka.cell 2
    have q0 := hI.out.kb.cell 0
    have q1 := hI.out.kb.cell 1
    have q2 := hI.out.kb.cell 2
    have cA := Lib.hid (ref9_Small u fa 60 w1 hI.out.a)
    cases hsb : smallF fa 60 with
    | false =>
      rw [hsb] at cA
      clear hsb
      go_wp2_with fail
      refine cA.out.mono ?_; rintro e w2 ⟨rfl, b4⟩
      replace hI := Lib.hid (hI.out.later b4)
      go_wp2_with fail
      refine (law9_awake w2).mono ?_; rintro e w9 ⟨rfl, b9⟩
      go_wp2_with fail
      go_ret
      exact ⟨rfl, below_trans2 hI.out.o b9⟩
    | true =>
      rw [hsb] at cA
      have hsay := Lib.hid (smallF_says hsb)
      clear hsb
      go_wp2_with fail
      refine cA.out.mono ?_; rintro e w2 ⟨rfl, b4⟩
      replace hI := Lib.hid (hI.out.later b4)
      clear b4 cA p0 p1 p2 q0 q1 q2
      have p0 := hI.out.ka.cell 0
      have p1 := hI.out.ka.cell 1
      have p2 := hI.out.ka.cell 2
      have q0 := hI.out.kb.cell 0
      have q1 := hI.out.kb.cell 1
      have q2 := hI.out.kb.cell 2
      have cB := Lib.hid (ref9_Small v fb 60 w2 hI.out.b)
      cases hsc : smallF fb 60 with
      | false =>
        rw [hsc] at cB
        clear hsc
        go_wp2_with fail
        refine cB.out.mono ?_; rintro e w3 ⟨rfl, b4⟩
        replace hI := Lib.hid (hI.out.later b4)
        go_wp2_with fail
        refine (law9_awake w3).mono ?_; rintro e w9 ⟨rfl, b9⟩
        go_wp2_with fail
        go_ret
        exact ⟨rfl, below_trans2 hI.out.o b9⟩
      | true =>
        rw [hsc] at cB
        clear hsc
        go_wp2_with fail
        refine cB.out.mono ?_; rintro e w3 ⟨rfl, b4⟩
        replace hI := Lib.hid (hI.out.later b4)
        clear b4 cB p0 p1 p2 q0 q1 q2
        obtain ⟨E, hE⟩ : ∃ E : Int, E = if rightL hs = true then 0 else 1 := ⟨_, rfl⟩
        obtain ⟨f, hf⟩ : ∃ f : Fac, f = if rightL hs = true then facO hs else ⟨[], [], []⟩ := ⟨_, rfl⟩
        have c1 := intern_Of A n c hs w3 hI.out.x hnc (by omega) (by omega) hF
        unfold RetOf at c1
        rw [← hE, ← hf] at c1
        replace c1 := Lib.hid c1
        replace hE := Lib.hid hE
        replace hf := Lib.hid hf
        go_wp2_with fail
        refine c1.out.mono ?_; rintro e w4 ⟨x1, rfl, hG1, b4⟩
        replace hI := Lib.hid (hI.out.later b4)
        clear b4 c1
        obtain ⟨F1, hF1⟩ : ∃ W, W = w4.alloc (.cells #[.slice x1.A x1.n x1.c, .slice x1.B x1.m x1.d, .slice x1.C x1.k x1.e] 27) := ⟨_, rfl⟩
        obtain ⟨g1, hg1⟩ : ∃ g, g = w4.heap.size := ⟨_, rfl⟩
        have bf : Below w4.heap.size w4 F1 := by rw [hF1]; exact (Below.refl _ _).alloc (Nat.le_refl _) _
        have k1 : Hid (Blk F1 g1 27 [.slice x1.A x1.n x1.c, .slice x1.B x1.m x1.d, .slice x1.C x1.k x1.e]) := Lib.hid (by rw [hF1, hg1]; exact Blk.new w4 _ _)
        replace hI := Lib.hid (hI.out.later bf)
        replace hG1 := Lib.hid (hG1.below bf)
        clear bf
        have c2 := ref9_Of A n c hs F1 hI.out.x (by omega) hF
        rw [← hE.out, ← hf.out] at c2
        replace c2 := Lib.hid c2
        go_wp2_with (rw [← hF1, ← hg1]; clear hF1; replace hg1 := Lib.hid hg1)
        refine c2.out.mono ?_; rintro e w5 ⟨x2, rfl, hG2, b4⟩
        replace hI := Lib.hid (hI.out.later b4)
        replace hG1 := Lib.hid (hG1.out.below b4)
        replace k1 := Lib.hid (k1.out.below b4 k1.out.lt)
        clear b4 c2
        obtain ⟨F2, hF2⟩ : ∃ W, W = w5.alloc (.cells #[.slice x2.A x2.n x2.c, .slice x2.B x2.m x2.d, .slice x2.C x2.k x2.e] 27) := ⟨_, rfl⟩
        obtain ⟨g2, hg2⟩ : ∃ g, g = w5.heap.size := ⟨_, rfl⟩
        have bf : Below w5.heap.size w5 F2 := by rw [hF2]; exact (Below.refl _ _).alloc (Nat.le_refl _) _
        have k2 : Hid (Blk F2 g2 27 [.slice x2.A x2.n x2.c, .slice x2.B x2.m x2.d, .slice x2.C x2.k x2.e]) := Lib.hid (by rw [hF2, hg2]; exact Blk.new w5 _ _)
        replace hI := Lib.hid (hI.out.later bf)
        replace hG1 := Lib.hid (hG1.out.below bf)
        replace hG2 := Lib.hid (hG2.below bf)
        replace k1 := Lib.hid (k1.out.below bf k1.out.lt)
        clear bf
        have p0 := hI.out.ka.cell 0
        have p1 := hI.out.ka.cell 1
        have p2 := hI.out.ka.cell 2
        have q0 := hI.out.kb.cell 0
        have q1 := hI.out.kb.cell 1
        have q2 := hI.out.kb.cell 2
        have c3 := intern_Back u fa F2 hI.out.a hsay.out.2.2.2.2 (by have := hsay.out.2.1; omega)
        obtain ⟨r, hr⟩ : ∃ r, r = (backF fa).isSome := ⟨_, rfl⟩
        obtain ⟨gs, hgs⟩ : ∃ gs, gs = (backF fa).getD [] := ⟨_, rfl⟩
        unfold RetBack at c3
        rw [← hr, ← hgs] at c3
        replace c3 := Lib.hid c3
        replace hr := Lib.hid hr
        replace hgs := Lib.hid hgs
        go_wp2_with (rw [← hF2, ← hg2]; clear hF2; replace hg2 := Lib.hid hg2)
        refine c3.out.mono ?_; rintro e w6 ⟨A1, n1, d1, rfl, hH1, hc1, hd1, b4⟩
        replace hI := Lib.hid (hI.out.later b4)
        replace hG1 := Lib.hid (hG1.out.below b4)
        replace hG2 := Lib.hid (hG2.out.below b4)
        replace k1 := Lib.hid (k1.out.below b4 k1.out.lt)
        replace k2 := Lib.hid (k2.out.below b4 k2.out.lt)
        replace hH1 := Lib.hid hH1
        clear b4 c3 p0 p1 p2 q0 q1 q2
        have p0 := hI.out.ka.cell 0
        have p1 := hI.out.ka.cell 1
        have p2 := hI.out.ka.cell 2
        have q0 := hI.out.kb.cell 0
        have q1 := hI.out.kb.cell 1
        have q2 := hI.out.kb.cell 2
        have c4 := ref9_Back u fa w6 hI.out.a hsay.out.2.2.2.2 (by have := hsay.out.2.1; omega)
        rw [← hr.out, ← hgs.out] at c4
        replace c4 := Lib.hid c4
        go_wp2_with fail
        refine c4.out.mono ?_; rintro e w7 ⟨A2, n2, d2, rfl, hH2, hc2, hd2, b4⟩
        replace hI := Lib.hid (hI.out.later b4)
        replace hG1 := Lib.hid (hG1.out.below b4)
        replace hG2 := Lib.hid (hG2.out.below b4)
        replace k1 := Lib.hid (k1.out.below b4 k1.out.lt)
        replace k2 := Lib.hid (k2.out.below b4 k2.out.lt)
        replace hH1 := Lib.hid (hH1.out.below b4)
        replace hH2 := Lib.hid hH2
        clear b4 c4 p0 p1 p2 q0 q1 q2
        go_wp2_with fail
        refine wp_region_plan 31 [(false, 0), (true, 1), (true, 2), (true, 3), (false, 4), (true, 5), (true, 6), (true, 7), (true, 8), (true, 9), (true, 10), (true, 11), (true, 12), (true, 13), (false, 14), (true, 15), (true, 16), (true, 17), (true, 18), (true, 19), (true, 20), (true, 21), (true, 22), (true, 23), (true, 25), (true, 26), (false, 24), (false, 27), (true, 28), (true, 29), (true, 30)] (by kernel_rfl) (by kernel_rfl) (fun X hX => ?_)
        replace hI := Lib.hid (show TI w A n hs u v fa fb X from by rw [hX.out]; exact hI.out.later (Below.refl _ _).drew)
        replace hG1 := Lib.hid (show FactsAt X x1 f from by rw [hX.out]; exact hG1.out.below (Below.refl _ _).drew)
        replace hG2 := Lib.hid (show FactsAt X x2 f from by rw [hX.out]; exact hG2.out.below (Below.refl _ _).drew)
        replace hH1 := Lib.hid (show HistAt X A1 n1 gs from by rw [hX.out]; exact hH1.out.below (Below.refl _ _).drew)
        replace hH2 := Lib.hid (show HistAt X A2 n2 gs from by rw [hX.out]; exact hH2.out.below (Below.refl _ _).drew)
        replace k1 := Lib.hid (show Blk X g1 _ _ from by rw [hX.out]; exact k1.out.drew)
        replace k2 := Lib.hid (show Blk X g2 _ _ from by rw [hX.out]; exact k2.out.drew)
        clear hX
        simp only [List.drop_succ_cons, List.drop_nil]
        refine wpPlan_only rfl (by rfl) (fun K hK => ?_)
        go_simp
        refine (law9_awake X).mono ?_
        rintro e w8 ⟨rfl, b4⟩
        refine hK _ _ b4 ?_
        clear hK K
        replace hI := Lib.hid (hI.out.later b4)
        replace hG1 := Lib.hid (hG1.out.below b4)
        replace hG2 := Lib.hid (hG2.out.below b4)
        replace hH1 := Lib.hid (hH1.out.below b4)
        replace hH2 := Lib.hid (hH2.out.below b4)
        replace k1 := Lib.hid (k1.out.below b4 k1.out.lt)
        replace k2 := Lib.hid (k2.out.below b4 k2.out.lt)
        clear b4
        have p0 := k1.out.cell 0
        have p1 := k1.out.cell 1
        have p2 := k1.out.cell 2
        have q0 := k2.out.cell 0
        have q1 := k2.out.cell 1
        have q2 := k2.out.cell 2
        iterate 3
          refine wpPlan_float (v := ?_) rfl (by rfl) (fun w' hw' => ?_) (fun K hK => ?_)
          rotate_left
          · (go_simp; try with_reducible rfl)
          go_simp
          refine hK _ ?_
          clear hK K
        have cF := ref9_Same x1 x2 f f w8 hG1.out hG2.out
        rw [decide_eq_true (rfl : f = f)] at cF
        refine wpPlan_only rfl (by rfl) (fun K hK => ?_)
        go_simp
        refine cF.mono ?_
        rintro e w9 ⟨rfl, b4⟩
        refine hK _ _ b4 ?_
        clear hK K cF p0 p1 p2 q0 q1 q2 hG1 hG2 k1 k2
        replace hI := Lib.hid (hI.out.later b4)
        replace hH1 := Lib.hid (hH1.out.below b4)
        replace hH2 := Lib.hid (hH2.out.below b4)
        clear b4
        have eE : (E == E) = true := by simp
        iterate 9
          refine wpPlan_float (v := ?_) rfl (by rfl) (fun w' hw' => ?_) (fun K hK => ?_)
          rotate_left
          · (go_simp; try with_reducible rfl)
          go_simp
          refine hK _ ?_
          clear hK K
        have cH := ref6_Same A1 A2 n1 d1 n2 d2 gs gs w9 hH1.out hH2.out (by omega) (by omega)
        rw [decide_eq_true (rfl : gs = gs)] at cH
        refine wpPlan_only rfl (by rfl) (fun K hK => ?_)
        go_simp
        refine cH.mono ?_
        rintro e wa ⟨rfl, z, rfl⟩
        refine hK _ _ (below_drewN (Below.refl _ _) _) ?_
        clear hK K cH hH1 hH2
        replace hI := Lib.hid (hI.out.later (below_drewN (Below.refl _ _) z))
        obtain ⟨wb, hwb⟩ : ∃ W, W = w9.drewN z := ⟨_, rfl⟩
        rw [← hwb] at hI ⊢
        clear hwb
        have er : (r == r) = true := by simp
        have p0 := hI.out.ka.cell 0
        have p1 := hI.out.ka.cell 1
        have p2 := hI.out.ka.cell 2
        have q0 := hI.out.kb.cell 0
        have q1 := hI.out.kb.cell 1
        have q2 := hI.out.kb.cell 2
        iterate 11
          refine wpPlan_float (v := ?_) rfl (by rfl) (fun w' hw' => ?_) (fun K hK => ?_)
          rotate_left
          · (go_simp; try with_reducible rfl)
          go_simp
          refine hK _ ?_
          clear hK K
        have cF := intern_Same u v fa fb wb hI.out.a hI.out.b
        obtain ⟨s, hs0⟩ : ∃ s, s = decide (fa = fb) := ⟨_, rfl⟩
        rw [← hs0] at cF
        replace hs0 := Lib.hid hs0
        refine wpPlan_only rfl (by rfl) (fun K hK => ?_)
        go_simp
        refine cF.mono ?_
        rintro e wc ⟨rfl, b4⟩
        refine hK _ _ b4 ?_
        clear hK K cF
        replace hI := Lib.hid (hI.out.later b4)
        clear b4
        have cF := ref9_Same u v fa fb wc hI.out.a hI.out.b
        rw [← hs0.out] at cF
        refine wpPlan_only rfl (by rfl) (fun K hK => ?_)
        go_simp
        refine cF.mono ?_
        rintro e wd ⟨rfl, b4⟩
        refine hK _ _ b4 ?_
        clear hK K cF
        replace hI := Lib.hid (hI.out.later b4)
        clear b4 p0 p1 p2 q0 q1 q2
        have es : (s == s) = true := by simp
        iterate 3
          refine wpPlan_float (v := ?_) rfl (by rfl) (fun w' hw' => ?_) (fun K hK => ?_)
          rotate_left
          · (go_simp; try with_reducible rfl)
          go_simp
          refine hK _ ?_
          clear hK K
        refine wpPlan_nil (NoPanic.normal ?_)
        go_wp2_with fail
        go_ret
        exact ⟨by clear hs0; cases s <;> rfl, hI.out.o⟩

end Go.Proofs.Ytmfcnlolfhkeeaa
