/- The code's own contracts of layer 9: Of, Back, Same. -/
import Derived.Test.YtmfcnlolfhkeeaaInternTog
namespace Go.Proofs.Ytmfcnlolfhkeeaa
open Go.RowKit
set_option linter.unusedVariables false

theorem backF_none {f : Fac} (h : layF f.vars f.items [] = none) : backF f = none := by unfold backF; rw [h]; rfl
theorem backF_some {f : Fac} {hs : List (List OpT)} (h : layF f.vars f.items [] = some hs) : backF f = if (rightL hs && decide (facO hs = ⟨f.vars, f.items, []⟩)) = true then some hs else none := by
  unfold backF
  rw [h]
  have : decide (facO hs = ⟨f.vars, f.items, []⟩) = (decide ((facO hs).vars = f.vars) && decide ((facO hs).items = f.items)) := by
    rw [← Bool.decide_and]
    apply decide_eq_decide.2
    unfold facO
    simp
  rw [this, ← Bool.and_assoc]; rfl
set_option maxRecDepth 100000 in
set_option maxHeartbeats 4000000 in
theorem intern_Back (u : FV) (f : Fac) (w : World) (hX : FactsAt w u f) (hse : ∀ x ∈ f.items, x.se ≤ 1000) (hN : f.items.length ≤ 1000) :
    Calls Try.prog 11 #[.agg #[.slice u.A u.n u.c, .slice u.B u.m u.d, .slice u.C u.k u.e]] w (RetBack f w) := by
  obtain ⟨W, hW⟩ : ∃ W, W = w.alloc (.cells #[.slice u.A u.n u.c, .slice u.B u.m u.d, .slice u.C u.k u.e] 27) := ⟨_, rfl⟩
  obtain ⟨g0, hg0⟩ : ∃ g, g = w.heap.size := ⟨_, rfl⟩
  have bb := Lib.hid (show Below w.heap.size w W from by rw [hW]; exact (Below.refl _ w).alloc (Nat.le_refl _) _)
  have k0 : Blk W g0 27 [.slice u.A u.n u.c, .slice u.B u.m u.d, .slice u.C u.k u.e] := by rw [hW, hg0]; exact Blk.new w _ _
  have q0 := k0.cell 0
  have q1 := k0.cell 1
  have q2 := k0.cell 2
  have cT := Lib.hid (intern_together u f W (hX.below bb.out) hse hN)
  unfold RetBack
  unfold RetTog at cT
  cases hl : layF f.vars f.items [] with
  | none =>
    have hres : Hid (backF f = none) := Lib.hid (backF_none hl)
    rw [hl] at cT
    replace cT := Lib.hid cT.out
    clear hl hX k0 hse
    go_enter Try.func11, Try.ntmps11
    go_wp2_with (rw [← hW, ← hg0]; clear hW; replace hg0 := Lib.hid hg0)
    refine cT.out.mono ?_; rintro e w1 ⟨A1, n1, c1, rfl, -, -, -, b, -⟩
    have hb := Lib.hid (below_trans2 bb.out b)
    clear b
    go_wp2_with fail
    refine bodyPost_ret (v := .tuple #[.slice none 0 0, .bool false]) (by simp [results, go_sem]) rfl ⟨none, 0, 0, by rw [hres.out]; rfl, by rw [hres.out]; exact HistAt.nil _ _, Nat.le_refl _, by omega, hb.out⟩
  | some hs =>
    have hback := backF_some hl
    rw [hl] at cT
    replace cT := Lib.hid cT.out
    replace hN := Lib.hid hN
    have hXX := Lib.hid hX
    replace k0 := Lib.hid k0
    clear hl hX hse
    go_enter Try.func11, Try.ntmps11
    go_wp2_with (rw [← hW, ← hg0]; clear hW; replace hg0 := Lib.hid hg0)
    refine cT.out.mono ?_; rintro e w1 ⟨A1, n1, c1, rfl, hH, hn1, hc1, b, hsz⟩
    have hs2 := hsz hs rfl
    have hH1 : HistAt w1 A1 n1 hs := hH
    have hn1' : n1 ≤ 1001 := by have := hH1.len; omega
    have cO := Lib.hid (intern_Of A1 n1 c1 hs w1 hH1 hn1 (by omega) hc1 (by have := hN.out; omega))
    replace bb := Lib.hid (below_trans2 bb.out b)
    replace k0 := Lib.hid (k0.out.below b k0.out.lt)
    replace hH1 := Lib.hid hH1
    clear b hsz hs2 hH q0 q1 q2 cT
    unfold RetOf at cO
    cases hr : rightL hs with
    | false =>
      rw [hr, Bool.false_and, if_neg (by decide)] at hback
      rw [hr] at cO
      replace cO := Lib.hid cO.out
      have hres : Hid (backF f = none) := Lib.hid hback
      replace hr := Lib.hid hr
      clear hback
      go_wp2_with fail
      refine cO.out.mono ?_; rintro e w2 ⟨fv, rfl, -, b⟩
      have hb := Lib.hid ((below_trans2 bb.out b).alloc (below_trans2 bb.out b).size (.cells #[.slice fv.A fv.n fv.c, .slice fv.B fv.m fv.d, .slice fv.C fv.k fv.e] 27))
      clear b cO
      go_wp2_with fail
      refine bodyPost_ret (v := .tuple #[.slice none 0 0, .bool false]) (by simp [results, go_sem]) rfl ⟨none, 0, 0, by rw [hres.out]; rfl, by rw [hres.out]; exact HistAt.nil _ _, Nat.le_refl _, by omega, hb.out⟩
    | true =>
      rw [hr, Bool.true_and] at hback
      rw [hr] at cO
      replace cO := Lib.hid cO.out
      replace hr := Lib.hid hr
      replace hback := Lib.hid hback
      go_wp2_with fail
      refine cO.out.mono ?_; rintro e w2 ⟨fv, rfl, hF2, b⟩
      obtain ⟨W2, hW2⟩ : ∃ W, W = w2.alloc (.cells #[.slice fv.A fv.n fv.c, .slice fv.B fv.m fv.d, .slice fv.C fv.k fv.e] 27) := ⟨_, rfl⟩
      obtain ⟨g2, hg2⟩ : ∃ g, g = w2.heap.size := ⟨_, rfl⟩
      have b2 : Below w2.heap.size w2 W2 := by rw [hW2]; exact (Below.refl _ _).alloc (Nat.le_refl _) _
      have k2 : Blk W2 g2 27 [.slice fv.A fv.n fv.c, .slice fv.B fv.m fv.d, .slice fv.C fv.k fv.e] := by rw [hW2, hg2]; exact Blk.new w2 _ _
      have bE := Lib.hid (below_trans2 (below_trans2 bb.out b) b2)
      have k3 := (k0.out.below b k0.out.lt).below b2 (k0.out.below b k0.out.lt).lt
      have q0 := k3.cell 0
      have q1 := k3.cell 1
      have r0 := k2.cell 0
      have r1 := k2.cell 1
      have r2 := k2.cell 2
      have hXW := hXX.out.below bE.out
      have hF2' : FactsAt w2 fv (facO hs) := hF2
      have cS := Lib.hid (intern_Same fv ⟨u.A, u.n, u.c, u.B, u.m, u.d, none, 0, 0⟩ (facO hs) ⟨f.vars, f.items, []⟩ W2 (hF2'.below b2) ⟨hXW.vs, hXW.vc, hXW.vm, hXW.is, hXW.ic, hXW.im, LAt.nil _ _ _, Nat.le_refl _, by simp⟩)
      replace hH1 := Lib.hid ((hH1.out.below b).below b2)
      clear b b2 k2 k3 hXW hF2 hF2' cO
      cases h1 : decide (facO hs = ⟨f.vars, f.items, []⟩) with
      | false =>
        rw [h1] at cS
        have hres : Hid (backF f = none) := Lib.hid (by rw [hback.out, h1]; rfl)
        replace cS := Lib.hid cS.out
        replace h1 := Lib.hid h1
        go_wp2_with (rw [← hW2, ← hg2]; clear hW2; replace hg2 := Lib.hid hg2)
        refine cS.out.mono ?_; rintro e w3 ⟨rfl, b⟩
        have hb := Lib.hid (below_trans2 bE.out b)
        clear b
        go_wp2_with fail
        refine bodyPost_ret (v := .tuple #[.slice none 0 0, .bool false]) (by simp [results, go_sem]) rfl ⟨none, 0, 0, by rw [hres.out]; rfl, by rw [hres.out]; exact HistAt.nil _ _, Nat.le_refl _, by omega, hb.out⟩
      | true =>
        rw [h1] at cS
        have hres : Hid (backF f = some hs) := Lib.hid (by rw [hback.out, h1]; rfl)
        replace cS := Lib.hid cS.out
        replace h1 := Lib.hid h1
        go_wp2_with (rw [← hW2, ← hg2]; clear hW2; replace hg2 := Lib.hid hg2)
        refine cS.out.mono ?_; rintro e w3 ⟨rfl, b⟩
        have hb := Lib.hid (below_trans2 bE.out b)
        replace hH1 := Lib.hid (hH1.out.below b)
        clear b
        go_wp2_with fail
        exact bodyPost_ret (v := .tuple #[.slice A1 n1 c1, .bool true]) (by simp [results, go_sem]) rfl ⟨A1, n1, c1, by rw [hres.out]; rfl, by rw [hres.out]; exact hH1.out, hn1, hc1, hb.out⟩

end Go.Proofs.Ytmfcnlolfhkeeaa
