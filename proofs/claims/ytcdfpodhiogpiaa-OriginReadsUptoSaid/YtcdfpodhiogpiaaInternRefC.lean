/- The contracts of the document's own answers of layer 9: Same, Small. -/
import Derived.Test.YtcdfpodhiogpiaaInternRefB
namespace Go.Proofs.Ytcdfpodhiogpiaa
open Go.RowKit
set_option linter.unusedVariables false

theorem fac_eq (f g : Fac) : decide (f = g) = (decide (f.vars = g.vars) && decide (f.items = g.items) && decide (f.frm = g.frm)) := by
  obtain ⟨a, b, c⟩ := f
  obtain ⟨x, y, z⟩ := g
  simp only [Fac.mk.injEq, Bool.decide_and, Bool.and_assoc]
theorem fac_no {f g : Fac} (h : (decide (f.vars = g.vars) && decide (f.items = g.items)) = false) : decide (f = g) = false := by rw [fac_eq, h]; rfl
set_option maxRecDepth 100000 in
set_option maxHeartbeats 1000000 in
theorem ref9_Same (u v : FV) (f g : Fac) (w : World) (hX : FactsAt w u f) (hY : FactsAt w v g) :
    Calls Try.prog 10 #[.agg #[.slice u.A u.n u.c, .slice u.B u.m u.d, .slice u.C u.k u.e], .agg #[.slice v.A v.n v.c, .slice v.B v.m v.d, .slice v.C v.k v.e]] w (RetBool (decide (f = g)) w) := by
  obtain ⟨W0, hW0⟩ : ∃ W, W = w.alloc (.cells #[.slice u.A u.n u.c, .slice u.B u.m u.d, .slice u.C u.k u.e] 27) := ⟨_, rfl⟩
  obtain ⟨W, hW⟩ : ∃ W, W = W0.alloc (.cells #[.slice v.A v.n v.c, .slice v.B v.m v.d, .slice v.C v.k v.e] 27) := ⟨_, rfl⟩
  have b0 : Below w.heap.size w W0 := by rw [hW0]; exact (Below.refl _ _).alloc (Nat.le_refl _) _
  have b1 : Below W0.heap.size W0 W := by rw [hW]; exact (Below.refl _ _).alloc (Nat.le_refl _) _
  have k0 : Blk W0 w.heap.size 27 [.slice u.A u.n u.c, .slice u.B u.m u.d, .slice u.C u.k u.e] := by rw [hW0]; exact Blk.new w _ _
  have k1 : Blk W W0.heap.size 27 [.slice v.A v.n v.c, .slice v.B v.m v.d, .slice v.C v.k v.e] := by rw [hW]; exact Blk.new W0 _ _
  replace k0 := k0.below b1 k0.lt
  have bb := Lib.hid (below_trans2 b0 b1)
  replace hX := Lib.hid (hX.below bb.out)
  replace hY := Lib.hid (hY.below bb.out)
  have hs0 : W0.heap.size = w.heap.size + 1 := by rw [hW0, World.size_alloc]
  rw [hs0] at k1
  have p0 := k0.cell 0
  have p1 := k0.cell 1
  have p2 := k0.cell 2
  have q0 := k1.cell 0
  have q1 := k1.cell 1
  have q2 := k1.cell 2
  have cT := ref9_texts u.A v.A u.n u.c v.n v.c f.vars g.vars W hX.out.vs hY.out.vs (Nat.le_trans hX.out.vc hX.out.vm) (Nat.le_trans hY.out.vc hY.out.vm)
  have cI := fun q => ref9_items u.B v.B u.m u.d v.m v.d f.items g.items (W.drewN q) (hX.out.below (below_drewN (Below.refl _ _) q)).is (hY.out.below (below_drewN (Below.refl _ _) q)).is (Nat.le_trans hX.out.ic hX.out.im) (Nat.le_trans hY.out.ic hY.out.im)
  have cF := fun q => ref2_IntsL u.C v.C u.k u.e v.k v.e f.frm g.frm (W.drewN q) (hX.out.below (below_drewN (Below.refl _ _) q)).fs (hY.out.below (below_drewN (Below.refl _ _) q)).fs (Nat.le_trans hX.out.fc hX.out.fm) (Nat.le_trans hY.out.fc hY.out.fm)
  have hfac := fac_eq f g
  cases h1 : decide (f.vars = g.vars) with
  | false =>
    rw [h1, Bool.false_and, Bool.false_and] at hfac
    rw [h1] at cT
    replace cT := Lib.hid cT
    replace hfac := Lib.hid hfac
    clear cI cF b0 b1 k0 k1 h1 hs0
    go_enter Try.func10, Try.ntmps10
    go_wp2_with (rw [← hW0, ← hW]; clear hW hW0)
    refine cT.out.mono ?_; rintro e wx ⟨rfl, q, rfl⟩
    go_wp2_with fail
    go_ret
    exact ⟨by rw [hfac.out]; rfl, below_drewN bb.out _⟩
  | true =>
    rw [h1, Bool.true_and] at hfac
    rw [h1] at cT
    replace cT := Lib.hid cT
    cases h2 : decide (f.items = g.items) with
    | false =>
      rw [h2, Bool.false_and] at hfac
      rw [h2] at cI
      replace cI := Lib.hid cI
      replace hfac := Lib.hid hfac
      clear cF b0 b1 k0 k1 h1 h2 hs0
      go_enter Try.func10, Try.ntmps10
      go_wp2_with (rw [← hW0, ← hW]; clear hW hW0)
      refine cT.out.mono ?_; rintro e wx ⟨rfl, q, rfl⟩
      go_wp2_with fail
      refine (cI.out q).mono ?_; rintro e wx ⟨rfl, q2, rfl⟩
      go_wp2_with fail
      go_ret
      exact ⟨by rw [hfac.out]; rfl, below_drewN bb.out _⟩
    | true =>
      rw [h2, Bool.true_and] at hfac
      rw [h2] at cI
      rw [← hfac] at cF
      obtain ⟨r, hr⟩ : ∃ r, r = decide (f = g) := ⟨_, rfl⟩
      rw [← hr] at cF ⊢
      replace cI := Lib.hid cI
      replace cF := Lib.hid cF
      replace hfac := Lib.hid hfac
      clear b0 b1 k0 k1 h1 h2 hs0 hr
      go_enter Try.func10, Try.ntmps10
      go_wp2_with (rw [← hW0, ← hW]; clear hW hW0)
      refine cT.out.mono ?_; rintro e wx ⟨rfl, q, rfl⟩
      go_wp2_with fail
      refine (cI.out q).mono ?_; rintro e wx ⟨rfl, q2, rfl⟩
      have cF2 := Lib.hid (cF.out (q + q2))
      go_wp2_with fail
      refine cF2.out.mono ?_; rintro e wx ⟨rfl, q3, rfl⟩
      go_wp2_with fail
      go_ret
      exact ⟨rfl, below_drewN bb.out _⟩

end Go.Proofs.Ytcdfpodhiogpiaa
