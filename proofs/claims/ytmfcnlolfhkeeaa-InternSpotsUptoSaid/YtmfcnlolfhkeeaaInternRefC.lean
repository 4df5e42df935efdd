/- The contracts of the document's own answers of layer 9: Same, Small. -/
import Derived.Test.YtmfcnlolfhkeeaaInternRefB
namespace Go.Proofs.Ytmfcnlolfhkeeaa
open Go.RowKit
set_option linter.unusedVariables false

theorem fac_eq (f g : Fac) : decide (f = g) = (decide (f.vars = g.vars) && decide (f.items = g.items) && decide (f.frm = g.frm)) := by
  obtain ⟨a, b, c⟩ := f
  obtain ⟨x, y, z⟩ := g
  simp only [Fac.mk.injEq, Bool.decide_and, Bool.and_assoc]
theorem fac_no {f g : Fac} (h : (decide (f.vars = g.vars) && decide (f.items = g.items)) = false) : decide (f = g) = false := by rw [fac_eq, h]; rfl
set_option maxRecDepth 100000 in
set_option maxHeartbeats 1000000 in
theorem ref9_Same (u v : FV) (f g : Fac) (w : World) (hX : FactsAt w u f) (hY : FactsAt w v g) :
    Calls Try.prog 13 #[.agg #[.slice u.A u.n u.c, .slice u.B u.m u.d, .slice u.C u.k u.e], .agg #[.slice v.A v.n v.c, .slice v.B v.m v.d, .slice v.C v.k v.e]] w (RetBool (decide (f = g)) w) := by
  obtain ⟨W0, hW0⟩ : ∃ W, W = w.alloc (.cells #[.slice u.A u.n u.c, .slice u.B u.m u.d, .slice u.C u.k u.e] 27) := ⟨_, rfl⟩
  obtain ⟨W, hW⟩ : ∃ W, W = W0.alloc (.cells #[.slice v.A v.n v.c, .slice v.B v.m v.d, .slice v.C v.k v.e] 27) := ⟨_, rfl⟩
  have b0 : Below w.heap.size w W0 := by rw [hW0]; exact (Below.refl _ _).alloc (Nat.le_refl _) _
  have b1 : Below W0.heap.size W0 W := by rw [hW]; exact (Below.refl _ _).alloc (Nat.le_refl _) _
  have k0 : Blk W0 w.heap.size 27 [.slice u.A u.n u.c, .slice u.B u.m u.d, .slice u.C u.k u.e] := by rw [hW0]; exact Blk.new w _ _
  have k1 : Blk W W0.heap.size 27 [.slice v.A v.n v.c, .slice v.B v.m v.d, .slice v.C v.k v.e] := by rw [hW]; exact Blk.new W0 _ _
  replace k0 := k0.below b1 k0.lt
  have bb := Lib.hid (below_trans2 b0 b1)
  replace hX := Lib.hid (hX.below bb.out)
  replace hY := Lib.hid (hY.below bb.out)
  have hs0 : W0.heap.size = w.heap.size + 1 := by rw [hW0, World.size_alloc]
  rw [hs0] at k1
  have p0 := k0.cell 0
  have p1 := k0.cell 1
  have p2 := k0.cell 2
  have q0 := k1.cell 0
  have q1 := k1.cell 1
  have q2 := k1.cell 2
  have cT := ref9_texts u.A v.A u.n u.c v.n v.c f.vars g.vars W hX.out.vs hY.out.vs (Nat.le_trans hX.out.vc hX.out.vm) (Nat.le_trans hY.out.vc hY.out.vm)
  have cI := fun q => ref9_items u.B v.B u.m u.d v.m v.d f.items g.items (W.drewN q) (hX.out.below (below_drewN (Below.refl _ _) q)).is (hY.out.below (below_drewN (Below.refl _ _) q)).is (Nat.le_trans hX.out.ic hX.out.im) (Nat.le_trans hY.out.ic hY.out.im)
  have cF := fun q => ref2_IntsL u.C v.C u.k u.e v.k v.e f.frm g.frm (W.drewN q) (hX.out.below (below_drewN (Below.refl _ _) q)).fs (hY.out.below (below_drewN (Below.refl _ _) q)).fs (Nat.le_trans hX.out.fc hX.out.fm) (Nat.le_trans hY.out.fc hY.out.fm)
  have hfac := fac_eq f g
  cases h1 : decide (f.vars = g.vars) with
  | false =>
    rw [h1, Bool.false_and, Bool.false_and] at hfac
    rw [h1] at cT
    replace cT := Lib.hid cT
    replace hfac := Lib.hid hfac
    clear cI cF b0 b1 k0 k1 h1 hs0
    go_enter Try.func13, Try.ntmps13
    go_wp2_with (rw [← hW0, ← hW]; clear hW hW0)
    refine cT.out.mono ?_; rintro e wx ⟨rfl, q, rfl⟩
    go_wp2_with fail
    go_ret
    exact ⟨by rw [hfac.out]; rfl, below_drewN bb.out _⟩
  | true =>
    rw [h1, Bool.true_and] at hfac
    rw [h1] at cT
    replace cT := Lib.hid cT
    cases h2 : decide (f.items = g.items) with
    | false =>
      rw [h2, Bool.false_and] at hfac
      rw [h2] at cI
      replace cI := Lib.hid cI
      replace hfac := Lib.hid hfac
      clear cF b0 b1 k0 k1 h1 h2 hs0
      go_enter Try.func13, Try.ntmps13
      go_wp2_with (rw [← hW0, ← hW]; clear hW hW0)
      refine cT.out.mono ?_; rintro e wx ⟨rfl, q, rfl⟩
      go_wp2_with fail
      refine (cI.out q).mono ?_; rintro e wx ⟨rfl, q2, rfl⟩
      go_wp2_with fail
      go_ret
      exact ⟨by rw [hfac.out]; rfl, below_drewN bb.out _⟩
    | true =>
      rw [h2, Bool.true_and] at hfac
      rw [h2] at cI
      rw [← hfac] at cF
      obtain ⟨r, hr⟩ : ∃ r, r = decide (f = g) := ⟨_, rfl⟩
      rw [← hr] at cF ⊢
      replace cI := Lib.hid cI
      replace cF := Lib.hid cF
      replace hfac := Lib.hid hfac
      clear b0 b1 k0 k1 h1 h2 hs0 hr
      go_enter Try.func13, Try.ntmps13
      go_wp2_with (rw [← hW0, ← hW]; clear hW hW0)
      refine cT.out.mono ?_; rintro e wx ⟨rfl, q, rfl⟩
      go_wp2_with fail
      refine (cI.out q).mono ?_; rintro e wx ⟨rfl, q2, rfl⟩
      have cF2 := Lib.hid (cF.out (q + q2))
      go_wp2_with fail
      refine cF2.out.mono ?_; rintro e wx ⟨rfl, q3, rfl⟩
      go_wp2_with fail
      go_ret
      exact ⟨rfl, below_drewN bb.out _⟩
/-- few facts -/
def smallF (f : Fac) (most : Int) : Bool := decide ((f.vars.length : Int) ≤ most) && decide ((f.items.length : Int) ≤ most) && decide ((f.frm.length : Int) ≤ most) && f.vars.all (fun s => decide (s.size ≤ 20)) && f.items.all (fun i => decide (i.se ≤ 1000))
theorem smallF_yes {f : Fac} {most : Int} (h1 : (f.vars.length : Int) ≤ most) (h2 : (f.items.length : Int) ≤ most) (h3 : (f.frm.length : Int) ≤ most) (h4 : ∀ j, j < f.vars.length → ∃ s, f.vars[j]? = some s ∧ s.size ≤ 20) (h5 : ∀ j, j < f.items.length → ∃ i, f.items[j]? = some i ∧ i.se ≤ 1000) : smallF f most = true := by
  unfold smallF
  rw [decide_eq_true h1, decide_eq_true h2, decide_eq_true h3]
  simp only [Bool.true_and, Bool.and_eq_true, List.all_eq_true, decide_eq_true_eq]
  refine ⟨fun s hs => ?_, fun i hi => ?_⟩
  · obtain ⟨j, hj⟩ := List.getElem?_of_mem hs
    obtain ⟨t, ht, hle⟩ := h4 j (List.getElem?_eq_some_iff.1 hj).1
    rw [hj] at ht; injection ht with ht; rw [ht]; exact hle
  · obtain ⟨j, hj⟩ := List.getElem?_of_mem hi
    obtain ⟨t, ht, hle⟩ := h5 j (List.getElem?_eq_some_iff.1 hj).1
    rw [hj] at ht; injection ht with ht; rw [ht]; exact hle
theorem smallF_says {f : Fac} {most : Int} (h : smallF f most = true) : (f.vars.length : Int) ≤ most ∧ (f.items.length : Int) ≤ most ∧ (f.frm.length : Int) ≤ most ∧ (∀ s ∈ f.vars, s.size ≤ 20) ∧ ∀ i ∈ f.items, i.se ≤ 1000 := by
  unfold smallF at h
  simp only [Bool.and_eq_true, decide_eq_true_eq, List.all_eq_true] at h
  exact ⟨h.1.1.1.1, h.1.1.1.2, h.1.1.2, h.1.2, h.2⟩
theorem smallF_no4 {f : Fac} {most : Int} {k : Nat} {s : ByteArray} (h : f.vars[k]? = some s) (hc : ¬ s.size ≤ 20) : smallF f most = false := by
  cases hs : smallF f most with
  | false => rfl
  | true => exact absurd ((smallF_says hs).2.2.2.1 s (List.mem_of_getElem? h)) hc
theorem smallF_no5 {f : Fac} {most : Int} {k : Nat} {i : It} (h : f.items[k]? = some i) (hc : ¬ i.se ≤ 1000) : smallF f most = false := by
  cases hs : smallF f most with
  | false => rfl
  | true => exact absurd ((smallF_says hs).2.2.2.2 i (List.mem_of_getElem? h)) hc
theorem smallF_no {f : Fac} {most : Int} (h : ¬ ((f.vars.length : Int) ≤ most ∧ (f.items.length : Int) ≤ most ∧ (f.frm.length : Int) ≤ most)) : smallF f most = false := by
  cases hs : smallF f most with
  | false => rfl
  | true => exact absurd ⟨(smallF_says hs).1, (smallF_says hs).2.1, (smallF_says hs).2.2.1⟩ h
set_option maxRecDepth 100000 in
set_option maxHeartbeats 2000000 in
theorem ref9_Small (u : FV) (f : Fac) (most : Int) (w : World) (hX : FactsAt w u f) :
    Calls Try.prog 7 #[.agg #[.slice u.A u.n u.c, .slice u.B u.m u.d, .slice u.C u.k u.e], .int .i64 most] w (RetBool (smallF f most) w) := by
  obtain ⟨A, n, c, B, m, d, C, k, e⟩ := u
  have hXv := hX.vs
  have hXi := hX.is
  have hvl := hX.vs.len
  have hil := hX.is.len
  have hfl := hX.fs.len
  have hvc := hX.vc
  have hvm := hX.vm
  have hic := hX.ic
  have him := hX.im
  have hfc := hX.fc
  have hfm := hX.fm
  dsimp only at hXv hXi hvl hil hfl hvc hvm hic him hfc hfm ⊢
  clear hX
  obtain ⟨W, hW⟩ : ∃ W, W = w.alloc (.cells #[.slice A n c, .slice B m d, .slice C k e] 27) := ⟨_, rfl⟩
  obtain ⟨g, hg⟩ : ∃ g, g = w.heap.size := ⟨_, rfl⟩
  have bb : Below w.heap.size w W := by rw [hW]; exact (Below.refl _ _).alloc (Nat.le_refl _) _
  have k0 : Blk W g 27 [.slice A n c, .slice B m d, .slice C k e] := by rw [hW, hg]; exact Blk.new w _ _
  replace hXv := Lib.hid (hXv.below bb)
  replace hXi := Lib.hid (hXi.below bb)
  replace bb := Lib.hid bb
  have p0 := k0.cell 0
  have p1 := k0.cell 1
  have p2 := k0.cell 2
  clear k0
  by_cases h1 : (n : Int) ≤ most
  · by_cases h2 : (m : Int) ≤ most
    · by_cases h3 : (k : Int) ≤ most
      · have hyes := Lib.hid (fun h4 h5 => smallF_yes (f := f) (most := most) (by rw [hvl]; exact h1) (by rw [hil]; exact h2) (by rw [hfl]; exact h3) h4 h5)
        replace hvl := Lib.hid hvl
        replace hil := Lib.hid hil
        replace hfl := Lib.hid hfl
        go_enter Try.func7, Try.ntmps7
        go_wp2_with (rw [← hW, ← hg]; clear hW; replace hg := Lib.hid hg)
        go_loop [5] (fun t => ∃ q : Nat, t = .int .i64 q ∧ q ≤ n ∧ Hid (∀ j, j < q → ∃ s, f.vars[j]? = some s ∧ s.size ≤ 20)) (fun t => n - (intOf t).toNat)
        case atStart => exact ⟨0, rfl, by omega, Lib.hid (fun j hj => absurd hj (by omega))⟩
        case round =>
          obtain ⟨q, rfl, hq, hall⟩ := hrel
          by_cases hlt : q < n
          · obtain ⟨b, off, s, rfl, hb, hs, hok, hc⟩ := hXv.out.str hlt
            have hlt' : (q : Int) < (n : Int) := by omega
            by_cases h20 : s.size ≤ 20
            · have e1 : ¬ (20 : Int) < (s.size : Int) := by omega
              have hall' : Hid (∀ j, j < q + 1 → ∃ s, f.vars[j]? = some s ∧ s.size ≤ 20) := Lib.hid (fun j hj => by
                rcases Nat.lt_succ_iff_lt_or_eq.1 hj with h | h
                · exact hall.out j h
                · subst h; exact ⟨s, hs, h20⟩)
              replace hs := Lib.hid hs
              clear hall hlt h20
              go_wp2_with fail
              go_round
              case rel => exact ⟨q + 1, by go_num, by omega, hall'⟩
              case measure => simp [intOf]; omega
            · have e1 : (20 : Int) < (s.size : Int) := by omega
              have hres := Lib.hid (smallF_no4 (most := most) hs h20)
              replace hs := Lib.hid hs
              clear hall hlt h20
              go_wp2_with fail
              go_ret
              exact ⟨by rw [hres.out]; rfl, bb.out⟩
          · have hlt' : ¬ (q : Int) < (n : Int) := by omega
            have hqn : q = n := by omega
            have hall4 : Hid (∀ j, j < f.vars.length → ∃ s, f.vars[j]? = some s ∧ s.size ≤ 20) := Lib.hid (fun j hj => hall.out j (by rw [hvl.out] at hj; omega))
            clear hall hlt hqn
            go_wp2_with fail
            go_loop [6] (fun t => ∃ q : Nat, t = .int .i64 q ∧ q ≤ m ∧ Hid (∀ j, j < q → ∃ i, f.items[j]? = some i ∧ i.se ≤ 1000)) (fun t => m - (intOf t).toNat)
            case atStart => exact ⟨0, rfl, by omega, Lib.hid (fun j hj => absurd hj (by omega))⟩
            case round =>
              obtain ⟨q, rfl, hq, hall⟩ := hrel
              by_cases hlt : q < m
              · obtain ⟨b, off, i, rfl, hb, hs, hok, x0, x1, x2, x3, x4⟩ := hXi.out.item hlt
                have hlt' : (q : Int) < (m : Int) := by omega
                by_cases h20 : i.se ≤ 1000
                · have e1 : ¬ (1000 : Int) < i.se := by omega
                  have hall' : Hid (∀ j, j < q + 1 → ∃ i, f.items[j]? = some i ∧ i.se ≤ 1000) := Lib.hid (fun j hj => by
                    rcases Nat.lt_succ_iff_lt_or_eq.1 hj with h | h
                    · exact hall.out j h
                    · subst h; exact ⟨i, hs, h20⟩)
                  replace hs := Lib.hid hs
                  replace hok := Lib.hid hok
                  clear hall hlt
                  go_wp2_with fail
                  go_round
                  case rel => exact ⟨q + 1, by go_num, by omega, hall'⟩
                  case measure => simp [intOf]; omega
                · have e1 : (1000 : Int) < i.se := by omega
                  have hres := Lib.hid (smallF_no5 (most := most) hs h20)
                  replace hs := Lib.hid hs
                  replace hok := Lib.hid hok
                  clear hall hlt
                  go_wp2_with fail
                  go_ret
                  exact ⟨by rw [hres.out]; rfl, bb.out⟩
              · have hlt' : ¬ (q : Int) < (m : Int) := by omega
                have hres := Lib.hid (hyes.out hall4.out (fun j hj => hall.out j (by rw [hil.out] at hj; omega)))
                clear hall hlt
                go_wp2_with fail
                go_ret
                exact ⟨by rw [hres.out]; rfl, bb.out⟩
      · have hres := Lib.hid (smallF_no (f := f) (most := most) (fun h => h3 (by rw [← hfl]; exact h.2.2)))
        have e3 : most < (k : Int) := by omega
        replace hvl := Lib.hid hvl
        replace hil := Lib.hid hil
        replace hfl := Lib.hid hfl
        clear h3
        go_enter Try.func7, Try.ntmps7
        go_wp2_with (rw [← hW, ← hg]; clear hW; replace hg := Lib.hid hg)
        go_ret
        exact ⟨by rw [hres.out]; rfl, bb.out⟩
    · have hres := Lib.hid (smallF_no (f := f) (most := most) (fun h => h2 (by rw [← hil]; exact h.2.1)))
      have e2 : most < (m : Int) := by omega
      replace hvl := Lib.hid hvl
      replace hil := Lib.hid hil
      replace hfl := Lib.hid hfl
      clear h2
      go_enter Try.func7, Try.ntmps7
      go_wp2_with (rw [← hW, ← hg]; clear hW; replace hg := Lib.hid hg)
      go_ret
      exact ⟨by rw [hres.out]; rfl, bb.out⟩
  · have hres := Lib.hid (smallF_no (f := f) (most := most) (fun h => h1 (by rw [← hvl]; exact h.1)))
    have e1 : most < (n : Int) := by omega
    replace hvl := Lib.hid hvl
    replace hil := Lib.hid hil
    replace hfl := Lib.hid hfl
    clear h1
    go_enter Try.func7, Try.ntmps7
    go_wp2_with (rw [← hW, ← hg]; clear hW; replace hg := Lib.hid hg)
    go_ret
    exact ⟨by rw [hres.out]; rfl, bb.out⟩

end Go.Proofs.Ytmfcnlolfhkeeaa
