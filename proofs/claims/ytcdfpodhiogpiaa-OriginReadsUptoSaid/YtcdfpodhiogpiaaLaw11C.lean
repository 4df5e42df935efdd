/- Layer 11's law OriginReads, walked (where what comes in is of no more than 2^40 operations). -/
import Derived.Test.YtcdfpodhiogpiaaLaw11A
import Derived.Test.YtcdfpodhiogpiaaPlanS
import Derived.BigQuiet
namespace Go.Proofs.Ytcdfpodhiogpiaa
open Go.RowKit
set_option linter.unusedVariables false
set_option maxRecDepth 100000 in
set_option maxHeartbeats 4000000 in
theorem law11_OriginReads (A : Option Addr) (n c : Nat) (hs : List (List OpT)) (w : World) (hX : HistAt w A n hs) (hnc : n ≤ c) (hc : c ≤ 1099511627776) (hF : (allO hs).length ≤ 1099511627776) :
    Calls Try.prog 4 #[.slice A n c] w (RetBool true w) := by
  have c1 := Lib.hid (law11_facts A n c hs w hX hnc hc hF)
  go_enter Try.func4, Try.ntmps4
  go_wp2_with fail
  refine c1.out.mono ?_; rintro e w3 ⟨v, rfl, hG, b3⟩
  obtain ⟨V, hV⟩ : ∃ W, W = w3.alloc (.cells #[.slice v.A v.n v.c, .slice v.B v.m v.d, .slice v.C v.k v.e] 27) := ⟨_, rfl⟩
  obtain ⟨g, hg⟩ : ∃ g, g = w3.heap.size := ⟨_, rfl⟩
  have bV : Below w3.heap.size w3 V := by rw [hV]; exact (Below.refl _ _).alloc (Nat.le_refl _) _
  cases hok : okF11 hs with
  | false =>
    rw [hok] at hG
    have bb := Lib.hid (below_trans2 b3 bV)
    clear hG b3 bV
    go_wp2_with (rw [← hV, ← hg]; clear hV; replace hg := Lib.hid hg)
    refine (law11_awake V).mono ?_; rintro e w9 ⟨rfl, b9⟩
    go_wp2_with fail
    go_ret
    exact ⟨rfl, below_trans2 bb.out b9⟩
  | true =>
    obtain ⟨f, hf⟩ : ∃ f : Fac, f = facO hs := ⟨_, rfl⟩
    have hGf := hG hok
    rw [← hf] at hGf
    have hm60 : v.m ≤ 40 := by
      obtain ⟨-, hFx, -⟩ := smallL_says (okF11_says hok).1
      rw [← hGf.is.len, hf]
      show (hisF hs).2.length ≤ 40
      rw [hisF_len]; omega
    have hdf := Lib.hid (okF11_says hok).2.2
    rw [← hf] at hdf
    have hn60 : v.n ≤ 4294967296 := by
      obtain ⟨-, hFx, -⟩ := smallL_says (okF11_says hok).1
      rw [← hGf.vs.len, hf]
      have := hisF_vars hs
      show (hisF hs).1.length ≤ 4294967296
      omega
    have hB := Lib.hid ((FBox.new hGf).from_ b3)
    rw [← hV, ← hg] at hB
    replace hok := Lib.hid hok
    replace hf := Lib.hid hf
    clear hG hGf b3 bV hX c1
    have p0 := hB.out.c0
    have p1 := hB.out.c1
    have p2 := hB.out.c2
    have cF := Lib.hid (origin_Fill v f V hB.out.f (by omega) hn60 hdf.out)
    go_wp2_with (rw [← hV, ← hg]; clear hV; replace hg := Lib.hid hg)
    refine cF.out.mono ?_; rintro e w4 ⟨y, rfl, hY, b4⟩
    obtain ⟨V4, hV4⟩ : ∃ W, W = w4.alloc (.cells #[.slice y.A y.n y.c, .slice y.B y.m y.d, .slice y.C y.k y.e] 27) := ⟨_, rfl⟩
    obtain ⟨gh, hgh⟩ : ∃ g, g = w4.heap.size := ⟨_, rfl⟩
    have bV4 : Below w4.heap.size w4 V4 := by rw [hV4]; exact (Below.refl _ _).alloc (Nat.le_refl _) _
    have hI := Lib.hid (show OI w g v f gh y V4 from ⟨(hB.out.later b4).later bV4, hY.below bV4, by rw [hV4, hgh]; exact Blk.new w4 _ _⟩)
    have hyk : Hid (y.k = v.m ∧ y.m = v.m) := Lib.hid (by
      have h1 := hY.fs.len
      have h2 := hY.is.len
      have h3 := hB.out.f.is.len
      have h4 : (fillF f).frm = fromF f.items := rfl
      have h5 : (fillF f).items = f.items := rfl
      rw [h4, fromF_len] at h1
      rw [h5] at h2
      omega)
    have ek : ((y.k : Int) != (v.m : Int)) = false := by rw [hyk.out.1]; simp
    clear b4 bV4 hY cF hB p0 p1 p2
    have z0 := hI.out.y.c0
    have z1 := hI.out.y.c1
    have z2 := hI.out.y.c2
    have p0 := hI.out.b.c0
    have p1 := hI.out.b.c1
    have cW := origin_Whole y (fillF f) V4 hI.out.y.1 (by have := hyk.out.2; omega) hdf.out
    rw [show decide ((fillF f).frm = fromF (fillF f).items) = true from decide_eq_true rfl] at cW
    replace cW := Lib.hid cW
    go_wp2_with (rw [← hV4, ← hgh]; clear hV4; replace hgh := Lib.hid hgh)
    refine cW.out.mono ?_; rintro e w5 ⟨rfl, b⟩
    replace hI := Lib.hid (hI.out.later b)
    clear b cW z0 z1 z2 p0 p1
    go_wp2_with fail
    go_loopw [6] (fun t wr => ∃ i : Nat, i ≤ v.m ∧ t = .int .i64 i ∧ Hid (OI w g v f gh y wr)) (fun t _ => v.m - (intOf t).toNat)
    case atStart => exact ⟨0, Nat.zero_le _, rfl, hI⟩
    case round =>
      clear hI
      obtain ⟨i, hi, rfl, hI⟩ := hrel
      have p1 := hI.out.b.c1
      by_cases hlt : i < v.m
      · have hlt' : (i : Int) < (v.m : Int) := by omega
        go_wp2_with fail
        refine wp_region_tree (.flt 0 (.flt 1 (.flt 2 (.flt 3 (.flt 4 (.flt 5 (.flt 6 (.flt 7 (.flt 8 (.flt 9 (.one 10 (.one 11 (.flt 12 .done))))))))))))) (by kernel_rfl) (by kernel_rfl) (fun U hU => ?_)
        replace hI := Lib.hid (show OI w g v f gh y U from by rw [hU.out]; exact hI.out.later (Below.refl _ _).drew)
        clear hU p1
        have p1 := hI.out.b.c1
        have z2 := hI.out.y.c2
        obtain ⟨ib, io, it, hxB, hib, hx, hxo, i0, i1, i2, i3, i4⟩ := hI.out.b.f.is.item hlt
        obtain ⟨fb, fo, z, hzC, hfb, hz, hzo, j0⟩ := hI.out.y.1.fs.int (show i < y.k by rw [hyk.out.1]; exact hlt)
        rw [hxB] at p1
        rw [hzC] at z2
        have hz' : z = fromOne f.items it := by
          have h4 : (fillF f).frm = fromF f.items := rfl
          rw [h4, fromF_at hx] at hz
          injection hz with hz
          exact hz.symm
        have hik : (i : Int) < (y.k : Int) := by rw [hyk.out.1]; exact hlt'
        obtain ⟨xs, xp, xw, xa, xl⟩ := it
        simp only at i0 i1 i2 i3 i4
        replace hz := Lib.hid hz
        replace hx := Lib.hid hx
        replace hz' := Lib.hid hz'
        clear hxo hzo hxB hzC
        iterate 10
          refine wpPT_float (v := ?_) rfl (by rfl) (fun w' hw' => ?_) (fun K hK => ?_)
          rotate_left
          · (go_simp; try with_reducible rfl)
          go_simp
          refine hK _ ?_
          clear hK K
        clear i0 i1 i2 i3 i4 j0 z2 p1
        refine wpPT_one rfl (by rfl) (fun K hK => ?_)
        go_simp
        obtain ⟨gx, hgx⟩ : ∃ g, g = U.heap.size := ⟨_, rfl⟩
        obtain ⟨X0, hX0⟩ : ∃ W, W = U.alloc (.cells #[.int .i64 0, .int .i64 0, .bool false, .int .i64 0, .int .i64 0] 38) := ⟨_, rfl⟩
        have b0 : Below U.heap.size U X0 := by rw [hX0]; exact (Below.refl _ _).alloc (Nat.le_refl _) _
        have k0 : Blk X0 gx 38 itZ.cells := by rw [hX0, hgx]; exact Blk.new U _ _
        rw [← hX0, ← hgx]
        replace hgx := Lib.hid hgx
        refine hK _ _ b0 ?_
        clear hK K hX0
        have f0 : World.cell? X0 ⟨gx, 0, none⟩ = some (.int .i64 0) := Blk.cell k0 0
        have f1 : World.cell? X0 ⟨gx, 1, none⟩ = some (.int .i64 0) := Blk.cell k0 1
        have f2 : World.cell? X0 ⟨gx, 2, none⟩ = some (.bool false) := Blk.cell k0 2
        have f3 : World.cell? X0 ⟨gx, 3, none⟩ = some (.int .i64 0) := Blk.cell k0 3
        have f4 : World.cell? X0 ⟨gx, 4, none⟩ = some (.int .i64 0) := Blk.cell k0 4
        have z0 := Blk.frozen k0 0
        have z1 := Blk.frozen k0 1
        have z2 := Blk.frozen k0 2
        have z3 := Blk.frozen k0 3
        have z4 := Blk.frozen k0 4
        obtain ⟨X, hX⟩ : ∃ W, W = putIt X0 gx ⟨xs, xp, xw, xa, xl⟩ := ⟨_, rfl⟩
        have hX' := hX
        unfold putIt at hX'
        simp only at hX'
        have bX : Below U.heap.size U X := by rw [hX]; exact putIt_below b0 (by rw [hgx.out]; exact Nat.le_refl _) _
        refine wpPT_one rfl (by rfl) (fun K hK => ?_)
        go_simp
        rw [← hX']
        refine hK _ _ bX ?_
        clear hK K hX'
        have kX := Lib.hid (show Blk X gx 38 (It.cells ⟨xs, xp, xw, xa, xl⟩) from by rw [hX]; exact putIt_blk k0 _)
        have hIX := Lib.hid (hI.out.later bX)
        clear hX k0 b0 bX hI
        clear f0 f1 f2 f3 f4 z0 z1 z2 z3 z4
        iterate 1
          refine wpPT_float (v := ?_) rfl (by rfl) (fun w' hw' => ?_) (fun K hK => ?_)
          rotate_left
          · (go_simp; try with_reducible rfl)
          go_simp
          refine hK _ ?_
          clear hK K
        refine wpPT_done (NoPanic.normal ?_)
        have j2 : X.cell? ⟨gx, 2, none⟩ = some (.bool xw) := Blk.cell kX.out 2
        have j3 : X.cell? ⟨gx, 3, none⟩ = some (.int .i64 xa) := Blk.cell kX.out 3
        have j4 : X.cell? ⟨gx, 4, none⟩ = some (.int .i64 xl) := Blk.cell kX.out 4
        have p1 := hIX.out.b.c1
        have hone : z = if xw = true then -3 else if xl = 0 then -1 else match writeF f.items xa xl with | some w => (w : Int) | none => -2 := hz'.out
        cases xw with
        | true =>
          have hzv : z = -3 := hone
          subst hzv
          replace hone := Lib.hid hone
          have d1 : decide ((v.m : Int) ≤ -3) = false := decide_eq_false (by omega)
          -- what item i reads from isn't Thin: regions 11, 13, and no round of the inner loop
          go_wp2_with fail
          go_quiet (fail)
          go_wp2_with fail
          replace hIX := Lib.hid (hIX.out.later (below_drewN (Below.refl _ _) nq))
          obtain ⟨Wo, hWo⟩ : ∃ Wo, Wo = X.drewN nq := ⟨_, rfl⟩
          rw [← hWo] at hIX ⊢
          clear hWo kX j2 j3 j4 p1
          go_loopw [9] (fun t wr => ∃ k : Nat, k ≤ v.m ∧ t = .int .i64 k ∧ Hid (OI w g v f gh y wr)) (fun t _ => v.m - (intOf t).toNat)
          case atStart => exact ⟨0, Nat.zero_le _, rfl, hIX⟩
          case round =>
            clear hIX
            obtain ⟨k, hk, rfl, hIX⟩ := hrel
            have p1 := hIX.out.b.c1
            by_cases hkl : k < v.m
            · have hkl' : (k : Int) < (v.m : Int) := by omega
              clear hkl
              go_wp2_with fail
              exact ⟨⟨i + 1, by omega, by go_num, hIX⟩, by simp [intOf]; omega⟩
            · have hkl' : ¬ (k : Int) < (v.m : Int) := by omega
              clear hkl
              go_wp2_with fail
              exact ⟨⟨i + 1, by omega, by go_num, hIX⟩, by simp [intOf]; omega⟩
        | false =>
          rw [if_neg (by simp)] at hone
          by_cases hl0 : xl = 0
          · rw [if_pos hl0] at hone
            have hzv : z = -1 := hone
            subst hzv
            subst hl0
            replace hone := Lib.hid hone
            have d1 : decide ((v.m : Int) ≤ -1) = false := decide_eq_false (by omega)
            -- what item i reads from isn't Thin: regions 11, 13, and no round of the inner loop
            go_wp2_with fail
            go_quiet (fail)
            go_wp2_with fail
            replace hIX := Lib.hid (hIX.out.later (below_drewN (Below.refl _ _) nq))
            obtain ⟨Wo, hWo⟩ : ∃ Wo, Wo = X.drewN nq := ⟨_, rfl⟩
            rw [← hWo] at hIX ⊢
            clear hWo kX j2 j3 j4 p1
            go_loopw [9] (fun t wr => ∃ k : Nat, k ≤ v.m ∧ t = .int .i64 k ∧ Hid (OI w g v f gh y wr)) (fun t _ => v.m - (intOf t).toNat)
            case atStart => exact ⟨0, Nat.zero_le _, rfl, hIX⟩
            case round =>
              clear hIX
              obtain ⟨k, hk, rfl, hIX⟩ := hrel
              have p1 := hIX.out.b.c1
              by_cases hkl : k < v.m
              · have hkl' : (k : Int) < (v.m : Int) := by omega
                clear hkl
                go_wp2_with fail
                exact ⟨⟨i + 1, by omega, by go_num, hIX⟩, by simp [intOf]; omega⟩
              · have hkl' : ¬ (k : Int) < (v.m : Int) := by omega
                clear hkl
                go_wp2_with fail
                exact ⟨⟨i + 1, by omega, by go_num, hIX⟩, by simp [intOf]; omega⟩
          · rw [if_neg hl0] at hone
            have e0 : (xl == 0) = false := by simpa using hl0
            have e0' : (xl != 0) = true := by simpa using hl0
            replace hl0 := Lib.hid hl0
            cases hw : writeF f.items xa xl with
            | some q =>
              rw [hw] at hone
              have hzv : z = (q : Int) := hone
              obtain ⟨it2, hq, hhit, -⟩ := writeF_some hw
              have hqm : q < v.m := by rw [← hIX.out.b.f.is.len]; exact (List.getElem?_eq_some_iff.1 hq).1
              have hzq : z.toNat = q := by omega
              obtain ⟨ib2, io2, it3, hxB, hib2, hq3, -, i0, i1, i2, i3, i4⟩ := hIX.out.b.f.is.item (show z.toNat < v.m by omega)
              rw [hzq, hq] at hq3
              injection hq3 with hq3
              subst hq3
              rw [hxB] at p1
              obtain ⟨s2, t2, w2, a2, l2⟩ := it2
              simp only [hitW, Bool.and_eq_true, decide_eq_true_eq] at hhit
              obtain ⟨hh1, hh2, hh3⟩ := hhit
              subst hh1; subst hh2; subst hh3
              simp only at i2 i3 i4
              have hz0 : 0 ≤ z := by omega
              have hzm : z < (v.m : Int) := by omega
              have hzi : 0 ≤ z ∧ z < (v.m : Int) := ⟨hz0, hzm⟩
              have g1 : (z == -3) = false := by simp; omega
              have g2 : (z == -1) = false := by simp; omega
              have g3 : decide (z < -3) = false := decide_eq_false (by omega)
              have d1 : decide ((v.m : Int) ≤ z) = false := decide_eq_false (by omega)
              have g4 : decide (0 ≤ z) = true := decide_eq_true hz0
              have g5 : (z == -2) = false := by simp; omega
              replace hone := Lib.hid hone
              replace hzv := Lib.hid hzv
              replace hzq := Lib.hid hzq
              clear hw hq hxB hib2 i0 i1
              -- what item i reads from isn't Thin: regions 11, 13, and no round of the inner loop
              go_wp2_with fail
              go_quiet (fail)
              go_wp2_with fail
              replace hIX := Lib.hid (hIX.out.later (below_drewN (Below.refl _ _) nq))
              obtain ⟨Wo, hWo⟩ : ∃ Wo, Wo = X.drewN nq := ⟨_, rfl⟩
              rw [← hWo] at hIX ⊢
              clear hWo kX j2 j3 j4 p1
              go_loopw [9] (fun t wr => ∃ k : Nat, k ≤ v.m ∧ t = .int .i64 k ∧ Hid (OI w g v f gh y wr)) (fun t _ => v.m - (intOf t).toNat)
              case atStart => exact ⟨0, Nat.zero_le _, rfl, hIX⟩
              case round =>
                clear hIX
                obtain ⟨k, hk, rfl, hIX⟩ := hrel
                have p1 := hIX.out.b.c1
                by_cases hkl : k < v.m
                · have hkl' : (k : Int) < (v.m : Int) := by omega
                  clear hkl
                  go_wp2_with fail
                  exact ⟨⟨i + 1, by omega, by go_num, hIX⟩, by simp [intOf]; omega⟩
                · have hkl' : ¬ (k : Int) < (v.m : Int) := by omega
                  clear hkl
                  go_wp2_with fail
                  exact ⟨⟨i + 1, by omega, by go_num, hIX⟩, by simp [intOf]; omega⟩
            | none =>
              rw [hw] at hone
              have hzv : z = -2 := hone
              subst hzv
              replace hone := Lib.hid hone
              have hth := Lib.hid (show ∀ k it', f.items[k]? = some it' → hitW xa xl it' = false from fun k it' hk => by
                unfold writeF at hw
                rw [List.findIdx?_eq_none_iff] at hw
                exact hw it' (List.mem_of_getElem? hk))
              have d1 : decide ((v.m : Int) ≤ -2) = false := decide_eq_false (by omega)
              clear hw
              go_wp2_with fail
              go_quiet (fail)
              go_wp2_with fail
              replace hIX := Lib.hid (hIX.out.later (below_drewN (Below.refl _ _) nq))
              replace kX := Lib.hid (show Blk (X.drewN nq) gx 38 (It.cells ⟨xs, xp, false, xa, xl⟩) from kX.out)
              clear j2 j3 j4 p1
              obtain ⟨Wo, hWo⟩ : ∃ Wo, Wo = X.drewN nq := ⟨_, rfl⟩
              rw [← hWo] at hIX kX ⊢
              clear hWo
              go_loopw [9] (fun t wr => ∃ k : Nat, k ≤ v.m ∧ t = .int .i64 k ∧ Hid (OI w g v f gh y wr) ∧ Hid (Blk wr gx 38 (It.cells ⟨xs, xp, false, xa, xl⟩))) (fun t _ => v.m - (intOf t).toNat)
              case atStart => exact ⟨0, Nat.zero_le _, rfl, hIX, kX⟩
              case round =>
                clear hIX kX
                obtain ⟨k, hk, rfl, hIX, kX⟩ := hrel
                have p1 := hIX.out.b.c1
                by_cases hkl : k < v.m
                · have hkl' : (k : Int) < (v.m : Int) := by omega
                  obtain ⟨ib2, io2, it3, hxB, hib2, hq3, -, i0, i1, i2, i3, i4⟩ := hIX.out.b.f.is.item hkl
                  rw [hxB] at p1
                  have hno := hth.out k it3 hq3
                  obtain ⟨s2, t2, w2, a2, l2⟩ := it3
                  simp only at i2 i3 i4
                  have j3 : wr.cell? ⟨gx, 3, none⟩ = some (.int .i64 xa) := Blk.cell kX.out 3
                  have j4 : wr.cell? ⟨gx, 4, none⟩ = some (.int .i64 xl) := Blk.cell kX.out 4
                  clear i0 i1 hxB hq3 hib2 hkl
                  cases w2 with
                  | false =>
                    replace hno := Lib.hid hno
                    go_wp2_with fail
                    go_quiet (fail)
                    go_wp2_with fail
                    exact ⟨⟨k + 1, by omega, by go_num, Lib.hid (hIX.out.later (below_drewN (Below.refl _ _) nq)), Lib.hid kX.out⟩, by simp [intOf]; omega⟩
                  | true =>
                    by_cases ha : a2 = xa
                    · have hl : l2 ≠ xl := fun hl => by simp [hitW, ha, hl] at hno
                      have g1 : (a2 == xa) = true := by simp [ha]
                      have g2 : (l2 == xl) = false := by simpa using hl
                      replace hno := Lib.hid hno
                      replace ha := Lib.hid ha
                      replace hl := Lib.hid hl
                      go_wp2_with fail
                      go_quiet (fail)
                      go_wp2_with fail
                      exact ⟨⟨k + 1, by omega, by go_num, Lib.hid (hIX.out.later (below_drewN (Below.refl _ _) nq)), Lib.hid kX.out⟩, by simp [intOf]; omega⟩
                    · have g1 : (a2 == xa) = false := by simpa using ha
                      replace hno := Lib.hid hno
                      replace ha := Lib.hid ha
                      go_wp2_with fail
                      go_quiet (fail)
                      go_wp2_with fail
                      exact ⟨⟨k + 1, by omega, by go_num, Lib.hid (hIX.out.later (below_drewN (Below.refl _ _) nq)), Lib.hid kX.out⟩, by simp [intOf]; omega⟩
                · have hkl' : ¬ (k : Int) < (v.m : Int) := by omega
                  clear hkl
                  go_wp2_with fail
                  exact ⟨⟨i + 1, by omega, by go_num, hIX⟩, by simp [intOf]; omega⟩
      · have hlt' : ¬ (i : Int) < (v.m : Int) := by omega
        clear hlt
        go_wp2_with fail
        refine (law11_awake wr).mono ?_; rintro e w9 ⟨rfl, b9⟩
        go_wp2_with fail
        go_ret
        exact ⟨rfl, below_trans2 hI.out.b.o b9⟩
end Go.Proofs.Ytcdfpodhiogpiaa
