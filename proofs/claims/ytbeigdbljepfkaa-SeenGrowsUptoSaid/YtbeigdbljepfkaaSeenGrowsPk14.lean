/- Layer 18's law SeenGrows, walked (where what comes in is of no more than 2^40 operations). Arguments opened: a history (a slice of slices of operations), and what the bound of an '..Upto' statement says of it. -/
import Derived.Test.YtbeigdbljepfkaaSeenGrowsPk13
import Derived.Test.YtbeigdbljepfkaaSeenGrowsPk6
import Derived.Test.YtbeigdbljepfkaaSeenGrowsPk4
import Derived.Test.YtbeigdbljepfkaaRows
import Derived.Test.YtbeigdbljepfkaaSeenGrowsPk1
import Derived.Deep.Slices
import Derived.OpenShut
import Derived.ChangeArms
import Derived.WalkKit
import Derived.ProofKit
namespace Go.Proofs.Ytbeigdbljepfkaa
open Go.RowKit
set_option linter.unusedVariables false
theorem wrap_small18 (z : Int) (h0 : 0 ≤ z) (h1 : z < 1000) : IntKind.i64.wrap z = z := by rw [IntKind.wrap_i64]; omega
set_option maxRecDepth 100000 in
set_option maxHeartbeats 4000000 in
theorem law18_SeenGrows (A : Option Addr) (n c o : Nat) (hs : List (List OpT)) (w : World) (hX : HistAt w A n hs) (hnc : n ≤ c) (hc : c ≤ 1099511627776) (hF : (allO hs).length ≤ 1099511627776) (ho : o < 256) :
    Calls Try.prog 3 #[.slice A n c, .int .u8 (o : Int)] w (RetBool true w) := by
  -- a law of one history hs (at A n c) that guards itself by Small 14, then asks for whole facts: walked to where they lie (hB : FBox w g x f V, V not yet named: hV, hg); f's hf, hw, hm30
  have hXl := Lib.hid hX.len
  have cS := Lib.hid (ref6_Small A n c 14 hs w hX (by omega) (by omega))
  replace hX := Lib.hid hX
  cases hsa : smallL hs 14 with
  | false =>
    rw [hsa] at cS
    clear hsa
    go_enter Try.func3, Try.ntmps3
    go_wp2_with fail
    refine cS.out.mono ?_; rintro e w1 ⟨rfl, b1⟩
    go_wp2_with fail
    refine (law18_awake w1).mono ?_; rintro e w9 ⟨rfl, b9⟩
    go_wp2_with fail
    go_ret
    exact ⟨rfl, below_trans2 b1 b9⟩
  | true =>
    rw [hsa] at cS
    obtain ⟨hnx, hFx, hnm8⟩ := smallL_says hsa
    rw [hXl.out] at hnx
    replace hnm8 := Lib.hid hnm8
    clear hsa
    go_enter Try.func3, Try.ntmps3
    go_wp2_with fail
    refine cS.out.mono ?_; rintro e w1 ⟨rfl, b1⟩
    replace hX := Lib.hid (hX.out.below b1)
    have c1 := Lib.hid (ref11_Of A n c hs w1 hX.out (by omega) (by omega))
    go_wp2_with fail
    refine c1.out.mono ?_; rintro e w3 ⟨x, rfl, hG, b3⟩
    obtain ⟨V, hV⟩ : ∃ W, W = w3.alloc (.cells #[.slice x.A x.n x.c, .slice x.B x.m x.d, .slice x.C x.k x.e] 29) := ⟨_, rfl⟩
    obtain ⟨g, hg⟩ : ∃ g, g = w3.heap.size := ⟨_, rfl⟩
    have bV : Below w3.heap.size w3 V := by rw [hV]; exact (Below.refl _ _).alloc (Nat.le_refl _) _
    cases hok : okO11 hs with
    | false =>
      have bb := Lib.hid (below_trans2 (below_trans2 b1 b3) bV)
      clear hG b1 b3 bV hok c1 cS
      go_wp2_with (rw [← hV, ← hg]; clear hV; replace hg := Lib.hid hg)
      refine (law18_awake V).mono ?_; rintro e w9 ⟨rfl, b9⟩
      go_wp2_with fail
      go_ret
      exact ⟨rfl, below_trans2 bb.out b9⟩
    | true =>
      obtain ⟨f, hf⟩ : ∃ f : Fac, f = fillF (facO hs) := ⟨_, rfl⟩
      have hGf := hG hok
      rw [← hf] at hGf
      have hw : WholeF f := by rw [hf]; exact fillF_whole _
      have hff : f.frm = fromF f.items := by rw [hf]; rfl
      have hm30 : x.m ≤ 14 := by
        rw [← hGf.is.len, hf]
        show (hisF hs).2.length ≤ 14
        rw [hisF_len]; omega
      have hB := Lib.hid ((FBox.new hGf).from_ (below_trans2 b1 b3))
      rw [← hV, ← hg] at hB
      replace hX := Lib.hid ((hX.out.below b3).below bV)
      replace hok := Lib.hid hok
      replace hf := Lib.hid hf
      clear hG hGf b1 b3 bV c1 cS
      clear hX
      have hil := hB.out.f.is.len
      by_cases h2 : 2 ≤ x.m
      · have h2d : decide ((x.m : Int) < 2) = false := decide_eq_false (by omega)
        have h2p : ¬ (x.m : Int) < 2 := by omega
        obtain ⟨p, hp⟩ : ∃ p, x.m = p + 1 := ⟨x.m - 1, by omega⟩
        have hp1 : 1 ≤ p := by omega
        have hpI : (x.m : Int) - 1 = (p : Int) := by omega
        have hkp := Nat.mod_lt o (show 0 < p by omega)
        obtain ⟨k, hk⟩ : ∃ k, k = o % p := ⟨_, rfl⟩
        have hkv : (o : Int) % ((x.m : Int) - 1) = (k : Int) := by rw [hpI, hk]; exact (Int.natCast_emod o p).symm
        rw [← hk] at hkp
        replace hkv := Lib.hid hkv
        replace hk := Lib.hid hk
        have gC : Good x.m (coM f) := by rw [← hil]; exact (coM_hull hw (by omega)).1
        have hccl : ClosedM (coM f) := (coM_hull hw (by omega)).closed
        have hsx := seenX_hist hB.out.f hf.out (by omega)
        have cO := fun W hW => ref13_Co x f W hW (by omega) hw
        obtain ⟨cm, hcm⟩ : ∃ m, m = coM f := ⟨_, rfl⟩
        rw [← hcm] at cO gC hccl
        replace hccl := Lib.hid hccl
        replace hsx := Lib.hid hsx
        have hMl := Lib.hid gC.len
        replace cO := Lib.hid cO
        replace hpI := Lib.hid hpI
        replace hp := Lib.hid hp
        have p0 := hB.out.c0
        have p1 := hB.out.c1
        have p2 := hB.out.c2
        go_wp2_with (rw [← hV, ← hg]; clear hV; replace hg := Lib.hid hg)
        rw [hkv.out]
        refine (cO.out V hB.out.f).mono ?_; rintro e w5 ⟨A1, n1, d1, rfl, hR, hc1, b⟩
        obtain rfl : n1 = x.m := by rw [← hR.len]; exact hMl.out
        -- a call's matrix (N A n c x, hR) laid into a variable: W, g; kM : MatK W g ..
        obtain ⟨W1, hW1⟩ : ∃ W, W = World.alloc w5 (.cells #[.int .i64 (x.m : Int), .slice A1 x.m d1] 34) := ⟨_, rfl⟩
        obtain ⟨gm, hgm⟩ : ∃ g, g = (World.heap w5).size := ⟨_, rfl⟩
        have bW1 : Below (World.heap w5).size w5 W1 := by rw [hW1]; exact below_alloc _ _
        have kM := Lib.hid (show MatK W1 gm 34 (x.m : Int) A1 x.m d1 cm from by rw [hW1, hgm]; exact MatK.new w5 _ hR)
        replace hB := Lib.hid ((hB.out.later b).later bW1)
        clear bW1 hR b p0 p1 p2 cO h2d h2p
        have p0 := hB.out.c0
        have p1 := hB.out.c1
        have p2 := hB.out.c2
        have m0 := kM.out.1.c0
        have m1 := kM.out.1.c1
        have hk0 : k + 1 < x.m := by have := hp.out; omega
        have cP := Lib.hid (seen_Of x f A1 d1 cm (k : Int) W1 hB.out.f kM.out.2 gC (by omega) hw (by omega) (by omega) hsx.out hccl.out)
        have gB0 : Good f.items.length (withinM x.m cm (wihO cm (k : Int) x.m)) := by have h := (within_facts gC (wihO cm (k : Int) x.m)).1; rw [hil]; exact h
        have gB1 : Good f.items.length (withinM x.m cm (wihO cm ((k + 1 : Nat) : Int) x.m)) := by have h := (within_facts gC (wihO cm ((k + 1 : Nat) : Int) x.m)).1; rw [hil]; exact h
        have cQ := Lib.hid (fun W hW hR => seen_Of x f A1 d1 cm ((k + 1 : Nat) : Int) W hW hR gC (by omega) hw (by omega) (by omega) hsx.out hccl.out)
        have hk1I := Lib.hid (show (k : Int) + 1 = ((k + 1 : Nat) : Int) from by simp)
        replace gC := Lib.hid gC
        replace gB0 := Lib.hid gB0
        replace gB1 := Lib.hid gB1
        replace hw := Lib.hid hw
        replace hil := Lib.hid hil
        go_wp2_with (rw [← hW1, ← hgm]; clear hW1; replace hgm := Lib.hid hgm)
        refine cP.out.mono ?_; rintro e w6 ⟨j0, A2, d2, E1, k1, e1, rfl, hs0, hR, hc2, hL1, hk1, he1, b⟩
        -- a call's matrix (N A n c x, hR) laid into a variable: W, g; kA : MatK W g ..
        obtain ⟨W2, hW2⟩ : ∃ W, W = World.alloc w6 (.cells #[.int .i64 (x.m : Int), .slice A2 x.m d2] 34) := ⟨_, rfl⟩
        obtain ⟨ga, hga⟩ : ∃ g, g = (World.heap w6).size := ⟨_, rfl⟩
        have bW2 : Below (World.heap w6).size w6 W2 := by rw [hW2]; exact below_alloc _ _
        have kA := Lib.hid (show MatK W2 ga 34 (x.m : Int) A2 x.m d2 _ from by rw [hW2, hga]; exact MatK.new w6 _ hR)
        replace hB := Lib.hid ((hB.out.later b).later bW2)
        replace kM := Lib.hid ((kM.out.below b).below bW2)
        clear bW2 hR b p0 p1 p2 m0 m1 cP hL1
        have p0 := hB.out.c0
        have p1 := hB.out.c1
        have p2 := hB.out.c2
        have m0 := kM.out.1.c0
        have m1 := kM.out.1.c1
        replace hs0 := Lib.hid hs0
        go_wp2_with (rw [← hW2, ← hga]; clear hW2; replace hga := Lib.hid hga)
        rw [hk1I.out]
        refine (cQ.out W2 hB.out.f kM.out.2).mono ?_; rintro e w7 ⟨j1, A3, d3, E2, k2, e2, rfl, hs1, hR, hc3, hL2, hk2, he2, b⟩
        -- a call's matrix (N A n c x, hR) laid into a variable: W, g; kC : MatK W g ..
        obtain ⟨W3, hW3⟩ : ∃ W, W = World.alloc w7 (.cells #[.int .i64 (x.m : Int), .slice A3 x.m d3] 34) := ⟨_, rfl⟩
        obtain ⟨gc, hgc⟩ : ∃ g, g = (World.heap w7).size := ⟨_, rfl⟩
        have bW3 : Below (World.heap w7).size w7 W3 := by rw [hW3]; exact below_alloc _ _
        have kC := Lib.hid (show MatK W3 gc 34 (x.m : Int) A3 x.m d3 _ from by rw [hW3, hgc]; exact MatK.new w7 _ hR)
        replace hB := Lib.hid ((hB.out.later b).later bW3)
        replace kA := Lib.hid ((kA.out.below b).below bW3)
        clear bW3 hR b p0 p1 p2 m0 m1 cQ hL2 kM
        replace hs1 := Lib.hid hs1
        go_wp2_with (rw [← hW3, ← hgc]; clear hW3; replace hgc := Lib.hid hgc)
        refine wp_region_plan 14 [(true, 0), (true, 1), (true, 2), (true, 3), (true, 4), (true, 5), (true, 6), (true, 7), (true, 8), (true, 9), (true, 10), (true, 11), (true, 12), (true, 13)] (by kernel_rfl) (by kernel_rfl) (fun U hU => ?_)
        have hU' : Below W3.heap.size W3 U := by rw [hU.out]; exact (Below.refl _ _).drew
        replace hB := Lib.hid (hB.out.later hU')
        replace kA := Lib.hid (kA.out.below hU')
        replace kC := Lib.hid (kC.out.below hU')
        clear hU hU'
        simp only [List.drop_succ_cons, List.drop_nil]
        have p0 := hB.out.c0
        have p1 := hB.out.c1
        have p2 := hB.out.c2
        obtain ⟨ib, io, u, hxB, -, hu, -, i0, -, -, -, -⟩ := hB.out.f.is.item (show k < x.m by omega)
        obtain ⟨jb, jo, v, hvB, -, hv, -, i1, -, -, -, -⟩ := hB.out.f.is.item (show k + 1 < x.m by omega)
        rw [hxB] at p1 hvB
        injection hvB with hvB
        injection hvB with h1 h2
        subst h1; subst h2
        obtain ⟨us, up, uw, ua, ul⟩ := u
        obtain ⟨vs, vp, vw, va, vl⟩ := v
        simp only at i0 i1
        have bk0 : 0 ≤ (k : Int) ∧ (k : Int) < (x.m : Int) := by omega
        have bk1 : 0 ≤ ((k + 1 : Nat) : Int) ∧ ((k + 1 : Nat) : Int) < (x.m : Int) := by omega
        have bk2 : 0 ≤ (k : Int) + 1 ∧ (k : Int) + 1 < (x.m : Int) := by omega
        have hkw := wrap_small18 ((k : Int) + 1) (by omega) (by omega)
        have htn : ((k : Int) + 1).toNat = k + 1 := by omega
        have hit : f.items = (hisF hs).2 := by rw [hf.out]; rfl
        have hfl : (allO hs).length = x.m := by rw [← hisF_len, ← hit, hil.out]
        by_cases hse : us = vs
        · have e0 : (us != vs) = false := by simp [hse]
          rw [hit] at hu hv
          obtain ⟨q1, q2⟩ := next_ahead (by rw [hfl]; omega) hu hv hse
          rw [← hit] at q1 q2
          have hh := coM_hull hw.out (by rw [hil.out]; omega)
          rw [← hcm] at hh
          have hcl : ClosedM cm := hh.closed
          have hkm1 : Rel cm k (k + 1) := (hh.2 k (k + 1)).2 (.one (((edgeM_good hw.out (by rw [hil.out]; omega)).2 k (k + 1)).2 (.inl q1)))
          have hsb : subM (seX f (keptF f.items (pastF f.items (k : Int) f.items.length)) (withinM x.m cm (wihO cm (k : Int) x.m)) j0) (seX f (keptF f.items (pastF f.items ((k + 1 : Nat) : Int) f.items.length)) (withinM x.m cm (wihO cm ((k + 1 : Nat) : Int) x.m)) j1) = true := by
            refine (sub_rel (seX_good gB0.out j0) (seX_good gB1.out j1)).2 (seX_least gB0.out (seX_closed gB1.out (within_closed gC.out hcl _) j1) (fun i j h => seX_base gB1.out i j (base_mono gC.out hcl (by omega) (by omega) hkm1 i j h) j1) (kept_mono ?_) (fun r hr => (keptF_ok f.items _ r hr).1) hs1.out.2 j0)
            intro z hz
            rw [hil.out, ← hfl] at hz ⊢
            exact q2 z hz
          obtain ⟨X0, hX0⟩ : ∃ X, X = seX f (keptF f.items (pastF f.items (k : Int) f.items.length)) (withinM x.m cm (wihO cm (k : Int) x.m)) j0 := ⟨_, rfl⟩
          obtain ⟨X1, hX1⟩ : ∃ X, X = seX f (keptF f.items (pastF f.items ((k + 1 : Nat) : Int) f.items.length)) (withinM x.m cm (wihO cm ((k + 1 : Nat) : Int) x.m)) j1 := ⟨_, rfl⟩
          have g0 : Good x.m X0 := by
            have h := seX_good (kept := keptF f.items (pastF f.items (k : Int) f.items.length)) gB0.out j0
            rw [← hX0] at h
            rw [← hil.out]; exact h
          have g1 : Good x.m X1 := by
            have h := seX_good (kept := keptF f.items (pastF f.items ((k + 1 : Nat) : Int) f.items.length)) gB1.out j1
            rw [← hX1] at h
            rw [← hil.out]; exact h
          rw [← hX0] at kA hsb
          rw [← hX1] at kC hsb
          replace hsb := Lib.hid hsb
          replace g0 := Lib.hid g0
          replace g1 := Lib.hid g1
          replace hse := Lib.hid hse
          clear hu hv hs0 hs1 gB0 gB1 gC hit hfl hxB q1 q2 hh hcl hkm1 hX0 hX1
          iterate 14
            refine wpPlan_float (v := ?_) rfl (by rfl) (fun w' hw' => ?_) (fun K hK => ?_)
            rotate_left
            · (go_simp; try with_reducible rfl)
            go_simp
            refine hK _ ?_
            clear hK K
          refine wpPlan_nil (NoPanic.normal ?_)
          clear p0 p1 p2 i0 i1 hkw htn
          go_wp2_with fail
          refine (law18_awake U).mono ?_; rintro e v1 ⟨rfl, b⟩
          replace hB := Lib.hid (hB.out.later b)
          replace kA := Lib.hid (kA.out.below b)
          replace kC := Lib.hid (kC.out.below b)
          have a0 := kA.out.1.c0
          have a1 := kA.out.1.c1
          have hla : Hid (∀ (i : Nat) (xs : List Nat), X0[i]? = some xs → xs.length ≤ 1024) := Lib.hid (fun i xs h => Nat.le_trans (g0.out.small xs (List.mem_of_getElem? h)) (by decide))
          have hlb : Hid (∀ (i : Nat) (xs : List Nat), X1[i]? = some xs → xs.length ≤ 1024) := Lib.hid (fun i xs h => Nat.le_trans (g1.out.small xs (List.mem_of_getElem? h)) (by decide))
          have cR := ref3_Right (x.m : Int) A2 x.m d2 X0 v1 kA.out.2 (by omega) hla.out
          rw [g0.out.right] at cR
          replace cR := Lib.hid cR
          clear b
          go_wp2_with fail
          refine cR.out.mono ?_; rintro e v2 ⟨rfl, b⟩
          replace hB := Lib.hid (hB.out.later b)
          replace kA := Lib.hid (kA.out.below b)
          replace kC := Lib.hid (kC.out.below b)
          clear b a0 a1 cR
          have a0 := kC.out.1.c0
          have a1 := kC.out.1.c1
          have cR := ref3_Right (x.m : Int) A3 x.m d3 X1 v2 kC.out.2 (by omega) hlb.out
          rw [g1.out.right] at cR
          replace cR := Lib.hid cR
          go_wp2_with fail
          refine cR.out.mono ?_; rintro e v3 ⟨rfl, b⟩
          replace hB := Lib.hid (hB.out.later b)
          replace kA := Lib.hid (kA.out.below b)
          replace kC := Lib.hid (kC.out.below b)
          clear b a0 a1 cR
          have a0 := kA.out.1.c0
          have a1 := kA.out.1.c1
          have b0 := kC.out.1.c0
          have b1 := kC.out.1.c1
          have cS := ref3_Sub A2 A3 x.m d2 d3 X0 X1 v3 kA.out.2 kC.out.2 (by omega) (fun i xs h => Nat.le_trans (hla.out i xs h) (by decide)) (fun i xs h => Nat.le_trans (hlb.out i xs h) (by decide))
          rw [hsb.out] at cS
          replace cS := Lib.hid cS
          go_wp2_with fail
          refine cS.out.mono ?_; rintro e v4 ⟨rfl, b⟩
          replace hB := Lib.hid (hB.out.later b)
          clear b a0 a1 b0 b1 cS
          go_wp2_with fail
          go_ret
          exact ⟨rfl, hB.out.o⟩
        · have e0 : (us != vs) = true := by simpa using hse
          replace hse := Lib.hid hse
          clear hu hv kA kC hs0 hs1 gB0 gB1 gC hit hfl hxB
          iterate 14
            refine wpPlan_float (v := ?_) rfl (by rfl) (fun w' hw' => ?_) (fun K hK => ?_)
            rotate_left
            · (go_simp; try with_reducible rfl)
            go_simp
            refine hK _ ?_
            clear hK K
          refine wpPlan_nil (NoPanic.normal ?_)
          clear p0 p1 p2 i0 i1 hkw htn
          go_wp2_with fail
          refine (law18_awake U).mono ?_; rintro e w9 ⟨rfl, b9⟩
          go_wp2_with fail
          go_ret
          exact ⟨rfl, below_trans2 hB.out.o b9⟩
      · have h2d : decide ((x.m : Int) < 2) = true := decide_eq_true (by omega)
        have h2p : (x.m : Int) < 2 := by omega
        have p0 := hB.out.c0
        have p1 := hB.out.c1
        have p2 := hB.out.c2
        go_wp2_with (rw [← hV, ← hg]; clear hV; replace hg := Lib.hid hg)
        refine (law18_awake V).mono ?_; rintro e w9 ⟨rfl, b9⟩
        go_wp2_with fail
        go_ret
        exact ⟨rfl, below_trans2 hB.out.o b9⟩
theorem law18_SeenGrowsI (A : Option Addr) (n c : Nat) (v : Int) (hs : List (List OpT)) (w : World) (hX : HistAt w A n hs) (hnc : n ≤ c) (hc : c ≤ 1099511627776) (hF : (allO hs).length ≤ 1099511627776) (v0 : 0 ≤ v) (v1 : v ≤ 255) :
    Calls Try.prog 3 #[.slice A n c, .int .u8 v] w (RetBool true w) := by
  obtain ⟨o, rfl⟩ := Int.eq_ofNat_of_zero_le v0
  exact law18_SeenGrows A n c o hs w hX hnc hc hF (by omega)
end Go.Proofs.Ytbeigdbljepfkaa

namespace Go.Proofs.Ytbeigdbljepfkaa
open Go.RowKit Go.ChangeShapes Go.WideShapes Go.Deep
set_option linter.unusedVariables false

theorem bulk_append {H : Type} (l r : List (DataW H)) : Rows.uptoBulkAll (l ++ r) = Rows.uptoBulkAll l + Rows.uptoBulkAll r := by
  induction l with
  | nil => simp [Rows.uptoBulkAll]
  | cons x l ih => rw [List.cons_append, Rows.uptoBulkAll, Rows.uptoBulkAll, ih]; omega
theorem bulk_pos {H : Type} (d : DataW H) : 1 ≤ Rows.uptoBulk d := by
  cases d with
  | lit l => cases l <;> simp [Rows.uptoBulk]
  | nil => simp [Rows.uptoBulk]
  | ptr d => simp [Rows.uptoBulk]
  | slice elems spare => simp [Rows.uptoBulk]
  | agg parts => simp [Rows.uptoBulk]
  | iface t d => simp [Rows.uptoBulk]
  | map entries => simp [Rows.uptoBulk]
  | held h => simp [Rows.uptoBulk]
theorem bulk_len {H : Type} (l : List (DataW H)) : l.length ≤ Rows.uptoBulkAll l := by
  induction l with
  | nil => simp
  | cons x r ih => have := bulk_pos x; rw [Rows.uptoBulkAll, List.length_cons]; omega
theorem bulk_slice {H : Type} (a b : List (DataW H)) : Rows.uptoBulk (.slice a b) = Rows.uptoBulkAll a + Rows.uptoBulkAll b + 1 := by rw [Rows.uptoBulk]
theorem addr_plus (b off j : Nat) : (⟨b, off, none⟩ : Addr).add j = ⟨b, off + j, none⟩ := by unfold Addr.add; split <;> simp_all

section
variable {H : Type} {enc : TypeId × Value → H} {P : Program} {w : World} {base : Nat} {held : Bool}
theorem open_ops {t e : TypeId} {f0 f1 f2 : Field} {fuel : Nat} {A : Option Addr} {len cap : Nat} {x : DataW H × List MemPlace} (ht : P.underlying t = some (.slice e)) (he : P.underlying e = some (.struct #[f0, f1, f2])) (ce : P.cellsOf e = 3)
    (o0 : f0.offset = 0) (o1 : f1.offset = 1) (o2 : f2.offset = 2) (k0 : P.cellsOf f0.type = 1) (k1 : P.cellsOf f1.type = 1) (k2 : P.cellsOf f2.type = 1)
    (u0 : P.underlying f0.type = some .bool) (u1 : P.underlying f1.type = some .string) (u2 : P.underlying f2.type = some (.int .i64))
    (h : DataW.trod enc P w base (fun _ => true) held fuel t [.slice A len cap] = some x) : ∃ os, OpsAt w A len os ∧ len ≤ cap ∧ cap ≤ 9223372036854775807 ∧ cap ≤ Rows.uptoBulk x.1 := by
  rcases open_slice ht h with ⟨hcs, hx⟩ | ⟨⟨b, off, spot⟩, l, c, m, n, D, Pl, hcs, hb, hl, hm, hmm, hx, hel⟩
  · injection hcs with hcs
    injection hcs with h1 h2 h3
    subst h1 h2 h3
    exact ⟨[], OpsAt.nil _ _, by omega, by omega, by omega⟩
  · injection hcs with hcs
    injection hcs with h1 h2 h3
    subst h1 h2 h3
    rw [if_pos rfl] at hmm
    subst hmm
    have hbulk : m ≤ Rows.uptoBulk x.1 := by
      rw [hx, bulk_slice]
      have := bulk_len ((List.range len).map D)
      have := bulk_len ((List.range (m - len)).map fun j => D (len + j))
      simp only [List.length_map, List.length_range] at *
      omega
    have hmm : m ≤ 9223372036854775807 := by unfold maxLen at hm; omega
    have hat : ∀ k, k < len → ∃ o : OpT, ((-9223372036854775808 ≤ o.2.2 ∧ o.2.2 < 9223372036854775808) ∧ o.2.1.size ≤ 9223372036854775807) ∧
        w.cell? ((⟨b, off, spot⟩ : Addr).add (k * 3)) = some (.bool o.1) ∧ w.cell? (((⟨b, off, spot⟩ : Addr).add (k * 3)).add 1) = some (.string o.2.1) ∧ w.cell? (((⟨b, off, spot⟩ : Addr).add (k * 3)).add 2) = some (.int .i64 o.2.2) := by
      intro k hk
      obtain ⟨cs', hc, ht'⟩ := hel k (by omega)
      rw [ce] at hc
      obtain ⟨_, hcl, hcat⟩ := World.cells?_some hc
      obtain ⟨xs, m', _, _, _, hxl, hf⟩ := DataW.trod_struct he ht'
      match cs', hcl with
      | [p, q, r], _ =>
        match xs, hxl with
        | [y0, y1, y2], _ =>
          have f0' := hf 0 f0 rfl
          have f1' := hf 1 f1 rfl
          have f2' := hf 2 f2 rfl
          rw [o0, k0] at f0'
          rw [o1, k1] at f1'
          rw [o2, k2] at f2'
          simp at f0' f1' f2'
          obtain ⟨bv, e0, _⟩ := DataW.trod_bool u0 f0'
          obtain ⟨sv, e1, _, ws⟩ := DataW.trod_string u1 f1'
          obtain ⟨iv, e2, _, wi⟩ := DataW.trod_int u2 f2'
          injection e0 with e0
          injection e1 with e1
          injection e2 with e2
          subst e0; subst e1; subst e2
          have c0 := hcat 0 (by omega)
          have c1 := hcat 1 (by omega)
          have c2 := hcat 2 (by omega)
          have hz : ∀ a : Addr, a.add 0 = a := fun a => by obtain ⟨b, o, s⟩ := a; unfold Addr.add; split <;> simp_all
          rw [hz] at c0
          have hb := bounds_i64 wi
          exact ⟨(bv, sv, iv), ⟨⟨hb.1, by have := hb.2; show iv < _; omega⟩, by unfold maxLen at ws; exact ws⟩, by simpa using c0, by simpa using c1, by simpa using c2⟩
    by_cases h0 : len = 0
    · subst h0
      exact ⟨[], OpsAt.nil _ _, by omega, hmm, hbulk⟩
    · obtain ⟨_, _, hc0, _, _⟩ := hat 0 (by omega)
      have hspot : spot = none := by
        have h := World.cell?_spot hc0
        cases spot with
        | none => rfl
        | some s => unfold Addr.add at h; simp at h
      subst hspot
      have hblt : b < w.heap.size := by
        have := World.block_lt_of_cell? w _ hc0
        rwa [addr_plus] at this
      have hall : ∀ k, k ≤ len → ∃ os : List OpT, os.length = k ∧ OkO os ∧ ∀ (j : Nat) (u : Value), (cellsO os)[j]? = some u → w.cell? ⟨b, off + j, none⟩ = some u := by
        intro k
        induction k with
        | zero => exact fun _ => ⟨[], rfl, fun o h => by simp at h, fun j u h => by simp [cellsO] at h⟩
        | succ k ih =>
          intro hk
          obtain ⟨os, p1, p2, p3⟩ := ih (by omega)
          obtain ⟨o, hok, c0, c1, c2⟩ := hat k (by omega)
          rw [addr_plus] at c0 c1 c2
          rw [addr_plus] at c1 c2
          refine ⟨os ++ [o], by simp [p1], okO_append p2 (fun o' h => by rw [List.mem_singleton.1 h]; exact hok), fun j u hj => ?_⟩
          rw [cellsO_append] at hj
          rcases Nat.lt_or_ge j (cellsO os).length with hlt | hge
          · rw [List.getElem?_append_left hlt] at hj; exact p3 j u hj
          · rw [List.getElem?_append_right hge] at hj
            have hlk : (cellsO os).length = k * 3 := by rw [cellsO_len, p1]
            obtain ⟨r, rfl⟩ : ∃ r, j = k * 3 + r := ⟨j - k * 3, by omega⟩
            rw [hlk, Nat.add_sub_cancel_left] at hj
            match r, hj with
            | 0, hj =>
              have : u = .bool o.1 := by simpa [cellsO] using hj.symm
              rw [this]; exact c0
            | 1, hj =>
              have : u = .string o.2.1 := by simpa [cellsO] using hj.symm
              rw [this, ← Nat.add_assoc]; exact c1
            | 2, hj =>
              have : u = .int .i64 o.2.2 := by simpa [cellsO] using hj.symm
              rw [this, ← Nat.add_assoc]; exact c2
            | r + 3, hj => simp [cellsO] at hj
      obtain ⟨os, p1, p2, p3⟩ := hall len (Nat.le_refl _)
      exact ⟨os, ⟨p1, p2, fun _ => ⟨b, off, rfl, hblt, p3⟩⟩, hl, hmm, hbulk⟩
theorem open_hist {th t e : TypeId} {f0 f1 f2 : Field} {fuel : Nat} {v : Value} {x : DataW H × List MemPlace} (hth : P.underlying th = some (.slice t)) (ct : P.cellsOf t = 1) (ht : P.underlying t = some (.slice e)) (he : P.underlying e = some (.struct #[f0, f1, f2])) (ce : P.cellsOf e = 3)
    (o0 : f0.offset = 0) (o1 : f1.offset = 1) (o2 : f2.offset = 2) (k0 : P.cellsOf f0.type = 1) (k1 : P.cellsOf f1.type = 1) (k2 : P.cellsOf f2.type = 1)
    (u0 : P.underlying f0.type = some .bool) (u1 : P.underlying f1.type = some .string) (u2 : P.underlying f2.type = some (.int .i64))
    (h : DataW.trod enc P w base (fun _ => true) held fuel th [v] = some x) : ∃ A len cap hs, v = .slice A len cap ∧ HistAt w A len hs ∧ len ≤ cap ∧ cap ≤ 9223372036854775807 ∧ cap ≤ Rows.uptoBulk x.1 ∧ (allO hs).length ≤ Rows.uptoBulk x.1 := by
  rcases open_slice1 hth ct h with ⟨hcs, hx⟩ | ⟨⟨b, off, spot⟩, len, cap, m, n, V, D, Pl, hcs, hb, hl, hm, hmm, hx, hel⟩
  · injection hcs with hcs
    exact ⟨none, 0, 0, [], hcs, HistAt.nil _ _, by omega, by omega, by omega, by simp [allO]⟩
  · injection hcs with hcs
    rw [if_pos rfl] at hmm
    subst hmm
    have hmm : m ≤ 9223372036854775807 := by unfold maxLen at hm; omega
    have hbulk : m ≤ Rows.uptoBulk x.1 ∧ Rows.uptoBulkAll ((List.range len).map D) ≤ Rows.uptoBulk x.1 := by
      rw [hx, bulk_slice]
      have := bulk_len ((List.range len).map D)
      have := bulk_len ((List.range (m - len)).map fun j => D (len + j))
      simp only [List.length_map, List.length_range] at *
      omega
    have hat : ∀ k, k < len → ∃ os, SessV w (V k) os ∧ os.length ≤ Rows.uptoBulk (D k) := by
      intro k hk
      obtain ⟨_, hk2⟩ := hel k (by omega)
      obtain ⟨A', n', c', e'⟩ : ∃ A' n' c', V k = .slice A' n' c' := by
        rcases open_slice ht hk2 with ⟨hcs, _⟩ | ⟨a, l, c, m, n, D, Pl, hcs, _⟩
        · injection hcs with hcs; exact ⟨_, _, _, hcs⟩
        · injection hcs with hcs; exact ⟨_, _, _, hcs⟩
      rw [e'] at hk2
      obtain ⟨os, h1, h2, h3, h4⟩ := open_ops ht he ce o0 o1 o2 k0 k1 k2 u0 u1 u2 hk2
      exact ⟨os, ⟨A', n', c', e', h2, by omega, h1⟩, by rw [h1.len]; exact Nat.le_trans h2 h4⟩
    by_cases h0 : len = 0
    · subst h0
      exact ⟨_, 0, m, [], hcs, HistAt.nil _ _, by omega, hmm, hbulk.1, by simp [allO]⟩
    · have hc0 := (hel 0 (by omega)).1
      have hspot : spot = none := by
        have h := World.cell?_spot hc0
        cases spot with
        | none => rfl
        | some s => unfold Addr.add at h; simp at h
      subst hspot
      have hblt : b < w.heap.size := by
        have := World.block_lt_of_cell? w _ hc0
        rwa [addr_plus] at this
      have hall : ∀ k, k ≤ len → ∃ hs : List (List OpT), hs.length = k ∧ (∀ (i : Nat) (v : Value) (os : List OpT), ((List.range k).map V)[i]? = some v → hs[i]? = some os → SessV w v os) ∧ (allO hs).length ≤ Rows.uptoBulkAll ((List.range k).map D) := by
        intro k
        induction k with
        | zero => exact fun _ => ⟨[], rfl, fun i v os h => by simp at h, by simp [allO]⟩
        | succ k ih =>
          intro hk
          obtain ⟨hs, p1, p2, p3⟩ := ih (by omega)
          obtain ⟨os, q1, q2⟩ := hat k (by omega)
          refine ⟨hs ++ [os], by simp [p1], fun i v o hv ho => ?_, ?_⟩
          · rw [List.range_succ, List.map_append] at hv
            rcases Nat.lt_or_ge i k with hlt | hge
            · rw [List.getElem?_append_left (by simpa using hlt)] at hv
              rw [List.getElem?_append_left (by omega)] at ho
              exact p2 i v o hv ho
            · rw [List.getElem?_append_right (by simpa using hge)] at hv
              rw [List.getElem?_append_right (by omega)] at ho
              have hv' := List.mem_of_getElem? hv
              have ho' := List.mem_of_getElem? ho
              simp at hv' ho'
              subst hv'; subst ho'
              exact q1
          · rw [allO_append, List.range_succ, List.map_append, bulk_append, List.length_append]
            have e1 : (allO [os]).length = os.length := by simp [allO]
            have e2 : Rows.uptoBulkAll (List.map D [k]) = Rows.uptoBulk (D k) := by simp [Rows.uptoBulkAll]
            omega
      obtain ⟨hs, p1, p2, p3⟩ := hall len (Nat.le_refl _)
      refine ⟨_, len, m, hs, hcs, ⟨(List.range len).map V, ⟨by simp, fun _ => ⟨b, off, rfl, hblt, fun j u hu => ?_⟩⟩, by simp [p1], p2⟩, hl, hmm, hbulk.1, by omega⟩
      have hj : j < len := by have := (List.getElem?_eq_some_iff.1 hu).1; simpa using this
      rw [List.getElem?_map, List.getElem?_range hj, Option.map_some] at hu
      have h1 := (hel j (by omega)).1
      rw [addr_plus] at h1
      rw [h1]; exact hu
end
end Go.Proofs.Ytbeigdbljepfkaa
