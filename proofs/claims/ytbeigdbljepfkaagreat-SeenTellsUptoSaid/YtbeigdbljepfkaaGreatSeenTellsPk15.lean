/- Layer 18's law SeenTells, walked (where what comes in is of no more than 2^40 operations). Arguments opened: a history (a slice of slices of operations), and what the bound of an '..Upto' statement says of it. -/
import Derived.Test.YtbeigdbljepfkaaGreatSeenTellsPk14
import Derived.Test.YtbeigdbljepfkaaGreatSeenTellsPk6
import Derived.Test.YtbeigdbljepfkaaGreatSeenTellsPk4
import Derived.Test.YtbeigdbljepfkaaGreatRows
import Derived.Test.YtbeigdbljepfkaaGreatSeenTellsPk1
import Derived.Deep.Slices
import Derived.OpenShut
import Derived.ChangeArms
import Derived.WalkKit
import Derived.ProofKit
namespace Go.Proofs.YtbeigdbljepfkaaGreat
open Go.RowKit
set_option linter.unusedVariables false
set_option maxRecDepth 100000 in
set_option maxHeartbeats 4000000 in
theorem law18_SeenTells (A : Option Addr) (n c : Nat) (o : Int) (hs : List (List OpT)) (w : World) (hX : HistAt w A n hs) (hnc : n ≤ c) (hc : c ≤ 1099511627776) (hF : (allO hs).length ≤ 1099511627776) :
    Calls Tryz.prog 3 #[.slice A n c, .int .i64 o] w (RetBool true w) := by
  -- a law of one history hs (at A n c) that guards itself by Small 14, then asks for whole facts: walked to where they lie (hB : FBox w g x f V, V not yet named: hV, hg); f's hf, hw, hm30
  have hXl := Lib.hid hX.len
  have cS := Lib.hid (ref6_Small A n c 14 hs w hX (by omega) (by omega))
  replace hX := Lib.hid hX
  cases hsa : smallL hs 14 with
  | false =>
    rw [hsa] at cS
    clear hsa
    go_enter Tryz.func3, Tryz.ntmps3
    go_wp2_with fail
    refine cS.out.mono ?_; rintro e w1 ⟨rfl, b1⟩
    go_wp2_with fail
    refine (law18_awake w1).mono ?_; rintro e w9 ⟨rfl, b9⟩
    go_wp2_with fail
    go_ret
    exact ⟨rfl, below_trans2 b1 b9⟩
  | true =>
    rw [hsa] at cS
    obtain ⟨hnx, hFx, hnm8⟩ := smallL_says hsa
    rw [hXl.out] at hnx
    replace hnm8 := Lib.hid hnm8
    clear hsa
    go_enter Tryz.func3, Tryz.ntmps3
    go_wp2_with fail
    refine cS.out.mono ?_; rintro e w1 ⟨rfl, b1⟩
    replace hX := Lib.hid (hX.out.below b1)
    have c1 := Lib.hid (ref11_Of A n c hs w1 hX.out (by omega) (by omega))
    go_wp2_with fail
    refine c1.out.mono ?_; rintro e w3 ⟨x, rfl, hG, b3⟩
    obtain ⟨V, hV⟩ : ∃ W, W = w3.alloc (.cells #[.slice x.A x.n x.c, .slice x.B x.m x.d, .slice x.C x.k x.e] 29) := ⟨_, rfl⟩
    obtain ⟨g, hg⟩ : ∃ g, g = w3.heap.size := ⟨_, rfl⟩
    have bV : Below w3.heap.size w3 V := by rw [hV]; exact (Below.refl _ _).alloc (Nat.le_refl _) _
    cases hok : okO11 hs with
    | false =>
      have bb := Lib.hid (below_trans2 (below_trans2 b1 b3) bV)
      clear hG b1 b3 bV hok c1 cS
      go_wp2_with (rw [← hV, ← hg]; clear hV; replace hg := Lib.hid hg)
      refine (law18_awake V).mono ?_; rintro e w9 ⟨rfl, b9⟩
      go_wp2_with fail
      go_ret
      exact ⟨rfl, below_trans2 bb.out b9⟩
    | true =>
      obtain ⟨f, hf⟩ : ∃ f : Fac, f = fillF (facO hs) := ⟨_, rfl⟩
      have hGf := hG hok
      rw [← hf] at hGf
      have hw : WholeF f := by rw [hf]; exact fillF_whole _
      have hff : f.frm = fromF f.items := by rw [hf]; rfl
      have hm30 : x.m ≤ 14 := by
        rw [← hGf.is.len, hf]
        show (hisF hs).2.length ≤ 14
        rw [hisF_len]; omega
      have hB := Lib.hid ((FBox.new hGf).from_ (below_trans2 b1 b3))
      rw [← hV, ← hg] at hB
      replace hX := Lib.hid ((hX.out.below b3).below bV)
      replace hok := Lib.hid hok
      replace hf := Lib.hid hf
      clear hG hGf b1 b3 bV c1 cS
      clear hX
      have hil := hB.out.f.is.len
      have gC : Good x.m (coM f) := by rw [← hil]; exact (coM_hull hw (by omega)).1
      have hccl : ClosedM (coM f) := (coM_hull hw (by omega)).closed
      have hsx := seenX_hist hB.out.f hf.out (by omega)
      have cO := fun W hW => ref13_Co x f W hW (by omega) hw
      obtain ⟨cm, hcm⟩ : ∃ m, m = coM f := ⟨_, rfl⟩
      rw [← hcm] at cO gC hccl
      replace hccl := Lib.hid hccl
      replace hsx := Lib.hid hsx
      have hMl := Lib.hid gC.len
      replace cO := Lib.hid cO
      have p0 := hB.out.c0
      have p1 := hB.out.c1
      have p2 := hB.out.c2
      go_wp2_with (rw [← hV, ← hg]; clear hV; replace hg := Lib.hid hg)
      refine (cO.out V hB.out.f).mono ?_; rintro e w5 ⟨A1, n1, d1, rfl, hR, hc1, b⟩
      obtain rfl : n1 = x.m := by rw [← hR.len]; exact hMl.out
      -- a call's matrix (N A n c x, hR) laid into a variable: W, g; kM : MatK W g ..
      obtain ⟨W1, hW1⟩ : ∃ W, W = World.alloc w5 (.cells #[.int .i64 (x.m : Int), .slice A1 x.m d1] 34) := ⟨_, rfl⟩
      obtain ⟨gm, hgm⟩ : ∃ g, g = (World.heap w5).size := ⟨_, rfl⟩
      have bW1 : Below (World.heap w5).size w5 W1 := by rw [hW1]; exact below_alloc _ _
      have kM := Lib.hid (show MatK W1 gm 34 (x.m : Int) A1 x.m d1 cm from by rw [hW1, hgm]; exact MatK.new w5 _ hR)
      replace hB := Lib.hid ((hB.out.later b).later bW1)
      clear bW1 hR b p0 p1 p2 cO hcm
      have p0 := hB.out.c0
      have p1 := hB.out.c1
      have p2 := hB.out.c2
      have m0 := kM.out.1.c0
      have m1 := kM.out.1.c1
      by_cases hin : 0 ≤ o ∧ o < (x.m : Int)
      · have cP := Lib.hid (seen_Of x f A1 d1 cm o W1 hB.out.f kM.out.2 gC (by omega) hw hin.1 hin.2 hsx.out hccl.out)
        have gB : Good f.items.length (withinM x.m cm (wihO cm o x.m)) := by have h := (within_facts gC (wihO cm o x.m)).1; rw [hil]; exact h
        replace gC := Lib.hid gC
        replace hw := Lib.hid hw
        replace hil := Lib.hid hil
        replace hin := Lib.hid hin
        go_wp2_with (rw [← hW1, ← hgm]; clear hW1; replace hgm := Lib.hid hgm)
        refine cP.out.mono ?_; rintro e w6 ⟨k, A2, d2, E1, k1, e1, rfl, hsn, hR, hc2, hL1, hk1, he1, b⟩
        have cQ : Hid (∀ W, FactsAt W x f → RowsAt W A1 x.m cm → Calls Tryz.prog 10 #[.agg #[.slice x.A x.n x.c, .slice x.B x.m x.d, .slice x.C x.k x.e], .agg #[.int .i64 (x.m : Int), .slice A1 x.m d1], .int .i64 o] W (fun e w' => ∃ A n d E ne ce, e = .returned (.tuple #[.agg #[.int .i64 (x.m : Int), .slice A n d], .slice E ne ce, .int .i64 ((k + 1 : Nat) : Int), .int .i64 0]) ∧ RowsAt w' A n (seX f (keptF f.items (pastF f.items o f.items.length)) (withinM x.m cm (wihO cm o x.m)) k) ∧ LAt encE w' E ne (seL f (keptF f.items (pastF f.items o f.items.length)) (withinM x.m cm (wihO cm o x.m)) k) ∧ ne ≤ ce ∧ ce ≤ 9223372036854775807 ∧ Below W.heap.size W w')) := Lib.hid (fun W hW hRW => by
          refine (ref18_Of x f A1 d1 cm o W hW hRW gC.out (by omega) hw.out hin.out.1 hin.out.2).mono ?_
          rintro e w' ⟨k', A3, d3, E2, k2, e2, rfl, hsn', hR', hc3, hL2, hk2, he2, b'⟩
          obtain rfl : k' = k := SeenIs.unique hsn' hsn
          exact ⟨A3, x.m, d3, E2, k2, e2, rfl, hR', hL2, hk2, he2, b'⟩)
        have hd : Hid ((seX f (keptF f.items (pastF f.items o f.items.length)) (withinM x.m cm (wihO cm o x.m)) k).length ≤ 64 ∧ ∀ (q : Nat) (xs : List Nat), (seX f (keptF f.items (pastF f.items o f.items.length)) (withinM x.m cm (wihO cm o x.m)) k)[q]? = some xs → xs.length ≤ 1024) := Lib.hid (by
          have hg := seX_good (kept := keptF f.items (pastF f.items o f.items.length)) gB k
          exact ⟨by rw [hg.len, hil.out]; omega, fun q xs hx => Nat.le_trans (hg.small xs (List.mem_of_getElem? hx)) (by decide)⟩)
        obtain ⟨R, hRe⟩ : ∃ R, R = seX f (keptF f.items (pastF f.items o f.items.length)) (withinM x.m cm (wihO cm o x.m)) k := ⟨_, rfl⟩
        obtain ⟨es, hes⟩ : ∃ l, l = seL f (keptF f.items (pastF f.items o f.items.length)) (withinM x.m cm (wihO cm o x.m)) k := ⟨_, rfl⟩
        obtain ⟨kz, hkz⟩ : ∃ z : Int, z = ((k + 1 : Nat) : Int) := ⟨_, rfl⟩
        rw [← hRe] at hd hR cQ
        rw [← hes] at hL1 cQ
        rw [← hkz] at cQ ⊢
        clear hsn cP gB hRe hes hkz hc2 hMl
        -- behind the first call: its answer N R es kz er; cQ: the second one's
        -- a call's matrix (N A n c x, hR) laid into a variable: W, g; kA : MatK W g ..
        obtain ⟨W2, hW2⟩ : ∃ W, W = World.alloc w6 (.cells #[.int .i64 (x.m : Int), .slice A2 x.m d2] 34) := ⟨_, rfl⟩
        obtain ⟨ga, hga⟩ : ∃ g, g = (World.heap w6).size := ⟨_, rfl⟩
        have bW2 : Below (World.heap w6).size w6 W2 := by rw [hW2]; exact below_alloc _ _
        have kA := Lib.hid (show MatK W2 ga 34 (x.m : Int) A2 x.m d2 R from by rw [hW2, hga]; exact MatK.new w6 _ hR)
        replace hL1 := Lib.hid ((hL1.below bW2))
        replace hB := Lib.hid ((hB.out.later b).later bW2)
        replace kM := Lib.hid ((kM.out.below b).below bW2)
        clear bW2 hR b p0 p1 p2 m0 m1
        have p0 := hB.out.c0
        have p1 := hB.out.c1
        have p2 := hB.out.c2
        have m0 := kM.out.1.c0
        have m1 := kM.out.1.c1
        go_wp2_with (rw [← hW2, ← hga]; clear hW2; replace hga := Lib.hid hga)
        refine (cQ.out W2 hB.out.f kM.out.2).mono ?_; rintro e w7 ⟨A3, n3, d3, E2, k2, e2, rfl, hR, hL2, hk2, he2, b⟩
        have hn3 := Lib.hid hR.len
        -- a call's matrix (N A n c x, hR) laid into a variable: W, g; kC : MatK W g ..
        obtain ⟨W3, hW3⟩ : ∃ W, W = World.alloc w7 (.cells #[.int .i64 (x.m : Int), .slice A3 n3 d3] 34) := ⟨_, rfl⟩
        obtain ⟨gc, hgc⟩ : ∃ g, g = (World.heap w7).size := ⟨_, rfl⟩
        have bW3 : Below (World.heap w7).size w7 W3 := by rw [hW3]; exact below_alloc _ _
        have kC := Lib.hid (show MatK W3 gc 34 (x.m : Int) A3 n3 d3 R from by rw [hW3, hgc]; exact MatK.new w7 _ hR)
        replace hL2 := Lib.hid (hL2.below bW3)
        replace hL1 := Lib.hid ((hL1.out.below b).below bW3)
        replace hB := Lib.hid ((hB.out.later b).later bW3)
        replace kA := Lib.hid ((kA.out.below b).below bW3)
        clear bW3 hR b p0 p1 p2 m0 m1 cQ kM
        go_wp2_with (rw [← hW3, ← hgc]; clear hW3; replace hgc := Lib.hid hgc)
        refine (law18_awake W3).mono ?_; rintro e x1 ⟨rfl, b⟩
        replace hB := Lib.hid (hB.out.later b)
        replace kA := Lib.hid (kA.out.below b)
        replace kC := Lib.hid (kC.out.below b)
        replace hL1 := Lib.hid (hL1.out.below b)
        replace hL2 := Lib.hid (hL2.out.below b)
        clear b
        have m0 := kA.out.1.c0
        have m1 := kA.out.1.c1
        have k0 := kC.out.1.c0
        have k1' := kC.out.1.c1
        have cT := ref3_Equal ((x.m : Int)) ((x.m : Int)) A2 A3 x.m n3 d2 d3 R R x1 kA.out.2 kC.out.2 (by have := hd.out.1; omega) (by have := hd.out.1; have := hn3.out; omega) (fun k xs hx => Nat.le_trans (hd.out.2 k xs hx) (by decide)) (fun k xs hx => Nat.le_trans (hd.out.2 k xs hx) (by decide))
        rw [show equalM ((x.m : Int)) ((x.m : Int)) R R = true from by simp [equalM, sameM]] at cT
        replace cT := Lib.hid cT
        go_wp2_with fail
        refine cT.out.mono ?_; rintro e x2 ⟨rfl, b⟩
        replace hB := Lib.hid (hB.out.later b)
        replace hL1 := Lib.hid (hL1.out.below b)
        replace hL2 := Lib.hid (hL2.out.below b)
        have cU := Lib.hid (ref17_Same E1 E2 k1 e1 k2 e2 es es x2 hL1.out hL2.out (by omega) (by omega))
        have hzz : (kz == kz) = true := by simp
        clear b m0 m1 k0 k1' cT kA kC hL1 hL2
        go_wp2_with fail
        refine cU.out.mono ?_; rintro e x3 ⟨rfl, q3, rfl⟩
        first | rw [show decide (es = es) = true from decide_eq_true rfl] | simp only [decide_true]
        have bb := Lib.hid (below_trans2 hB.out.o (below_drewN (Below.refl x2.heap.size x2) q3))
        go_wp2_with fail
        go_ret
        exact ⟨rfl, bb.out⟩
      · have cP : Hid (Calls Tryz.prog 9 #[.agg #[.slice x.A x.n x.c, .slice x.B x.m x.d, .slice x.C x.k x.e], .agg #[.int .i64 (x.m : Int), .slice A1 x.m d1], .int .i64 o] W1 (fun e w' => ∃ A n d E ne ce, e = .returned (.tuple #[.agg #[.int .i64 0, .slice A n d], .slice E ne ce, .int .i64 0, .int .i64 1]) ∧ RowsAt w' A n [] ∧ LAt encE w' E ne [] ∧ ne ≤ ce ∧ ce ≤ 9223372036854775807 ∧ Below W1.heap.size W1 w')) := Lib.hid (by
          refine (seen_Of_no x f A1 d1 cm o W1 hB.out.f kM.out.2 (by omega)).mono ?_
          rintro e w' ⟨rfl, b'⟩
          exact ⟨none, 0, 0, none, 0, 0, rfl, RowsAt.nil _ _, LAt.nil _ _ _, Nat.le_refl _, by omega, b'⟩)
        have cQ : Hid (∀ W, FactsAt W x f → RowsAt W A1 x.m cm → Calls Tryz.prog 10 #[.agg #[.slice x.A x.n x.c, .slice x.B x.m x.d, .slice x.C x.k x.e], .agg #[.int .i64 (x.m : Int), .slice A1 x.m d1], .int .i64 o] W (fun e w' => ∃ A n d E ne ce, e = .returned (.tuple #[.agg #[.int .i64 0, .slice A n d], .slice E ne ce, .int .i64 0, .int .i64 1]) ∧ RowsAt w' A n [] ∧ LAt encE w' E ne [] ∧ ne ≤ ce ∧ ce ≤ 9223372036854775807 ∧ Below W.heap.size W w')) := Lib.hid (fun W hW hRW => by
          refine (ref18_Of_no x f A1 d1 cm o W hW hRW (by omega)).mono ?_
          rintro e w' ⟨rfl, b'⟩
          exact ⟨none, 0, 0, none, 0, 0, rfl, RowsAt.nil _ _, LAt.nil _ _ _, Nat.le_refl _, by omega, b'⟩)
        have hd : Hid (([] : List (List Nat)).length ≤ 64 ∧ ∀ (q : Nat) (xs : List Nat), ([] : List (List Nat))[q]? = some xs → xs.length ≤ 1024) := Lib.hid ⟨by simp, fun q xs hx => by simp at hx⟩
        replace gC := Lib.hid gC
        replace hw := Lib.hid hw
        replace hil := Lib.hid hil
        replace hin := Lib.hid hin
        go_wp2_with (rw [← hW1, ← hgm]; clear hW1; replace hgm := Lib.hid hgm)
        refine cP.out.mono ?_; rintro e w6 ⟨A2, n2, d2, E1, k1, e1, rfl, hR, hL1, hk1, he1, b⟩
        obtain rfl : n2 = 0 := by rw [← hR.len]; rfl
        clear cP
        -- behind the first call: its answer N R es kz er; cQ: the second one's
        -- a call's matrix (N A n c x, hR) laid into a variable: W, g; kA : MatK W g ..
        obtain ⟨W2, hW2⟩ : ∃ W, W = World.alloc w6 (.cells #[.int .i64 0, .slice A2 0 d2] 34) := ⟨_, rfl⟩
        obtain ⟨ga, hga⟩ : ∃ g, g = (World.heap w6).size := ⟨_, rfl⟩
        have bW2 : Below (World.heap w6).size w6 W2 := by rw [hW2]; exact below_alloc _ _
        have kA := Lib.hid (show MatK W2 ga 34 0 A2 0 d2 [] from by rw [hW2, hga]; exact MatK.new w6 _ hR)
        replace hL1 := Lib.hid ((hL1.below bW2))
        replace hB := Lib.hid ((hB.out.later b).later bW2)
        replace kM := Lib.hid ((kM.out.below b).below bW2)
        clear bW2 hR b p0 p1 p2 m0 m1
        have p0 := hB.out.c0
        have p1 := hB.out.c1
        have p2 := hB.out.c2
        have m0 := kM.out.1.c0
        have m1 := kM.out.1.c1
        go_wp2_with (rw [← hW2, ← hga]; clear hW2; replace hga := Lib.hid hga)
        refine (cQ.out W2 hB.out.f kM.out.2).mono ?_; rintro e w7 ⟨A3, n3, d3, E2, k2, e2, rfl, hR, hL2, hk2, he2, b⟩
        have hn3 := Lib.hid hR.len
        -- a call's matrix (N A n c x, hR) laid into a variable: W, g; kC : MatK W g ..
        obtain ⟨W3, hW3⟩ : ∃ W, W = World.alloc w7 (.cells #[.int .i64 0, .slice A3 n3 d3] 34) := ⟨_, rfl⟩
        obtain ⟨gc, hgc⟩ : ∃ g, g = (World.heap w7).size := ⟨_, rfl⟩
        have bW3 : Below (World.heap w7).size w7 W3 := by rw [hW3]; exact below_alloc _ _
        have kC := Lib.hid (show MatK W3 gc 34 0 A3 n3 d3 [] from by rw [hW3, hgc]; exact MatK.new w7 _ hR)
        replace hL2 := Lib.hid (hL2.below bW3)
        replace hL1 := Lib.hid ((hL1.out.below b).below bW3)
        replace hB := Lib.hid ((hB.out.later b).later bW3)
        replace kA := Lib.hid ((kA.out.below b).below bW3)
        clear bW3 hR b p0 p1 p2 m0 m1 cQ kM
        go_wp2_with (rw [← hW3, ← hgc]; clear hW3; replace hgc := Lib.hid hgc)
        refine (law18_awake W3).mono ?_; rintro e x1 ⟨rfl, b⟩
        replace hB := Lib.hid (hB.out.later b)
        replace kA := Lib.hid (kA.out.below b)
        replace kC := Lib.hid (kC.out.below b)
        replace hL1 := Lib.hid (hL1.out.below b)
        replace hL2 := Lib.hid (hL2.out.below b)
        clear b
        have m0 := kA.out.1.c0
        have m1 := kA.out.1.c1
        have k0 := kC.out.1.c0
        have k1' := kC.out.1.c1
        have cT := ref3_Equal 0 0 A2 A3 0 n3 d2 d3 [] [] x1 kA.out.2 kC.out.2 (by have := hd.out.1; omega) (by have := hd.out.1; have := hn3.out; omega) (fun k xs hx => Nat.le_trans (hd.out.2 k xs hx) (by decide)) (fun k xs hx => Nat.le_trans (hd.out.2 k xs hx) (by decide))
        rw [show equalM 0 0 [] [] = true from by simp [equalM, sameM]] at cT
        replace cT := Lib.hid cT
        go_wp2_with fail
        refine cT.out.mono ?_; rintro e x2 ⟨rfl, b⟩
        replace hB := Lib.hid (hB.out.later b)
        replace hL1 := Lib.hid (hL1.out.below b)
        replace hL2 := Lib.hid (hL2.out.below b)
        have cU := Lib.hid (ref17_Same E1 E2 k1 e1 k2 e2 [] [] x2 hL1.out hL2.out (by omega) (by omega))
        have hzz : ((0:Int) == (0:Int)) = true := by simp
        clear b m0 m1 k0 k1' cT kA kC hL1 hL2
        go_wp2_with fail
        refine cU.out.mono ?_; rintro e x3 ⟨rfl, q3, rfl⟩
        first | rw [show decide ([] = []) = true from decide_eq_true rfl] | simp only [decide_true]
        have bb := Lib.hid (below_trans2 hB.out.o (below_drewN (Below.refl x2.heap.size x2) q3))
        go_wp2_with fail
        go_ret
        exact ⟨rfl, bb.out⟩
end Go.Proofs.YtbeigdbljepfkaaGreat

namespace Go.Proofs.YtbeigdbljepfkaaGreat
open Go.RowKit Go.ChangeShapes Go.WideShapes Go.Deep
set_option linter.unusedVariables false

theorem bulk_append {H : Type} (l r : List (DataW H)) : Rows.uptoBulkAll (l ++ r) = Rows.uptoBulkAll l + Rows.uptoBulkAll r := by
  induction l with
  | nil => simp [Rows.uptoBulkAll]
  | cons x l ih => rw [List.cons_append, Rows.uptoBulkAll, Rows.uptoBulkAll, ih]; omega
theorem bulk_pos {H : Type} (d : DataW H) : 1 ≤ Rows.uptoBulk d := by
  cases d with
  | lit l => cases l <;> simp [Rows.uptoBulk]
  | nil => simp [Rows.uptoBulk]
  | ptr d => simp [Rows.uptoBulk]
  | slice elems spare => simp [Rows.uptoBulk]
  | agg parts => simp [Rows.uptoBulk]
  | iface t d => simp [Rows.uptoBulk]
  | map entries => simp [Rows.uptoBulk]
  | held h => simp [Rows.uptoBulk]
theorem bulk_len {H : Type} (l : List (DataW H)) : l.length ≤ Rows.uptoBulkAll l := by
  induction l with
  | nil => simp
  | cons x r ih => have := bulk_pos x; rw [Rows.uptoBulkAll, List.length_cons]; omega
theorem bulk_slice {H : Type} (a b : List (DataW H)) : Rows.uptoBulk (.slice a b) = Rows.uptoBulkAll a + Rows.uptoBulkAll b + 1 := by rw [Rows.uptoBulk]
theorem addr_plus (b off j : Nat) : (⟨b, off, none⟩ : Addr).add j = ⟨b, off + j, none⟩ := by unfold Addr.add; split <;> simp_all

section
variable {H : Type} {enc : TypeId × Value → H} {P : Program} {w : World} {base : Nat} {held : Bool}
theorem open_ops {t e : TypeId} {f0 f1 f2 : Field} {fuel : Nat} {A : Option Addr} {len cap : Nat} {x : DataW H × List MemPlace} (ht : P.underlying t = some (.slice e)) (he : P.underlying e = some (.struct #[f0, f1, f2])) (ce : P.cellsOf e = 3)
    (o0 : f0.offset = 0) (o1 : f1.offset = 1) (o2 : f2.offset = 2) (k0 : P.cellsOf f0.type = 1) (k1 : P.cellsOf f1.type = 1) (k2 : P.cellsOf f2.type = 1)
    (u0 : P.underlying f0.type = some .bool) (u1 : P.underlying f1.type = some .string) (u2 : P.underlying f2.type = some (.int .i64))
    (h : DataW.trod enc P w base (fun _ => true) held fuel t [.slice A len cap] = some x) : ∃ os, OpsAt w A len os ∧ len ≤ cap ∧ cap ≤ 9223372036854775807 ∧ cap ≤ Rows.uptoBulk x.1 := by
  rcases open_slice ht h with ⟨hcs, hx⟩ | ⟨⟨b, off, spot⟩, l, c, m, n, D, Pl, hcs, hb, hl, hm, hmm, hx, hel⟩
  · injection hcs with hcs
    injection hcs with h1 h2 h3
    subst h1 h2 h3
    exact ⟨[], OpsAt.nil _ _, by omega, by omega, by omega⟩
  · injection hcs with hcs
    injection hcs with h1 h2 h3
    subst h1 h2 h3
    rw [if_pos rfl] at hmm
    subst hmm
    have hbulk : m ≤ Rows.uptoBulk x.1 := by
      rw [hx, bulk_slice]
      have := bulk_len ((List.range len).map D)
      have := bulk_len ((List.range (m - len)).map fun j => D (len + j))
      simp only [List.length_map, List.length_range] at *
      omega
    have hmm : m ≤ 9223372036854775807 := by unfold maxLen at hm; omega
    have hat : ∀ k, k < len → ∃ o : OpT, ((-9223372036854775808 ≤ o.2.2 ∧ o.2.2 < 9223372036854775808) ∧ o.2.1.size ≤ 9223372036854775807) ∧
        w.cell? ((⟨b, off, spot⟩ : Addr).add (k * 3)) = some (.bool o.1) ∧ w.cell? (((⟨b, off, spot⟩ : Addr).add (k * 3)).add 1) = some (.string o.2.1) ∧ w.cell? (((⟨b, off, spot⟩ : Addr).add (k * 3)).add 2) = some (.int .i64 o.2.2) := by
      intro k hk
      obtain ⟨cs', hc, ht'⟩ := hel k (by omega)
      rw [ce] at hc
      obtain ⟨_, hcl, hcat⟩ := World.cells?_some hc
      obtain ⟨xs, m', _, _, _, hxl, hf⟩ := DataW.trod_struct he ht'
      match cs', hcl with
      | [p, q, r], _ =>
        match xs, hxl with
        | [y0, y1, y2], _ =>
          have f0' := hf 0 f0 rfl
          have f1' := hf 1 f1 rfl
          have f2' := hf 2 f2 rfl
          rw [o0, k0] at f0'
          rw [o1, k1] at f1'
          rw [o2, k2] at f2'
          simp at f0' f1' f2'
          obtain ⟨bv, e0, _⟩ := DataW.trod_bool u0 f0'
          obtain ⟨sv, e1, _, ws⟩ := DataW.trod_string u1 f1'
          obtain ⟨iv, e2, _, wi⟩ := DataW.trod_int u2 f2'
          injection e0 with e0
          injection e1 with e1
          injection e2 with e2
          subst e0; subst e1; subst e2
          have c0 := hcat 0 (by omega)
          have c1 := hcat 1 (by omega)
          have c2 := hcat 2 (by omega)
          have hz : ∀ a : Addr, a.add 0 = a := fun a => by obtain ⟨b, o, s⟩ := a; unfold Addr.add; split <;> simp_all
          rw [hz] at c0
          have hb := bounds_i64 wi
          exact ⟨(bv, sv, iv), ⟨⟨hb.1, by have := hb.2; show iv < _; omega⟩, by unfold maxLen at ws; exact ws⟩, by simpa using c0, by simpa using c1, by simpa using c2⟩
    by_cases h0 : len = 0
    · subst h0
      exact ⟨[], OpsAt.nil _ _, by omega, hmm, hbulk⟩
    · obtain ⟨_, _, hc0, _, _⟩ := hat 0 (by omega)
      have hspot : spot = none := by
        have h := World.cell?_spot hc0
        cases spot with
        | none => rfl
        | some s => unfold Addr.add at h; simp at h
      subst hspot
      have hblt : b < w.heap.size := by
        have := World.block_lt_of_cell? w _ hc0
        rwa [addr_plus] at this
      have hall : ∀ k, k ≤ len → ∃ os : List OpT, os.length = k ∧ OkO os ∧ ∀ (j : Nat) (u : Value), (cellsO os)[j]? = some u → w.cell? ⟨b, off + j, none⟩ = some u := by
        intro k
        induction k with
        | zero => exact fun _ => ⟨[], rfl, fun o h => by simp at h, fun j u h => by simp [cellsO] at h⟩
        | succ k ih =>
          intro hk
          obtain ⟨os, p1, p2, p3⟩ := ih (by omega)
          obtain ⟨o, hok, c0, c1, c2⟩ := hat k (by omega)
          rw [addr_plus] at c0 c1 c2
          rw [addr_plus] at c1 c2
          refine ⟨os ++ [o], by simp [p1], okO_append p2 (fun o' h => by rw [List.mem_singleton.1 h]; exact hok), fun j u hj => ?_⟩
          rw [cellsO_append] at hj
          rcases Nat.lt_or_ge j (cellsO os).length with hlt | hge
          · rw [List.getElem?_append_left hlt] at hj; exact p3 j u hj
          · rw [List.getElem?_append_right hge] at hj
            have hlk : (cellsO os).length = k * 3 := by rw [cellsO_len, p1]
            obtain ⟨r, rfl⟩ : ∃ r, j = k * 3 + r := ⟨j - k * 3, by omega⟩
            rw [hlk, Nat.add_sub_cancel_left] at hj
            match r, hj with
            | 0, hj =>
              have : u = .bool o.1 := by simpa [cellsO] using hj.symm
              rw [this]; exact c0
            | 1, hj =>
              have : u = .string o.2.1 := by simpa [cellsO] using hj.symm
              rw [this, ← Nat.add_assoc]; exact c1
            | 2, hj =>
              have : u = .int .i64 o.2.2 := by simpa [cellsO] using hj.symm
              rw [this, ← Nat.add_assoc]; exact c2
            | r + 3, hj => simp [cellsO] at hj
      obtain ⟨os, p1, p2, p3⟩ := hall len (Nat.le_refl _)
      exact ⟨os, ⟨p1, p2, fun _ => ⟨b, off, rfl, hblt, p3⟩⟩, hl, hmm, hbulk⟩
theorem open_hist {th t e : TypeId} {f0 f1 f2 : Field} {fuel : Nat} {v : Value} {x : DataW H × List MemPlace} (hth : P.underlying th = some (.slice t)) (ct : P.cellsOf t = 1) (ht : P.underlying t = some (.slice e)) (he : P.underlying e = some (.struct #[f0, f1, f2])) (ce : P.cellsOf e = 3)
    (o0 : f0.offset = 0) (o1 : f1.offset = 1) (o2 : f2.offset = 2) (k0 : P.cellsOf f0.type = 1) (k1 : P.cellsOf f1.type = 1) (k2 : P.cellsOf f2.type = 1)
    (u0 : P.underlying f0.type = some .bool) (u1 : P.underlying f1.type = some .string) (u2 : P.underlying f2.type = some (.int .i64))
    (h : DataW.trod enc P w base (fun _ => true) held fuel th [v] = some x) : ∃ A len cap hs, v = .slice A len cap ∧ HistAt w A len hs ∧ len ≤ cap ∧ cap ≤ 9223372036854775807 ∧ cap ≤ Rows.uptoBulk x.1 ∧ (allO hs).length ≤ Rows.uptoBulk x.1 := by
  rcases open_slice1 hth ct h with ⟨hcs, hx⟩ | ⟨⟨b, off, spot⟩, len, cap, m, n, V, D, Pl, hcs, hb, hl, hm, hmm, hx, hel⟩
  · injection hcs with hcs
    exact ⟨none, 0, 0, [], hcs, HistAt.nil _ _, by omega, by omega, by omega, by simp [allO]⟩
  · injection hcs with hcs
    rw [if_pos rfl] at hmm
    subst hmm
    have hmm : m ≤ 9223372036854775807 := by unfold maxLen at hm; omega
    have hbulk : m ≤ Rows.uptoBulk x.1 ∧ Rows.uptoBulkAll ((List.range len).map D) ≤ Rows.uptoBulk x.1 := by
      rw [hx, bulk_slice]
      have := bulk_len ((List.range len).map D)
      have := bulk_len ((List.range (m - len)).map fun j => D (len + j))
      simp only [List.length_map, List.length_range] at *
      omega
    have hat : ∀ k, k < len → ∃ os, SessV w (V k) os ∧ os.length ≤ Rows.uptoBulk (D k) := by
      intro k hk
      obtain ⟨_, hk2⟩ := hel k (by omega)
      obtain ⟨A', n', c', e'⟩ : ∃ A' n' c', V k = .slice A' n' c' := by
        rcases open_slice ht hk2 with ⟨hcs, _⟩ | ⟨a, l, c, m, n, D, Pl, hcs, _⟩
        · injection hcs with hcs; exact ⟨_, _, _, hcs⟩
        · injection hcs with hcs; exact ⟨_, _, _, hcs⟩
      rw [e'] at hk2
      obtain ⟨os, h1, h2, h3, h4⟩ := open_ops ht he ce o0 o1 o2 k0 k1 k2 u0 u1 u2 hk2
      exact ⟨os, ⟨A', n', c', e', h2, by omega, h1⟩, by rw [h1.len]; exact Nat.le_trans h2 h4⟩
    by_cases h0 : len = 0
    · subst h0
      exact ⟨_, 0, m, [], hcs, HistAt.nil _ _, by omega, hmm, hbulk.1, by simp [allO]⟩
    · have hc0 := (hel 0 (by omega)).1
      have hspot : spot = none := by
        have h := World.cell?_spot hc0
        cases spot with
        | none => rfl
        | some s => unfold Addr.add at h; simp at h
      subst hspot
      have hblt : b < w.heap.size := by
        have := World.block_lt_of_cell? w _ hc0
        rwa [addr_plus] at this
      have hall : ∀ k, k ≤ len → ∃ hs : List (List OpT), hs.length = k ∧ (∀ (i : Nat) (v : Value) (os : List OpT), ((List.range k).map V)[i]? = some v → hs[i]? = some os → SessV w v os) ∧ (allO hs).length ≤ Rows.uptoBulkAll ((List.range k).map D) := by
        intro k
        induction k with
        | zero => exact fun _ => ⟨[], rfl, fun i v os h => by simp at h, by simp [allO]⟩
        | succ k ih =>
          intro hk
          obtain ⟨hs, p1, p2, p3⟩ := ih (by omega)
          obtain ⟨os, q1, q2⟩ := hat k (by omega)
          refine ⟨hs ++ [os], by simp [p1], fun i v o hv ho => ?_, ?_⟩
          · rw [List.range_succ, List.map_append] at hv
            rcases Nat.lt_or_ge i k with hlt | hge
            · rw [List.getElem?_append_left (by simpa using hlt)] at hv
              rw [List.getElem?_append_left (by omega)] at ho
              exact p2 i v o hv ho
            · rw [List.getElem?_append_right (by simpa using hge)] at hv
              rw [List.getElem?_append_right (by omega)] at ho
              have hv' := List.mem_of_getElem? hv
              have ho' := List.mem_of_getElem? ho
              simp at hv' ho'
              subst hv'; subst ho'
              exact q1
          · rw [allO_append, List.range_succ, List.map_append, bulk_append, List.length_append]
            have e1 : (allO [os]).length = os.length := by simp [allO]
            have e2 : Rows.uptoBulkAll (List.map D [k]) = Rows.uptoBulk (D k) := by simp [Rows.uptoBulkAll]
            omega
      obtain ⟨hs, p1, p2, p3⟩ := hall len (Nat.le_refl _)
      refine ⟨_, len, m, hs, hcs, ⟨(List.range len).map V, ⟨by simp, fun _ => ⟨b, off, rfl, hblt, fun j u hu => ?_⟩⟩, by simp [p1], p2⟩, hl, hmm, hbulk.1, by omega⟩
      have hj : j < len := by have := (List.getElem?_eq_some_iff.1 hu).1; simpa using this
      rw [List.getElem?_map, List.getElem?_range hj, Option.map_some] at hu
      have h1 := (hel j (by omega)).1
      rw [addr_plus] at h1
      rw [h1]; exact hu
end
end Go.Proofs.YtbeigdbljepfkaaGreat
