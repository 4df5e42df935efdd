/- Layer 19's example, walked. Layer 19's law BadLevels, walked (where what comes in is of no more than 2^40 operations). Arguments opened: a history (a slice of slices of operations), and what the bound of an '..Upto' statement says of it. -/
import Derived.Test.YtjhjojklfdjmdaaGreatBadLevelsPk17
import Derived.Test.YtjhjojklfdjmdaaGreatBadLevelsPk12
import Derived.Test.YtjhjojklfdjmdaaGreatBadLevelsPk5
import Derived.BigQuiet
import Derived.Test.YtjhjojklfdjmdaaGreatRows
import Derived.Test.YtjhjojklfdjmdaaGreatBadLevelsPk1
import Derived.Deep.Slices
import Derived.OpenShut
import Derived.ChangeArms
import Derived.WalkKit
import Derived.ProofKit
namespace Go.Proofs.YtjhjojklfdjmdaaGreat
open Go.RowKit
set_option linter.unusedVariables false
set_option maxRecDepth 100000 in
set_option maxHeartbeats 4000000 in
theorem law19_awake (w : World) : Calls Tryz.prog 7 #[] w (RetBool true w) := by
  -- a history of one read of the value 1 (ex19A) in the world w: its facts in $V at $g ($h : FBox w $g x $F $V)
  obtain ⟨Z1, hZ1⟩ : ∃ W, W = World.alloc w (.cells #[.bool false, .string ⟨#[120]⟩, .int .i64 1] 49) := ⟨_, rfl⟩
  obtain ⟨a1, ha1⟩ : ∃ g, g = (World.heap w).size := ⟨_, rfl⟩
  obtain ⟨Z2, hZ2⟩ : ∃ W, W = World.alloc Z1 (.cells #[.slice (some ⟨a1, 0, none⟩) 1 1] 46) := ⟨_, rfl⟩
  obtain ⟨a2, ha2⟩ : ∃ g, g = (World.heap Z1).size := ⟨_, rfl⟩
  have b1 : Below (World.heap w).size w Z1 := by rw [hZ1]; exact below_alloc _ _
  have b2 : Below (World.heap Z1).size Z1 Z2 := by rw [hZ2]; exact below_alloc _ _
  have hH : HistAt Z2 (some ⟨a2, 0, none⟩) 1 [ex19A] := by
    have h1 : Blk Z1 a1 49 (cellsO ex19A) := by rw [hZ1, ha1]; exact Blk.new _ _ _
    have h2 : Blk Z2 a2 46 [.slice (some ⟨a1, 0, none⟩) 1 1] := by rw [hZ2, ha2]; exact Blk.new Z1 _ _
    exact HistAt.one h2 (OpsAt.of_blk (h1.below b2 h1.lt) ok19A rfl) (by omega) (by omega)
  have c1 := Lib.hid (ref11_Of _ 1 1 [ex19A] Z2 hH (by omega) (by decide))
  have bZ := Lib.hid (below_trans2 b1 b2)
  clear hH b1 b2
  go_enter Tryz.func7, Tryz.ntmps7
  go_wp2_with (first | (rw [← hZ1, ← ha1]; clear hZ1; replace ha1 := Lib.hid ha1) | (rw [← hZ2, ← ha2]; clear hZ2; replace ha2 := Lib.hid ha2))
  refine c1.out.mono ?_; rintro e w3 ⟨x, rfl, hG, b3⟩
  replace hG := hG ex19a_facts.1
  rw [ex19a_facts.2] at hG
  rw [ex19a_facts.1]
  have hxm : x.m = 1 := by rw [← hG.is.len]; rfl
  obtain ⟨V1, hV1⟩ : ∃ W, W = World.alloc w3 (.cells #[.slice x.A x.n x.c, .slice x.B x.m x.d, .slice x.C x.k x.e] 29) := ⟨_, rfl⟩
  obtain ⟨g1, hg1⟩ : ∃ g, g = (World.heap w3).size := ⟨_, rfl⟩
  have bb3 := below_trans2 bZ.out b3
  have hB := Lib.hid ((FBox.new hG).from_ bb3)
  rw [← hV1, ← hg1] at hB
  have cF := fun W hW => bad_Find x fa19 1 W hW (by omega) ex19a_whole (seenX_hist hW ex19a_facts.2.symm (by omega))
  rw [ex19a_find.1, ex19a_find.2] at cF
  replace cF := Lib.hid (fun W hW => (cF W hW).mono (R' := fun e w' => e = .returned (.tuple #[.agg #[.int .i64 1, .int .i64 0, .int .i64 (-1), .int .i64 (-1), .int .i64 (-1), .slice none 0 0, .int .i64 (-1), .int .i64 (-1)], .int .i64 0]) ∧ Below W.heap.size W w') (fun e w' ⟨y, hy, he, hb⟩ => by subst hy; exact ⟨he, hb⟩))
  replace hxm := Lib.hid hxm
  clear b3 c1 hG bZ bb3
  have p0 := hB.out.c0
  have p1 := hB.out.c1
  have p2 := hB.out.c2
  go_wp2_with (rw [← hV1, ← hg1]; clear hV1; replace hg1 := Lib.hid hg1)
  refine (cF.out V1 hB.out.f).mono ?_; rintro e w4 ⟨rfl, b⟩
  -- a pattern $y laid into a variable behind w4: W5, ga, kA
  obtain ⟨W5, hW5⟩ : ∃ W, W = World.alloc w4 (.cells #[.int .i64 1, .int .i64 0, .int .i64 (-1), .int .i64 (-1), .int .i64 (-1), .slice none 0 0, .int .i64 (-1), .int .i64 (-1)] 34) := ⟨_, rfl⟩
  obtain ⟨ga, hga⟩ : ∃ g, g = (World.heap w4).size := ⟨_, rfl⟩
  have bW5 : Below (World.heap w4).size w4 W5 := by rw [hW5]; exact below_alloc _ _
  have kA := Lib.hid (show Blk W5 ga 34 [.int .i64 1, .int .i64 0, .int .i64 (-1), .int .i64 (-1), .int .i64 (-1), .slice none 0 0, .int .i64 (-1), .int .i64 (-1)] from by rw [hW5, hga]; exact Blk.new w4 _ _)
  have hO := Lib.hid (below_trans2 (below_trans2 hB.out.o b) bW5)
  clear p0 p1 p2 b bW5 hB cF hxm
  -- a history of one read of the value 0 (ex19B) in the world W5: its facts in $V at $g ($h : FBox w $g x $F $V)
  obtain ⟨Z1, hZ1⟩ : ∃ W, W = World.alloc W5 (.cells #[.bool false, .string ⟨#[120]⟩, .int .i64 0] 49) := ⟨_, rfl⟩
  obtain ⟨a1, ha1⟩ : ∃ g, g = (World.heap W5).size := ⟨_, rfl⟩
  obtain ⟨Z2, hZ2⟩ : ∃ W, W = World.alloc Z1 (.cells #[.slice (some ⟨a1, 0, none⟩) 1 1] 46) := ⟨_, rfl⟩
  obtain ⟨a2, ha2⟩ : ∃ g, g = (World.heap Z1).size := ⟨_, rfl⟩
  have b1 : Below (World.heap W5).size W5 Z1 := by rw [hZ1]; exact below_alloc _ _
  have b2 : Below (World.heap Z1).size Z1 Z2 := by rw [hZ2]; exact below_alloc _ _
  have hH : HistAt Z2 (some ⟨a2, 0, none⟩) 1 [ex19B] := by
    have h1 : Blk Z1 a1 49 (cellsO ex19B) := by rw [hZ1, ha1]; exact Blk.new _ _ _
    have h2 : Blk Z2 a2 46 [.slice (some ⟨a1, 0, none⟩) 1 1] := by rw [hZ2, ha2]; exact Blk.new Z1 _ _
    exact HistAt.one h2 (OpsAt.of_blk (h1.below b2 h1.lt) ok19B rfl) (by omega) (by omega)
  have c1 := Lib.hid (ref11_Of _ 1 1 [ex19B] Z2 hH (by omega) (by decide))
  have bZ := Lib.hid (below_trans2 b1 b2)
  clear hH b1 b2
  go_wp2_with (first | (rw [← hW5, ← hga]; clear hW5; replace hga := Lib.hid hga) | (rw [← hZ1, ← ha1]; clear hZ1; replace ha1 := Lib.hid ha1) | (rw [← hZ2, ← ha2]; clear hZ2; replace ha2 := Lib.hid ha2))
  refine c1.out.mono ?_; rintro e w3 ⟨z, rfl, hG, b3⟩
  replace hG := hG ex19b_facts.1
  rw [ex19b_facts.2] at hG
  rw [ex19b_facts.1]
  have hxm : z.m = 1 := by rw [← hG.is.len]; rfl
  obtain ⟨V2, hV2⟩ : ∃ W, W = World.alloc w3 (.cells #[.slice z.A z.n z.c, .slice z.B z.m z.d, .slice z.C z.k z.e] 29) := ⟨_, rfl⟩
  obtain ⟨g2, hg2⟩ : ∃ g, g = (World.heap w3).size := ⟨_, rfl⟩
  have bb3 := below_trans2 bZ.out b3
  have hB := Lib.hid ((FBox.new hG).from_ (below_trans2 hO.out bb3))
  rw [← hV2, ← hg2] at hB
  have hBA : Below W5.heap.size W5 V2 := by rw [hV2]; exact below_trans2 bb3 (below_alloc _ _)
  replace kA := Lib.hid (kA.out.below hBA kA.out.lt)
  have cF := fun W hW => bad_Find z fb19 3 W hW (by omega) ex19b_whole (seenX_hist hW ex19b_facts.2.symm (by omega))
  have cG := fun W hW => bad_Find z fb19 0 W hW (by omega) ex19b_whole (seenX_hist hW ex19b_facts.2.symm (by omega))
  rw [ex19b_find.1, ex19b_find.2.1] at cF
  rw [ex19b_find.2.2.1, ex19b_find.2.2.2] at cG
  replace cF := Lib.hid cF
  replace cG := Lib.hid cG
  replace hxm := Lib.hid hxm
  clear b3 c1 hG bZ bb3 hO hBA
  have p0 := hB.out.c0
  have p1 := hB.out.c1
  have p2 := hB.out.c2
  go_wp2_with (rw [← hV2, ← hg2]; clear hV2; replace hg2 := Lib.hid hg2)
  refine (cF.out V2 hB.out.f).mono ?_; rintro e w6 ⟨y, hy, rfl, b⟩
  replace hy := Lib.hid True.intro
  -- a pattern $y laid into a variable behind w6: W7, gb, kB
  obtain ⟨W7, hW7⟩ : ∃ W, W = World.alloc w6 (.cells #[.int .i64 y.ki, .int .i64 y.r, .int .i64 y.w1, .int .i64 y.w2, .int .i64 y.o, .slice none 0 0, .int .i64 y.fi, .int .i64 y.se] 34) := ⟨_, rfl⟩
  obtain ⟨gb, hgb⟩ : ∃ g, g = (World.heap w6).size := ⟨_, rfl⟩
  have bW7 : Below (World.heap w6).size w6 W7 := by rw [hW7]; exact below_alloc _ _
  have kB := Lib.hid (show Blk W7 gb 34 [.int .i64 y.ki, .int .i64 y.r, .int .i64 y.w1, .int .i64 y.w2, .int .i64 y.o, .slice none 0 0, .int .i64 y.fi, .int .i64 y.se] from by rw [hW7, hgb]; exact Blk.new w6 _ _)
  replace hB := Lib.hid ((hB.out.later b).later bW7)
  replace kA := Lib.hid ((kA.out.below b kA.out.lt).below bW7 (kA.out.below b kA.out.lt).lt)
  clear p0 p1 p2 b bW7 cF
  have p0 := hB.out.c0
  have p1 := hB.out.c1
  have p2 := hB.out.c2
  go_wp2_with (rw [← hW7, ← hgb]; clear hW7; replace hgb := Lib.hid hgb)
  refine (cG.out W7 hB.out.f).mono ?_; rintro e w8 ⟨y2, hy2, rfl, b⟩
  replace hy2 := Lib.hid True.intro
  -- a pattern $y laid into a variable behind w8: W9, gc, kC
  obtain ⟨W9, hW9⟩ : ∃ W, W = World.alloc w8 (.cells #[.int .i64 y2.ki, .int .i64 y2.r, .int .i64 y2.w1, .int .i64 y2.w2, .int .i64 y2.o, .slice none 0 0, .int .i64 y2.fi, .int .i64 y2.se] 34) := ⟨_, rfl⟩
  obtain ⟨gc, hgc⟩ : ∃ g, g = (World.heap w8).size := ⟨_, rfl⟩
  have bW9 : Below (World.heap w8).size w8 W9 := by rw [hW9]; exact below_alloc _ _
  have kC := Lib.hid (show Blk W9 gc 34 [.int .i64 y2.ki, .int .i64 y2.r, .int .i64 y2.w1, .int .i64 y2.w2, .int .i64 y2.o, .slice none 0 0, .int .i64 y2.fi, .int .i64 y2.se] from by rw [hW9, hgc]; exact Blk.new w8 _ _)
  replace hB := Lib.hid ((hB.out.later b).later bW9)
  replace kA := Lib.hid ((kA.out.below b kA.out.lt).below bW9 (kA.out.below b kA.out.lt).lt)
  clear p0 p1 p2 b bW9 cG
  -- the cells of a pattern's variable: kA.out : Blk W g Witness [8 cells]: a0 .. a7 (and $f0 .. : not frozen)
  have z0a := Blk.cell kA.out 0
  have z1a := Blk.cell kA.out 1
  have z2a := Blk.cell kA.out 2
  have z3a := Blk.cell kA.out 3
  have z4a := Blk.cell kA.out 4
  have z5a := Blk.cell kA.out 5
  have z6a := Blk.cell kA.out 6
  have z7a := Blk.cell kA.out 7
  simp only [List.getElem?_cons_zero, List.getElem?_cons_succ] at z0a z1a z2a z3a z4a z5a z6a z7a
  go_wp2_with (rw [← hW9, ← hgc]; clear hW9; replace hgc := Lib.hid hgc)
  go_ret
  exact ⟨rfl, hB.out.o⟩
end Go.Proofs.YtjhjojklfdjmdaaGreat

namespace Go.Proofs.YtjhjojklfdjmdaaGreat
open Go.RowKit
set_option linter.unusedVariables false
set_option maxRecDepth 100000 in
set_option maxHeartbeats 4000000 in
theorem law19_BadLevels (A : Option Addr) (n c : Nat) (hs : List (List OpT)) (w : World) (hX : HistAt w A n hs) (hnc : n ≤ c) (hc : c ≤ 1099511627776) (hF : (allO hs).length ≤ 1099511627776) :
    Calls Tryz.prog 4 #[.slice A n c] w (RetBool true w) := by
  -- a law of one history hs (at A n c) that guards itself by Small 12, then asks for whole facts: walked to where they lie (hB : FBox w g x f V, V not yet named: hV, hg); f's hf, hw, hm30
  have hXl := Lib.hid hX.len
  have cS := Lib.hid (ref6_Small A n c 12 hs w hX (by omega) (by omega))
  replace hX := Lib.hid hX
  cases hsa : smallL hs 12 with
  | false =>
    rw [hsa] at cS
    clear hsa
    go_enter Tryz.func4, Tryz.ntmps4
    go_wp2_with fail
    refine cS.out.mono ?_; rintro e w1 ⟨rfl, b1⟩
    go_wp2_with fail
    refine (law19_awake w1).mono ?_; rintro e w9 ⟨rfl, b9⟩
    go_wp2_with fail
    go_ret
    exact ⟨rfl, below_trans2 b1 b9⟩
  | true =>
    rw [hsa] at cS
    obtain ⟨hnx, hFx, hnm8⟩ := smallL_says hsa
    rw [hXl.out] at hnx
    replace hnm8 := Lib.hid hnm8
    clear hsa
    go_enter Tryz.func4, Tryz.ntmps4
    go_wp2_with fail
    refine cS.out.mono ?_; rintro e w1 ⟨rfl, b1⟩
    replace hX := Lib.hid (hX.out.below b1)
    have c1 := Lib.hid (ref11_Of A n c hs w1 hX.out (by omega) (by omega))
    go_wp2_with fail
    refine c1.out.mono ?_; rintro e w3 ⟨x, rfl, hG, b3⟩
    obtain ⟨V, hV⟩ : ∃ W, W = w3.alloc (.cells #[.slice x.A x.n x.c, .slice x.B x.m x.d, .slice x.C x.k x.e] 29) := ⟨_, rfl⟩
    obtain ⟨g, hg⟩ : ∃ g, g = w3.heap.size := ⟨_, rfl⟩
    have bV : Below w3.heap.size w3 V := by rw [hV]; exact (Below.refl _ _).alloc (Nat.le_refl _) _
    cases hok : okO11 hs with
    | false =>
      have bb := Lib.hid (below_trans2 (below_trans2 b1 b3) bV)
      clear hG b1 b3 bV hok c1 cS
      go_wp2_with (rw [← hV, ← hg]; clear hV; replace hg := Lib.hid hg)
      refine (law19_awake V).mono ?_; rintro e w9 ⟨rfl, b9⟩
      go_wp2_with fail
      go_ret
      exact ⟨rfl, below_trans2 bb.out b9⟩
    | true =>
      obtain ⟨f, hf⟩ : ∃ f : Fac, f = fillF (facO hs) := ⟨_, rfl⟩
      have hGf := hG hok
      rw [← hf] at hGf
      have hw : WholeF f := by rw [hf]; exact fillF_whole _
      have hff : f.frm = fromF f.items := by rw [hf]; rfl
      have hm30 : x.m ≤ 12 := by
        rw [← hGf.is.len, hf]
        show (hisF hs).2.length ≤ 12
        rw [hisF_len]; omega
      have hB := Lib.hid ((FBox.new hGf).from_ (below_trans2 b1 b3))
      rw [← hV, ← hg] at hB
      replace hX := Lib.hid ((hX.out.below b3).below bV)
      replace hok := Lib.hid hok
      replace hf := Lib.hid hf
      clear hG hGf b1 b3 bV c1 cS
      clear hX
      have c1 := fun W hW => bad_Find x f 1 W hW (by omega) hw (seenX_hist hW hf.out (by omega))
      have c2 := fun W hW => bad_Find x f 2 W hW (by omega) hw (seenX_hist hW hf.out (by omega))
      have c3 := fun W hW => bad_Find x f 3 W hW (by omega) hw (seenX_hist hW hf.out (by omega))
      rw [findE_123 (.inl rfl)] at c1
      rw [findE_123 (.inr (.inl rfl))] at c2
      rw [findE_123 (.inr (.inr rfl))] at c3
      unfold RetFind at c1 c2 c3
      cases h1 : findF f 1 with
      | some x1 =>
        obtain ⟨h2, h3, hk1, hk4⟩ := levels_some h1
        rw [h1] at c1
        rw [h2] at c2
        rw [h3] at c3
        simp only [Option.getD_some, Option.isSome_some, if_true] at c1 c2 c3
        replace c1 := Lib.hid c1
        replace c2 := Lib.hid c2
        replace c3 := Lib.hid c3
        replace hw := Lib.hid hw
        replace h1 := Lib.hid h1
        replace h2 := Lib.hid h2
        replace h3 := Lib.hid h3
        have p0 := hB.out.c0
        have p1 := hB.out.c1
        have p2 := hB.out.c2
        go_wp2_with (rw [← hV, ← hg]; clear hV; replace hg := Lib.hid hg)
        -- behind Find of the level: the pattern ya (c1 : its contract) laid: W5, ga, kA
        refine (c1.out _ hB.out.f).mono ?_; rintro e w4 ⟨ya, rfl, rfl, b⟩
        obtain ⟨W5, hW5⟩ : ∃ W, W = World.alloc w4 (.cells #[.int .i64 ya.ki, .int .i64 ya.r, .int .i64 ya.w1, .int .i64 ya.w2, .int .i64 ya.o, .slice none 0 0, .int .i64 ya.fi, .int .i64 ya.se] 34) := ⟨_, rfl⟩
        obtain ⟨ga, hga⟩ : ∃ g, g = (World.heap w4).size := ⟨_, rfl⟩
        have bW5 : Below (World.heap w4).size w4 W5 := by rw [hW5]; exact below_alloc _ _
        have kA := Lib.hid (show Blk W5 ga 34 [.int .i64 ya.ki, .int .i64 ya.r, .int .i64 ya.w1, .int .i64 ya.w2, .int .i64 ya.o, .slice none 0 0, .int .i64 ya.fi, .int .i64 ya.se] from by rw [hW5, hga]; exact Blk.new w4 _ _)
        replace hB := Lib.hid ((hB.out.later b).later bW5)
        clear p0 p1 p2 b bW5 c1
        have p0 := hB.out.c0
        have p1 := hB.out.c1
        have p2 := hB.out.c2
        go_wp2_with (rw [← hW5, ← hga]; clear hW5; replace hga := Lib.hid hga)
        -- behind Find of the level: the pattern yb (c2 : its contract) laid: W7, gb, kB
        refine (c2.out _ hB.out.f).mono ?_; rintro e w6 ⟨yb, rfl, rfl, b⟩
        obtain ⟨W7, hW7⟩ : ∃ W, W = World.alloc w6 (.cells #[.int .i64 yb.ki, .int .i64 yb.r, .int .i64 yb.w1, .int .i64 yb.w2, .int .i64 yb.o, .slice none 0 0, .int .i64 yb.fi, .int .i64 yb.se] 34) := ⟨_, rfl⟩
        obtain ⟨gb, hgb⟩ : ∃ g, g = (World.heap w6).size := ⟨_, rfl⟩
        have bW7 : Below (World.heap w6).size w6 W7 := by rw [hW7]; exact below_alloc _ _
        have kB := Lib.hid (show Blk W7 gb 34 [.int .i64 yb.ki, .int .i64 yb.r, .int .i64 yb.w1, .int .i64 yb.w2, .int .i64 yb.o, .slice none 0 0, .int .i64 yb.fi, .int .i64 yb.se] from by rw [hW7, hgb]; exact Blk.new w6 _ _)
        replace hB := Lib.hid ((hB.out.later b).later bW7)
        replace kA := Lib.hid ((kA.out.below b kA.out.lt).below bW7 (kA.out.below b kA.out.lt).lt)
        clear p0 p1 p2 b bW7 c2
        have p0 := hB.out.c0
        have p1 := hB.out.c1
        have p2 := hB.out.c2
        go_wp2_with (rw [← hW7, ← hgb]; clear hW7; replace hgb := Lib.hid hgb)
        -- behind Find of the level: the pattern yc (c3 : its contract) laid: W9, gc, kC
        refine (c3.out _ hB.out.f).mono ?_; rintro e w8 ⟨yc, rfl, rfl, b⟩
        obtain ⟨W9, hW9⟩ : ∃ W, W = World.alloc w8 (.cells #[.int .i64 yc.ki, .int .i64 yc.r, .int .i64 yc.w1, .int .i64 yc.w2, .int .i64 yc.o, .slice none 0 0, .int .i64 yc.fi, .int .i64 yc.se] 34) := ⟨_, rfl⟩
        obtain ⟨gc, hgc⟩ : ∃ g, g = (World.heap w8).size := ⟨_, rfl⟩
        have bW9 : Below (World.heap w8).size w8 W9 := by rw [hW9]; exact below_alloc _ _
        have kC := Lib.hid (show Blk W9 gc 34 [.int .i64 yc.ki, .int .i64 yc.r, .int .i64 yc.w1, .int .i64 yc.w2, .int .i64 yc.o, .slice none 0 0, .int .i64 yc.fi, .int .i64 yc.se] from by rw [hW9, hgc]; exact Blk.new w8 _ _)
        replace hB := Lib.hid ((hB.out.later b).later bW9)
        replace kA := Lib.hid ((kA.out.below b kA.out.lt).below bW9 (kA.out.below b kA.out.lt).lt)
        replace kB := Lib.hid ((kB.out.below b kB.out.lt).below bW9 (kB.out.below b kB.out.lt).lt)
        clear p0 p1 p2 b bW9 c3
        go_wp2_with (rw [← hW9, ← hgc]; clear hW9; replace hgc := Lib.hid hgc)
        refine (law19_awake W9).mono ?_; rintro e v1 ⟨rfl, b⟩
        replace hB := Lib.hid (hB.out.later b)
        replace kA := Lib.hid (kA.out.below b kA.out.lt)
        replace kB := Lib.hid (kB.out.below b kB.out.lt)
        replace kC := Lib.hid (kC.out.below b kC.out.lt)
        clear b
        -- the cells of a pattern's variable: kA.out : Blk W g Witness [8 cells]: a0 .. a7 (and $f0 .. : not frozen)
        have z0a := Blk.cell kA.out 0
        have z1a := Blk.cell kA.out 1
        have z2a := Blk.cell kA.out 2
        have z3a := Blk.cell kA.out 3
        have z4a := Blk.cell kA.out 4
        have z5a := Blk.cell kA.out 5
        have z6a := Blk.cell kA.out 6
        have z7a := Blk.cell kA.out 7
        simp only [List.getElem?_cons_zero, List.getElem?_cons_succ] at z0a z1a z2a z3a z4a z5a z6a z7a
        -- the cells of a pattern's variable: kB.out : Blk W g Witness [8 cells]: b0 .. b7 (and $f0 .. : not frozen)
        have z0b := Blk.cell kB.out 0
        have z1b := Blk.cell kB.out 1
        have z2b := Blk.cell kB.out 2
        have z3b := Blk.cell kB.out 3
        have z4b := Blk.cell kB.out 4
        have z5b := Blk.cell kB.out 5
        have z6b := Blk.cell kB.out 6
        have z7b := Blk.cell kB.out 7
        simp only [List.getElem?_cons_zero, List.getElem?_cons_succ] at z0b z1b z2b z3b z4b z5b z6b z7b
        have cC := Lib.hid (ref19_Core yc yc none none 0 0 0 0 v1 rfl rfl rfl rfl rfl)
        go_wp2_with fail
        refine cC.out.mono ?_; rintro e v2 ⟨rfl, b⟩
        replace hB := Lib.hid (hB.out.later b)
        replace kA := Lib.hid (kA.out.below b kA.out.lt)
        replace kB := Lib.hid (kB.out.below b kB.out.lt)
        replace kC := Lib.hid (kC.out.below b kC.out.lt)
        clear b z0a z1a z2a z3a z4a z5a z6a z7a z0b z1b z2b z3b z4b z5b z6b z7b cC
        -- the cells of a pattern's variable: kA.out : Blk W g Witness [8 cells]: a0 .. a7 (and $f0 .. : not frozen)
        have z0a := Blk.cell kA.out 0
        have z1a := Blk.cell kA.out 1
        have z2a := Blk.cell kA.out 2
        have z3a := Blk.cell kA.out 3
        have z4a := Blk.cell kA.out 4
        have z5a := Blk.cell kA.out 5
        have z6a := Blk.cell kA.out 6
        have z7a := Blk.cell kA.out 7
        simp only [List.getElem?_cons_zero, List.getElem?_cons_succ] at z0a z1a z2a z3a z4a z5a z6a z7a
        -- the cells of a pattern's variable: kC.out : Blk W g Witness [8 cells]: b0 .. b7 (and $f0 .. : not frozen)
        have z0b := Blk.cell kC.out 0
        have z1b := Blk.cell kC.out 1
        have z2b := Blk.cell kC.out 2
        have z3b := Blk.cell kC.out 3
        have z4b := Blk.cell kC.out 4
        have z5b := Blk.cell kC.out 5
        have z6b := Blk.cell kC.out 6
        have z7b := Blk.cell kC.out 7
        simp only [List.getElem?_cons_zero, List.getElem?_cons_succ] at z0b z1b z2b z3b z4b z5b z6b z7b
        have cD := Lib.hid (ref19_Core yc yc none none 0 0 0 0 v2 rfl rfl rfl rfl rfl)
        go_wp2_with fail
        refine cD.out.mono ?_; rintro e v3 ⟨rfl, b⟩
        replace hB := Lib.hid (hB.out.later b)
        replace kA := Lib.hid (kA.out.below b kA.out.lt)
        clear b z0a z1a z2a z3a z4a z5a z6a z7a z0b z1b z2b z3b z4b z5b z6b z7b cD
        -- the cells of a pattern's variable: kA.out : Blk W g Witness [8 cells]: a0 .. a7 (and $f0 .. : not frozen)
        have z0a := Blk.cell kA.out 0
        have z1a := Blk.cell kA.out 1
        have z2a := Blk.cell kA.out 2
        have z3a := Blk.cell kA.out 3
        have z4a := Blk.cell kA.out 4
        have z5a := Blk.cell kA.out 5
        have z6a := Blk.cell kA.out 6
        have z7a := Blk.cell kA.out 7
        simp only [List.getElem?_cons_zero, List.getElem?_cons_succ] at z0a z1a z2a z3a z4a z5a z6a z7a
        have e1 : decide (1 ≤ yc.ki) = true := decide_eq_true hk1
        have e4 : decide (yc.ki ≤ 4) = true := decide_eq_true hk4
        go_wp2_with fail
        go_ret
        exact ⟨rfl, hB.out.o⟩
      | none =>
        obtain ⟨h2, h3⟩ := levels_none h1
        rw [h1] at c1
        simp only [Option.isSome_none] at c1
        replace c1 := Lib.hid c1
        obtain ⟨er2, he2⟩ : ∃ r : Int, r = if (findF f 2).isSome = true then 0 else 8 := ⟨_, rfl⟩
        obtain ⟨er3, he3⟩ : ∃ r : Int, r = if (findF f 3).isSome = true then 0 else 8 := ⟨_, rfl⟩
        obtain ⟨y2, hy2⟩ : ∃ y, y = (findF f 2).getD zeroW := ⟨_, rfl⟩
        obtain ⟨y3, hy3⟩ : ∃ y, y = (findF f 3).getD zeroW := ⟨_, rfl⟩
        rw [← he2, ← hy2] at c2
        rw [← he3, ← hy3] at c3
        have g2 : (er2 = 8) ∨ (er2 = 0 ∧ y2.ki = 5) := by
          rcases h2 with h | ⟨z, h, hk⟩
          · rw [h] at he2; exact .inl he2
          · rw [h] at he2 hy2; exact .inr ⟨he2, by rw [hy2]; exact hk⟩
        have g3 : (er3 = 8) ∨ (er3 = 0 ∧ (y3.ki = 6 ∨ y3.ki = 7)) := by
          rcases h3 with h | ⟨z, h, hk⟩
          · rw [h] at he3; exact .inl he3
          · rw [h] at he3 hy3; exact .inr ⟨he3, by rw [hy3]; exact hk⟩
        replace c2 := Lib.hid c2
        replace c3 := Lib.hid c3
        replace hw := Lib.hid hw
        replace h1 := Lib.hid h1
        replace he2 := Lib.hid he2
        replace he3 := Lib.hid he3
        replace hy2 := Lib.hid hy2
        replace hy3 := Lib.hid hy3
        replace g2 := Lib.hid g2
        replace g3 := Lib.hid g3
        clear h2 h3
        have p0 := hB.out.c0
        have p1 := hB.out.c1
        have p2 := hB.out.c2
        go_wp2_with (rw [← hV, ← hg]; clear hV; replace hg := Lib.hid hg)
        refine (c1.out _ hB.out.f).mono ?_; rintro e w4 ⟨ya, hya, rfl, b⟩
        replace hya := Lib.hid hya
        obtain ⟨W5, hW5⟩ : ∃ W, W = World.alloc w4 (.cells #[.int .i64 ya.ki, .int .i64 ya.r, .int .i64 ya.w1, .int .i64 ya.w2, .int .i64 ya.o, .slice none 0 0, .int .i64 ya.fi, .int .i64 ya.se] 34) := ⟨_, rfl⟩
        obtain ⟨ga, hga⟩ : ∃ g, g = w4.heap.size := ⟨_, rfl⟩
        have bW5 : Below w4.heap.size w4 W5 := by rw [hW5]; exact below_alloc _ _
        replace hB := Lib.hid ((hB.out.later b).later bW5)
        clear p0 p1 p2 b bW5 c1
        have p0 := hB.out.c0
        have p1 := hB.out.c1
        have p2 := hB.out.c2
        go_wp2_with (rw [← hW5, ← hga]; clear hW5; replace hga := Lib.hid hga)
        -- behind Find of the level: the pattern yb (c2 : its contract) laid: W7, gb, kB
        refine (c2.out _ hB.out.f).mono ?_; rintro e w6 ⟨yb, rfl, rfl, b⟩
        obtain ⟨W7, hW7⟩ : ∃ W, W = World.alloc w6 (.cells #[.int .i64 yb.ki, .int .i64 yb.r, .int .i64 yb.w1, .int .i64 yb.w2, .int .i64 yb.o, .slice none 0 0, .int .i64 yb.fi, .int .i64 yb.se] 34) := ⟨_, rfl⟩
        obtain ⟨gb, hgb⟩ : ∃ g, g = (World.heap w6).size := ⟨_, rfl⟩
        have bW7 : Below (World.heap w6).size w6 W7 := by rw [hW7]; exact below_alloc _ _
        have kB := Lib.hid (show Blk W7 gb 34 [.int .i64 yb.ki, .int .i64 yb.r, .int .i64 yb.w1, .int .i64 yb.w2, .int .i64 yb.o, .slice none 0 0, .int .i64 yb.fi, .int .i64 yb.se] from by rw [hW7, hgb]; exact Blk.new w6 _ _)
        replace hB := Lib.hid ((hB.out.later b).later bW7)
        clear p0 p1 p2 b bW7 c2
        have p0 := hB.out.c0
        have p1 := hB.out.c1
        have p2 := hB.out.c2
        go_wp2_with (rw [← hW7, ← hgb]; clear hW7; replace hgb := Lib.hid hgb)
        -- behind Find of the level: the pattern yc (c3 : its contract) laid: W9, gc, kC
        refine (c3.out _ hB.out.f).mono ?_; rintro e w8 ⟨yc, rfl, rfl, b⟩
        obtain ⟨W9, hW9⟩ : ∃ W, W = World.alloc w8 (.cells #[.int .i64 yc.ki, .int .i64 yc.r, .int .i64 yc.w1, .int .i64 yc.w2, .int .i64 yc.o, .slice none 0 0, .int .i64 yc.fi, .int .i64 yc.se] 34) := ⟨_, rfl⟩
        obtain ⟨gc, hgc⟩ : ∃ g, g = (World.heap w8).size := ⟨_, rfl⟩
        have bW9 : Below (World.heap w8).size w8 W9 := by rw [hW9]; exact below_alloc _ _
        have kC := Lib.hid (show Blk W9 gc 34 [.int .i64 yc.ki, .int .i64 yc.r, .int .i64 yc.w1, .int .i64 yc.w2, .int .i64 yc.o, .slice none 0 0, .int .i64 yc.fi, .int .i64 yc.se] from by rw [hW9, hgc]; exact Blk.new w8 _ _)
        replace hB := Lib.hid ((hB.out.later b).later bW9)
        replace kB := Lib.hid ((kB.out.below b kB.out.lt).below bW9 (kB.out.below b kB.out.lt).lt)
        clear p0 p1 p2 b bW9 c3
        go_wp2_with (rw [← hW9, ← hgc]; clear hW9; replace hgc := Lib.hid hgc)
        refine (law19_awake W9).mono ?_; rintro e v1 ⟨rfl, b⟩
        replace hB := Lib.hid (hB.out.later b)
        replace kB := Lib.hid (kB.out.below b kB.out.lt)
        replace kC := Lib.hid (kC.out.below b kC.out.lt)
        clear b
        -- the cells of a pattern's variable: kB.out : Blk W g Witness [8 cells]: b0 .. b7 (and $f0 .. : not frozen)
        have z0b := Blk.cell kB.out 0
        have z1b := Blk.cell kB.out 1
        have z2b := Blk.cell kB.out 2
        have z3b := Blk.cell kB.out 3
        have z4b := Blk.cell kB.out 4
        have z5b := Blk.cell kB.out 5
        have z6b := Blk.cell kB.out 6
        have z7b := Blk.cell kB.out 7
        simp only [List.getElem?_cons_zero, List.getElem?_cons_succ] at z0b z1b z2b z3b z4b z5b z6b z7b
        -- the cells of a pattern's variable: kC.out : Blk W g Witness [8 cells]: c0 .. c7 (and $f0 .. : not frozen)
        have z0c := Blk.cell kC.out 0
        have z1c := Blk.cell kC.out 1
        have z2c := Blk.cell kC.out 2
        have z3c := Blk.cell kC.out 3
        have z4c := Blk.cell kC.out 4
        have z5c := Blk.cell kC.out 5
        have z6c := Blk.cell kC.out 6
        have z7c := Blk.cell kC.out 7
        simp only [List.getElem?_cons_zero, List.getElem?_cons_succ] at z0c z1c z2c z3c z4c z5c z6c z7c
        rcases g2.out with q2 | ⟨q2, q5⟩
        · have e1 : (er2 == 8) = true := by rw [q2]; rfl
          replace q2 := Lib.hid q2
          rcases g3.out with q3 | ⟨q3, q6⟩
          · have e2 : (er3 == 8) = true := by rw [q3]; rfl
            replace q3 := Lib.hid q3
            go_wp2_with fail
            go_ret
            exact ⟨rfl, hB.out.o⟩
          · have e2 : (er3 == 8) = false := by rw [q3]; rfl
            have e3 : (er3 == 0) = true := by rw [q3]; rfl
            replace q3 := Lib.hid q3
            rcases q6 with q6 | q6
            · have e4 : (yc.ki == 6) = true := by rw [q6]; rfl
              replace q6 := Lib.hid q6
              go_wp2_with fail
              go_ret
              exact ⟨rfl, hB.out.o⟩
            · have e4 : (yc.ki == 6) = false := by rw [q6]; rfl
              have e5 : (yc.ki == 7) = true := by rw [q6]; rfl
              replace q6 := Lib.hid q6
              go_wp2_with fail
              go_ret
              exact ⟨rfl, hB.out.o⟩
        · have e1 : (er2 == 8) = false := by rw [q2]; rfl
          have e6 : (er2 == 0) = true := by rw [q2]; rfl
          have e7 : (yb.ki == 5) = true := by rw [q5]; rfl
          replace q2 := Lib.hid q2
          replace q5 := Lib.hid q5
          rcases g3.out with q3 | ⟨q3, q6⟩
          · have e2 : (er3 == 8) = true := by rw [q3]; rfl
            replace q3 := Lib.hid q3
            go_wp2_with fail
            go_ret
            exact ⟨rfl, hB.out.o⟩
          · have e2 : (er3 == 8) = false := by rw [q3]; rfl
            have e3 : (er3 == 0) = true := by rw [q3]; rfl
            replace q3 := Lib.hid q3
            rcases q6 with q6 | q6
            · have e4 : (yc.ki == 6) = true := by rw [q6]; rfl
              replace q6 := Lib.hid q6
              go_wp2_with fail
              go_ret
              exact ⟨rfl, hB.out.o⟩
            · have e4 : (yc.ki == 6) = false := by rw [q6]; rfl
              have e5 : (yc.ki == 7) = true := by rw [q6]; rfl
              replace q6 := Lib.hid q6
              go_wp2_with fail
              go_ret
              exact ⟨rfl, hB.out.o⟩
end Go.Proofs.YtjhjojklfdjmdaaGreat

namespace Go.Proofs.YtjhjojklfdjmdaaGreat
open Go.RowKit Go.ChangeShapes Go.WideShapes Go.Deep
set_option linter.unusedVariables false

theorem bulk_append {H : Type} (l r : List (DataW H)) : Rows.uptoBulkAll (l ++ r) = Rows.uptoBulkAll l + Rows.uptoBulkAll r := by
  induction l with
  | nil => simp [Rows.uptoBulkAll]
  | cons x l ih => rw [List.cons_append, Rows.uptoBulkAll, Rows.uptoBulkAll, ih]; omega
theorem bulk_pos {H : Type} (d : DataW H) : 1 ≤ Rows.uptoBulk d := by
  cases d with
  | lit l => cases l <;> simp [Rows.uptoBulk]
  | nil => simp [Rows.uptoBulk]
  | ptr d => simp [Rows.uptoBulk]
  | slice elems spare => simp [Rows.uptoBulk]
  | agg parts => simp [Rows.uptoBulk]
  | iface t d => simp [Rows.uptoBulk]
  | map entries => simp [Rows.uptoBulk]
  | held h => simp [Rows.uptoBulk]
theorem bulk_len {H : Type} (l : List (DataW H)) : l.length ≤ Rows.uptoBulkAll l := by
  induction l with
  | nil => simp
  | cons x r ih => have := bulk_pos x; rw [Rows.uptoBulkAll, List.length_cons]; omega
theorem bulk_slice {H : Type} (a b : List (DataW H)) : Rows.uptoBulk (.slice a b) = Rows.uptoBulkAll a + Rows.uptoBulkAll b + 1 := by rw [Rows.uptoBulk]
theorem addr_plus (b off j : Nat) : (⟨b, off, none⟩ : Addr).add j = ⟨b, off + j, none⟩ := by unfold Addr.add; split <;> simp_all

section
variable {H : Type} {enc : TypeId × Value → H} {P : Program} {w : World} {base : Nat} {held : Bool}
theorem open_ops {t e : TypeId} {f0 f1 f2 : Field} {fuel : Nat} {A : Option Addr} {len cap : Nat} {x : DataW H × List MemPlace} (ht : P.underlying t = some (.slice e)) (he : P.underlying e = some (.struct #[f0, f1, f2])) (ce : P.cellsOf e = 3)
    (o0 : f0.offset = 0) (o1 : f1.offset = 1) (o2 : f2.offset = 2) (k0 : P.cellsOf f0.type = 1) (k1 : P.cellsOf f1.type = 1) (k2 : P.cellsOf f2.type = 1)
    (u0 : P.underlying f0.type = some .bool) (u1 : P.underlying f1.type = some .string) (u2 : P.underlying f2.type = some (.int .i64))
    (h : DataW.trod enc P w base (fun _ => true) held fuel t [.slice A len cap] = some x) : ∃ os, OpsAt w A len os ∧ len ≤ cap ∧ cap ≤ 9223372036854775807 ∧ cap ≤ Rows.uptoBulk x.1 := by
  rcases open_slice ht h with ⟨hcs, hx⟩ | ⟨⟨b, off, spot⟩, l, c, m, n, D, Pl, hcs, hb, hl, hm, hmm, hx, hel⟩
  · injection hcs with hcs
    injection hcs with h1 h2 h3
    subst h1 h2 h3
    exact ⟨[], OpsAt.nil _ _, by omega, by omega, by omega⟩
  · injection hcs with hcs
    injection hcs with h1 h2 h3
    subst h1 h2 h3
    rw [if_pos rfl] at hmm
    subst hmm
    have hbulk : m ≤ Rows.uptoBulk x.1 := by
      rw [hx, bulk_slice]
      have := bulk_len ((List.range len).map D)
      have := bulk_len ((List.range (m - len)).map fun j => D (len + j))
      simp only [List.length_map, List.length_range] at *
      omega
    have hmm : m ≤ 9223372036854775807 := by unfold maxLen at hm; omega
    have hat : ∀ k, k < len → ∃ o : OpT, ((-9223372036854775808 ≤ o.2.2 ∧ o.2.2 < 9223372036854775808) ∧ o.2.1.size ≤ 9223372036854775807) ∧
        w.cell? ((⟨b, off, spot⟩ : Addr).add (k * 3)) = some (.bool o.1) ∧ w.cell? (((⟨b, off, spot⟩ : Addr).add (k * 3)).add 1) = some (.string o.2.1) ∧ w.cell? (((⟨b, off, spot⟩ : Addr).add (k * 3)).add 2) = some (.int .i64 o.2.2) := by
      intro k hk
      obtain ⟨cs', hc, ht'⟩ := hel k (by omega)
      rw [ce] at hc
      obtain ⟨_, hcl, hcat⟩ := World.cells?_some hc
      obtain ⟨xs, m', _, _, _, hxl, hf⟩ := DataW.trod_struct he ht'
      match cs', hcl with
      | [p, q, r], _ =>
        match xs, hxl with
        | [y0, y1, y2], _ =>
          have f0' := hf 0 f0 rfl
          have f1' := hf 1 f1 rfl
          have f2' := hf 2 f2 rfl
          rw [o0, k0] at f0'
          rw [o1, k1] at f1'
          rw [o2, k2] at f2'
          simp at f0' f1' f2'
          obtain ⟨bv, e0, _⟩ := DataW.trod_bool u0 f0'
          obtain ⟨sv, e1, _, ws⟩ := DataW.trod_string u1 f1'
          obtain ⟨iv, e2, _, wi⟩ := DataW.trod_int u2 f2'
          injection e0 with e0
          injection e1 with e1
          injection e2 with e2
          subst e0; subst e1; subst e2
          have c0 := hcat 0 (by omega)
          have c1 := hcat 1 (by omega)
          have c2 := hcat 2 (by omega)
          have hz : ∀ a : Addr, a.add 0 = a := fun a => by obtain ⟨b, o, s⟩ := a; unfold Addr.add; split <;> simp_all
          rw [hz] at c0
          have hb := bounds_i64 wi
          exact ⟨(bv, sv, iv), ⟨⟨hb.1, by have := hb.2; show iv < _; omega⟩, by unfold maxLen at ws; exact ws⟩, by simpa using c0, by simpa using c1, by simpa using c2⟩
    by_cases h0 : len = 0
    · subst h0
      exact ⟨[], OpsAt.nil _ _, by omega, hmm, hbulk⟩
    · obtain ⟨_, _, hc0, _, _⟩ := hat 0 (by omega)
      have hspot : spot = none := by
        have h := World.cell?_spot hc0
        cases spot with
        | none => rfl
        | some s => unfold Addr.add at h; simp at h
      subst hspot
      have hblt : b < w.heap.size := by
        have := World.block_lt_of_cell? w _ hc0
        rwa [addr_plus] at this
      have hall : ∀ k, k ≤ len → ∃ os : List OpT, os.length = k ∧ OkO os ∧ ∀ (j : Nat) (u : Value), (cellsO os)[j]? = some u → w.cell? ⟨b, off + j, none⟩ = some u := by
        intro k
        induction k with
        | zero => exact fun _ => ⟨[], rfl, fun o h => by simp at h, fun j u h => by simp [cellsO] at h⟩
        | succ k ih =>
          intro hk
          obtain ⟨os, p1, p2, p3⟩ := ih (by omega)
          obtain ⟨o, hok, c0, c1, c2⟩ := hat k (by omega)
          rw [addr_plus] at c0 c1 c2
          rw [addr_plus] at c1 c2
          refine ⟨os ++ [o], by simp [p1], okO_append p2 (fun o' h => by rw [List.mem_singleton.1 h]; exact hok), fun j u hj => ?_⟩
          rw [cellsO_append] at hj
          rcases Nat.lt_or_ge j (cellsO os).length with hlt | hge
          · rw [List.getElem?_append_left hlt] at hj; exact p3 j u hj
          · rw [List.getElem?_append_right hge] at hj
            have hlk : (cellsO os).length = k * 3 := by rw [cellsO_len, p1]
            obtain ⟨r, rfl⟩ : ∃ r, j = k * 3 + r := ⟨j - k * 3, by omega⟩
            rw [hlk, Nat.add_sub_cancel_left] at hj
            match r, hj with
            | 0, hj =>
              have : u = .bool o.1 := by simpa [cellsO] using hj.symm
              rw [this]; exact c0
            | 1, hj =>
              have : u = .string o.2.1 := by simpa [cellsO] using hj.symm
              rw [this, ← Nat.add_assoc]; exact c1
            | 2, hj =>
              have : u = .int .i64 o.2.2 := by simpa [cellsO] using hj.symm
              rw [this, ← Nat.add_assoc]; exact c2
            | r + 3, hj => simp [cellsO] at hj
      obtain ⟨os, p1, p2, p3⟩ := hall len (Nat.le_refl _)
      exact ⟨os, ⟨p1, p2, fun _ => ⟨b, off, rfl, hblt, p3⟩⟩, hl, hmm, hbulk⟩
theorem open_hist {th t e : TypeId} {f0 f1 f2 : Field} {fuel : Nat} {v : Value} {x : DataW H × List MemPlace} (hth : P.underlying th = some (.slice t)) (ct : P.cellsOf t = 1) (ht : P.underlying t = some (.slice e)) (he : P.underlying e = some (.struct #[f0, f1, f2])) (ce : P.cellsOf e = 3)
    (o0 : f0.offset = 0) (o1 : f1.offset = 1) (o2 : f2.offset = 2) (k0 : P.cellsOf f0.type = 1) (k1 : P.cellsOf f1.type = 1) (k2 : P.cellsOf f2.type = 1)
    (u0 : P.underlying f0.type = some .bool) (u1 : P.underlying f1.type = some .string) (u2 : P.underlying f2.type = some (.int .i64))
    (h : DataW.trod enc P w base (fun _ => true) held fuel th [v] = some x) : ∃ A len cap hs, v = .slice A len cap ∧ HistAt w A len hs ∧ len ≤ cap ∧ cap ≤ 9223372036854775807 ∧ cap ≤ Rows.uptoBulk x.1 ∧ (allO hs).length ≤ Rows.uptoBulk x.1 := by
  rcases open_slice1 hth ct h with ⟨hcs, hx⟩ | ⟨⟨b, off, spot⟩, len, cap, m, n, V, D, Pl, hcs, hb, hl, hm, hmm, hx, hel⟩
  · injection hcs with hcs
    exact ⟨none, 0, 0, [], hcs, HistAt.nil _ _, by omega, by omega, by omega, by simp [allO]⟩
  · injection hcs with hcs
    rw [if_pos rfl] at hmm
    subst hmm
    have hmm : m ≤ 9223372036854775807 := by unfold maxLen at hm; omega
    have hbulk : m ≤ Rows.uptoBulk x.1 ∧ Rows.uptoBulkAll ((List.range len).map D) ≤ Rows.uptoBulk x.1 := by
      rw [hx, bulk_slice]
      have := bulk_len ((List.range len).map D)
      have := bulk_len ((List.range (m - len)).map fun j => D (len + j))
      simp only [List.length_map, List.length_range] at *
      omega
    have hat : ∀ k, k < len → ∃ os, SessV w (V k) os ∧ os.length ≤ Rows.uptoBulk (D k) := by
      intro k hk
      obtain ⟨_, hk2⟩ := hel k (by omega)
      obtain ⟨A', n', c', e'⟩ : ∃ A' n' c', V k = .slice A' n' c' := by
        rcases open_slice ht hk2 with ⟨hcs, _⟩ | ⟨a, l, c, m, n, D, Pl, hcs, _⟩
        · injection hcs with hcs; exact ⟨_, _, _, hcs⟩
        · injection hcs with hcs; exact ⟨_, _, _, hcs⟩
      rw [e'] at hk2
      obtain ⟨os, h1, h2, h3, h4⟩ := open_ops ht he ce o0 o1 o2 k0 k1 k2 u0 u1 u2 hk2
      exact ⟨os, ⟨A', n', c', e', h2, by omega, h1⟩, by rw [h1.len]; exact Nat.le_trans h2 h4⟩
    by_cases h0 : len = 0
    · subst h0
      exact ⟨_, 0, m, [], hcs, HistAt.nil _ _, by omega, hmm, hbulk.1, by simp [allO]⟩
    · have hc0 := (hel 0 (by omega)).1
      have hspot : spot = none := by
        have h := World.cell?_spot hc0
        cases spot with
        | none => rfl
        | some s => unfold Addr.add at h; simp at h
      subst hspot
      have hblt : b < w.heap.size := by
        have := World.block_lt_of_cell? w _ hc0
        rwa [addr_plus] at this
      have hall : ∀ k, k ≤ len → ∃ hs : List (List OpT), hs.length = k ∧ (∀ (i : Nat) (v : Value) (os : List OpT), ((List.range k).map V)[i]? = some v → hs[i]? = some os → SessV w v os) ∧ (allO hs).length ≤ Rows.uptoBulkAll ((List.range k).map D) := by
        intro k
        induction k with
        | zero => exact fun _ => ⟨[], rfl, fun i v os h => by simp at h, by simp [allO]⟩
        | succ k ih =>
          intro hk
          obtain ⟨hs, p1, p2, p3⟩ := ih (by omega)
          obtain ⟨os, q1, q2⟩ := hat k (by omega)
          refine ⟨hs ++ [os], by simp [p1], fun i v o hv ho => ?_, ?_⟩
          · rw [List.range_succ, List.map_append] at hv
            rcases Nat.lt_or_ge i k with hlt | hge
            · rw [List.getElem?_append_left (by simpa using hlt)] at hv
              rw [List.getElem?_append_left (by omega)] at ho
              exact p2 i v o hv ho
            · rw [List.getElem?_append_right (by simpa using hge)] at hv
              rw [List.getElem?_append_right (by omega)] at ho
              have hv' := List.mem_of_getElem? hv
              have ho' := List.mem_of_getElem? ho
              simp at hv' ho'
              subst hv'; subst ho'
              exact q1
          · rw [allO_append, List.range_succ, List.map_append, bulk_append, List.length_append]
            have e1 : (allO [os]).length = os.length := by simp [allO]
            have e2 : Rows.uptoBulkAll (List.map D [k]) = Rows.uptoBulk (D k) := by simp [Rows.uptoBulkAll]
            omega
      obtain ⟨hs, p1, p2, p3⟩ := hall len (Nat.le_refl _)
      refine ⟨_, len, m, hs, hcs, ⟨(List.range len).map V, ⟨by simp, fun _ => ⟨b, off, rfl, hblt, fun j u hu => ?_⟩⟩, by simp [p1], p2⟩, hl, hmm, hbulk.1, by omega⟩
      have hj : j < len := by have := (List.getElem?_eq_some_iff.1 hu).1; simpa using this
      rw [List.getElem?_map, List.getElem?_range hj, Option.map_some] at hu
      have h1 := (hel j (by omega)).1
      rw [addr_plus] at h1
      rw [h1]; exact hu
end
end Go.Proofs.YtjhjojklfdjmdaaGreat
