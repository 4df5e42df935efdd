/- Layer 19's example, walked. -/
import Derived.Test.YtjhjojklfdjmdaaGreatBadFieldsPk16
import Derived.Test.YtjhjojklfdjmdaaGreatBadFieldsPk11
import Derived.Test.YtjhjojklfdjmdaaGreatBadFieldsPk5
namespace Go.Proofs.YtjhjojklfdjmdaaGreat
open Go.RowKit
set_option linter.unusedVariables false
set_option maxRecDepth 100000 in
set_option maxHeartbeats 4000000 in
theorem law19_awake (w : World) : Calls Tryz.prog 7 #[] w (RetBool true w) := by
  -- a history of one read of the value 1 (ex19A) in the world w: its facts in $V at $g ($h : FBox w $g x $F $V)
  obtain ⟨Z1, hZ1⟩ : ∃ W, W = World.alloc w (.cells #[.bool false, .string ⟨#[120]⟩, .int .i64 1] 49) := ⟨_, rfl⟩
  obtain ⟨a1, ha1⟩ : ∃ g, g = (World.heap w).size := ⟨_, rfl⟩
  obtain ⟨Z2, hZ2⟩ : ∃ W, W = World.alloc Z1 (.cells #[.slice (some ⟨a1, 0, none⟩) 1 1] 46) := ⟨_, rfl⟩
  obtain ⟨a2, ha2⟩ : ∃ g, g = (World.heap Z1).size := ⟨_, rfl⟩
  have b1 : Below (World.heap w).size w Z1 := by rw [hZ1]; exact below_alloc _ _
  have b2 : Below (World.heap Z1).size Z1 Z2 := by rw [hZ2]; exact below_alloc _ _
  have hH : HistAt Z2 (some ⟨a2, 0, none⟩) 1 [ex19A] := by
    have h1 : Blk Z1 a1 49 (cellsO ex19A) := by rw [hZ1, ha1]; exact Blk.new _ _ _
    have h2 : Blk Z2 a2 46 [.slice (some ⟨a1, 0, none⟩) 1 1] := by rw [hZ2, ha2]; exact Blk.new Z1 _ _
    exact HistAt.one h2 (OpsAt.of_blk (h1.below b2 h1.lt) ok19A rfl) (by omega) (by omega)
  have c1 := Lib.hid (ref11_Of _ 1 1 [ex19A] Z2 hH (by omega) (by decide))
  have bZ := Lib.hid (below_trans2 b1 b2)
  clear hH b1 b2
  go_enter Tryz.func7, Tryz.ntmps7
  go_wp2_with (first | (rw [← hZ1, ← ha1]; clear hZ1; replace ha1 := Lib.hid ha1) | (rw [← hZ2, ← ha2]; clear hZ2; replace ha2 := Lib.hid ha2))
  refine c1.out.mono ?_; rintro e w3 ⟨x, rfl, hG, b3⟩
  replace hG := hG ex19a_facts.1
  rw [ex19a_facts.2] at hG
  rw [ex19a_facts.1]
  have hxm : x.m = 1 := by rw [← hG.is.len]; rfl
  obtain ⟨V1, hV1⟩ : ∃ W, W = World.alloc w3 (.cells #[.slice x.A x.n x.c, .slice x.B x.m x.d, .slice x.C x.k x.e] 29) := ⟨_, rfl⟩
  obtain ⟨g1, hg1⟩ : ∃ g, g = (World.heap w3).size := ⟨_, rfl⟩
  have bb3 := below_trans2 bZ.out b3
  have hB := Lib.hid ((FBox.new hG).from_ bb3)
  rw [← hV1, ← hg1] at hB
  have cF := fun W hW => bad_Find x fa19 1 W hW (by omega) ex19a_whole (seenX_hist hW ex19a_facts.2.symm (by omega))
  rw [ex19a_find.1, ex19a_find.2] at cF
  replace cF := Lib.hid (fun W hW => (cF W hW).mono (R' := fun e w' => e = .returned (.tuple #[.agg #[.int .i64 1, .int .i64 0, .int .i64 (-1), .int .i64 (-1), .int .i64 (-1), .slice none 0 0, .int .i64 (-1), .int .i64 (-1)], .int .i64 0]) ∧ Below W.heap.size W w') (fun e w' ⟨y, hy, he, hb⟩ => by subst hy; exact ⟨he, hb⟩))
  replace hxm := Lib.hid hxm
  clear b3 c1 hG bZ bb3
  have p0 := hB.out.c0
  have p1 := hB.out.c1
  have p2 := hB.out.c2
  go_wp2_with (rw [← hV1, ← hg1]; clear hV1; replace hg1 := Lib.hid hg1)
  refine (cF.out V1 hB.out.f).mono ?_; rintro e w4 ⟨rfl, b⟩
  -- a pattern $y laid into a variable behind w4: W5, ga, kA
  obtain ⟨W5, hW5⟩ : ∃ W, W = World.alloc w4 (.cells #[.int .i64 1, .int .i64 0, .int .i64 (-1), .int .i64 (-1), .int .i64 (-1), .slice none 0 0, .int .i64 (-1), .int .i64 (-1)] 34) := ⟨_, rfl⟩
  obtain ⟨ga, hga⟩ : ∃ g, g = (World.heap w4).size := ⟨_, rfl⟩
  have bW5 : Below (World.heap w4).size w4 W5 := by rw [hW5]; exact below_alloc _ _
  have kA := Lib.hid (show Blk W5 ga 34 [.int .i64 1, .int .i64 0, .int .i64 (-1), .int .i64 (-1), .int .i64 (-1), .slice none 0 0, .int .i64 (-1), .int .i64 (-1)] from by rw [hW5, hga]; exact Blk.new w4 _ _)
  have hO := Lib.hid (below_trans2 (below_trans2 hB.out.o b) bW5)
  clear p0 p1 p2 b bW5 hB cF hxm
  -- a history of one read of the value 0 (ex19B) in the world W5: its facts in $V at $g ($h : FBox w $g x $F $V)
  obtain ⟨Z1, hZ1⟩ : ∃ W, W = World.alloc W5 (.cells #[.bool false, .string ⟨#[120]⟩, .int .i64 0] 49) := ⟨_, rfl⟩
  obtain ⟨a1, ha1⟩ : ∃ g, g = (World.heap W5).size := ⟨_, rfl⟩
  obtain ⟨Z2, hZ2⟩ : ∃ W, W = World.alloc Z1 (.cells #[.slice (some ⟨a1, 0, none⟩) 1 1] 46) := ⟨_, rfl⟩
  obtain ⟨a2, ha2⟩ : ∃ g, g = (World.heap Z1).size := ⟨_, rfl⟩
  have b1 : Below (World.heap W5).size W5 Z1 := by rw [hZ1]; exact below_alloc _ _
  have b2 : Below (World.heap Z1).size Z1 Z2 := by rw [hZ2]; exact below_alloc _ _
  have hH : HistAt Z2 (some ⟨a2, 0, none⟩) 1 [ex19B] := by
    have h1 : Blk Z1 a1 49 (cellsO ex19B) := by rw [hZ1, ha1]; exact Blk.new _ _ _
    have h2 : Blk Z2 a2 46 [.slice (some ⟨a1, 0, none⟩) 1 1] := by rw [hZ2, ha2]; exact Blk.new Z1 _ _
    exact HistAt.one h2 (OpsAt.of_blk (h1.below b2 h1.lt) ok19B rfl) (by omega) (by omega)
  have c1 := Lib.hid (ref11_Of _ 1 1 [ex19B] Z2 hH (by omega) (by decide))
  have bZ := Lib.hid (below_trans2 b1 b2)
  clear hH b1 b2
  go_wp2_with (first | (rw [← hW5, ← hga]; clear hW5; replace hga := Lib.hid hga) | (rw [← hZ1, ← ha1]; clear hZ1; replace ha1 := Lib.hid ha1) | (rw [← hZ2, ← ha2]; clear hZ2; replace ha2 := Lib.hid ha2))
  refine c1.out.mono ?_; rintro e w3 ⟨z, rfl, hG, b3⟩
  replace hG := hG ex19b_facts.1
  rw [ex19b_facts.2] at hG
  rw [ex19b_facts.1]
  have hxm : z.m = 1 := by rw [← hG.is.len]; rfl
  obtain ⟨V2, hV2⟩ : ∃ W, W = World.alloc w3 (.cells #[.slice z.A z.n z.c, .slice z.B z.m z.d, .slice z.C z.k z.e] 29) := ⟨_, rfl⟩
  obtain ⟨g2, hg2⟩ : ∃ g, g = (World.heap w3).size := ⟨_, rfl⟩
  have bb3 := below_trans2 bZ.out b3
  have hB := Lib.hid ((FBox.new hG).from_ (below_trans2 hO.out bb3))
  rw [← hV2, ← hg2] at hB
  have hBA : Below W5.heap.size W5 V2 := by rw [hV2]; exact below_trans2 bb3 (below_alloc _ _)
  replace kA := Lib.hid (kA.out.below hBA kA.out.lt)
  have cF := fun W hW => bad_Find z fb19 3 W hW (by omega) ex19b_whole (seenX_hist hW ex19b_facts.2.symm (by omega))
  have cG := fun W hW => bad_Find z fb19 0 W hW (by omega) ex19b_whole (seenX_hist hW ex19b_facts.2.symm (by omega))
  rw [ex19b_find.1, ex19b_find.2.1] at cF
  rw [ex19b_find.2.2.1, ex19b_find.2.2.2] at cG
  replace cF := Lib.hid cF
  replace cG := Lib.hid cG
  replace hxm := Lib.hid hxm
  clear b3 c1 hG bZ bb3 hO hBA
  have p0 := hB.out.c0
  have p1 := hB.out.c1
  have p2 := hB.out.c2
  go_wp2_with (rw [← hV2, ← hg2]; clear hV2; replace hg2 := Lib.hid hg2)
  refine (cF.out V2 hB.out.f).mono ?_; rintro e w6 ⟨y, hy, rfl, b⟩
  replace hy := Lib.hid True.intro
  -- a pattern $y laid into a variable behind w6: W7, gb, kB
  obtain ⟨W7, hW7⟩ : ∃ W, W = World.alloc w6 (.cells #[.int .i64 y.ki, .int .i64 y.r, .int .i64 y.w1, .int .i64 y.w2, .int .i64 y.o, .slice none 0 0, .int .i64 y.fi, .int .i64 y.se] 34) := ⟨_, rfl⟩
  obtain ⟨gb, hgb⟩ : ∃ g, g = (World.heap w6).size := ⟨_, rfl⟩
  have bW7 : Below (World.heap w6).size w6 W7 := by rw [hW7]; exact below_alloc _ _
  have kB := Lib.hid (show Blk W7 gb 34 [.int .i64 y.ki, .int .i64 y.r, .int .i64 y.w1, .int .i64 y.w2, .int .i64 y.o, .slice none 0 0, .int .i64 y.fi, .int .i64 y.se] from by rw [hW7, hgb]; exact Blk.new w6 _ _)
  replace hB := Lib.hid ((hB.out.later b).later bW7)
  replace kA := Lib.hid ((kA.out.below b kA.out.lt).below bW7 (kA.out.below b kA.out.lt).lt)
  clear p0 p1 p2 b bW7 cF
  have p0 := hB.out.c0
  have p1 := hB.out.c1
  have p2 := hB.out.c2
  go_wp2_with (rw [← hW7, ← hgb]; clear hW7; replace hgb := Lib.hid hgb)
  refine (cG.out W7 hB.out.f).mono ?_; rintro e w8 ⟨y2, hy2, rfl, b⟩
  replace hy2 := Lib.hid True.intro
  -- a pattern $y laid into a variable behind w8: W9, gc, kC
  obtain ⟨W9, hW9⟩ : ∃ W, W = World.alloc w8 (.cells #[.int .i64 y2.ki, .int .i64 y2.r, .int .i64 y2.w1, .int .i64 y2.w2, .int .i64 y2.o, .slice none 0 0, .int .i64 y2.fi, .int .i64 y2.se] 34) := ⟨_, rfl⟩
  obtain ⟨gc, hgc⟩ : ∃ g, g = (World.heap w8).size := ⟨_, rfl⟩
  have bW9 : Below (World.heap w8).size w8 W9 := by rw [hW9]; exact below_alloc _ _
  have kC := Lib.hid (show Blk W9 gc 34 [.int .i64 y2.ki, .int .i64 y2.r, .int .i64 y2.w1, .int .i64 y2.w2, .int .i64 y2.o, .slice none 0 0, .int .i64 y2.fi, .int .i64 y2.se] from by rw [hW9, hgc]; exact Blk.new w8 _ _)
  replace hB := Lib.hid ((hB.out.later b).later bW9)
  replace kA := Lib.hid ((kA.out.below b kA.out.lt).below bW9 (kA.out.below b kA.out.lt).lt)
  clear p0 p1 p2 b bW9 cG
  -- the cells of a pattern's variable: kA.out : Blk W g Witness [8 cells]: a0 .. a7 (and $f0 .. : not frozen)
  have z0a := Blk.cell kA.out 0
  have z1a := Blk.cell kA.out 1
  have z2a := Blk.cell kA.out 2
  have z3a := Blk.cell kA.out 3
  have z4a := Blk.cell kA.out 4
  have z5a := Blk.cell kA.out 5
  have z6a := Blk.cell kA.out 6
  have z7a := Blk.cell kA.out 7
  simp only [List.getElem?_cons_zero, List.getElem?_cons_succ] at z0a z1a z2a z3a z4a z5a z6a z7a
  go_wp2_with (rw [← hW9, ← hgc]; clear hW9; replace hgc := Lib.hid hgc)
  go_ret
  exact ⟨rfl, hB.out.o⟩
end Go.Proofs.YtjhjojklfdjmdaaGreat
