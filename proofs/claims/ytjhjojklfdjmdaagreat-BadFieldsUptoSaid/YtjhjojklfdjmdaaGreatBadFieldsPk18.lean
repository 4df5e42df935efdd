/- Layer 19's law BadFields, walked (where what comes in is of no more than 2^40 operations). -/
import Derived.Test.YtjhjojklfdjmdaaGreatBadFieldsPk17
import Derived.Test.YtjhjojklfdjmdaaGreatBadFieldsPk11
import Derived.BigQuiet
namespace Go.Proofs.YtjhjojklfdjmdaaGreat
open Go.RowKit
set_option linter.unusedVariables false
set_option maxRecDepth 100000 in
set_option maxHeartbeats 8000000 in
theorem law19_BadFields (A : Option Addr) (n c : Nat) (lv : Int) (hs : List (List OpT)) (w : World) (hl0 : 0 ≤ lv) (hl1 : lv < 256) (hX : HistAt w A n hs) (hnc : n ≤ c) (hc : c ≤ 1099511627776) (hF : (allO hs).length ≤ 1099511627776) :
    Calls Tryz.prog 5 #[.slice A n c, .int .u8 lv] w (RetBool true w) := by
  obtain ⟨t, t1, t2, t3, t4, t5, t6⟩ := tmod3 hl0 hl1
  -- a law of one history hs (at A n c) that guards itself by Small 12, then asks for whole facts: walked to where they lie (hB : FBox w g x f V, V not yet named: hV, hg); f's hf, hw, hm30
  have hXl := Lib.hid hX.len
  have cS := Lib.hid (ref6_Small A n c 12 hs w hX (by omega) (by omega))
  replace hX := Lib.hid hX
  cases hsa : smallL hs 12 with
  | false =>
    rw [hsa] at cS
    clear hsa
    go_enter Tryz.func5, Tryz.ntmps5
    go_wp2_with fail
    refine cS.out.mono ?_; rintro e w1 ⟨rfl, b1⟩
    go_wp2_with fail
    refine (law19_awake w1).mono ?_; rintro e w9 ⟨rfl, b9⟩
    go_wp2_with fail
    go_ret
    exact ⟨rfl, below_trans2 b1 b9⟩
  | true =>
    rw [hsa] at cS
    obtain ⟨hnx, hFx, hnm8⟩ := smallL_says hsa
    rw [hXl.out] at hnx
    replace hnm8 := Lib.hid hnm8
    clear hsa
    go_enter Tryz.func5, Tryz.ntmps5
    go_wp2_with fail
    refine cS.out.mono ?_; rintro e w1 ⟨rfl, b1⟩
    replace hX := Lib.hid (hX.out.below b1)
    have c1 := Lib.hid (ref11_Of A n c hs w1 hX.out (by omega) (by omega))
    go_wp2_with fail
    refine c1.out.mono ?_; rintro e w3 ⟨x, rfl, hG, b3⟩
    obtain ⟨V, hV⟩ : ∃ W, W = w3.alloc (.cells #[.slice x.A x.n x.c, .slice x.B x.m x.d, .slice x.C x.k x.e] 29) := ⟨_, rfl⟩
    obtain ⟨g, hg⟩ : ∃ g, g = w3.heap.size := ⟨_, rfl⟩
    have bV : Below w3.heap.size w3 V := by rw [hV]; exact (Below.refl _ _).alloc (Nat.le_refl _) _
    cases hok : okO11 hs with
    | false =>
      have bb := Lib.hid (below_trans2 (below_trans2 b1 b3) bV)
      clear hG b1 b3 bV hok c1 cS
      go_wp2_with (rw [← hV, ← hg]; clear hV; replace hg := Lib.hid hg)
      refine (law19_awake V).mono ?_; rintro e w9 ⟨rfl, b9⟩
      go_wp2_with fail
      go_ret
      exact ⟨rfl, below_trans2 bb.out b9⟩
    | true =>
      obtain ⟨f, hf⟩ : ∃ f : Fac, f = fillF (facO hs) := ⟨_, rfl⟩
      have hGf := hG hok
      rw [← hf] at hGf
      have hw : WholeF f := by rw [hf]; exact fillF_whole _
      have hff : f.frm = fromF f.items := by rw [hf]; rfl
      have hm30 : x.m ≤ 12 := by
        rw [← hGf.is.len, hf]
        show (hisF hs).2.length ≤ 12
        rw [hisF_len]; omega
      have hB := Lib.hid ((FBox.new hGf).from_ (below_trans2 b1 b3))
      rw [← hV, ← hg] at hB
      replace hX := Lib.hid ((hX.out.below b3).below bV)
      replace hok := Lib.hid hok
      replace hf := Lib.hid hf
      clear hG hGf b1 b3 bV c1 cS
      clear hX
      have c1 := fun W hW => bad_Find x f (1 + t) W hW (by omega) hw (seenX_hist hW hf.out (by omega))
      rw [findE_123 (show 1 + t = 1 ∨ 1 + t = 2 ∨ 1 + t = 3 by omega)] at c1
      unfold RetFind at c1
      have hil := hB.out.f.is.len
      have hkl := hB.out.f.fs.len
      have hwl := hw.len
      have hkm : x.k = x.m := by omega
      have dm : decide ((-1 : Int) < (x.m : Int)) = true := decide_eq_true (by omega)
      have hfr := hB.out.f.fs
      replace hkm := Lib.hid hkm
      cases hf' : findF f (1 + t) with
      | none =>
        rw [hf'] at c1
        simp only [Option.isSome_none, Bool.false_eq_true, if_false, Option.getD_none] at c1
        replace c1 := Lib.hid c1
        replace hw := Lib.hid hw
        replace hf' := Lib.hid hf'
        replace hfr := Lib.hid hfr
        replace hil := Lib.hid hil
        replace hkl := Lib.hid hkl
        replace hwl := Lib.hid hwl
        have p0 := hB.out.c0
        have p1 := hB.out.c1
        have p2 := hB.out.c2
        go_wp2_with (rw [← hV, ← hg]; clear hV; replace hg := Lib.hid hg)
        refine (c1.out V hB.out.f).mono ?_; rintro e w4 ⟨y, hy, rfl, b⟩
        have e0 : (y.ki == 0) = true := by rw [hy]; rfl
        replace hy := Lib.hid hy
        obtain ⟨W5, hW5⟩ : ∃ W, W = World.alloc w4 (.cells #[.int .i64 y.ki, .int .i64 y.r, .int .i64 y.w1, .int .i64 y.w2, .int .i64 y.o, .slice none 0 0, .int .i64 y.fi, .int .i64 y.se] 34) := ⟨_, rfl⟩
        obtain ⟨ga, hga⟩ : ∃ g, g = w4.heap.size := ⟨_, rfl⟩
        have bW5 : Below w4.heap.size w4 W5 := by rw [hW5]; exact below_alloc _ _
        have kA := Lib.hid (show Blk W5 ga 34 [.int .i64 y.ki, .int .i64 y.r, .int .i64 y.w1, .int .i64 y.w2, .int .i64 y.o, .slice none 0 0, .int .i64 y.fi, .int .i64 y.se] from by rw [hW5, hga]; exact Blk.new w4 _ _)
        replace hB := Lib.hid ((hB.out.later b).later bW5)
        clear p0 p1 p2 b bW5 c1
        go_wp2_with (rw [← hW5, ← hga]; clear hW5; replace hga := Lib.hid hga)
        refine (law19_awake W5).mono ?_; rintro e w8 ⟨rfl, b⟩
        replace hB := Lib.hid (hB.out.later b)
        replace kA := Lib.hid (kA.out.below b kA.out.lt)
        clear b
        -- the cells of a pattern's variable: kA.out : Blk W g Witness [8 cells]: a0 .. a7 (and $f0 .. : not frozen)
        have z0a := Blk.cell kA.out 0
        have z1a := Blk.cell kA.out 1
        have z2a := Blk.cell kA.out 2
        have z3a := Blk.cell kA.out 3
        have z4a := Blk.cell kA.out 4
        have z5a := Blk.cell kA.out 5
        have z6a := Blk.cell kA.out 6
        have z7a := Blk.cell kA.out 7
        simp only [List.getElem?_cons_zero, List.getElem?_cons_succ] at z0a z1a z2a z3a z4a z5a z6a z7a
        go_wp2_with fail
        go_ret
        exact ⟨rfl, hB.out.o⟩
      | some x1 =>
        have hok := find_fields hw hf'
        rw [hf'] at c1
        simp only [Option.isSome_some, if_true, Option.getD_some] at c1
        replace hf' := Lib.hid True.intro
        cases hok with
        | thin r hr =>
          have hrk := (List.getElem?_eq_some_iff.1 hr).1
          -- the letter ri for the number r
          obtain ⟨ri, hri⟩ : ∃ letter : Int, letter = (r : Int) := ⟨_, rfl⟩
          rw [← hri] at c1
          have tri : Hid ((ri).toNat = r) := Lib.hid (by omega)
          have bri : 0 ≤ ri ∧ ri < (x.m : Int) := ⟨by omega, by omega⟩
          have dri : decide (ri < (x.m : Int)) = true := decide_eq_true bri.2
          have eri : decide (-1 ≤ ri) = true := decide_eq_true (by omega)
          have fri : decide (0 ≤ ri) = true := decide_eq_true (by omega)
          replace hri := Lib.hid hri
          replace hw := Lib.hid hw
          -- a level's pattern, of the cells .int .i64 1, .int .i64 ri, .int .i64 (-1), .int .i64 (-1), .int .i64 (-1), .slice none 0 0, .int .i64 (-1), .int .i64 (-1) (c1 : Find's contract): walked to behind its variable ga (kA)
          have c2 := Lib.hid (fun W hW => (c1 W hW).mono (R' := fun e w' => e = .returned (.tuple #[.agg #[.int .i64 1, .int .i64 ri, .int .i64 (-1), .int .i64 (-1), .int .i64 (-1), .slice none 0 0, .int .i64 (-1), .int .i64 (-1)], .int .i64 0]) ∧ Below W.heap.size W w') (fun e w' ⟨y, hy, he, hb⟩ => by subst hy; exact ⟨he, hb⟩))
          clear c1
          have p0 := hB.out.c0
          have p1 := hB.out.c1
          have p2 := hB.out.c2
          go_wp2_with (rw [← hV, ← hg]; clear hV; replace hg := Lib.hid hg)
          refine (c2.out V hB.out.f).mono ?_; rintro e w4 ⟨rfl, b⟩
          obtain ⟨W5, hW5⟩ : ∃ W, W = World.alloc w4 (.cells #[.int .i64 1, .int .i64 ri, .int .i64 (-1), .int .i64 (-1), .int .i64 (-1), .slice none 0 0, .int .i64 (-1), .int .i64 (-1)] 34) := ⟨_, rfl⟩
          obtain ⟨ga, hga⟩ : ∃ g, g = w4.heap.size := ⟨_, rfl⟩
          have bW5 : Below w4.heap.size w4 W5 := by rw [hW5]; exact below_alloc _ _
          have kA := Lib.hid (show Blk W5 ga 34 [.int .i64 1, .int .i64 ri, .int .i64 (-1), .int .i64 (-1), .int .i64 (-1), .slice none 0 0, .int .i64 (-1), .int .i64 (-1)] from by rw [hW5, hga]; exact Blk.new w4 _ _)
          replace hB := Lib.hid ((hB.out.later b).later bW5)
          clear p0 p1 p2 b bW5 c2
          -- the cells of a pattern's variable: kA.out : Blk W g Witness [8 cells]: a0 .. a7 (and $f0 .. : not frozen)
          have z0a := Blk.cell kA.out 0
          have z1a := Blk.cell kA.out 1
          have z2a := Blk.cell kA.out 2
          have z3a := Blk.cell kA.out 3
          have z4a := Blk.cell kA.out 4
          have z5a := Blk.cell kA.out 5
          have z6a := Blk.cell kA.out 6
          have z7a := Blk.cell kA.out 7
          simp only [List.getElem?_cons_zero, List.getElem?_cons_succ] at z0a z1a z2a z3a z4a z5a z6a z7a
          have p0 := hB.out.c0
          have p1 := hB.out.c1
          have p2 := hB.out.c2
          go_wp2_with (rw [← hW5, ← hga]; clear hW5; replace hga := Lib.hid hga)
          refine (law19_awake W5).mono ?_; rintro e w8 ⟨rfl, b⟩
          -- behind a call (b : Below ..)
          replace hB := Lib.hid (hB.out.later b)
          replace kA := Lib.hid (kA.out.below b kA.out.lt)
          clear b z0a z1a z2a z3a z4a z5a z6a z7a p0 p1 p2
          -- the cells of a pattern's variable: kA.out : Blk W g Witness [8 cells]: a0 .. a7 (and $f0 .. : not frozen)
          have z0a := Blk.cell kA.out 0
          have z1a := Blk.cell kA.out 1
          have z2a := Blk.cell kA.out 2
          have z3a := Blk.cell kA.out 3
          have z4a := Blk.cell kA.out 4
          have z5a := Blk.cell kA.out 5
          have z6a := Blk.cell kA.out 6
          have z7a := Blk.cell kA.out 7
          simp only [List.getElem?_cons_zero, List.getElem?_cons_succ] at z0a z1a z2a z3a z4a z5a z6a z7a
          have p0 := hB.out.c0
          have p1 := hB.out.c1
          have p2 := hB.out.c2
          obtain ⟨zb, zo, z, hzC, -, hz, -, k0⟩ := hB.out.f.fs.int (k := r) (by omega)
          rw [hr] at hz
          injection hz with hz
          subst hz
          rw [hzC] at p2
          rw [← tri.out] at k0
          have bk : 0 ≤ ri ∧ ri < (x.k : Int) := by have := hkm.out; omega
          clear hzC hr
          go_wp2_with fail
          go_ret
          exact ⟨rfl, hB.out.o⟩
        | round k hk i hi =>
          -- the letter oi for the number i
          obtain ⟨oi, hoi⟩ : ∃ letter : Int, letter = (i : Int) := ⟨_, rfl⟩
          rw [← hoi] at c1
          have toi : Hid ((oi).toNat = i) := Lib.hid (by omega)
          have boi : 0 ≤ oi ∧ oi < (x.m : Int) := ⟨by omega, by omega⟩
          have doi : decide (oi < (x.m : Int)) = true := decide_eq_true boi.2
          have eoi : decide (-1 ≤ oi) = true := decide_eq_true (by omega)
          have foi : decide (0 ≤ oi) = true := decide_eq_true (by omega)
          replace hoi := Lib.hid hoi
          replace hw := Lib.hid hw
          rcases hk with rfl | rfl
          · skip
            -- a level's pattern, of the cells .int .i64 2, .int .i64 (-1), .int .i64 (-1), .int .i64 (-1), .int .i64 oi, .slice none 0 0, .int .i64 (-1), .int .i64 (-1) (c1 : Find's contract): walked to behind its variable ga (kA)
            have c2 := Lib.hid (fun W hW => (c1 W hW).mono (R' := fun e w' => e = .returned (.tuple #[.agg #[.int .i64 2, .int .i64 (-1), .int .i64 (-1), .int .i64 (-1), .int .i64 oi, .slice none 0 0, .int .i64 (-1), .int .i64 (-1)], .int .i64 0]) ∧ Below W.heap.size W w') (fun e w' ⟨y, hy, he, hb⟩ => by subst hy; exact ⟨he, hb⟩))
            clear c1
            have p0 := hB.out.c0
            have p1 := hB.out.c1
            have p2 := hB.out.c2
            go_wp2_with (rw [← hV, ← hg]; clear hV; replace hg := Lib.hid hg)
            refine (c2.out V hB.out.f).mono ?_; rintro e w4 ⟨rfl, b⟩
            obtain ⟨W5, hW5⟩ : ∃ W, W = World.alloc w4 (.cells #[.int .i64 2, .int .i64 (-1), .int .i64 (-1), .int .i64 (-1), .int .i64 oi, .slice none 0 0, .int .i64 (-1), .int .i64 (-1)] 34) := ⟨_, rfl⟩
            obtain ⟨ga, hga⟩ : ∃ g, g = w4.heap.size := ⟨_, rfl⟩
            have bW5 : Below w4.heap.size w4 W5 := by rw [hW5]; exact below_alloc _ _
            have kA := Lib.hid (show Blk W5 ga 34 [.int .i64 2, .int .i64 (-1), .int .i64 (-1), .int .i64 (-1), .int .i64 oi, .slice none 0 0, .int .i64 (-1), .int .i64 (-1)] from by rw [hW5, hga]; exact Blk.new w4 _ _)
            replace hB := Lib.hid ((hB.out.later b).later bW5)
            clear p0 p1 p2 b bW5 c2
            -- the cells of a pattern's variable: kA.out : Blk W g Witness [8 cells]: a0 .. a7 (and $f0 .. : not frozen)
            have z0a := Blk.cell kA.out 0
            have z1a := Blk.cell kA.out 1
            have z2a := Blk.cell kA.out 2
            have z3a := Blk.cell kA.out 3
            have z4a := Blk.cell kA.out 4
            have z5a := Blk.cell kA.out 5
            have z6a := Blk.cell kA.out 6
            have z7a := Blk.cell kA.out 7
            simp only [List.getElem?_cons_zero, List.getElem?_cons_succ] at z0a z1a z2a z3a z4a z5a z6a z7a
            have p0 := hB.out.c0
            have p1 := hB.out.c1
            have p2 := hB.out.c2
            go_wp2_with (rw [← hW5, ← hga]; clear hW5; replace hga := Lib.hid hga)
            refine (law19_awake W5).mono ?_; rintro e w8 ⟨rfl, b⟩
            -- behind a call (b : Below ..)
            replace hB := Lib.hid (hB.out.later b)
            replace kA := Lib.hid (kA.out.below b kA.out.lt)
            clear b z0a z1a z2a z3a z4a z5a z6a z7a p0 p1 p2
            -- the cells of a pattern's variable: kA.out : Blk W g Witness [8 cells]: a0 .. a7 (and $f0 .. : not frozen)
            have z0a := Blk.cell kA.out 0
            have z1a := Blk.cell kA.out 1
            have z2a := Blk.cell kA.out 2
            have z3a := Blk.cell kA.out 3
            have z4a := Blk.cell kA.out 4
            have z5a := Blk.cell kA.out 5
            have z6a := Blk.cell kA.out 6
            have z7a := Blk.cell kA.out 7
            simp only [List.getElem?_cons_zero, List.getElem?_cons_succ] at z0a z1a z2a z3a z4a z5a z6a z7a
            have p0 := hB.out.c0
            have p1 := hB.out.c1
            have p2 := hB.out.c2
            go_wp2_with fail
            go_ret
            exact ⟨rfl, hB.out.o⟩
          · skip
            -- a level's pattern, of the cells .int .i64 5, .int .i64 (-1), .int .i64 (-1), .int .i64 (-1), .int .i64 oi, .slice none 0 0, .int .i64 (-1), .int .i64 (-1) (c1 : Find's contract): walked to behind its variable ga (kA)
            have c2 := Lib.hid (fun W hW => (c1 W hW).mono (R' := fun e w' => e = .returned (.tuple #[.agg #[.int .i64 5, .int .i64 (-1), .int .i64 (-1), .int .i64 (-1), .int .i64 oi, .slice none 0 0, .int .i64 (-1), .int .i64 (-1)], .int .i64 0]) ∧ Below W.heap.size W w') (fun e w' ⟨y, hy, he, hb⟩ => by subst hy; exact ⟨he, hb⟩))
            clear c1
            have p0 := hB.out.c0
            have p1 := hB.out.c1
            have p2 := hB.out.c2
            go_wp2_with (rw [← hV, ← hg]; clear hV; replace hg := Lib.hid hg)
            refine (c2.out V hB.out.f).mono ?_; rintro e w4 ⟨rfl, b⟩
            obtain ⟨W5, hW5⟩ : ∃ W, W = World.alloc w4 (.cells #[.int .i64 5, .int .i64 (-1), .int .i64 (-1), .int .i64 (-1), .int .i64 oi, .slice none 0 0, .int .i64 (-1), .int .i64 (-1)] 34) := ⟨_, rfl⟩
            obtain ⟨ga, hga⟩ : ∃ g, g = w4.heap.size := ⟨_, rfl⟩
            have bW5 : Below w4.heap.size w4 W5 := by rw [hW5]; exact below_alloc _ _
            have kA := Lib.hid (show Blk W5 ga 34 [.int .i64 5, .int .i64 (-1), .int .i64 (-1), .int .i64 (-1), .int .i64 oi, .slice none 0 0, .int .i64 (-1), .int .i64 (-1)] from by rw [hW5, hga]; exact Blk.new w4 _ _)
            replace hB := Lib.hid ((hB.out.later b).later bW5)
            clear p0 p1 p2 b bW5 c2
            -- the cells of a pattern's variable: kA.out : Blk W g Witness [8 cells]: a0 .. a7 (and $f0 .. : not frozen)
            have z0a := Blk.cell kA.out 0
            have z1a := Blk.cell kA.out 1
            have z2a := Blk.cell kA.out 2
            have z3a := Blk.cell kA.out 3
            have z4a := Blk.cell kA.out 4
            have z5a := Blk.cell kA.out 5
            have z6a := Blk.cell kA.out 6
            have z7a := Blk.cell kA.out 7
            simp only [List.getElem?_cons_zero, List.getElem?_cons_succ] at z0a z1a z2a z3a z4a z5a z6a z7a
            have p0 := hB.out.c0
            have p1 := hB.out.c1
            have p2 := hB.out.c2
            go_wp2_with (rw [← hW5, ← hga]; clear hW5; replace hga := Lib.hid hga)
            refine (law19_awake W5).mono ?_; rintro e w8 ⟨rfl, b⟩
            -- behind a call (b : Below ..)
            replace hB := Lib.hid (hB.out.later b)
            replace kA := Lib.hid (kA.out.below b kA.out.lt)
            clear b z0a z1a z2a z3a z4a z5a z6a z7a p0 p1 p2
            -- the cells of a pattern's variable: kA.out : Blk W g Witness [8 cells]: a0 .. a7 (and $f0 .. : not frozen)
            have z0a := Blk.cell kA.out 0
            have z1a := Blk.cell kA.out 1
            have z2a := Blk.cell kA.out 2
            have z3a := Blk.cell kA.out 3
            have z4a := Blk.cell kA.out 4
            have z5a := Blk.cell kA.out 5
            have z6a := Blk.cell kA.out 6
            have z7a := Blk.cell kA.out 7
            simp only [List.getElem?_cons_zero, List.getElem?_cons_succ] at z0a z1a z2a z3a z4a z5a z6a z7a
            have p0 := hB.out.c0
            have p1 := hB.out.c1
            have p2 := hB.out.c2
            go_wp2_with fail
            go_ret
            exact ⟨rfl, hB.out.o⟩
        | hb o i ho hi =>
          -- the letter oi for the number o
          obtain ⟨oi, hoi⟩ : ∃ letter : Int, letter = (o : Int) := ⟨_, rfl⟩
          rw [← hoi] at c1
          have toi : Hid ((oi).toNat = o) := Lib.hid (by omega)
          have boi : 0 ≤ oi ∧ oi < (x.m : Int) := ⟨by omega, by omega⟩
          have doi : decide (oi < (x.m : Int)) = true := decide_eq_true boi.2
          have eoi : decide (-1 ≤ oi) = true := decide_eq_true (by omega)
          have foi : decide (0 ≤ oi) = true := decide_eq_true (by omega)
          replace hoi := Lib.hid hoi
          -- the letter ii for the number i
          obtain ⟨ii, hii⟩ : ∃ letter : Int, letter = (i : Int) := ⟨_, rfl⟩
          rw [← hii] at c1
          have tii : Hid ((ii).toNat = i) := Lib.hid (by omega)
          have bii : 0 ≤ ii ∧ ii < (x.m : Int) := ⟨by omega, by omega⟩
          have dii : decide (ii < (x.m : Int)) = true := decide_eq_true bii.2
          have eii : decide (-1 ≤ ii) = true := decide_eq_true (by omega)
          have fii : decide (0 ≤ ii) = true := decide_eq_true (by omega)
          replace hii := Lib.hid hii
          replace hw := Lib.hid hw
          -- a level's pattern, of the cells .int .i64 7, .int .i64 (-1), .int .i64 ii, .int .i64 (-1), .int .i64 oi, .slice none 0 0, .int .i64 (-1), .int .i64 (-1) (c1 : Find's contract): walked to behind its variable ga (kA)
          have c2 := Lib.hid (fun W hW => (c1 W hW).mono (R' := fun e w' => e = .returned (.tuple #[.agg #[.int .i64 7, .int .i64 (-1), .int .i64 ii, .int .i64 (-1), .int .i64 oi, .slice none 0 0, .int .i64 (-1), .int .i64 (-1)], .int .i64 0]) ∧ Below W.heap.size W w') (fun e w' ⟨y, hy, he, hb⟩ => by subst hy; exact ⟨he, hb⟩))
          clear c1
          have p0 := hB.out.c0
          have p1 := hB.out.c1
          have p2 := hB.out.c2
          go_wp2_with (rw [← hV, ← hg]; clear hV; replace hg := Lib.hid hg)
          refine (c2.out V hB.out.f).mono ?_; rintro e w4 ⟨rfl, b⟩
          obtain ⟨W5, hW5⟩ : ∃ W, W = World.alloc w4 (.cells #[.int .i64 7, .int .i64 (-1), .int .i64 ii, .int .i64 (-1), .int .i64 oi, .slice none 0 0, .int .i64 (-1), .int .i64 (-1)] 34) := ⟨_, rfl⟩
          obtain ⟨ga, hga⟩ : ∃ g, g = w4.heap.size := ⟨_, rfl⟩
          have bW5 : Below w4.heap.size w4 W5 := by rw [hW5]; exact below_alloc _ _
          have kA := Lib.hid (show Blk W5 ga 34 [.int .i64 7, .int .i64 (-1), .int .i64 ii, .int .i64 (-1), .int .i64 oi, .slice none 0 0, .int .i64 (-1), .int .i64 (-1)] from by rw [hW5, hga]; exact Blk.new w4 _ _)
          replace hB := Lib.hid ((hB.out.later b).later bW5)
          clear p0 p1 p2 b bW5 c2
          -- the cells of a pattern's variable: kA.out : Blk W g Witness [8 cells]: a0 .. a7 (and $f0 .. : not frozen)
          have z0a := Blk.cell kA.out 0
          have z1a := Blk.cell kA.out 1
          have z2a := Blk.cell kA.out 2
          have z3a := Blk.cell kA.out 3
          have z4a := Blk.cell kA.out 4
          have z5a := Blk.cell kA.out 5
          have z6a := Blk.cell kA.out 6
          have z7a := Blk.cell kA.out 7
          simp only [List.getElem?_cons_zero, List.getElem?_cons_succ] at z0a z1a z2a z3a z4a z5a z6a z7a
          have p0 := hB.out.c0
          have p1 := hB.out.c1
          have p2 := hB.out.c2
          go_wp2_with (rw [← hW5, ← hga]; clear hW5; replace hga := Lib.hid hga)
          refine (law19_awake W5).mono ?_; rintro e w8 ⟨rfl, b⟩
          -- behind a call (b : Below ..)
          replace hB := Lib.hid (hB.out.later b)
          replace kA := Lib.hid (kA.out.below b kA.out.lt)
          clear b z0a z1a z2a z3a z4a z5a z6a z7a p0 p1 p2
          -- the cells of a pattern's variable: kA.out : Blk W g Witness [8 cells]: a0 .. a7 (and $f0 .. : not frozen)
          have z0a := Blk.cell kA.out 0
          have z1a := Blk.cell kA.out 1
          have z2a := Blk.cell kA.out 2
          have z3a := Blk.cell kA.out 3
          have z4a := Blk.cell kA.out 4
          have z5a := Blk.cell kA.out 5
          have z6a := Blk.cell kA.out 6
          have z7a := Blk.cell kA.out 7
          simp only [List.getElem?_cons_zero, List.getElem?_cons_succ] at z0a z1a z2a z3a z4a z5a z6a z7a
          have p0 := hB.out.c0
          have p1 := hB.out.c1
          have p2 := hB.out.c2
          go_wp2_with fail
          go_ret
          exact ⟨rfl, hB.out.o⟩
        | early r z h =>
          have hrk : r < x.m := by obtain ⟨yr, yz, -, hyr, -⟩ := h; have := (List.getElem?_eq_some_iff.1 hyr).1; omega
          have hzk : z < x.m := by obtain ⟨yr, yz, -, -, hyz, -⟩ := h; have := (List.getElem?_eq_some_iff.1 hyz).1; omega
          -- the letter ri for the number r
          obtain ⟨ri, hri⟩ : ∃ letter : Int, letter = (r : Int) := ⟨_, rfl⟩
          rw [← hri] at c1
          have tri : Hid ((ri).toNat = r) := Lib.hid (by omega)
          have bri : 0 ≤ ri ∧ ri < (x.m : Int) := ⟨by omega, by omega⟩
          have dri : decide (ri < (x.m : Int)) = true := decide_eq_true bri.2
          have eri : decide (-1 ≤ ri) = true := decide_eq_true (by omega)
          have fri : decide (0 ≤ ri) = true := decide_eq_true (by omega)
          replace hri := Lib.hid hri
          -- the letter zi for the number z
          obtain ⟨zi, hzi⟩ : ∃ letter : Int, letter = (z : Int) := ⟨_, rfl⟩
          rw [← hzi] at c1
          have tzi : Hid ((zi).toNat = z) := Lib.hid (by omega)
          have bzi : 0 ≤ zi ∧ zi < (x.m : Int) := ⟨by omega, by omega⟩
          have dzi : decide (zi < (x.m : Int)) = true := decide_eq_true bzi.2
          have ezi : decide (-1 ≤ zi) = true := decide_eq_true (by omega)
          have fzi : decide (0 ≤ zi) = true := decide_eq_true (by omega)
          replace hzi := Lib.hid hzi
          replace hw := Lib.hid hw
          -- a level's pattern, of the cells .int .i64 3, .int .i64 ri, .int .i64 zi, .int .i64 (-1), .int .i64 (-1), .slice none 0 0, .int .i64 (-1), .int .i64 (-1) (c1 : Find's contract): walked to behind its variable ga (kA)
          have c2 := Lib.hid (fun W hW => (c1 W hW).mono (R' := fun e w' => e = .returned (.tuple #[.agg #[.int .i64 3, .int .i64 ri, .int .i64 zi, .int .i64 (-1), .int .i64 (-1), .slice none 0 0, .int .i64 (-1), .int .i64 (-1)], .int .i64 0]) ∧ Below W.heap.size W w') (fun e w' ⟨y, hy, he, hb⟩ => by subst hy; exact ⟨he, hb⟩))
          clear c1
          have p0 := hB.out.c0
          have p1 := hB.out.c1
          have p2 := hB.out.c2
          go_wp2_with (rw [← hV, ← hg]; clear hV; replace hg := Lib.hid hg)
          refine (c2.out V hB.out.f).mono ?_; rintro e w4 ⟨rfl, b⟩
          obtain ⟨W5, hW5⟩ : ∃ W, W = World.alloc w4 (.cells #[.int .i64 3, .int .i64 ri, .int .i64 zi, .int .i64 (-1), .int .i64 (-1), .slice none 0 0, .int .i64 (-1), .int .i64 (-1)] 34) := ⟨_, rfl⟩
          obtain ⟨ga, hga⟩ : ∃ g, g = w4.heap.size := ⟨_, rfl⟩
          have bW5 : Below w4.heap.size w4 W5 := by rw [hW5]; exact below_alloc _ _
          have kA := Lib.hid (show Blk W5 ga 34 [.int .i64 3, .int .i64 ri, .int .i64 zi, .int .i64 (-1), .int .i64 (-1), .slice none 0 0, .int .i64 (-1), .int .i64 (-1)] from by rw [hW5, hga]; exact Blk.new w4 _ _)
          replace hB := Lib.hid ((hB.out.later b).later bW5)
          clear p0 p1 p2 b bW5 c2
          -- the cells of a pattern's variable: kA.out : Blk W g Witness [8 cells]: a0 .. a7 (and $f0 .. : not frozen)
          have z0a := Blk.cell kA.out 0
          have z1a := Blk.cell kA.out 1
          have z2a := Blk.cell kA.out 2
          have z3a := Blk.cell kA.out 3
          have z4a := Blk.cell kA.out 4
          have z5a := Blk.cell kA.out 5
          have z6a := Blk.cell kA.out 6
          have z7a := Blk.cell kA.out 7
          simp only [List.getElem?_cons_zero, List.getElem?_cons_succ] at z0a z1a z2a z3a z4a z5a z6a z7a
          have p0 := hB.out.c0
          have p1 := hB.out.c1
          have p2 := hB.out.c2
          replace hil := Lib.hid hil
          replace hkl := Lib.hid hkl
          replace hwl := Lib.hid hwl
          replace hfr := Lib.hid True.intro
          go_wp2_with (rw [← hW5, ← hga]; clear hW5; replace hga := Lib.hid hga)
          refine wp_region_plan 44 [(true, 0), (true, 1), (true, 2), (true, 3), (true, 4), (true, 5), (true, 6), (true, 7), (true, 8), (true, 9), (true, 10), (true, 11), (true, 12), (true, 13), (true, 14), (true, 15), (true, 16), (true, 17), (true, 18), (true, 19), (true, 20), (true, 21), (true, 22), (true, 23), (true, 24), (true, 25), (true, 26), (true, 27), (true, 28), (true, 29), (true, 30), (true, 31), (true, 32), (true, 33), (true, 34), (true, 35), (true, 36), (true, 37), (true, 38), (true, 39), (true, 40), (true, 41), (true, 42), (true, 43)] (by kernel_rfl) (by kernel_rfl) (fun U hU => ?_)
          have b : Below W5.heap.size W5 U := by rw [hU.out]; exact (Below.refl _ _).drew
          -- behind a call (b : Below ..)
          replace hB := Lib.hid (hB.out.later b)
          replace kA := Lib.hid (kA.out.below b kA.out.lt)
          clear b z0a z1a z2a z3a z4a z5a z6a z7a p0 p1 p2
          -- the cells of a pattern's variable: kA.out : Blk W g Witness [8 cells]: a0 .. a7 (and $f0 .. : not frozen)
          have z0a := Blk.cell kA.out 0
          have z1a := Blk.cell kA.out 1
          have z2a := Blk.cell kA.out 2
          have z3a := Blk.cell kA.out 3
          have z4a := Blk.cell kA.out 4
          have z5a := Blk.cell kA.out 5
          have z6a := Blk.cell kA.out 6
          have z7a := Blk.cell kA.out 7
          simp only [List.getElem?_cons_zero, List.getElem?_cons_succ] at z0a z1a z2a z3a z4a z5a z6a z7a
          have p0 := hB.out.c0
          have p1 := hB.out.c1
          have p2 := hB.out.c2
          -- early: kinds 3 and 6 (W5 is walked to the region 23); ri, zi
          obtain ⟨yr, yz, hr, hyr, hyz, hzw, hzv⟩ := h
          obtain ⟨zb, zo, fz, hzC, -, hz, -, k0⟩ := hB.out.f.fs.int (k := r) (by have := (List.getElem?_eq_some_iff.1 hr).1; have := hkl.out; omega)
          rw [hr] at hz
          injection hz with hz
          subst hz
          rw [← tri.out] at k0
          obtain ⟨ib, io, y1, hxB, -, hy1, -, -, -, r2, r3, -⟩ := hB.out.f.is.item (k := r) (by have := (List.getElem?_eq_some_iff.1 hyr).1; have := hil.out; omega)
          rw [hyr] at hy1
          injection hy1 with hy1
          obtain ⟨jb, jo, y2, hxB2, -, hy2, -, -, -, s2, s3, -⟩ := hB.out.f.is.item (k := z) (by have := (List.getElem?_eq_some_iff.1 hyz).1; have := hil.out; omega)
          rw [hyz] at hy2
          injection hy2 with hy2
          subst hy1
          subst hy2
          rw [hxB] at hxB2
          injection hxB2 with hxB2
          injection hxB2 with q1 q2
          subst q1; subst q2
          rw [← tri.out] at r2 r3
          rw [← tzi.out] at s2 s3
          rw [hzw] at s2
          rw [hzv] at s3
          rw [hzC] at p2
          rw [hxB] at p1
          have bk : 0 ≤ ri ∧ ri < (x.k : Int) := by have := hkm.out; omega
          have ev : (yr.va == yr.va) = true := by simp
          clear hzC hxB hr hyr hyz hzw hzv
          clear hU
          simp only [List.drop_succ_cons, List.drop_nil]
          iterate 44
            refine wpPlan_float (v := ?_) rfl (by rfl) (fun w' hw' => ?_) (fun K hK => ?_)
            rotate_left
            · (go_simp; try with_reducible rfl)
            go_simp
            refine hK _ ?_
            clear hK K
          refine wpPlan_nil (NoPanic.normal ?_)
          go_wp2_with fail
          refine (law19_awake U).mono ?_; rintro e w8 ⟨rfl, b⟩
          clear r2 r3 s2 s3 k0
          -- behind a call (b : Below ..)
          replace hB := Lib.hid (hB.out.later b)
          replace kA := Lib.hid (kA.out.below b kA.out.lt)
          clear b z0a z1a z2a z3a z4a z5a z6a z7a p0 p1 p2
          -- the cells of a pattern's variable: kA.out : Blk W g Witness [8 cells]: a0 .. a7 (and $f0 .. : not frozen)
          have z0a := Blk.cell kA.out 0
          have z1a := Blk.cell kA.out 1
          have z2a := Blk.cell kA.out 2
          have z3a := Blk.cell kA.out 3
          have z4a := Blk.cell kA.out 4
          have z5a := Blk.cell kA.out 5
          have z6a := Blk.cell kA.out 6
          have z7a := Blk.cell kA.out 7
          simp only [List.getElem?_cons_zero, List.getElem?_cons_succ] at z0a z1a z2a z3a z4a z5a z6a z7a
          have p0 := hB.out.c0
          have p1 := hB.out.c1
          have p2 := hB.out.c2
          go_wp2_with fail
          go_ret
          exact ⟨rfl, hB.out.o⟩
        | init r z o h ho =>
          have hrk : r < x.m := by obtain ⟨yr, yz, -, hyr, -⟩ := h; have := (List.getElem?_eq_some_iff.1 hyr).1; omega
          have hzk : z < x.m := by obtain ⟨yr, yz, -, -, hyz, -⟩ := h; have := (List.getElem?_eq_some_iff.1 hyz).1; omega
          -- the letter ri for the number r
          obtain ⟨ri, hri⟩ : ∃ letter : Int, letter = (r : Int) := ⟨_, rfl⟩
          rw [← hri] at c1
          have tri : Hid ((ri).toNat = r) := Lib.hid (by omega)
          have bri : 0 ≤ ri ∧ ri < (x.m : Int) := ⟨by omega, by omega⟩
          have dri : decide (ri < (x.m : Int)) = true := decide_eq_true bri.2
          have eri : decide (-1 ≤ ri) = true := decide_eq_true (by omega)
          have fri : decide (0 ≤ ri) = true := decide_eq_true (by omega)
          replace hri := Lib.hid hri
          -- the letter zi for the number z
          obtain ⟨zi, hzi⟩ : ∃ letter : Int, letter = (z : Int) := ⟨_, rfl⟩
          rw [← hzi] at c1
          have tzi : Hid ((zi).toNat = z) := Lib.hid (by omega)
          have bzi : 0 ≤ zi ∧ zi < (x.m : Int) := ⟨by omega, by omega⟩
          have dzi : decide (zi < (x.m : Int)) = true := decide_eq_true bzi.2
          have ezi : decide (-1 ≤ zi) = true := decide_eq_true (by omega)
          have fzi : decide (0 ≤ zi) = true := decide_eq_true (by omega)
          replace hzi := Lib.hid hzi
          -- the letter oi for the number o
          obtain ⟨oi, hoi⟩ : ∃ letter : Int, letter = (o : Int) := ⟨_, rfl⟩
          rw [← hoi] at c1
          have toi : Hid ((oi).toNat = o) := Lib.hid (by omega)
          have boi : 0 ≤ oi ∧ oi < (x.m : Int) := ⟨by omega, by omega⟩
          have doi : decide (oi < (x.m : Int)) = true := decide_eq_true boi.2
          have eoi : decide (-1 ≤ oi) = true := decide_eq_true (by omega)
          have foi : decide (0 ≤ oi) = true := decide_eq_true (by omega)
          replace hoi := Lib.hid hoi
          replace hw := Lib.hid hw
          -- a level's pattern, of the cells .int .i64 6, .int .i64 ri, .int .i64 zi, .int .i64 (-1), .int .i64 oi, .slice none 0 0, .int .i64 (-1), .int .i64 (-1) (c1 : Find's contract): walked to behind its variable ga (kA)
          have c2 := Lib.hid (fun W hW => (c1 W hW).mono (R' := fun e w' => e = .returned (.tuple #[.agg #[.int .i64 6, .int .i64 ri, .int .i64 zi, .int .i64 (-1), .int .i64 oi, .slice none 0 0, .int .i64 (-1), .int .i64 (-1)], .int .i64 0]) ∧ Below W.heap.size W w') (fun e w' ⟨y, hy, he, hb⟩ => by subst hy; exact ⟨he, hb⟩))
          clear c1
          have p0 := hB.out.c0
          have p1 := hB.out.c1
          have p2 := hB.out.c2
          go_wp2_with (rw [← hV, ← hg]; clear hV; replace hg := Lib.hid hg)
          refine (c2.out V hB.out.f).mono ?_; rintro e w4 ⟨rfl, b⟩
          obtain ⟨W5, hW5⟩ : ∃ W, W = World.alloc w4 (.cells #[.int .i64 6, .int .i64 ri, .int .i64 zi, .int .i64 (-1), .int .i64 oi, .slice none 0 0, .int .i64 (-1), .int .i64 (-1)] 34) := ⟨_, rfl⟩
          obtain ⟨ga, hga⟩ : ∃ g, g = w4.heap.size := ⟨_, rfl⟩
          have bW5 : Below w4.heap.size w4 W5 := by rw [hW5]; exact below_alloc _ _
          have kA := Lib.hid (show Blk W5 ga 34 [.int .i64 6, .int .i64 ri, .int .i64 zi, .int .i64 (-1), .int .i64 oi, .slice none 0 0, .int .i64 (-1), .int .i64 (-1)] from by rw [hW5, hga]; exact Blk.new w4 _ _)
          replace hB := Lib.hid ((hB.out.later b).later bW5)
          clear p0 p1 p2 b bW5 c2
          -- the cells of a pattern's variable: kA.out : Blk W g Witness [8 cells]: a0 .. a7 (and $f0 .. : not frozen)
          have z0a := Blk.cell kA.out 0
          have z1a := Blk.cell kA.out 1
          have z2a := Blk.cell kA.out 2
          have z3a := Blk.cell kA.out 3
          have z4a := Blk.cell kA.out 4
          have z5a := Blk.cell kA.out 5
          have z6a := Blk.cell kA.out 6
          have z7a := Blk.cell kA.out 7
          simp only [List.getElem?_cons_zero, List.getElem?_cons_succ] at z0a z1a z2a z3a z4a z5a z6a z7a
          have p0 := hB.out.c0
          have p1 := hB.out.c1
          have p2 := hB.out.c2
          replace hil := Lib.hid hil
          replace hkl := Lib.hid hkl
          replace hwl := Lib.hid hwl
          replace hfr := Lib.hid True.intro
          go_wp2_with (rw [← hW5, ← hga]; clear hW5; replace hga := Lib.hid hga)
          refine wp_region_plan 44 [(true, 0), (true, 1), (true, 2), (true, 3), (true, 4), (true, 5), (true, 6), (true, 7), (true, 8), (true, 9), (true, 10), (true, 11), (true, 12), (true, 13), (true, 14), (true, 15), (true, 16), (true, 17), (true, 18), (true, 19), (true, 20), (true, 21), (true, 22), (true, 23), (true, 24), (true, 25), (true, 26), (true, 27), (true, 28), (true, 29), (true, 30), (true, 31), (true, 32), (true, 33), (true, 34), (true, 35), (true, 36), (true, 37), (true, 38), (true, 39), (true, 40), (true, 41), (true, 42), (true, 43)] (by kernel_rfl) (by kernel_rfl) (fun U hU => ?_)
          have b : Below W5.heap.size W5 U := by rw [hU.out]; exact (Below.refl _ _).drew
          -- behind a call (b : Below ..)
          replace hB := Lib.hid (hB.out.later b)
          replace kA := Lib.hid (kA.out.below b kA.out.lt)
          clear b z0a z1a z2a z3a z4a z5a z6a z7a p0 p1 p2
          -- the cells of a pattern's variable: kA.out : Blk W g Witness [8 cells]: a0 .. a7 (and $f0 .. : not frozen)
          have z0a := Blk.cell kA.out 0
          have z1a := Blk.cell kA.out 1
          have z2a := Blk.cell kA.out 2
          have z3a := Blk.cell kA.out 3
          have z4a := Blk.cell kA.out 4
          have z5a := Blk.cell kA.out 5
          have z6a := Blk.cell kA.out 6
          have z7a := Blk.cell kA.out 7
          simp only [List.getElem?_cons_zero, List.getElem?_cons_succ] at z0a z1a z2a z3a z4a z5a z6a z7a
          have p0 := hB.out.c0
          have p1 := hB.out.c1
          have p2 := hB.out.c2
          -- early: kinds 3 and 6 (W5 is walked to the region 23); ri, zi
          obtain ⟨yr, yz, hr, hyr, hyz, hzw, hzv⟩ := h
          obtain ⟨zb, zo, fz, hzC, -, hz, -, k0⟩ := hB.out.f.fs.int (k := r) (by have := (List.getElem?_eq_some_iff.1 hr).1; have := hkl.out; omega)
          rw [hr] at hz
          injection hz with hz
          subst hz
          rw [← tri.out] at k0
          obtain ⟨ib, io, y1, hxB, -, hy1, -, -, -, r2, r3, -⟩ := hB.out.f.is.item (k := r) (by have := (List.getElem?_eq_some_iff.1 hyr).1; have := hil.out; omega)
          rw [hyr] at hy1
          injection hy1 with hy1
          obtain ⟨jb, jo, y2, hxB2, -, hy2, -, -, -, s2, s3, -⟩ := hB.out.f.is.item (k := z) (by have := (List.getElem?_eq_some_iff.1 hyz).1; have := hil.out; omega)
          rw [hyz] at hy2
          injection hy2 with hy2
          subst hy1
          subst hy2
          rw [hxB] at hxB2
          injection hxB2 with hxB2
          injection hxB2 with q1 q2
          subst q1; subst q2
          rw [← tri.out] at r2 r3
          rw [← tzi.out] at s2 s3
          rw [hzw] at s2
          rw [hzv] at s3
          rw [hzC] at p2
          rw [hxB] at p1
          have bk : 0 ≤ ri ∧ ri < (x.k : Int) := by have := hkm.out; omega
          have ev : (yr.va == yr.va) = true := by simp
          clear hzC hxB hr hyr hyz hzw hzv
          clear hU
          simp only [List.drop_succ_cons, List.drop_nil]
          iterate 44
            refine wpPlan_float (v := ?_) rfl (by rfl) (fun w' hw' => ?_) (fun K hK => ?_)
            rotate_left
            · (go_simp; try with_reducible rfl)
            go_simp
            refine hK _ ?_
            clear hK K
          refine wpPlan_nil (NoPanic.normal ?_)
          go_wp2_with fail
          refine (law19_awake U).mono ?_; rintro e w8 ⟨rfl, b⟩
          clear r2 r3 s2 s3 k0
          -- behind a call (b : Below ..)
          replace hB := Lib.hid (hB.out.later b)
          replace kA := Lib.hid (kA.out.below b kA.out.lt)
          clear b z0a z1a z2a z3a z4a z5a z6a z7a p0 p1 p2
          -- the cells of a pattern's variable: kA.out : Blk W g Witness [8 cells]: a0 .. a7 (and $f0 .. : not frozen)
          have z0a := Blk.cell kA.out 0
          have z1a := Blk.cell kA.out 1
          have z2a := Blk.cell kA.out 2
          have z3a := Blk.cell kA.out 3
          have z4a := Blk.cell kA.out 4
          have z5a := Blk.cell kA.out 5
          have z6a := Blk.cell kA.out 6
          have z7a := Blk.cell kA.out 7
          simp only [List.getElem?_cons_zero, List.getElem?_cons_succ] at z0a z1a z2a z3a z4a z5a z6a z7a
          have p0 := hB.out.c0
          have p1 := hB.out.c1
          have p2 := hB.out.c2
          go_wp2_with fail
          go_ret
          exact ⟨rfl, hB.out.o⟩
        | betw r a z h =>
          have hrk : r < x.m := by obtain ⟨yr, yz, -, -, hyr, -⟩ := h; have := (List.getElem?_eq_some_iff.1 hyr).1; omega
          have hzk : z < x.m := by obtain ⟨yr, yz, -, -, -, hyz, -⟩ := h; have := (List.getElem?_eq_some_iff.1 hyz).1; omega
          have hak : a < x.m := by obtain ⟨yr, yz, -, ha, -⟩ := h; omega
          -- the letter ri for the number r
          obtain ⟨ri, hri⟩ : ∃ letter : Int, letter = (r : Int) := ⟨_, rfl⟩
          rw [← hri] at c1
          have tri : Hid ((ri).toNat = r) := Lib.hid (by omega)
          have bri : 0 ≤ ri ∧ ri < (x.m : Int) := ⟨by omega, by omega⟩
          have dri : decide (ri < (x.m : Int)) = true := decide_eq_true bri.2
          have eri : decide (-1 ≤ ri) = true := decide_eq_true (by omega)
          have fri : decide (0 ≤ ri) = true := decide_eq_true (by omega)
          replace hri := Lib.hid hri
          -- the letter ai for the number a
          obtain ⟨ai, hai⟩ : ∃ letter : Int, letter = (a : Int) := ⟨_, rfl⟩
          rw [← hai] at c1
          have tai : Hid ((ai).toNat = a) := Lib.hid (by omega)
          have bai : 0 ≤ ai ∧ ai < (x.m : Int) := ⟨by omega, by omega⟩
          have dai : decide (ai < (x.m : Int)) = true := decide_eq_true bai.2
          have eai : decide (-1 ≤ ai) = true := decide_eq_true (by omega)
          have fai : decide (0 ≤ ai) = true := decide_eq_true (by omega)
          replace hai := Lib.hid hai
          -- the letter zi for the number z
          obtain ⟨zi, hzi⟩ : ∃ letter : Int, letter = (z : Int) := ⟨_, rfl⟩
          rw [← hzi] at c1
          have tzi : Hid ((zi).toNat = z) := Lib.hid (by omega)
          have bzi : 0 ≤ zi ∧ zi < (x.m : Int) := ⟨by omega, by omega⟩
          have dzi : decide (zi < (x.m : Int)) = true := decide_eq_true bzi.2
          have ezi : decide (-1 ≤ zi) = true := decide_eq_true (by omega)
          have fzi : decide (0 ≤ zi) = true := decide_eq_true (by omega)
          replace hzi := Lib.hid hzi
          have hne : (zi != ai) = true := by
            obtain ⟨yr, yz, -, -, -, -, -, -, hza⟩ := h
            have h1 := hzi.out
            have h2 := hai.out
            simp
            omega
          have haa : (ai == ai) = true := by simp
          replace hw := Lib.hid hw
          -- a level's pattern, of the cells .int .i64 4, .int .i64 ri, .int .i64 ai, .int .i64 zi, .int .i64 (-1), .slice none 0 0, .int .i64 (-1), .int .i64 (-1) (c1 : Find's contract): walked to behind its variable ga (kA)
          have c2 := Lib.hid (fun W hW => (c1 W hW).mono (R' := fun e w' => e = .returned (.tuple #[.agg #[.int .i64 4, .int .i64 ri, .int .i64 ai, .int .i64 zi, .int .i64 (-1), .slice none 0 0, .int .i64 (-1), .int .i64 (-1)], .int .i64 0]) ∧ Below W.heap.size W w') (fun e w' ⟨y, hy, he, hb⟩ => by subst hy; exact ⟨he, hb⟩))
          clear c1
          have p0 := hB.out.c0
          have p1 := hB.out.c1
          have p2 := hB.out.c2
          go_wp2_with (rw [← hV, ← hg]; clear hV; replace hg := Lib.hid hg)
          refine (c2.out V hB.out.f).mono ?_; rintro e w4 ⟨rfl, b⟩
          obtain ⟨W5, hW5⟩ : ∃ W, W = World.alloc w4 (.cells #[.int .i64 4, .int .i64 ri, .int .i64 ai, .int .i64 zi, .int .i64 (-1), .slice none 0 0, .int .i64 (-1), .int .i64 (-1)] 34) := ⟨_, rfl⟩
          obtain ⟨ga, hga⟩ : ∃ g, g = w4.heap.size := ⟨_, rfl⟩
          have bW5 : Below w4.heap.size w4 W5 := by rw [hW5]; exact below_alloc _ _
          have kA := Lib.hid (show Blk W5 ga 34 [.int .i64 4, .int .i64 ri, .int .i64 ai, .int .i64 zi, .int .i64 (-1), .slice none 0 0, .int .i64 (-1), .int .i64 (-1)] from by rw [hW5, hga]; exact Blk.new w4 _ _)
          replace hB := Lib.hid ((hB.out.later b).later bW5)
          clear p0 p1 p2 b bW5 c2
          -- the cells of a pattern's variable: kA.out : Blk W g Witness [8 cells]: a0 .. a7 (and $f0 .. : not frozen)
          have z0a := Blk.cell kA.out 0
          have z1a := Blk.cell kA.out 1
          have z2a := Blk.cell kA.out 2
          have z3a := Blk.cell kA.out 3
          have z4a := Blk.cell kA.out 4
          have z5a := Blk.cell kA.out 5
          have z6a := Blk.cell kA.out 6
          have z7a := Blk.cell kA.out 7
          simp only [List.getElem?_cons_zero, List.getElem?_cons_succ] at z0a z1a z2a z3a z4a z5a z6a z7a
          have p0 := hB.out.c0
          have p1 := hB.out.c1
          have p2 := hB.out.c2
          replace hil := Lib.hid hil
          replace hkl := Lib.hid hkl
          replace hwl := Lib.hid hwl
          replace hfr := Lib.hid True.intro
          go_wp2_with (rw [← hW5, ← hga]; clear hW5; replace hga := Lib.hid hga)
          simp only [List.append_eq, List.cons_append, List.nil_append]
          refine wp_region_plan 66 [(false, 0), (true, 1), (true, 2), (true, 3), (true, 4), (true, 5), (true, 6), (true, 7), (true, 8), (true, 9), (true, 10), (true, 11), (true, 12), (true, 13), (true, 14), (true, 15), (true, 16), (true, 17), (true, 18), (true, 19), (true, 20), (true, 21), (true, 22), (true, 23), (true, 24), (true, 25), (true, 26), (true, 27), (true, 28), (true, 29), (true, 30), (true, 31), (true, 32), (true, 33), (true, 34), (true, 35), (true, 36), (true, 37), (true, 38), (true, 39), (true, 40), (true, 41), (true, 42), (true, 43), (true, 44), (true, 45), (true, 46), (true, 47), (true, 48), (true, 49), (true, 50), (true, 51), (true, 52), (true, 53), (true, 54), (true, 55), (true, 56), (true, 57), (true, 58), (true, 59), (true, 60), (true, 61), (true, 62), (true, 63), (true, 64), (true, 65)] (by kernel_rfl) (by kernel_rfl) (fun U hU => ?_)
          have b : Below W5.heap.size W5 U := by rw [hU.out]; exact (Below.refl _ _).drew
          -- behind a call (b : Below ..)
          replace hB := Lib.hid (hB.out.later b)
          replace kA := Lib.hid (kA.out.below b kA.out.lt)
          clear b z0a z1a z2a z3a z4a z5a z6a z7a p0 p1 p2
          -- the cells of a pattern's variable: kA.out : Blk W g Witness [8 cells]: a0 .. a7 (and $f0 .. : not frozen)
          have z0a := Blk.cell kA.out 0
          have z1a := Blk.cell kA.out 1
          have z2a := Blk.cell kA.out 2
          have z3a := Blk.cell kA.out 3
          have z4a := Blk.cell kA.out 4
          have z5a := Blk.cell kA.out 5
          have z6a := Blk.cell kA.out 6
          have z7a := Blk.cell kA.out 7
          simp only [List.getElem?_cons_zero, List.getElem?_cons_succ] at z0a z1a z2a z3a z4a z5a z6a z7a
          have p0 := hB.out.c0
          have p1 := hB.out.c1
          have p2 := hB.out.c2
          clear hU
          simp only [List.drop_succ_cons, List.drop_nil]
          refine wpPlan_only rfl (by rfl) (fun K hK => ?_)
          go_simp
          refine (law19_awake U).mono ?_
          rintro e w8 ⟨rfl, b⟩
          refine hK _ _ b ?_
          clear hK K
          -- behind a call (b : Below ..)
          replace hB := Lib.hid (hB.out.later b)
          replace kA := Lib.hid (kA.out.below b kA.out.lt)
          clear b z0a z1a z2a z3a z4a z5a z6a z7a p0 p1 p2
          -- the cells of a pattern's variable: kA.out : Blk W g Witness [8 cells]: a0 .. a7 (and $f0 .. : not frozen)
          have z0a := Blk.cell kA.out 0
          have z1a := Blk.cell kA.out 1
          have z2a := Blk.cell kA.out 2
          have z3a := Blk.cell kA.out 3
          have z4a := Blk.cell kA.out 4
          have z5a := Blk.cell kA.out 5
          have z6a := Blk.cell kA.out 6
          have z7a := Blk.cell kA.out 7
          simp only [List.getElem?_cons_zero, List.getElem?_cons_succ] at z0a z1a z2a z3a z4a z5a z6a z7a
          have p0 := hB.out.c0
          have p1 := hB.out.c1
          have p2 := hB.out.c2
          obtain ⟨yr, yz, hr, -, hyr, hyz, hzw, hzv, -⟩ := h
          obtain ⟨zb, zo, fz, hzC, -, hz, -, k0⟩ := hB.out.f.fs.int (k := r) (by have := (List.getElem?_eq_some_iff.1 hr).1; have := hkl.out; omega)
          rw [hr] at hz
          injection hz with hz
          subst hz
          rw [← tri.out, ← hai.out] at k0
          obtain ⟨ib, io, y1, hxB, -, hy1, -, -, -, r2, r3, -⟩ := hB.out.f.is.item (k := r) hrk
          rw [hyr] at hy1
          injection hy1 with hy1
          obtain ⟨jb, jo, y2, hxB2, -, hy2, -, -, -, s2, s3, -⟩ := hB.out.f.is.item (k := z) hzk
          rw [hyz] at hy2
          injection hy2 with hy2
          subst hy1
          subst hy2
          rw [hxB] at hxB2
          injection hxB2 with hxB2
          injection hxB2 with q1 q2
          subst q1; subst q2
          rw [← tri.out] at r2 r3
          rw [← tzi.out] at s2 s3
          rw [hzw] at s2
          rw [hzv] at s3
          rw [hzC] at p2
          rw [hxB] at p1
          have bk : 0 ≤ ri ∧ ri < (x.k : Int) := by have := hkm.out; omega
          have ev : (yr.va == yr.va) = true := by simp
          clear hzC hxB hr hyr hyz hzw hzv hrk hzk hak
          iterate 65
            refine wpPlan_float (v := ?_) rfl (by rfl) (fun w' hw' => ?_) (fun K hK => ?_)
            rotate_left
            · (go_simp; try with_reducible rfl)
            go_simp
            refine hK _ ?_
            clear hK K
          refine wpPlan_nil (NoPanic.normal ?_)
          go_wp2_with fail
          go_ret
          exact ⟨rfl, hB.out.o⟩
end Go.Proofs.YtjhjojklfdjmdaaGreat
