/- Layer 10's example, and its law DifferTells, walked (where what comes in is of no more than 2^40 operations). -/
import Derived.Test.YtjdhahonpmghhaaInternRefB
import Derived.Test.YtjdhahonpmghhaaDiffer
namespace Go.Proofs.Ytjdhahonpmghhaa
open Go.RowKit
set_option linter.unusedVariables false
def ex10 : List OpT := [(true, ⟨#[120]⟩, 1), (true, ⟨#[120]⟩, 1)]
theorem ok10 : OkO ex10 := fun o ho => by
  simp only [ex10, List.mem_cons, List.not_mem_nil, or_false] at ho
  rcases ho with rfl | rfl <;> exact ⟨⟨by decide, by decide⟩, by decide⟩
theorem ex10_facts : rightL [ex10] = true ∧ facO [ex10] = ⟨[⟨#[120]⟩], [⟨0, 0, true, 0, 1⟩, ⟨0, 1, true, 0, 1⟩], []⟩ := by decide
set_option maxRecDepth 100000 in
set_option maxHeartbeats 2000000 in
theorem law10_awake (w : World) : Calls Try.prog 8 #[] w (RetBool true w) := by
  obtain ⟨Z, hZ⟩ : ∃ W, W = w.alloc (.cells #[.bool true, .string ⟨#[120]⟩, .int .i64 1] 46) := ⟨_, rfl⟩
  obtain ⟨z, hz⟩ : ∃ g, g = w.heap.size := ⟨_, rfl⟩
  have bZ : Below w.heap.size w Z := by rw [hZ]; exact (Below.refl _ w).alloc (Nat.le_refl _) _
  have kZ : Blk Z z 46 [.bool true, .string ⟨#[120]⟩, .int .i64 1] := by rw [hZ, hz]; exact Blk.new w _ _
  have z0 := kZ.cell 0
  have z1 := kZ.cell 1
  have z2 := kZ.cell 2
  simp only [List.getElem?_cons_zero, List.getElem?_cons_succ] at z0 z1 z2
  obtain ⟨W, hW⟩ : ∃ W, W = (Z.alloc (.cells #[.bool true, .string ⟨#[120]⟩, .int .i64 1, .bool true, .string ⟨#[120]⟩, .int .i64 1] 46)).alloc (.cells #[.slice (some ⟨Z.heap.size, 0, none⟩) 2 2] 43) := ⟨_, rfl⟩
  have bW : Below Z.heap.size Z W := by rw [hW]; exact ((Below.refl _ Z).alloc (Nat.le_refl _) _).alloc (by simp) _
  have hH : HistAt W (some ⟨Z.heap.size + 1, 0, none⟩) 1 [ex10] := by
    have h1 := (Blk.new Z 46 (cellsO ex10)).alloc (.cells #[.slice (some ⟨Z.heap.size, 0, none⟩) 2 2] 43)
    have h2 := Blk.new (Z.alloc (.cells #[.bool true, .string ⟨#[120]⟩, .int .i64 1, .bool true, .string ⟨#[120]⟩, .int .i64 1] 46)) 43 [.slice (some ⟨Z.heap.size, 0, none⟩) 2 2]
    rw [World.size_alloc] at h2
    rw [hW]
    exact HistAt.one h2 (OpsAt.of_blk h1 ok10 rfl) (by omega) (by omega)
  have c1 := ref9_Of _ 1 1 [ex10] W hH (by omega) (by decide)
  rw [ex10_facts.1, if_pos rfl, if_pos rfl, ex10_facts.2] at c1
  replace c1 := Lib.hid c1
  have b12 := Lib.hid (below_trans2 bZ bW)
  clear hH kZ bZ bW
  go_enter Try.func8, Try.ntmps8
  go_wp2_with (rw [← hZ, ← hz]; clear hZ hz)
  rw [← hW]
  clear hW z0 z1 z2
  refine c1.out.mono ?_; rintro e w3 ⟨x, rfl, hG, b3⟩
  have hB := Lib.hid ((FBox.new hG).from_ (below_trans2 b12.out b3))
  obtain ⟨V, hV⟩ : ∃ W, W = w3.alloc (.cells #[.slice x.A x.n x.c, .slice x.B x.m x.d, .slice x.C x.k x.e] 30) := ⟨_, rfl⟩
  obtain ⟨g, hg⟩ : ∃ g, g = w3.heap.size := ⟨_, rfl⟩
  rw [← hV, ← hg] at hB
  clear b3 c1 hG b12
  have p0 := hB.out.c0
  have p1 := hB.out.c1
  have p2 := hB.out.c2
  have cC := differ_Check x _ V hB.out.f
  unfold RetCheck at cC
  rw [show checkF [⟨0, 0, true, 0, 1⟩, ⟨0, 1, true, 0, 1⟩] = (0, 1, 4) from by decide] at cC
  replace cC := Lib.hid cC
  go_wp2_with (rw [← hV, ← hg]; clear hV; replace hg := Lib.hid hg)
  refine cC.out.mono ?_; rintro e w4 ⟨rfl, b4⟩
  replace hB := Lib.hid (hB.out.later b4)
  clear p0 p1 p2 b4 cC
  have p0 := hB.out.c0
  have p1 := hB.out.c1
  have p2 := hB.out.c2
  have cW := differ_Write x _ 0 1 ⟨by omega, by omega⟩ ⟨by omega, by omega⟩ w4 hB.out.f
  unfold RetWrite at cW
  rw [show writeF [⟨0, 0, true, 0, 1⟩, ⟨0, 1, true, 0, 1⟩] 0 1 = some 0 from by decide] at cW
  replace cW := Lib.hid cW
  go_wp2_with fail
  refine cW.out.mono ?_; rintro e w5 ⟨rfl, b5⟩
  replace hB := Lib.hid (hB.out.later b5)
  go_wp2_with fail
  go_ret
  exact ⟨rfl, hB.out.o⟩
set_option maxRecDepth 100000 in
set_option maxHeartbeats 2000000 in
theorem law10_DifferTells (A : Option Addr) (n c : Nat) (va vl : Int) (hva : In64 va) (hvl : In64 vl) (hs : List (List OpT)) (w : World) (hX : HistAt w A n hs) (hnc : n ≤ c) (hc : c ≤ 1099511627776) (hF : (allO hs).length ≤ 1099511627776) :
    Calls Try.prog 3 #[.slice A n c, .int .i64 va, .int .i64 vl] w (RetBool true w) := by
  -- a law of one history hs (at A n c) that guards itself by Small 60 and Right: walked to the call of Of in the world w2; hX : HistAt w2 .., b12 : Below w.heap.size w w2, hri' : rightL hs = true
  have hXl := Lib.hid hX.len
  have cS := Lib.hid (ref6_Small A n c 60 hs w hX (by omega) (by omega))
  replace hX := Lib.hid hX
  cases hsa : smallL hs 60 with
  | false =>
    rw [hsa] at cS
    clear hsa
    go_enter Try.func3, Try.ntmps3
    go_wp2_with fail
    refine cS.out.mono ?_; rintro e w1 ⟨rfl, b1⟩
    go_wp2_with fail
    refine (law10_awake w1).mono ?_; rintro e w9 ⟨rfl, b9⟩
    go_wp2_with fail
    go_ret
    exact ⟨rfl, below_trans2 b1 b9⟩
  | true =>
    rw [hsa] at cS
    obtain ⟨hnx, hFx, hnm8⟩ := smallL_says hsa
    rw [hXl.out] at hnx
    replace hnm8 := Lib.hid hnm8
    clear hsa
    go_enter Try.func3, Try.ntmps3
    go_wp2_with fail
    refine cS.out.mono ?_; rintro e w1 ⟨rfl, b1⟩
    replace hX := Lib.hid (hX.out.below b1)
    have cR := Lib.hid (ref6_Right A n c hs w1 hX.out (by omega) (by omega))
    cases hri : rightL hs with
    | false =>
      rw [hri] at cR
      clear hri
      go_wp2_with fail
      refine cR.out.mono ?_; rintro e w2 ⟨rfl, b2⟩
      go_wp2_with fail
      refine (law10_awake w2).mono ?_; rintro e w9 ⟨rfl, b9⟩
      go_wp2_with fail
      go_ret
      exact ⟨rfl, below_trans2 (below_trans2 b1 b2) b9⟩
    | true =>
      rw [hri] at cR
      have hri' := Lib.hid hri
      clear hri
      go_wp2_with fail
      refine cR.out.mono ?_; rintro e w2 ⟨rfl, b2⟩
      replace hX := Lib.hid (hX.out.below b2)
      have b12 := Lib.hid (below_trans2 b1 b2)
      clear b1 b2 cS cR
      -- behind HEAD9: the document's facts f of the history, in a variable g, in the world V; hB : FBox w g x f V; hX carried over
      obtain ⟨f, hf⟩ : ∃ f : Fac, f = facO hs := ⟨_, rfl⟩
      have c1 := ref9_Of A n c hs w2 hX.out (by omega) hF
      rw [hri'.out, if_pos rfl, if_pos rfl, ← hf] at c1
      replace c1 := Lib.hid c1
      replace hf := Lib.hid hf
      go_wp2_with fail
      refine c1.out.mono ?_; rintro e w3 ⟨x, rfl, hG, b3⟩
      replace hX := Lib.hid (hX.out.below b3)
      have hB := Lib.hid ((FBox.new hG).from_ (below_trans2 b12.out b3))
      obtain ⟨V, hV⟩ : ∃ W, W = w3.alloc (.cells #[.slice x.A x.n x.c, .slice x.B x.m x.d, .slice x.C x.k x.e] 30) := ⟨_, rfl⟩
      obtain ⟨g, hg⟩ : ∃ g, g = w3.heap.size := ⟨_, rfl⟩
      replace hX := Lib.hid (show HistAt V A n hs from by rw [hV]; exact hX.out.below ((Below.refl _ _).alloc (Nat.le_refl _) _))
      rw [← hV, ← hg] at hB
      clear b3 c1 hG b12
      have p0 := hB.out.c0
      have p1 := hB.out.c1
      have p2 := hB.out.c2
      obtain ⟨⟨r1, r2, r3⟩, hr⟩ : ∃ r, r = checkF f.items := ⟨_, rfl⟩
      have cA := fun W hW => differ_Check x f W hW
      have cB := fun W hW => ref10_Check x f W hW
      have cC := fun W hW => differ_Write x f va vl hva hvl W hW
      have cD := fun W hW => ref10_Write x f va vl W hW
      rw [← hr] at cA cB
      unfold RetWrite at cC cD
      obtain ⟨o1, ho1⟩ : ∃ r : Int, r = (((writeF f.items va vl).getD 0 : Nat) : Int) := ⟨_, rfl⟩
      obtain ⟨o2, ho2⟩ : ∃ r, r = (writeF f.items va vl).isSome := ⟨_, rfl⟩
      rw [← ho1, ← ho2] at cC cD
      replace cA := Lib.hid cA
      replace cB := Lib.hid cB
      replace cC := Lib.hid cC
      replace cD := Lib.hid cD
      clear hr ho1 ho2 hX
      go_wp2_with (rw [← hV, ← hg]; clear hV; replace hg := Lib.hid hg)
      refine (cA.out _ hB.out.f).mono ?_; rintro e w4 ⟨rfl, b⟩
      -- behind a call (b : Below ..): facts carried over, their cells anew
      replace hB := Lib.hid (hB.out.later b)
      clear p0 p1 p2 b
      have p0 := hB.out.c0
      have p1 := hB.out.c1
      have p2 := hB.out.c2
      go_wp2_with fail
      refine (cB.out _ hB.out.f).mono ?_; rintro e w5 ⟨rfl, b⟩
      -- behind a call (b : Below ..): facts carried over, their cells anew
      replace hB := Lib.hid (hB.out.later b)
      clear p0 p1 p2 b
      have p0 := hB.out.c0
      have p1 := hB.out.c1
      have p2 := hB.out.c2
      go_wp2_with fail
      refine (cC.out _ hB.out.f).mono ?_; rintro e w6 ⟨rfl, b⟩
      -- behind a call (b : Below ..): facts carried over, their cells anew
      replace hB := Lib.hid (hB.out.later b)
      clear p0 p1 p2 b
      have p0 := hB.out.c0
      have p1 := hB.out.c1
      have p2 := hB.out.c2
      go_wp2_with fail
      refine (cD.out _ hB.out.f).mono ?_; rintro e w7 ⟨rfl, b⟩
      -- behind a call (b : Below ..): facts carried over, their cells anew
      replace hB := Lib.hid (hB.out.later b)
      clear p0 p1 p2 b
      have p0 := hB.out.c0
      have p1 := hB.out.c1
      have p2 := hB.out.c2
      go_wp2_with fail
      refine (law10_awake w7).mono ?_; rintro e w8 ⟨rfl, b⟩
      replace hB := Lib.hid (hB.out.later b)
      have e1 : (r1 == r1) = true := by simp
      have e2 : (r2 == r2) = true := by simp
      have e3 : (r3 == r3) = true := by simp
      have e4 : (o1 == o1) = true := by simp
      have e5 : (o2 == o2) = true := by simp
      clear p0 p1 p2 b
      go_wp2_with fail
      go_ret
      exact ⟨rfl, hB.out.o⟩
end Go.Proofs.Ytjdhahonpmghhaa
