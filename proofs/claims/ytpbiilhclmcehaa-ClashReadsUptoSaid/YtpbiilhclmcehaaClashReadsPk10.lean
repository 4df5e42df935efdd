/- Layer 17's example and its matrices, walked. Plain mathematics of layer 17: how many conflicts there are; with more pairs there are no fewer. Nothing of the program is named. Layer 17's law ClashReads, walked (where what comes in is of no more than 2^40 operations). Arguments opened: a history (a slice of slices of operations), and what the bound of an '..Upto' statement says of it. -/
import Derived.Test.YtpbiilhclmcehaaClashReadsPk9
import Derived.Test.YtpbiilhclmcehaaClashReadsPk4
import Derived.Test.YtpbiilhclmcehaaClashReadsPk5
import Derived.Test.YtpbiilhclmcehaaRows
import Derived.Test.YtpbiilhclmcehaaClashReadsPk1
import Derived.Deep.Slices
import Derived.OpenShut
import Derived.ChangeArms
import Derived.WalkKit
import Derived.ProofKit
namespace Go.Proofs.Ytpbiilhclmcehaa
open Go.RowKit
set_option linter.unusedVariables false
set_option maxRecDepth 100000 in
set_option maxHeartbeats 4000000 in
theorem law17_awake (w : World) : Calls Try.prog 7 #[] w (RetBool true w) := by
  -- the example's facts: walked to the variable f: hB : FBox w g x fx17 V
  obtain ⟨Z1, hZ1⟩ : ∃ W, W = w.alloc (.cells #[.bool true, .string ⟨#[120]⟩, .int .i64 1] 60) := ⟨_, rfl⟩
  obtain ⟨a1, ha1⟩ : ∃ g, g = w.heap.size := ⟨_, rfl⟩
  obtain ⟨Z2, hZ2⟩ : ∃ W, W = Z1.alloc (.cells #[.bool true, .string ⟨#[120]⟩, .int .i64 2, .bool false, .string ⟨#[120]⟩, .int .i64 1] 60) := ⟨_, rfl⟩
  obtain ⟨a2, ha2⟩ : ∃ g, g = Z1.heap.size := ⟨_, rfl⟩
  obtain ⟨Z3, hZ3⟩ : ∃ W, W = Z2.alloc (.cells #[.slice (some ⟨a1, 0, none⟩) 1 1, .slice (some ⟨a2, 0, none⟩) 2 2] 57) := ⟨_, rfl⟩
  obtain ⟨a3, ha3⟩ : ∃ g, g = Z2.heap.size := ⟨_, rfl⟩
  have b1 : Below w.heap.size w Z1 := by rw [hZ1]; exact (Below.refl _ w).alloc (Nat.le_refl _) _
  have b2 : Below Z1.heap.size Z1 Z2 := by rw [hZ2]; exact (Below.refl _ _).alloc (Nat.le_refl _) _
  have b3 : Below Z2.heap.size Z2 Z3 := by rw [hZ3]; exact (Below.refl _ _).alloc (Nat.le_refl _) _
  have hH : HistAt Z3 (some ⟨a3, 0, none⟩) 2 [ex17A, ex17B] := by
    have h1 : Blk Z1 a1 60 (cellsO ex17A) := by rw [hZ1, ha1]; exact Blk.new w _ _
    have h2 : Blk Z2 a2 60 (cellsO ex17B) := by rw [hZ2, ha2]; exact Blk.new Z1 _ _
    have h3 : Blk Z3 a3 57 [.slice (some ⟨a1, 0, none⟩) 1 1, .slice (some ⟨a2, 0, none⟩) 2 2] := by rw [hZ3, ha3]; exact Blk.new Z2 _ _
    have h1' := (h1.below b2 h1.lt).below b3 (h1.below b2 h1.lt).lt
    exact HistAt.two h3 (OpsAt.of_blk h1' ok17A rfl) (OpsAt.of_blk (h2.below b3 h2.lt) ok17B rfl) (by omega) (by omega) (by omega) (by omega)
  have c1 := Lib.hid (ref11_Of _ 2 2 [ex17A, ex17B] Z3 hH (by omega) (by decide))
  have bW := Lib.hid (below_trans2 (below_trans2 b1 b2) b3)
  clear hH b1 b2 b3
  go_enter Try.func7, Try.ntmps7
  go_wp2_with (first | (rw [← hZ1, ← ha1]; clear hZ1; replace ha1 := Lib.hid ha1) | (rw [← hZ2, ← ha2]; clear hZ2; replace ha2 := Lib.hid ha2) | (rw [← hZ3, ← ha3]; clear hZ3; replace ha3 := Lib.hid ha3))
  refine c1.out.mono ?_; rintro e w3 ⟨x, rfl, hG, b3⟩
  replace hG := hG ex17_facts.1
  rw [ex17_facts.2] at hG
  rw [ex17_facts.1]
  have hB := Lib.hid ((FBox.new hG).from_ (below_trans2 bW.out b3))
  have hxm : x.m = 3 := by rw [← hG.is.len]; rfl
  obtain ⟨V, hV⟩ : ∃ W, W = w3.alloc (.cells #[.slice x.A x.n x.c, .slice x.B x.m x.d, .slice x.C x.k x.e] 30) := ⟨_, rfl⟩
  obtain ⟨g, hg⟩ : ∃ g, g = w3.heap.size := ⟨_, rfl⟩
  rw [← hV, ← hg] at hB
  replace hxm := Lib.hid hxm
  clear b3 c1 hG bW
  have cP := fun W hW => ref13_Co x fx17 W hW (by rw [hxm.out]; decide) ex17_whole
  have cE : Hid (∀ (A : Option Addr) (c : Nat) (W : World), FactsAt W x fx17 → RowsAt W A 3 [[4], [4], [0]] → 3 ≤ c → Calls Try.prog 13 #[.agg #[.slice x.A x.n x.c, .slice x.B x.m x.d, .slice x.C x.k x.e], .agg #[.int .i64 3, .slice A 3 c]] W (RetEL [⟨1, 0, 2⟩] W)) := Lib.hid (fun A c W hW hR hc => by
    have h := clash_Edges x fx17 A c [[4], [4], [0]] W hW (by rw [hxm.out]; exact hR) (by rw [hxm.out]; exact ex17_good) (by rw [hxm.out]; decide) (by rw [hxm.out]; exact hc) ex17_whole ex17_frm
    rw [ex17_edges.1] at h
    rw [hxm.out] at h ⊢
    exact h)
  have cF : Hid (∀ (A : Option Addr) (c : Nat) (W : World), FactsAt W x fx17 → RowsAt W A 3 [[4], [4], [0]] → 3 ≤ c → Calls Try.prog 10 #[.agg #[.slice x.A x.n x.c, .slice x.B x.m x.d, .slice x.C x.k x.e], .agg #[.int .i64 3, .slice A 3 c]] W (RetMat 3 [[4], [5], [0]] 0 W)) := Lib.hid (fun A c W hW hR hc => by
    have h := clash_Cf x fx17 A c [[4], [4], [0]] W hW (by rw [hxm.out]; exact hR) (by rw [hxm.out]; exact ex17_good) (by rw [hxm.out]; decide) (by rw [hxm.out]; exact hc) ex17_whole ex17_frm
    rw [ex17_edges.2.1, ex17_edges.2.2.1, ex17_edges.2.2.2] at h
    rw [hxm.out] at h ⊢
    exact h)
  rw [ex17_mat, show ((x.m : Nat) : Int) = 3 from by rw [hxm.out]; rfl] at cP
  replace cP := Lib.hid cP
  have hpos : Hid (∀ xs ∈ ([[4], [5], [0]] : List (List Nat)), 0 < xs.length) := Lib.hid (by decide)
  have p0 := hB.out.c0
  have p1 := hB.out.c1
  have p2 := hB.out.c2
  go_wp2_with (rw [← hV, ← hg]; clear hV; replace hg := Lib.hid hg)
  clear p0 p1 p2
  refine wp_region_plan 5 [(true, 0), (true, 1), (false, 2), (false, 3), (true, 4)] (by kernel_rfl) (by kernel_rfl) (fun U hU => ?_)
  replace hB := Lib.hid (show FBox w g x fx17 U from by rw [hU.out]; exact hB.out.later (Below.refl _ _).drew)
  clear hU
  simp only [List.drop_succ_cons, List.drop_nil]
  have p0 := hB.out.c0
  have p1 := hB.out.c1
  have p2 := hB.out.c2
  iterate 2
    refine wpPlan_float (v := ?_) rfl (by rfl) (fun w' hw' => ?_) (fun K hK => ?_)
    rotate_left
    · (go_simp; try with_reducible rfl)
    go_simp
    refine hK _ ?_
    clear hK K
  clear p0 p1 p2
  refine wpPlan_only rfl (by rfl) (fun K hK => ?_)
  go_simp
  refine (cP.out U hB.out.f).mono ?_
  rintro e v1 ⟨A1, n1, c1, rfl, r1, hc1, b⟩
  obtain rfl : n1 = 3 := by have := r1.len; simpa using this.symm
  refine hK _ _ b ?_
  clear hK K
  replace hB := Lib.hid (hB.out.later b)
  clear b
  refine wpPlan_only rfl (by rfl) (fun K hK => ?_)
  go_simp
  refine (cE.out A1 c1 v1 hB.out.f r1 hc1).mono ?_
  rintro e v2 ⟨E, ne, ce, rfl, hL, hnc, hcm, b⟩
  obtain rfl : ne = 1 := by have := hL.len; simpa using this.symm
  refine hK _ _ b ?_
  clear hK K
  replace hB := Lib.hid (hB.out.later b)
  replace hL := Lib.hid hL
  clear b r1 hc1 cE
  iterate 1
    refine wpPlan_float (v := ?_) rfl (by rfl) (fun w' hw' => ?_) (fun K hK => ?_)
    rotate_left
    · (go_simp; try with_reducible rfl)
    go_simp
    refine hK _ ?_
    clear hK K
  refine wpPlan_nil (NoPanic.normal ?_)
  go_wp2_with fail
  refine wp_region_tree (.flt 0 (.flt 1 (.two 2 7 (.two 3 7 (.flt 4 (.flt 5 (.flt 6 (.one 7 (.one 8 (.flt 9 .done)))))) (.one 3 (.flt 4 (.flt 5 (.flt 6 (.one 8 (.flt 9 .done))))))) (.one 2 (.one 3 (.flt 4 (.flt 5 (.flt 6 (.one 8 (.flt 9 .done)))))))))) (by kernel_rfl) (by kernel_rfl) (fun U2 hU => ?_)
  replace hL := Lib.hid (show LAt encE U2 E 1 [⟨1, 0, 2⟩] from by rw [hU.out]; exact hL.out.below (Below.refl _ _).drew)
  replace hB := Lib.hid (show FBox w g x fx17 U2 from by rw [hU.out]; exact hB.out.later (Below.refl _ _).drew)
  clear hU
  have bW : Below U2.heap.size U2 U2 := Below.refl _ _
  have p0 := hB.out.c0
  have p1 := hB.out.c1
  have p2 := hB.out.c2
  iterate 2
    refine wpPT_float (v := ?_) rfl (by rfl) (fun w' hw' => ?_) (fun K hK => ?_)
    rotate_left
    · (go_simp; try with_reducible rfl)
    go_simp
    refine hK _ ?_
    clear hK K
  clear p0 p1 p2
  refine wpPT_two rfl (by rfl) rfl (by rfl) (fun K hK => ?_) (fun K hK => ?_)
  · skip
    go_simp
    refine (cP.out U2 (hB.out.later bW).f).mono ?_; rintro e v3 ⟨A1, n1, c1, rfl, r1, hc1, b⟩
    obtain rfl : n1 = 3 := by have := r1.len; simpa using this.symm
    replace bW := below_trans2 bW b
    refine hK _ _ bW ?_
    clear hK K
    refine wpPT_two rfl (by rfl) rfl (by rfl) (fun K hK => ?_) (fun K hK => ?_)
    · skip
      go_simp
      refine (cF.out A1 c1 v3 (hB.out.later bW).f r1 hc1).mono ?_; rintro e v4 ⟨A3, n3, d3, rfl, r3, hc3, b⟩
      obtain rfl : n3 = 3 := by have := r3.len; simpa using this.symm
      replace bW := below_trans2 bW b
      refine hK _ _ bW ?_
      clear hK K
      iterate 3
        refine wpPT_float (v := ?_) rfl (by rfl) (fun w' hw' => ?_) (fun K hK => ?_)
        rotate_left
        · (go_simp; try with_reducible rfl)
        go_simp
        refine hK _ ?_
        clear hK K
      refine wpPT_one rfl (by rfl) (fun K hK => ?_)
      go_simp
      obtain ⟨M, hM⟩ : ∃ M, M = (World.heap v4).size := ⟨_, rfl⟩
      obtain ⟨v5, hw⟩ : ∃ X : World, X = World.alloc v4 (.cells #[.int .i64 0, .slice none 0 0] 35) := ⟨_, rfl⟩
      rw [← hw, ← hM]
      have b : Below (World.heap v4).size v4 v5 := by rw [hw]; exact below_alloc _ _
      have hUM : U2.heap.size ≤ M := by rw [hM]; exact bW.size
      replace bW := below_trans2 bW b
      refine hK _ _ bW ?_
      clear hK K
      have kM := Lib.hid (show MatB v5 M 35 0 none 0 0 from by rw [hw, hM]; exact MatB.new _ _)
      have hne : ∀ ad, A3 = some ad → ad.block ≠ M := fun ad e => by have := r3.block_lt (by omega) ad e; omega
      replace r3 := r3.below b
      clear hM hw
      have f0 := kM.out.c0
      have f1 := kM.out.c1
      have g0 := kM.out.frozen 0
      have g1 := kM.out.frozen 1
      refine wpPT_one rfl (by rfl) (fun K hK => ?_)
      go_simp
      obtain ⟨wz, hw⟩ : ∃ X : World, X = (World.setCell v5 ⟨M, 0, none⟩ (.int .i64 3)).setCell ⟨M, 1, none⟩ (.slice A3 3 d3) := ⟨_, rfl⟩
      rw [← hw]
      have r4 := Lib.hid (show RowsAt wz A3 3 [[4], [5], [0]] from by rw [hw]; exact r3.putB kM.out (fun _ => hne) _ _)
      have k4 := Lib.hid (show MatB wz M 35 3 A3 3 d3 from by rw [hw]; exact kM.out.put _ _ _ _)
      replace bW : Below U2.heap.size U2 wz := by rw [hw]; exact (bW.setCell (p := ⟨M, 0, none⟩) hUM _).setCell (p := ⟨M, 1, none⟩) hUM _
      refine hK _ _ bW ?_
      clear hK K f0 f1 g0 g1 hw r3 kM hne
      iterate 1
        refine wpPT_float (v := ?_) rfl (by rfl) (fun w' hw' => ?_) (fun K hK => ?_)
        rotate_left
        · (go_simp; try with_reducible rfl)
        go_simp
        refine hK _ ?_
        clear hK K
      refine wpPT_done (NoPanic.normal ?_)
      replace hL := Lib.hid (hL.out.below bW)
      -- m holds [[4], [5], [0]] at M; the conflicts at E
      obtain ⟨eb, eo, y, hE, -, hy, -, y0, y1, y2⟩ := hL.out.edge (show 0 < 1 by omega)
      obtain rfl : y = ⟨1, 0, 2⟩ := by simpa using hy.symm
      subst hE
      simp only [Nat.zero_mul, Nat.add_zero] at y0 y1 y2
      have m0 := k4.out.c0
      have m1 := k4.out.c1
      have cH := ref3_Has A3 3 d3 [[4], [5], [0]] 1 0 wz r4.out (by decide) (fun k xs hx => by
        have := List.mem_of_getElem? hx
        simp only [List.mem_cons, List.not_mem_nil, or_false] at this
        rcases this with rfl | rfl | rfl <;> decide)
      rw [show (inM ((3 : Nat) : Int) 1 0 && hasM [[4], [5], [0]] 1 0) = true from by decide] at cH
      replace cH := Lib.hid cH
      clear hy
      go_wp2_with fail
      refine cH.out.mono ?_; rintro e w9 ⟨rfl, b9⟩
      go_wp2_with fail
      go_ret
      exact ⟨rfl, below_trans2 hB.out.o (below_trans2 bW b9)⟩
    · skip
      go_simp
      obtain ⟨M, hM⟩ : ∃ M, M = (World.heap v3).size := ⟨_, rfl⟩
      obtain ⟨v6, hw⟩ : ∃ X : World, X = World.alloc v3 (.cells #[.int .i64 0, .slice none 0 0] 35) := ⟨_, rfl⟩
      rw [← hw, ← hM]
      have b : Below (World.heap v3).size v3 v6 := by rw [hw]; exact below_alloc _ _
      have hUM : U2.heap.size ≤ M := by rw [hM]; exact bW.size
      replace bW := below_trans2 bW b
      refine hK _ _ bW ?_
      clear hK K
      have kM := Lib.hid (show MatB v6 M 35 0 none 0 0 from by rw [hw, hM]; exact MatB.new _ _)
      replace r1 := r1.below b
      clear hM hw
      refine wpPT_one rfl (by rfl) (fun K hK => ?_)
      go_simp
      refine (cF.out A1 c1 v6 (hB.out.later bW).f r1 hc1).mono ?_; rintro e v7 ⟨A3, n3, d3, rfl, r3, hc3, b⟩
      obtain rfl : n3 = 3 := by have := r3.len; simpa using this.symm
      replace bW := below_trans2 bW b
      refine hK _ _ bW ?_
      clear hK K
      replace kM := Lib.hid (kM.out.below_ b)
      have hne : ∀ ad, A3 = some ad → ad.block ≠ M := r3.farZ kM.out hpos.out (by omega)
      iterate 3
        refine wpPT_float (v := ?_) rfl (by rfl) (fun w' hw' => ?_) (fun K hK => ?_)
        rotate_left
        · (go_simp; try with_reducible rfl)
        go_simp
        refine hK _ ?_
        clear hK K
      have f0 := kM.out.c0
      have f1 := kM.out.c1
      have g0 := kM.out.frozen 0
      have g1 := kM.out.frozen 1
      refine wpPT_one rfl (by rfl) (fun K hK => ?_)
      go_simp
      obtain ⟨wz, hw⟩ : ∃ X : World, X = (World.setCell v7 ⟨M, 0, none⟩ (.int .i64 3)).setCell ⟨M, 1, none⟩ (.slice A3 3 d3) := ⟨_, rfl⟩
      rw [← hw]
      have r4 := Lib.hid (show RowsAt wz A3 3 [[4], [5], [0]] from by rw [hw]; exact r3.putB kM.out (fun _ => hne) _ _)
      have k4 := Lib.hid (show MatB wz M 35 3 A3 3 d3 from by rw [hw]; exact kM.out.put _ _ _ _)
      replace bW : Below U2.heap.size U2 wz := by rw [hw]; exact (bW.setCell (p := ⟨M, 0, none⟩) hUM _).setCell (p := ⟨M, 1, none⟩) hUM _
      refine hK _ _ bW ?_
      clear hK K f0 f1 g0 g1 hw r3 kM hne
      iterate 1
        refine wpPT_float (v := ?_) rfl (by rfl) (fun w' hw' => ?_) (fun K hK => ?_)
        rotate_left
        · (go_simp; try with_reducible rfl)
        go_simp
        refine hK _ ?_
        clear hK K
      refine wpPT_done (NoPanic.normal ?_)
      replace hL := Lib.hid (hL.out.below bW)
      -- m holds [[4], [5], [0]] at M; the conflicts at E
      obtain ⟨eb, eo, y, hE, -, hy, -, y0, y1, y2⟩ := hL.out.edge (show 0 < 1 by omega)
      obtain rfl : y = ⟨1, 0, 2⟩ := by simpa using hy.symm
      subst hE
      simp only [Nat.zero_mul, Nat.add_zero] at y0 y1 y2
      have m0 := k4.out.c0
      have m1 := k4.out.c1
      have cH := ref3_Has A3 3 d3 [[4], [5], [0]] 1 0 wz r4.out (by decide) (fun k xs hx => by
        have := List.mem_of_getElem? hx
        simp only [List.mem_cons, List.not_mem_nil, or_false] at this
        rcases this with rfl | rfl | rfl <;> decide)
      rw [show (inM ((3 : Nat) : Int) 1 0 && hasM [[4], [5], [0]] 1 0) = true from by decide] at cH
      replace cH := Lib.hid cH
      clear hy
      go_wp2_with fail
      refine cH.out.mono ?_; rintro e w9 ⟨rfl, b9⟩
      go_wp2_with fail
      go_ret
      exact ⟨rfl, below_trans2 hB.out.o (below_trans2 bW b9)⟩
  · skip
    go_simp
    obtain ⟨M, hM⟩ : ∃ M, M = (World.heap U2).size := ⟨_, rfl⟩
    obtain ⟨v8, hw⟩ : ∃ X : World, X = World.alloc U2 (.cells #[.int .i64 0, .slice none 0 0] 35) := ⟨_, rfl⟩
    rw [← hw, ← hM]
    have b : Below (World.heap U2).size U2 v8 := by rw [hw]; exact below_alloc _ _
    have hUM : U2.heap.size ≤ M := by rw [hM]; exact bW.size
    replace bW := below_trans2 bW b
    refine hK _ _ bW ?_
    clear hK K
    have kM := Lib.hid (show MatB v8 M 35 0 none 0 0 from by rw [hw, hM]; exact MatB.new _ _)
    clear hM hw
    refine wpPT_one rfl (by rfl) (fun K hK => ?_)
    go_simp
    refine (cP.out v8 (hB.out.later bW).f).mono ?_; rintro e v9 ⟨A1, n1, c1, rfl, r1, hc1, b⟩
    obtain rfl : n1 = 3 := by have := r1.len; simpa using this.symm
    replace bW := below_trans2 bW b
    refine hK _ _ bW ?_
    clear hK K
    replace kM := Lib.hid (kM.out.below_ b)
    refine wpPT_one rfl (by rfl) (fun K hK => ?_)
    go_simp
    refine (cF.out A1 c1 v9 (hB.out.later bW).f r1 hc1).mono ?_; rintro e v10 ⟨A3, n3, d3, rfl, r3, hc3, b⟩
    obtain rfl : n3 = 3 := by have := r3.len; simpa using this.symm
    replace bW := below_trans2 bW b
    refine hK _ _ bW ?_
    clear hK K
    replace kM := Lib.hid (kM.out.below_ b)
    have hne : ∀ ad, A3 = some ad → ad.block ≠ M := r3.farZ kM.out hpos.out (by omega)
    iterate 3
      refine wpPT_float (v := ?_) rfl (by rfl) (fun w' hw' => ?_) (fun K hK => ?_)
      rotate_left
      · (go_simp; try with_reducible rfl)
      go_simp
      refine hK _ ?_
      clear hK K
    have f0 := kM.out.c0
    have f1 := kM.out.c1
    have g0 := kM.out.frozen 0
    have g1 := kM.out.frozen 1
    refine wpPT_one rfl (by rfl) (fun K hK => ?_)
    go_simp
    obtain ⟨wz, hw⟩ : ∃ X : World, X = (World.setCell v10 ⟨M, 0, none⟩ (.int .i64 3)).setCell ⟨M, 1, none⟩ (.slice A3 3 d3) := ⟨_, rfl⟩
    rw [← hw]
    have r4 := Lib.hid (show RowsAt wz A3 3 [[4], [5], [0]] from by rw [hw]; exact r3.putB kM.out (fun _ => hne) _ _)
    have k4 := Lib.hid (show MatB wz M 35 3 A3 3 d3 from by rw [hw]; exact kM.out.put _ _ _ _)
    replace bW : Below U2.heap.size U2 wz := by rw [hw]; exact (bW.setCell (p := ⟨M, 0, none⟩) hUM _).setCell (p := ⟨M, 1, none⟩) hUM _
    refine hK _ _ bW ?_
    clear hK K f0 f1 g0 g1 hw r3 kM hne
    iterate 1
      refine wpPT_float (v := ?_) rfl (by rfl) (fun w' hw' => ?_) (fun K hK => ?_)
      rotate_left
      · (go_simp; try with_reducible rfl)
      go_simp
      refine hK _ ?_
      clear hK K
    refine wpPT_done (NoPanic.normal ?_)
    replace hL := Lib.hid (hL.out.below bW)
    -- m holds [[4], [5], [0]] at M; the conflicts at E
    obtain ⟨eb, eo, y, hE, -, hy, -, y0, y1, y2⟩ := hL.out.edge (show 0 < 1 by omega)
    obtain rfl : y = ⟨1, 0, 2⟩ := by simpa using hy.symm
    subst hE
    simp only [Nat.zero_mul, Nat.add_zero] at y0 y1 y2
    have m0 := k4.out.c0
    have m1 := k4.out.c1
    have cH := ref3_Has A3 3 d3 [[4], [5], [0]] 1 0 wz r4.out (by decide) (fun k xs hx => by
      have := List.mem_of_getElem? hx
      simp only [List.mem_cons, List.not_mem_nil, or_false] at this
      rcases this with rfl | rfl | rfl <;> decide)
    rw [show (inM ((3 : Nat) : Int) 1 0 && hasM [[4], [5], [0]] 1 0) = true from by decide] at cH
    replace cH := Lib.hid cH
    clear hy
    go_wp2_with fail
    refine cH.out.mono ?_; rintro e w9 ⟨rfl, b9⟩
    go_wp2_with fail
    go_ret
    exact ⟨rfl, below_trans2 hB.out.o (below_trans2 bW b9)⟩
end Go.Proofs.Ytpbiilhclmcehaa

namespace Go.Proofs.Ytpbiilhclmcehaa
set_option linter.unusedVariables false

theorem countP_two {α : Type} {p q s : α → Bool} (h1 : ∀ x, p x = true → s x = true) (h2 : ∀ x, q x = true → s x = true) (h3 : ∀ x, p x = true → q x = true → False) : ∀ l : List α, l.countP p + l.countP q ≤ l.countP s
  | [] => by simp
  | x :: l => by
    have h := countP_two h1 h2 h3 l
    have a1 := h1 x
    have a2 := h2 x
    have a3 := h3 x
    simp only [List.countP_cons]
    cases hp : p x <;> cases hq : q x <;> cases hs : s x <;> simp_all <;> omega
/-- how many of the first i reads read from a write -/
def cntR (frm : List Int) (i : Nat) : Nat := (List.range i).countP fun r => decide (0 ≤ frm.getD r 0)
theorem cntR_succ (frm : List Int) (i : Nat) : cntR frm (i + 1) = if 0 ≤ frm.getD i 0 then cntR frm i + 1 else cntR frm i := by
  unfold cntR
  rw [List.range_succ, List.countP_append]
  simp only [List.countP_cons, List.countP_nil, decide_eq_true_eq]
  split <;> simp
theorem cntR_le (frm : List Int) (i : Nat) : cntR frm i ≤ i := by
  unfold cntR
  exact Nat.le_trans List.countP_le_length (by rw [List.length_range]; exact Nat.le_refl _)
theorem eB_cnt (f : Fac) (M : List (List Nat)) (a n : Nat) : ∀ k : Nat, (eB f M a n k).length ≤ (List.range n).countP fun r => decide (0 ≤ f.frm.getD r 0) && decide (f.frm.getD r 0 < (k : Int))
  | 0 => by simp [eB_zero]
  | k + 1 => by
    have h := eB_cnt f M a n k
    have h1 : (eR f M a k n).length ≤ (List.range n).countP fun r => decide (f.frm.getD r 0 = (k : Int)) := by
      unfold eR
      rw [List.length_map, ← List.countP_eq_length_filter]
      refine List.countP_mono_left (fun r _ hr => ?_)
      unfold clB at hr
      simp only [Bool.and_eq_true] at hr
      exact hr.1.2
    have h2 := countP_two (p := fun r => decide (0 ≤ f.frm.getD r 0) && decide (f.frm.getD r 0 < (k : Int))) (q := fun r => decide (f.frm.getD r 0 = (k : Int))) (s := fun r => decide (0 ≤ f.frm.getD r 0) && decide (f.frm.getD r 0 < ((k + 1 : Nat) : Int)))
      (fun x hx => by simp only [Bool.and_eq_true, decide_eq_true_eq] at hx ⊢; omega) (fun x hx => by simp only [Bool.and_eq_true, decide_eq_true_eq] at hx ⊢; omega) (fun x hx hy => by simp only [Bool.and_eq_true, decide_eq_true_eq] at hx hy; omega) (List.range n)
    rw [eB_succ, List.length_append]
    omega
theorem eA_cnt (f : Fac) (M : List (List Nat)) (n : Nat) : ∀ k : Nat, (eA f M n k).length ≤ cntR f.frm n * k
  | 0 => by simp [eA_zero]
  | k + 1 => by
    have h := eA_cnt f M n k
    have h1 := eB_cnt f M k n n
    have h2 : ((List.range n).countP fun r => decide (0 ≤ f.frm.getD r 0) && decide (f.frm.getD r 0 < (n : Int))) ≤ cntR f.frm n :=
      List.countP_mono_left (fun r _ hr => by simp only [Bool.and_eq_true] at hr; exact hr.1)
    rw [eA_succ, List.length_append, Nat.mul_succ]
    omega
theorem edgesF_cnt (f : Fac) (M : List (List Nat)) : (edgesF f M).length ≤ cntR f.frm f.items.length * f.items.length := eA_cnt f M _ _
theorem edgesF_none (f : Fac) (n : Nat) : edgesF f (newM n) = [] := by
  refine List.eq_nil_iff_forall_not_mem.2 (fun x hx => ?_)
  obtain ⟨a, b, r, -, -, -, -, h⟩ := mem_edgesF.1 hx
  unfold clB at h
  rw [newM_has, Bool.and_false] at h
  cases h
end Go.Proofs.Ytpbiilhclmcehaa

namespace Go.Proofs.Ytpbiilhclmcehaa
open Go.RowKit
set_option linter.unusedVariables false
set_option maxRecDepth 100000 in
set_option maxHeartbeats 4000000 in
theorem law17_ClashReads (A : Option Addr) (n c : Nat) (hs : List (List OpT)) (w : World) (hX : HistAt w A n hs) (hnc : n ≤ c) (hc : c ≤ 1099511627776) (hF : (allO hs).length ≤ 1099511627776) :
    Calls Try.prog 5 #[.slice A n c] w (RetBool true w) := by
  -- a law of one history hs (at A n c) that guards itself by Small 20, then asks for whole facts: walked to where they lie (hB : FBox w g x f V, V not yet named: hV, hg); f's hf, hw, hm30
  have hXl := Lib.hid hX.len
  have cS := Lib.hid (ref6_Small A n c 20 hs w hX (by omega) (by omega))
  replace hX := Lib.hid hX
  cases hsa : smallL hs 20 with
  | false =>
    rw [hsa] at cS
    clear hsa
    go_enter Try.func5, Try.ntmps5
    go_wp2_with fail
    refine cS.out.mono ?_; rintro e w1 ⟨rfl, b1⟩
    go_wp2_with fail
    refine (law17_awake w1).mono ?_; rintro e w9 ⟨rfl, b9⟩
    go_wp2_with fail
    go_ret
    exact ⟨rfl, below_trans2 b1 b9⟩
  | true =>
    rw [hsa] at cS
    obtain ⟨hnx, hFx, hnm8⟩ := smallL_says hsa
    rw [hXl.out] at hnx
    replace hnm8 := Lib.hid hnm8
    clear hsa
    go_enter Try.func5, Try.ntmps5
    go_wp2_with fail
    refine cS.out.mono ?_; rintro e w1 ⟨rfl, b1⟩
    replace hX := Lib.hid (hX.out.below b1)
    have c1 := Lib.hid (ref11_Of A n c hs w1 hX.out (by omega) (by omega))
    go_wp2_with fail
    refine c1.out.mono ?_; rintro e w3 ⟨x, rfl, hG, b3⟩
    obtain ⟨V, hV⟩ : ∃ W, W = w3.alloc (.cells #[.slice x.A x.n x.c, .slice x.B x.m x.d, .slice x.C x.k x.e] 30) := ⟨_, rfl⟩
    obtain ⟨g, hg⟩ : ∃ g, g = w3.heap.size := ⟨_, rfl⟩
    have bV : Below w3.heap.size w3 V := by rw [hV]; exact (Below.refl _ _).alloc (Nat.le_refl _) _
    cases hok : okO11 hs with
    | false =>
      have bb := Lib.hid (below_trans2 (below_trans2 b1 b3) bV)
      clear hG b1 b3 bV hok c1 cS
      go_wp2_with (rw [← hV, ← hg]; clear hV; replace hg := Lib.hid hg)
      refine (law17_awake V).mono ?_; rintro e w9 ⟨rfl, b9⟩
      go_wp2_with fail
      go_ret
      exact ⟨rfl, below_trans2 bb.out b9⟩
    | true =>
      obtain ⟨f, hf⟩ : ∃ f : Fac, f = fillF (facO hs) := ⟨_, rfl⟩
      have hGf := hG hok
      rw [← hf] at hGf
      have hw : WholeF f := by rw [hf]; exact fillF_whole _
      have hff : f.frm = fromF f.items := by rw [hf]; rfl
      have hm30 : x.m ≤ 20 := by
        rw [← hGf.is.len, hf]
        show (hisF hs).2.length ≤ 20
        rw [hisF_len]; omega
      have hB := Lib.hid ((FBox.new hGf).from_ (below_trans2 b1 b3))
      rw [← hV, ← hg] at hB
      replace hX := Lib.hid ((hX.out.below b3).below bV)
      replace hok := Lib.hid hok
      replace hf := Lib.hid hf
      clear hG hGf b1 b3 bV c1 cS
      clear hX
      have hil := hB.out.f.is.len
      have hkm := Lib.hid (show x.k = x.m from by rw [← hil, ← hB.out.f.fs.len]; exact hw.len)
      have gC : Good x.m (coM f) := by rw [← hil]; exact (coM_hull hw (by omega)).1
      have cO := fun W hW => ref13_Co x f W hW (by omega) hw
      have cE := fun A c W hW hR hc => clash_Edges x f A c (coM f) W hW hR gC (by omega) hc hw hff
      have cZ := fun A c W hW hR hc => clash_Edges x f A c (newM x.m) W hW hR (Good.new (by omega)) (by omega) hc hw hff
      rw [edgesF_none] at cZ
      have hcn := edgesF_cnt f (coM f)
      obtain ⟨cm, hcm⟩ : ∃ m, m = coM f := ⟨_, rfl⟩
      rw [← hcm] at cO cE gC hcn
      obtain ⟨es, hes⟩ : ∃ l, l = edgesF f cm := ⟨_, rfl⟩
      rw [← hes, hil] at hcn
      rw [← hes] at cE
      have hMl := Lib.hid gC.len
      have cN := Lib.hid (ref3_New x.m (by omega))
      replace cO := Lib.hid cO
      replace cE := Lib.hid cE
      replace cZ := Lib.hid cZ
      replace hcn := Lib.hid hcn
      clear hil gC hcm hes
      go_wp2_with (rw [← hV, ← hg]; clear hV; replace hg := Lib.hid hg)
      have hb := Lib.hid (Below.refl V.heap.size V)
      go_loopw [5, 6] (fun u t wr => ∃ i : Nat, i ≤ x.m ∧ u = .int .i64 (cntR f.frm i : Int) ∧ t = .int .i64 (i : Int) ∧ wr = V) (fun _ t _ => x.m - (intOf t).toNat)
      case atStart => exact ⟨0, Nat.zero_le _, rfl, rfl, rfl⟩
      case round =>
        obtain ⟨i, hi, rfl, rfl, rfl⟩ := hrel
        have p0 := hB.out.c0
        have p1 := hB.out.c1
        have p2 := hB.out.c2
        by_cases hlt : i < x.m
        · have hlt' : (i : Int) < (x.m : Int) := by omega
          have bi : 0 ≤ (i : Int) ∧ (i : Int) < (x.k : Int) := by have := hkm.out; omega
          have hcs := cntR_succ f.frm i
          have hcl := cntR_le f.frm i
          obtain ⟨zb, zo, z, hzC, hzb, hz, hzok, k0⟩ := hB.out.f.fs.int (show i < x.k by have := hkm.out; omega)
          have hgd : f.frm.getD i 0 = z := by rw [List.getD_eq_getElem?_getD, hz]; rfl
          rw [hzC] at p2
          rw [hgd] at hcs
          obtain ⟨q, hq⟩ : ∃ q, q = cntR f.frm i := ⟨_, rfl⟩
          rw [← hq] at hcs hcl ⊢
          clear hzC hzb hz hq hgd
          by_cases hz0 : 0 ≤ z
          · have d0 : decide (0 ≤ z) = true := decide_eq_true hz0
            rw [if_pos hz0] at hcs
            replace hcs := Lib.hid hcs
            go_wp2_with fail
            exact ⟨⟨i + 1, by omega, by rw [hcs.out]; go_num, by go_num, trivial⟩, by simp [intOf]; omega⟩
          · have d0 : decide (0 ≤ z) = false := decide_eq_false hz0
            rw [if_neg hz0] at hcs
            replace hcs := Lib.hid hcs
            go_wp2_with fail
            exact ⟨⟨i + 1, by omega, by rw [hcs.out], by go_num, trivial⟩, by simp [intOf]; omega⟩
        · have hlt' : ¬ (i : Int) < (x.m : Int) := by omega
          obtain rfl : i = x.m := by omega
          have hcl := cntR_le f.frm x.m
          obtain ⟨q, hq⟩ : ∃ q, q = cntR f.frm x.m := ⟨_, rfl⟩
          rw [← hq] at hcn hcl ⊢
          clear hlt hq
          go_wp2_with fail
          refine (cN.out wr).mono ?_; rintro e w5 ⟨A1, n1, d1, rfl, hR, hc1, b⟩
          obtain rfl : n1 = x.m := by rw [← hR.len]; simp [newM]
          -- a call's matrix (N A n c x, hR) laid into a variable: W, g; kM : MatK W g ..
          obtain ⟨W1, hW1⟩ : ∃ W, W = World.alloc w5 (.cells #[.int .i64 (x.m : Int), .slice A1 x.m d1] 35) := ⟨_, rfl⟩
          obtain ⟨gm, hgm⟩ : ∃ g, g = (World.heap w5).size := ⟨_, rfl⟩
          have bW1 : Below (World.heap w5).size w5 W1 := by rw [hW1]; exact below_alloc _ _
          have kM := Lib.hid (show MatK W1 gm 35 (x.m : Int) A1 x.m d1 (newM x.m) from by rw [hW1, hgm]; exact MatK.new w5 _ hR)
          replace hB := Lib.hid ((hB.out.later b).later bW1)
          clear bW1 hR b p0 p1 p2 cN hb
          go_wp2_with (rw [← hW1, ← hgm]; clear hW1; replace hgm := Lib.hid hgm)
          refine wp_region_plan 5 [(true, 0), (true, 1), (false, 2), (false, 3), (true, 4)] (by kernel_rfl) (by kernel_rfl) (fun U hU => ?_)
          have hU' : Below W1.heap.size W1 U := by rw [hU.out]; exact (Below.refl _ _).drew
          replace hB := Lib.hid (hB.out.later hU')
          replace kM := Lib.hid (kM.out.below hU')
          clear hU hU'
          simp only [List.drop_succ_cons, List.drop_nil]
          have p0 := hB.out.c0
          have p1 := hB.out.c1
          have p2 := hB.out.c2
          iterate 2
            refine wpPlan_float (v := ?_) rfl (by rfl) (fun w' hw' => ?_) (fun K hK => ?_)
            rotate_left
            · (go_simp; try with_reducible rfl)
            go_simp
            refine hK _ ?_
            clear hK K
          clear p0 p1 p2
          refine wpPlan_only rfl (by rfl) (fun K hK => ?_)
          go_simp
          refine (cO.out U hB.out.f).mono ?_
          rintro e x1 ⟨A2, n2, d2, rfl, hR, hc2, b⟩
          obtain rfl : n2 = x.m := by rw [← hR.len]; exact hMl.out
          refine hK _ _ b ?_
          clear hK K
          replace hB := Lib.hid (hB.out.later b)
          replace kM := Lib.hid (kM.out.below b)
          clear b
          refine wpPlan_only rfl (by rfl) (fun K hK => ?_)
          go_simp
          refine (cE.out A2 d2 x1 hB.out.f hR hc2).mono ?_
          rintro e x2 ⟨E1, k1, e1, rfl, hL1, hk1, he1, b⟩
          refine hK _ _ b ?_
          clear hK K
          replace hB := Lib.hid (hB.out.later b)
          replace kM := Lib.hid (kM.out.below b)
          have hkl := hL1.len
          clear b hR hL1
          iterate 1
            refine wpPlan_float (v := ?_) rfl (by rfl) (fun w' hw' => ?_) (fun K hK => ?_)
            rotate_left
            · (go_simp; try with_reducible rfl)
            go_simp
            refine hK _ ?_
            clear hK K
          refine wpPlan_nil (NoPanic.normal ?_)
          have p0 := hB.out.c0
          have p1 := hB.out.c1
          have p2 := hB.out.c2
          go_wp2_with fail
          refine (law17_awake x2).mono ?_; rintro e x3 ⟨rfl, b⟩
          replace hB := Lib.hid (hB.out.later b)
          replace kM := Lib.hid (kM.out.below b)
          clear p0 p1 p2 b
          have p0 := hB.out.c0
          have p1 := hB.out.c1
          have p2 := hB.out.c2
          have m0 := kM.out.1.c0
          have m1 := kM.out.1.c1
          go_wp2_with fail
          refine (cZ.out A1 d1 x3 hB.out.f kM.out.2 hc1).mono ?_; rintro e x4 ⟨E2, k2, e2, rfl, hL2, hk2, he2, b⟩
          obtain rfl : k2 = 0 := by have := hL2.len; simpa using this.symm
          replace hB := Lib.hid (hB.out.later b)
          clear p0 p1 p2 b m0 m1 hL2
          have p0 := hB.out.c0
          have p1 := hB.out.c1
          have p2 := hB.out.c2
          have hkq : k1 ≤ q * x.m := by rw [← hkl]; exact hcn.out
          have hqm : q * x.m ≤ 20 * 20 := Nat.mul_le_mul (by omega) hm30
          have hmul : (q : Int) * (x.m : Int) = ((q * x.m : Nat) : Int) := by simp
          obtain ⟨pr, hpr⟩ : ∃ p, p = q * x.m := ⟨_, rfl⟩
          rw [← hpr] at hkq hqm hmul
          have dle : decide ((k1 : Int) ≤ (pr : Int)) = true := decide_eq_true (by omega)
          by_cases hq0 : q = 0
          · subst hq0
            obtain rfl : pr = 0 := by rw [hpr]; omega
            obtain rfl : k1 = 0 := by omega
            clear hpr
            go_wp2_with fail
            go_ret
            exact ⟨rfl, hB.out.o⟩
          · have dq : decide ((0 : Int) < (q : Int)) = true := decide_eq_true (by omega)
            have dq' : (0 : Int) < (q : Int) := by omega
            replace hpr := Lib.hid hpr
            go_wp2_with fail
            go_ret
            exact ⟨rfl, hB.out.o⟩
end Go.Proofs.Ytpbiilhclmcehaa

namespace Go.Proofs.Ytpbiilhclmcehaa
open Go.RowKit Go.ChangeShapes Go.WideShapes Go.Deep
set_option linter.unusedVariables false

theorem bulk_append {H : Type} (l r : List (DataW H)) : Rows.uptoBulkAll (l ++ r) = Rows.uptoBulkAll l + Rows.uptoBulkAll r := by
  induction l with
  | nil => simp [Rows.uptoBulkAll]
  | cons x l ih => rw [List.cons_append, Rows.uptoBulkAll, Rows.uptoBulkAll, ih]; omega
theorem bulk_pos {H : Type} (d : DataW H) : 1 ≤ Rows.uptoBulk d := by
  cases d with
  | lit l => cases l <;> simp [Rows.uptoBulk]
  | nil => simp [Rows.uptoBulk]
  | ptr d => simp [Rows.uptoBulk]
  | slice elems spare => simp [Rows.uptoBulk]
  | agg parts => simp [Rows.uptoBulk]
  | iface t d => simp [Rows.uptoBulk]
  | map entries => simp [Rows.uptoBulk]
  | held h => simp [Rows.uptoBulk]
theorem bulk_len {H : Type} (l : List (DataW H)) : l.length ≤ Rows.uptoBulkAll l := by
  induction l with
  | nil => simp
  | cons x r ih => have := bulk_pos x; rw [Rows.uptoBulkAll, List.length_cons]; omega
theorem bulk_slice {H : Type} (a b : List (DataW H)) : Rows.uptoBulk (.slice a b) = Rows.uptoBulkAll a + Rows.uptoBulkAll b + 1 := by rw [Rows.uptoBulk]
theorem addr_plus (b off j : Nat) : (⟨b, off, none⟩ : Addr).add j = ⟨b, off + j, none⟩ := by unfold Addr.add; split <;> simp_all

section
variable {H : Type} {enc : TypeId × Value → H} {P : Program} {w : World} {base : Nat} {held : Bool}
theorem open_ops {t e : TypeId} {f0 f1 f2 : Field} {fuel : Nat} {A : Option Addr} {len cap : Nat} {x : DataW H × List MemPlace} (ht : P.underlying t = some (.slice e)) (he : P.underlying e = some (.struct #[f0, f1, f2])) (ce : P.cellsOf e = 3)
    (o0 : f0.offset = 0) (o1 : f1.offset = 1) (o2 : f2.offset = 2) (k0 : P.cellsOf f0.type = 1) (k1 : P.cellsOf f1.type = 1) (k2 : P.cellsOf f2.type = 1)
    (u0 : P.underlying f0.type = some .bool) (u1 : P.underlying f1.type = some .string) (u2 : P.underlying f2.type = some (.int .i64))
    (h : DataW.trod enc P w base (fun _ => true) held fuel t [.slice A len cap] = some x) : ∃ os, OpsAt w A len os ∧ len ≤ cap ∧ cap ≤ 9223372036854775807 ∧ cap ≤ Rows.uptoBulk x.1 := by
  rcases open_slice ht h with ⟨hcs, hx⟩ | ⟨⟨b, off, spot⟩, l, c, m, n, D, Pl, hcs, hb, hl, hm, hmm, hx, hel⟩
  · injection hcs with hcs
    injection hcs with h1 h2 h3
    subst h1 h2 h3
    exact ⟨[], OpsAt.nil _ _, by omega, by omega, by omega⟩
  · injection hcs with hcs
    injection hcs with h1 h2 h3
    subst h1 h2 h3
    rw [if_pos rfl] at hmm
    subst hmm
    have hbulk : m ≤ Rows.uptoBulk x.1 := by
      rw [hx, bulk_slice]
      have := bulk_len ((List.range len).map D)
      have := bulk_len ((List.range (m - len)).map fun j => D (len + j))
      simp only [List.length_map, List.length_range] at *
      omega
    have hmm : m ≤ 9223372036854775807 := by unfold maxLen at hm; omega
    have hat : ∀ k, k < len → ∃ o : OpT, ((-9223372036854775808 ≤ o.2.2 ∧ o.2.2 < 9223372036854775808) ∧ o.2.1.size ≤ 9223372036854775807) ∧
        w.cell? ((⟨b, off, spot⟩ : Addr).add (k * 3)) = some (.bool o.1) ∧ w.cell? (((⟨b, off, spot⟩ : Addr).add (k * 3)).add 1) = some (.string o.2.1) ∧ w.cell? (((⟨b, off, spot⟩ : Addr).add (k * 3)).add 2) = some (.int .i64 o.2.2) := by
      intro k hk
      obtain ⟨cs', hc, ht'⟩ := hel k (by omega)
      rw [ce] at hc
      obtain ⟨_, hcl, hcat⟩ := World.cells?_some hc
      obtain ⟨xs, m', _, _, _, hxl, hf⟩ := DataW.trod_struct he ht'
      match cs', hcl with
      | [p, q, r], _ =>
        match xs, hxl with
        | [y0, y1, y2], _ =>
          have f0' := hf 0 f0 rfl
          have f1' := hf 1 f1 rfl
          have f2' := hf 2 f2 rfl
          rw [o0, k0] at f0'
          rw [o1, k1] at f1'
          rw [o2, k2] at f2'
          simp at f0' f1' f2'
          obtain ⟨bv, e0, _⟩ := DataW.trod_bool u0 f0'
          obtain ⟨sv, e1, _, ws⟩ := DataW.trod_string u1 f1'
          obtain ⟨iv, e2, _, wi⟩ := DataW.trod_int u2 f2'
          injection e0 with e0
          injection e1 with e1
          injection e2 with e2
          subst e0; subst e1; subst e2
          have c0 := hcat 0 (by omega)
          have c1 := hcat 1 (by omega)
          have c2 := hcat 2 (by omega)
          have hz : ∀ a : Addr, a.add 0 = a := fun a => by obtain ⟨b, o, s⟩ := a; unfold Addr.add; split <;> simp_all
          rw [hz] at c0
          have hb := bounds_i64 wi
          exact ⟨(bv, sv, iv), ⟨⟨hb.1, by have := hb.2; show iv < _; omega⟩, by unfold maxLen at ws; exact ws⟩, by simpa using c0, by simpa using c1, by simpa using c2⟩
    by_cases h0 : len = 0
    · subst h0
      exact ⟨[], OpsAt.nil _ _, by omega, hmm, hbulk⟩
    · obtain ⟨_, _, hc0, _, _⟩ := hat 0 (by omega)
      have hspot : spot = none := by
        have h := World.cell?_spot hc0
        cases spot with
        | none => rfl
        | some s => unfold Addr.add at h; simp at h
      subst hspot
      have hblt : b < w.heap.size := by
        have := World.block_lt_of_cell? w _ hc0
        rwa [addr_plus] at this
      have hall : ∀ k, k ≤ len → ∃ os : List OpT, os.length = k ∧ OkO os ∧ ∀ (j : Nat) (u : Value), (cellsO os)[j]? = some u → w.cell? ⟨b, off + j, none⟩ = some u := by
        intro k
        induction k with
        | zero => exact fun _ => ⟨[], rfl, fun o h => by simp at h, fun j u h => by simp [cellsO] at h⟩
        | succ k ih =>
          intro hk
          obtain ⟨os, p1, p2, p3⟩ := ih (by omega)
          obtain ⟨o, hok, c0, c1, c2⟩ := hat k (by omega)
          rw [addr_plus] at c0 c1 c2
          rw [addr_plus] at c1 c2
          refine ⟨os ++ [o], by simp [p1], okO_append p2 (fun o' h => by rw [List.mem_singleton.1 h]; exact hok), fun j u hj => ?_⟩
          rw [cellsO_append] at hj
          rcases Nat.lt_or_ge j (cellsO os).length with hlt | hge
          · rw [List.getElem?_append_left hlt] at hj; exact p3 j u hj
          · rw [List.getElem?_append_right hge] at hj
            have hlk : (cellsO os).length = k * 3 := by rw [cellsO_len, p1]
            obtain ⟨r, rfl⟩ : ∃ r, j = k * 3 + r := ⟨j - k * 3, by omega⟩
            rw [hlk, Nat.add_sub_cancel_left] at hj
            match r, hj with
            | 0, hj =>
              have : u = .bool o.1 := by simpa [cellsO] using hj.symm
              rw [this]; exact c0
            | 1, hj =>
              have : u = .string o.2.1 := by simpa [cellsO] using hj.symm
              rw [this, ← Nat.add_assoc]; exact c1
            | 2, hj =>
              have : u = .int .i64 o.2.2 := by simpa [cellsO] using hj.symm
              rw [this, ← Nat.add_assoc]; exact c2
            | r + 3, hj => simp [cellsO] at hj
      obtain ⟨os, p1, p2, p3⟩ := hall len (Nat.le_refl _)
      exact ⟨os, ⟨p1, p2, fun _ => ⟨b, off, rfl, hblt, p3⟩⟩, hl, hmm, hbulk⟩
theorem open_hist {th t e : TypeId} {f0 f1 f2 : Field} {fuel : Nat} {v : Value} {x : DataW H × List MemPlace} (hth : P.underlying th = some (.slice t)) (ct : P.cellsOf t = 1) (ht : P.underlying t = some (.slice e)) (he : P.underlying e = some (.struct #[f0, f1, f2])) (ce : P.cellsOf e = 3)
    (o0 : f0.offset = 0) (o1 : f1.offset = 1) (o2 : f2.offset = 2) (k0 : P.cellsOf f0.type = 1) (k1 : P.cellsOf f1.type = 1) (k2 : P.cellsOf f2.type = 1)
    (u0 : P.underlying f0.type = some .bool) (u1 : P.underlying f1.type = some .string) (u2 : P.underlying f2.type = some (.int .i64))
    (h : DataW.trod enc P w base (fun _ => true) held fuel th [v] = some x) : ∃ A len cap hs, v = .slice A len cap ∧ HistAt w A len hs ∧ len ≤ cap ∧ cap ≤ 9223372036854775807 ∧ cap ≤ Rows.uptoBulk x.1 ∧ (allO hs).length ≤ Rows.uptoBulk x.1 := by
  rcases open_slice1 hth ct h with ⟨hcs, hx⟩ | ⟨⟨b, off, spot⟩, len, cap, m, n, V, D, Pl, hcs, hb, hl, hm, hmm, hx, hel⟩
  · injection hcs with hcs
    exact ⟨none, 0, 0, [], hcs, HistAt.nil _ _, by omega, by omega, by omega, by simp [allO]⟩
  · injection hcs with hcs
    rw [if_pos rfl] at hmm
    subst hmm
    have hmm : m ≤ 9223372036854775807 := by unfold maxLen at hm; omega
    have hbulk : m ≤ Rows.uptoBulk x.1 ∧ Rows.uptoBulkAll ((List.range len).map D) ≤ Rows.uptoBulk x.1 := by
      rw [hx, bulk_slice]
      have := bulk_len ((List.range len).map D)
      have := bulk_len ((List.range (m - len)).map fun j => D (len + j))
      simp only [List.length_map, List.length_range] at *
      omega
    have hat : ∀ k, k < len → ∃ os, SessV w (V k) os ∧ os.length ≤ Rows.uptoBulk (D k) := by
      intro k hk
      obtain ⟨_, hk2⟩ := hel k (by omega)
      obtain ⟨A', n', c', e'⟩ : ∃ A' n' c', V k = .slice A' n' c' := by
        rcases open_slice ht hk2 with ⟨hcs, _⟩ | ⟨a, l, c, m, n, D, Pl, hcs, _⟩
        · injection hcs with hcs; exact ⟨_, _, _, hcs⟩
        · injection hcs with hcs; exact ⟨_, _, _, hcs⟩
      rw [e'] at hk2
      obtain ⟨os, h1, h2, h3, h4⟩ := open_ops ht he ce o0 o1 o2 k0 k1 k2 u0 u1 u2 hk2
      exact ⟨os, ⟨A', n', c', e', h2, by omega, h1⟩, by rw [h1.len]; exact Nat.le_trans h2 h4⟩
    by_cases h0 : len = 0
    · subst h0
      exact ⟨_, 0, m, [], hcs, HistAt.nil _ _, by omega, hmm, hbulk.1, by simp [allO]⟩
    · have hc0 := (hel 0 (by omega)).1
      have hspot : spot = none := by
        have h := World.cell?_spot hc0
        cases spot with
        | none => rfl
        | some s => unfold Addr.add at h; simp at h
      subst hspot
      have hblt : b < w.heap.size := by
        have := World.block_lt_of_cell? w _ hc0
        rwa [addr_plus] at this
      have hall : ∀ k, k ≤ len → ∃ hs : List (List OpT), hs.length = k ∧ (∀ (i : Nat) (v : Value) (os : List OpT), ((List.range k).map V)[i]? = some v → hs[i]? = some os → SessV w v os) ∧ (allO hs).length ≤ Rows.uptoBulkAll ((List.range k).map D) := by
        intro k
        induction k with
        | zero => exact fun _ => ⟨[], rfl, fun i v os h => by simp at h, by simp [allO]⟩
        | succ k ih =>
          intro hk
          obtain ⟨hs, p1, p2, p3⟩ := ih (by omega)
          obtain ⟨os, q1, q2⟩ := hat k (by omega)
          refine ⟨hs ++ [os], by simp [p1], fun i v o hv ho => ?_, ?_⟩
          · rw [List.range_succ, List.map_append] at hv
            rcases Nat.lt_or_ge i k with hlt | hge
            · rw [List.getElem?_append_left (by simpa using hlt)] at hv
              rw [List.getElem?_append_left (by omega)] at ho
              exact p2 i v o hv ho
            · rw [List.getElem?_append_right (by simpa using hge)] at hv
              rw [List.getElem?_append_right (by omega)] at ho
              have hv' := List.mem_of_getElem? hv
              have ho' := List.mem_of_getElem? ho
              simp at hv' ho'
              subst hv'; subst ho'
              exact q1
          · rw [allO_append, List.range_succ, List.map_append, bulk_append, List.length_append]
            have e1 : (allO [os]).length = os.length := by simp [allO]
            have e2 : Rows.uptoBulkAll (List.map D [k]) = Rows.uptoBulk (D k) := by simp [Rows.uptoBulkAll]
            omega
      obtain ⟨hs, p1, p2, p3⟩ := hall len (Nat.le_refl _)
      refine ⟨_, len, m, hs, hcs, ⟨(List.range len).map V, ⟨by simp, fun _ => ⟨b, off, rfl, hblt, fun j u hu => ?_⟩⟩, by simp [p1], p2⟩, hl, hmm, hbulk.1, by omega⟩
      have hj : j < len := by have := (List.getElem?_eq_some_iff.1 hu).1; simpa using this
      rw [List.getElem?_map, List.getElem?_range hj, Option.map_some] at hu
      have h1 := (hel j (by omega)).1
      rw [addr_plus] at h1
      rw [h1]; exact hu
end
end Go.Proofs.Ytpbiilhclmcehaa
