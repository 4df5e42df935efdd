/- The contracts of the document's own answers of layer 13: Edges, Co. The contracts of the document's own answers of layer 17: Same, Cf. Plain mathematics of layer 17's own code: conflicts that are sought by W2 and R, and kept apart by W1; the hull of a matrix laid over another. Nothing of the program is named. A region that draws its order, by a plan (XPlan), in which one block of the caller's may change (an append in place): what reads must not read it. No function of the program is named here. Words for memory: slices of operations of a call's own, each in a block of its own. No function of the program is named here. Words for memory: lists of anything, each in a block of its own, in a row of slices that is written in place; what lies apart from them stays. No function of the program is named. The code's own contracts of layer 10: a map of first writes, Check, Write. The code's own contracts of layer 6, first half: names, slices.Grow, slices.Concat, slices.Equal, slices.EqualFunc at operations; Flat, Same. The contracts of slices.Equal at the parts of facts, and of the code's own Same. The code's own contracts of layer 11: copies of lists, a map of writes whose keys are arrays, what each item reads from, Fill, Whole, Readers. Plain mathematics of layer 12: items of a session are neighbours; what follows for their order and the rows of the matrix. Nothing of the program is named. The code's own contracts of layer 12: known, first, fill, Ahead, Past, Po. -/
import Derived.Test.YtpbiilhclmcehaaClashMorePk8
import Derived.Test.YtpbiilhclmcehaaClashMorePk7
import Derived.Test.YtpbiilhclmcehaaClashMorePk5
import Derived.Test.YtpbiilhclmcehaaClashMorePk6
import Derived.Test.YtpbiilhclmcehaaClashMorePk3
import Derived.Test.YtpbiilhclmcehaaClashMorePk1
import Derived.OneCell
import Derived.Maps.OwnSet
import Derived.Maps.OwnOps
import Derived.DeepKeys4
import Derived.Lib.AppendZeros
import Derived.RangeFuncRecord
import Derived.Test.YtpbiilhclmcehaaClashMorePk2
namespace Go.Proofs.Ytpbiilhclmcehaa
open Go.RowKit
set_option linter.unusedVariables false
theorem rows_len_pos {n : Nat} {xss : List (List Nat)} (h : Good n xss) (hn : 0 < n) : ∀ xs ∈ xss, 0 < xs.length := fun xs hx => by
  have := (h.row xs hx).2.1; omega
theorem RowsAt.farZ {w : World} {C : Option Addr} {p g : Nat} {t : TypeId} {xss : List (List Nat)} {N : Int} (h : RowsAt w C p xss) (hM : MatB w g t N none 0 0) (hl : ∀ xs ∈ xss, 0 < xs.length) : 0 < p → ∀ ad, C = some ad → ad.block ≠ g := by
  intro h0 ad e
  obtain ⟨b, off, B, m, d, xs, e2, _, hx, hc, hr⟩ := h.at_ h0
  rw [e] at e2
  cases e2
  intro hb
  have hb' : b = g := hb
  subst hb'
  rw [Blk.cell hM] at hc
  match off + 0, hc with
  | 0, hc => simp at hc
  | 1, hc =>
    simp at hc
    obtain ⟨rfl, rfl, rfl⟩ := hc
    have h1 := hr.len
    have := hl xs (List.mem_of_getElem? hx)
    omega
  | k + 2, hc => simp at hc
set_option maxRecDepth 100000 in
set_option maxHeartbeats 2000000 in
theorem ref13_Edges (v : FV) (f : Fac) (w : World) (hF : FactsAt w v f) (hm : v.m ≤ 4096) (hw : WholeF f) :
    Calls Try.prog 45 #[.agg #[.slice v.A v.n v.c, .slice v.B v.m v.d, .slice v.C v.k v.e]] w (RetMat1F (v.m : Int) (edgeM f) w) := by
  have hil := hF.is.len
  have gp := poM_good (is := f.items) (by omega)
  have gq := rfM_good hw (by omega)
  rw [hil] at gp gq
  obtain ⟨pm, hpm⟩ : ∃ m, m = poM f.items := ⟨_, rfl⟩
  obtain ⟨rm, hrm⟩ : ∃ m, m = rfM f.items.length f.frm := ⟨_, rfl⟩
  rw [hil] at hrm
  have cPo := fun W hW => ref12_Po v f W hW hm
  have cRf := fun W hW => ref13_Rf v f W hW hm hw
  unfold edgeM
  rw [hil] at cRf ⊢
  rw [← hpm] at gp cPo ⊢
  rw [← hrm] at gq cRf ⊢
  have hpl := Lib.hid gp.1.len
  have hrl := Lib.hid gq.1.len
  have hp24 := Lib.hid (show ∀ (i : Nat) (xs : List Nat), pm[i]? = some xs → xs.length ≤ 1024 from fun i xs h => Nat.le_trans (gp.1.small xs (List.mem_of_getElem? h)) (by decide))
  have hr24 := Lib.hid (show ∀ (i : Nat) (xs : List Nat), rm[i]? = some xs → xs.length ≤ 1024 from fun i xs h => Nat.le_trans (gq.1.small xs (List.mem_of_getElem? h)) (by decide))
  replace cPo := Lib.hid cPo
  replace cRf := Lib.hid cRf
  clear gp gq hpm hrm hil
  -- a call with facts v: they are boxed at g, the world is W0 then
  have hB0 := Lib.hid (FBox.new hF)
  obtain ⟨g, hg⟩ : ∃ g, g = w.heap.size := ⟨_, rfl⟩
  obtain ⟨W0, hW0⟩ : ∃ W, W = w.alloc (.cells #[.slice v.A v.n v.c, .slice v.B v.m v.d, .slice v.C v.k v.e] 30) := ⟨_, rfl⟩
  rw [← hW0, ← hg] at hB0
  clear hF
  obtain ⟨gr, hgr⟩ : ∃ g, g = W0.heap.size := ⟨_, rfl⟩
  obtain ⟨W1, hW1⟩ : ∃ W, W = W0.alloc (.cells #[.int .i64 0, .slice none 0 0] 35) := ⟨_, rfl⟩
  have b1 : Below W0.heap.size W0 W1 := by rw [hW1]; exact (Below.refl _ _).alloc (Nat.le_refl _) _
  have kR : MatB W1 gr 35 0 none 0 0 := by rw [hW1, hgr]; exact MatB.new W0 _
  have hB1 := Lib.hid (hB0.out.later b1)
  have hgw := Lib.hid (show w.heap.size ≤ gr from by rw [hgr]; exact hB0.out.o.size)
  go_enter Try.func45, Try.ntmps45
  go_wp2_with (first | (rw [← hW0, ← hg]; clear hW0 hg) | (rw [← hW1, ← hgr]; clear hW1; replace hgr := Lib.hid hgr))
  refine wp_region_tree (.flt 0 (.flt 2 (.two 1 8 (.two 3 8 (.two 4 8 (.flt 5 (.flt 6 (.flt 7 (.one 8 (.one 9 (.flt 10 .done)))))) (.one 4 (.flt 5 (.flt 6 (.flt 7 (.one 9 (.flt 10 .done))))))) (.one 3 (.one 4 (.flt 5 (.flt 6 (.flt 7 (.one 9 (.flt 10 .done)))))))) (.one 1 (.one 3 (.one 4 (.flt 5 (.flt 6 (.flt 7 (.one 9 (.flt 10 .done))))))))))) (by kernel_rfl) (by kernel_rfl) (fun U hU => ?_)
  have hkR := Lib.hid (show MatB U gr 35 0 none 0 0 from by rw [hU.out]; exact kR.below_ (Below.refl _ _).drew)
  have hBU := Lib.hid (show FBox w g v f U from by rw [hU.out]; exact hB1.out.later (Below.refl _ _).drew)
  clear hU hB1 b1 kR hB0
  have bW : Below U.heap.size U U := Below.refl _ _
  have p0 := hBU.out.c0
  have p1 := hBU.out.c1
  have p2 := hBU.out.c2
  iterate 2
    refine wpPT_float (v := ?_) rfl (by rfl) (fun w' hw' => ?_) (fun K hK => ?_)
    rotate_left
    · (go_simp; try with_reducible rfl)
    go_simp
    refine hK _ ?_
    clear hK K
  clear p0 p1 p2
  refine wpPT_two rfl (by rfl) rfl (by rfl) (fun K hK => ?_) (fun K hK => ?_)
  · skip
    go_simp
    -- a call's matrix r1 : RowsAt, in the world U; the new world is v1
    refine (cPo.out U (hBU.out.later bW).f).mono ?_; rintro e v1 ⟨A1, n1, c1, rfl, r1, hc1, b, -⟩
    obtain rfl : n1 = v.m := by rw [← r1.len]; exact hpl.out
    replace bW := below_trans2 bW b
    refine hK _ _ bW ?_
    clear hK K
    replace r1 := Lib.hid r1
    clear b
    refine wpPT_two rfl (by rfl) rfl (by rfl) (fun K hK => ?_) (fun K hK => ?_)
    · skip
      go_simp
      -- a call's matrix r2 : RowsAt, in the world v1; the new world is v2
      refine (cRf.out v1 (hBU.out.later bW).f).mono ?_; rintro e v2 ⟨A2, n2, c2, rfl, r2, hc2, b, -⟩
      obtain rfl : n2 = v.m := by rw [← r2.len]; exact hrl.out
      replace bW := below_trans2 bW b
      refine hK _ _ bW ?_
      clear hK K
      replace r2 := Lib.hid r2
      replace r1 := Lib.hid (r1.out.below b)
      clear b
      refine wpPT_two rfl (by rfl) rfl (by rfl) (fun K hK => ?_) (fun K hK => ?_)
      · skip
        have cE := Lib.hid (ref3_OrF A1 A2 v.m c1 c2 pm rm v2 r1.out r2.out hm hp24.out hr24.out)
        go_simp
        refine cE.out.mono ?_; rintro e v3 ⟨A3, n3, c3, rfl, r3, hc3, b, hfar⟩
        obtain rfl : n3 = v.m := by rw [← r3.len, orM_len]; exact hpl.out
        have hfz3 := hfar
        replace hfar : ∀ ad, A3 = some ad → U.heap.size ≤ ad.block := fun ad e => Nat.le_trans bW.size (hfar ad e)
        replace bW := below_trans2 bW b
        refine hK _ _ bW ?_
        clear hK K cE r1 r2
        clear b
        iterate 3
          refine wpPT_float (v := ?_) rfl (by rfl) (fun w' hw' => ?_) (fun K hK => ?_)
          rotate_left
          · (go_simp; try with_reducible rfl)
          go_simp
          refine hK _ ?_
          clear hK K
        refine wpPT_one rfl (by rfl) (fun K hK => ?_)
        go_simp
        obtain ⟨M, hM⟩ : ∃ M, M = (World.heap v3).size := ⟨_, rfl⟩
        obtain ⟨v4, hw⟩ : ∃ X : World, X = World.alloc v3 (.cells #[.int .i64 0, .slice none 0 0] 35) := ⟨_, rfl⟩
        rw [← hw, ← hM]
        have b : Below (World.heap v3).size v3 v4 := by rw [hw]; exact below_alloc _ _
        have hUM : U.heap.size ≤ M := by rw [hM]; exact bW.size
        replace bW := below_trans2 bW b
        refine hK _ _ bW ?_
        clear hK K
        have kM := Lib.hid (show MatB v4 M 35 0 none 0 0 from by rw [hw, hM]; exact MatB.new _ _)
        have hne : 0 < v.m → ∀ ad, A3 = some ad → ad.block ≠ M := fun h0 ad e => by have := r3.block_lt h0 ad e; omega
        replace r3 := r3.below b
        clear b
        clear hw hM
        -- M holds the zero matrix in v4; the rows lie apart from it (hne)
        have f0 := kM.out.c0
        have f1 := kM.out.c1
        have g0 := kM.out.frozen 0
        have g1 := kM.out.frozen 1
        refine wpPT_one rfl (by rfl) (fun K hK => ?_)
        go_simp
        obtain ⟨wz, hw⟩ : ∃ X : World, X = (World.setCell v4 ⟨M, 0, none⟩ (.int .i64 (v.m : Int))).setCell ⟨M, 1, none⟩ (.slice A3 v.m c3) := ⟨_, rfl⟩
        rw [← hw]
        have r4 := Lib.hid (show RowsAt wz A3 v.m (orM pm rm) from by rw [hw]; exact r3.putB kM.out hne _ _)
        have k4 := Lib.hid (show MatB wz M 35 (v.m : Int) A3 v.m c3 from by rw [hw]; exact kM.out.put _ _ _ _)
        replace bW : Below U.heap.size U wz := by rw [hw]; exact (bW.setCell (p := ⟨M, 0, none⟩) hUM _).setCell (p := ⟨M, 1, none⟩) hUM _
        refine hK _ _ bW ?_
        clear hK K f0 f1 g0 g1 hw r3 kM
        iterate 1
          refine wpPT_float (v := ?_) rfl (by rfl) (fun w' hw' => ?_) (fun K hK => ?_)
          rotate_left
          · (go_simp; try with_reducible rfl)
          go_simp
          refine hK _ ?_
          clear hK K
        refine wpPT_done (NoPanic.normal ?_)
        have kR4 := hkR.out.below_ bW
        have m0 := k4.out.c0
        have m1 := k4.out.c1
        have f0 := kR4.c0
        have f1 := kR4.c1
        have g0 := kR4.frozen 0
        have g1 := kR4.frozen 1
        have hcc := kR4.two (.int .i64 (v.m : Int)) (.slice A3 v.m c3)
        have hc1 := Lib.hid hcc.1
        have hc2 := Lib.hid hcc.2
        have hrf := Lib.hid (r4.out.putB kR4 (fun h0 ad e hb => by have := hfar ad e; have := hkR.out.lt; omega) (.int .i64 (v.m : Int)) (.slice A3 v.m c3))
        have hbf := Lib.hid (((below_trans2 hBU.out.o bW).setCell (p := ⟨gr, 0, none⟩) hgw.out (.int .i64 (v.m : Int))).setCell (p := ⟨gr, 1, none⟩) hgw.out (.slice A3 v.m c3))
        have hfz := Lib.hid (show ∀ ad, A3 = some ad → w.heap.size ≤ ad.block from fun ad e => Nat.le_trans hBU.out.o.size (hfar ad e))
        clear hcc bW hfar hne k4 r4
        go_wp2_with fail
        exact bodyPost_ret (v := .agg #[.int .i64 (v.m : Int), .slice A3 v.m c3]) (by simp [results, Try.results45, go_sem, hc1.out, hc2.out]) rfl ⟨A3, v.m, c3, rfl, hrf.out, hc3, hbf.out, hfz.out⟩
      · skip
        go_simp
        obtain ⟨M, hM⟩ : ∃ M, M = (World.heap v2).size := ⟨_, rfl⟩
        obtain ⟨v5, hw⟩ : ∃ X : World, X = World.alloc v2 (.cells #[.int .i64 0, .slice none 0 0] 35) := ⟨_, rfl⟩
        rw [← hw, ← hM]
        have b : Below (World.heap v2).size v2 v5 := by rw [hw]; exact below_alloc _ _
        have hUM : U.heap.size ≤ M := by rw [hM]; exact bW.size
        replace bW := below_trans2 bW b
        refine hK _ _ bW ?_
        clear hK K
        have kM := Lib.hid (show MatB v5 M 35 0 none 0 0 from by rw [hw, hM]; exact MatB.new _ _)
        replace r1 := Lib.hid (r1.out.below b)
        replace r2 := Lib.hid (r2.out.below b)
        clear b
        clear hw hM
        refine wpPT_one rfl (by rfl) (fun K hK => ?_)
        have cE := Lib.hid (ref3_OrF A1 A2 v.m c1 c2 pm rm v5 r1.out r2.out hm hp24.out hr24.out)
        go_simp
        refine cE.out.mono ?_; rintro e v6 ⟨A3, n3, c3, rfl, r3, hc3, b, hfar⟩
        obtain rfl : n3 = v.m := by rw [← r3.len, orM_len]; exact hpl.out
        have hfz3 := hfar
        replace hfar : ∀ ad, A3 = some ad → U.heap.size ≤ ad.block := fun ad e => Nat.le_trans bW.size (hfar ad e)
        replace bW := below_trans2 bW b
        refine hK _ _ bW ?_
        clear hK K cE r1 r2
        have hne : 0 < v.m → ∀ ad, A3 = some ad → ad.block ≠ M := fun h0 ad e => by have := hfz3 ad e; have := kM.out.lt; omega
        replace kM := Lib.hid (kM.out.below_ b)
        clear b
        iterate 3
          refine wpPT_float (v := ?_) rfl (by rfl) (fun w' hw' => ?_) (fun K hK => ?_)
          rotate_left
          · (go_simp; try with_reducible rfl)
          go_simp
          refine hK _ ?_
          clear hK K
        -- M holds the zero matrix in v6; the rows lie apart from it (hne)
        have f0 := kM.out.c0
        have f1 := kM.out.c1
        have g0 := kM.out.frozen 0
        have g1 := kM.out.frozen 1
        refine wpPT_one rfl (by rfl) (fun K hK => ?_)
        go_simp
        obtain ⟨wz, hw⟩ : ∃ X : World, X = (World.setCell v6 ⟨M, 0, none⟩ (.int .i64 (v.m : Int))).setCell ⟨M, 1, none⟩ (.slice A3 v.m c3) := ⟨_, rfl⟩
        rw [← hw]
        have r4 := Lib.hid (show RowsAt wz A3 v.m (orM pm rm) from by rw [hw]; exact r3.putB kM.out hne _ _)
        have k4 := Lib.hid (show MatB wz M 35 (v.m : Int) A3 v.m c3 from by rw [hw]; exact kM.out.put _ _ _ _)
        replace bW : Below U.heap.size U wz := by rw [hw]; exact (bW.setCell (p := ⟨M, 0, none⟩) hUM _).setCell (p := ⟨M, 1, none⟩) hUM _
        refine hK _ _ bW ?_
        clear hK K f0 f1 g0 g1 hw r3 kM
        iterate 1
          refine wpPT_float (v := ?_) rfl (by rfl) (fun w' hw' => ?_) (fun K hK => ?_)
          rotate_left
          · (go_simp; try with_reducible rfl)
          go_simp
          refine hK _ ?_
          clear hK K
        refine wpPT_done (NoPanic.normal ?_)
        have kR4 := hkR.out.below_ bW
        have m0 := k4.out.c0
        have m1 := k4.out.c1
        have f0 := kR4.c0
        have f1 := kR4.c1
        have g0 := kR4.frozen 0
        have g1 := kR4.frozen 1
        have hcc := kR4.two (.int .i64 (v.m : Int)) (.slice A3 v.m c3)
        have hc1 := Lib.hid hcc.1
        have hc2 := Lib.hid hcc.2
        have hrf := Lib.hid (r4.out.putB kR4 (fun h0 ad e hb => by have := hfar ad e; have := hkR.out.lt; omega) (.int .i64 (v.m : Int)) (.slice A3 v.m c3))
        have hbf := Lib.hid (((below_trans2 hBU.out.o bW).setCell (p := ⟨gr, 0, none⟩) hgw.out (.int .i64 (v.m : Int))).setCell (p := ⟨gr, 1, none⟩) hgw.out (.slice A3 v.m c3))
        have hfz := Lib.hid (show ∀ ad, A3 = some ad → w.heap.size ≤ ad.block from fun ad e => Nat.le_trans hBU.out.o.size (hfar ad e))
        clear hcc bW hfar hne k4 r4
        go_wp2_with fail
        exact bodyPost_ret (v := .agg #[.int .i64 (v.m : Int), .slice A3 v.m c3]) (by simp [results, Try.results45, go_sem, hc1.out, hc2.out]) rfl ⟨A3, v.m, c3, rfl, hrf.out, hc3, hbf.out, hfz.out⟩
    · skip
      go_simp
      obtain ⟨M, hM⟩ : ∃ M, M = (World.heap v1).size := ⟨_, rfl⟩
      obtain ⟨v7, hw⟩ : ∃ X : World, X = World.alloc v1 (.cells #[.int .i64 0, .slice none 0 0] 35) := ⟨_, rfl⟩
      rw [← hw, ← hM]
      have b : Below (World.heap v1).size v1 v7 := by rw [hw]; exact below_alloc _ _
      have hUM : U.heap.size ≤ M := by rw [hM]; exact bW.size
      replace bW := below_trans2 bW b
      refine hK _ _ bW ?_
      clear hK K
      have kM := Lib.hid (show MatB v7 M 35 0 none 0 0 from by rw [hw, hM]; exact MatB.new _ _)
      replace r1 := Lib.hid (r1.out.below b)
      clear b
      clear hw hM
      refine wpPT_one rfl (by rfl) (fun K hK => ?_)
      go_simp
      -- a call's matrix r2 : RowsAt, in the world v7; the new world is v8
      refine (cRf.out v7 (hBU.out.later bW).f).mono ?_; rintro e v8 ⟨A2, n2, c2, rfl, r2, hc2, b, -⟩
      obtain rfl : n2 = v.m := by rw [← r2.len]; exact hrl.out
      replace bW := below_trans2 bW b
      refine hK _ _ bW ?_
      clear hK K
      replace r2 := Lib.hid r2
      replace r1 := Lib.hid (r1.out.below b)
      replace kM := Lib.hid (kM.out.below_ b)
      clear b
      refine wpPT_one rfl (by rfl) (fun K hK => ?_)
      have cE := Lib.hid (ref3_OrF A1 A2 v.m c1 c2 pm rm v8 r1.out r2.out hm hp24.out hr24.out)
      go_simp
      refine cE.out.mono ?_; rintro e v9 ⟨A3, n3, c3, rfl, r3, hc3, b, hfar⟩
      obtain rfl : n3 = v.m := by rw [← r3.len, orM_len]; exact hpl.out
      have hfz3 := hfar
      replace hfar : ∀ ad, A3 = some ad → U.heap.size ≤ ad.block := fun ad e => Nat.le_trans bW.size (hfar ad e)
      replace bW := below_trans2 bW b
      refine hK _ _ bW ?_
      clear hK K cE r1 r2
      have hne : 0 < v.m → ∀ ad, A3 = some ad → ad.block ≠ M := fun h0 ad e => by have := hfz3 ad e; have := kM.out.lt; omega
      replace kM := Lib.hid (kM.out.below_ b)
      clear b
      iterate 3
        refine wpPT_float (v := ?_) rfl (by rfl) (fun w' hw' => ?_) (fun K hK => ?_)
        rotate_left
        · (go_simp; try with_reducible rfl)
        go_simp
        refine hK _ ?_
        clear hK K
      -- M holds the zero matrix in v9; the rows lie apart from it (hne)
      have f0 := kM.out.c0
      have f1 := kM.out.c1
      have g0 := kM.out.frozen 0
      have g1 := kM.out.frozen 1
      refine wpPT_one rfl (by rfl) (fun K hK => ?_)
      go_simp
      obtain ⟨wz, hw⟩ : ∃ X : World, X = (World.setCell v9 ⟨M, 0, none⟩ (.int .i64 (v.m : Int))).setCell ⟨M, 1, none⟩ (.slice A3 v.m c3) := ⟨_, rfl⟩
      rw [← hw]
      have r4 := Lib.hid (show RowsAt wz A3 v.m (orM pm rm) from by rw [hw]; exact r3.putB kM.out hne _ _)
      have k4 := Lib.hid (show MatB wz M 35 (v.m : Int) A3 v.m c3 from by rw [hw]; exact kM.out.put _ _ _ _)
      replace bW : Below U.heap.size U wz := by rw [hw]; exact (bW.setCell (p := ⟨M, 0, none⟩) hUM _).setCell (p := ⟨M, 1, none⟩) hUM _
      refine hK _ _ bW ?_
      clear hK K f0 f1 g0 g1 hw r3 kM
      iterate 1
        refine wpPT_float (v := ?_) rfl (by rfl) (fun w' hw' => ?_) (fun K hK => ?_)
        rotate_left
        · (go_simp; try with_reducible rfl)
        go_simp
        refine hK _ ?_
        clear hK K
      refine wpPT_done (NoPanic.normal ?_)
      have kR4 := hkR.out.below_ bW
      have m0 := k4.out.c0
      have m1 := k4.out.c1
      have f0 := kR4.c0
      have f1 := kR4.c1
      have g0 := kR4.frozen 0
      have g1 := kR4.frozen 1
      have hcc := kR4.two (.int .i64 (v.m : Int)) (.slice A3 v.m c3)
      have hc1 := Lib.hid hcc.1
      have hc2 := Lib.hid hcc.2
      have hrf := Lib.hid (r4.out.putB kR4 (fun h0 ad e hb => by have := hfar ad e; have := hkR.out.lt; omega) (.int .i64 (v.m : Int)) (.slice A3 v.m c3))
      have hbf := Lib.hid (((below_trans2 hBU.out.o bW).setCell (p := ⟨gr, 0, none⟩) hgw.out (.int .i64 (v.m : Int))).setCell (p := ⟨gr, 1, none⟩) hgw.out (.slice A3 v.m c3))
      have hfz := Lib.hid (show ∀ ad, A3 = some ad → w.heap.size ≤ ad.block from fun ad e => Nat.le_trans hBU.out.o.size (hfar ad e))
      clear hcc bW hfar hne k4 r4
      go_wp2_with fail
      exact bodyPost_ret (v := .agg #[.int .i64 (v.m : Int), .slice A3 v.m c3]) (by simp [results, Try.results45, go_sem, hc1.out, hc2.out]) rfl ⟨A3, v.m, c3, rfl, hrf.out, hc3, hbf.out, hfz.out⟩
  · skip
    go_simp
    obtain ⟨M, hM⟩ : ∃ M, M = (World.heap U).size := ⟨_, rfl⟩
    obtain ⟨v10, hw⟩ : ∃ X : World, X = World.alloc U (.cells #[.int .i64 0, .slice none 0 0] 35) := ⟨_, rfl⟩
    rw [← hw, ← hM]
    have b : Below (World.heap U).size U v10 := by rw [hw]; exact below_alloc _ _
    have hUM : U.heap.size ≤ M := by rw [hM]; exact bW.size
    replace bW := below_trans2 bW b
    refine hK _ _ bW ?_
    clear hK K
    have kM := Lib.hid (show MatB v10 M 35 0 none 0 0 from by rw [hw, hM]; exact MatB.new _ _)
    clear b
    clear hw hM
    refine wpPT_one rfl (by rfl) (fun K hK => ?_)
    go_simp
    -- a call's matrix r1 : RowsAt, in the world v10; the new world is v11
    refine (cPo.out v10 (hBU.out.later bW).f).mono ?_; rintro e v11 ⟨A1, n1, c1, rfl, r1, hc1, b, -⟩
    obtain rfl : n1 = v.m := by rw [← r1.len]; exact hpl.out
    replace bW := below_trans2 bW b
    refine hK _ _ bW ?_
    clear hK K
    replace r1 := Lib.hid r1
    replace kM := Lib.hid (kM.out.below_ b)
    clear b
    refine wpPT_one rfl (by rfl) (fun K hK => ?_)
    go_simp
    -- a call's matrix r2 : RowsAt, in the world v11; the new world is v12
    refine (cRf.out v11 (hBU.out.later bW).f).mono ?_; rintro e v12 ⟨A2, n2, c2, rfl, r2, hc2, b, -⟩
    obtain rfl : n2 = v.m := by rw [← r2.len]; exact hrl.out
    replace bW := below_trans2 bW b
    refine hK _ _ bW ?_
    clear hK K
    replace r2 := Lib.hid r2
    replace kM := Lib.hid (kM.out.below_ b)
    replace r1 := Lib.hid (r1.out.below b)
    clear b
    refine wpPT_one rfl (by rfl) (fun K hK => ?_)
    have cE := Lib.hid (ref3_OrF A1 A2 v.m c1 c2 pm rm v12 r1.out r2.out hm hp24.out hr24.out)
    go_simp
    refine cE.out.mono ?_; rintro e v13 ⟨A3, n3, c3, rfl, r3, hc3, b, hfar⟩
    obtain rfl : n3 = v.m := by rw [← r3.len, orM_len]; exact hpl.out
    have hfz3 := hfar
    replace hfar : ∀ ad, A3 = some ad → U.heap.size ≤ ad.block := fun ad e => Nat.le_trans bW.size (hfar ad e)
    replace bW := below_trans2 bW b
    refine hK _ _ bW ?_
    clear hK K cE r1 r2
    have hne : 0 < v.m → ∀ ad, A3 = some ad → ad.block ≠ M := fun h0 ad e => by have := hfz3 ad e; have := kM.out.lt; omega
    replace kM := Lib.hid (kM.out.below_ b)
    clear b
    iterate 3
      refine wpPT_float (v := ?_) rfl (by rfl) (fun w' hw' => ?_) (fun K hK => ?_)
      rotate_left
      · (go_simp; try with_reducible rfl)
      go_simp
      refine hK _ ?_
      clear hK K
    -- M holds the zero matrix in v13; the rows lie apart from it (hne)
    have f0 := kM.out.c0
    have f1 := kM.out.c1
    have g0 := kM.out.frozen 0
    have g1 := kM.out.frozen 1
    refine wpPT_one rfl (by rfl) (fun K hK => ?_)
    go_simp
    obtain ⟨wz, hw⟩ : ∃ X : World, X = (World.setCell v13 ⟨M, 0, none⟩ (.int .i64 (v.m : Int))).setCell ⟨M, 1, none⟩ (.slice A3 v.m c3) := ⟨_, rfl⟩
    rw [← hw]
    have r4 := Lib.hid (show RowsAt wz A3 v.m (orM pm rm) from by rw [hw]; exact r3.putB kM.out hne _ _)
    have k4 := Lib.hid (show MatB wz M 35 (v.m : Int) A3 v.m c3 from by rw [hw]; exact kM.out.put _ _ _ _)
    replace bW : Below U.heap.size U wz := by rw [hw]; exact (bW.setCell (p := ⟨M, 0, none⟩) hUM _).setCell (p := ⟨M, 1, none⟩) hUM _
    refine hK _ _ bW ?_
    clear hK K f0 f1 g0 g1 hw r3 kM
    iterate 1
      refine wpPT_float (v := ?_) rfl (by rfl) (fun w' hw' => ?_) (fun K hK => ?_)
      rotate_left
      · (go_simp; try with_reducible rfl)
      go_simp
      refine hK _ ?_
      clear hK K
    refine wpPT_done (NoPanic.normal ?_)
    have kR4 := hkR.out.below_ bW
    have m0 := k4.out.c0
    have m1 := k4.out.c1
    have f0 := kR4.c0
    have f1 := kR4.c1
    have g0 := kR4.frozen 0
    have g1 := kR4.frozen 1
    have hcc := kR4.two (.int .i64 (v.m : Int)) (.slice A3 v.m c3)
    have hc1 := Lib.hid hcc.1
    have hc2 := Lib.hid hcc.2
    have hrf := Lib.hid (r4.out.putB kR4 (fun h0 ad e hb => by have := hfar ad e; have := hkR.out.lt; omega) (.int .i64 (v.m : Int)) (.slice A3 v.m c3))
    have hbf := Lib.hid (((below_trans2 hBU.out.o bW).setCell (p := ⟨gr, 0, none⟩) hgw.out (.int .i64 (v.m : Int))).setCell (p := ⟨gr, 1, none⟩) hgw.out (.slice A3 v.m c3))
    have hfz := Lib.hid (show ∀ ad, A3 = some ad → w.heap.size ≤ ad.block from fun ad e => Nat.le_trans hBU.out.o.size (hfar ad e))
    clear hcc bW hfar hne k4 r4
    go_wp2_with fail
    exact bodyPost_ret (v := .agg #[.int .i64 (v.m : Int), .slice A3 v.m c3]) (by simp [results, Try.results45, go_sem, hc1.out, hc2.out]) rfl ⟨A3, v.m, c3, rfl, hrf.out, hc3, hbf.out, hfz.out⟩
set_option maxRecDepth 100000 in
set_option maxHeartbeats 2000000 in
theorem ref13_Co (v : FV) (f : Fac) (w : World) (hF : FactsAt w v f) (hm : v.m < 64) (hw : WholeF f) :
    Calls Try.prog 22 #[.agg #[.slice v.A v.n v.c, .slice v.B v.m v.d, .slice v.C v.k v.e]] w (RetMat1 (v.m : Int) (coM f) w) := by
  have hil := hF.is.len
  have ge := (edgeM_good hw (by omega)).1
  have gc := (coM_hull hw (by omega)).1
  have cE := Lib.hid (fun W hW => ref13_Edges v f W hW (by omega) hw)
  rw [hil] at ge gc
  have hlc := Lib.hid gc.len
  have hpos := Lib.hid (fun h0 => rows_len_pos gc h0)
  have cC := fun A c W hW => ref4_Close A v.m c (edgeM f) W hW ge hm
  rw [show closeK (edgeM f) v.m = coM f from by unfold coM; rw [hil]] at cC
  have hel := Lib.hid ge.len
  replace cC := Lib.hid cC
  clear ge gc hil
  -- a call with facts v: they are boxed at g, the world is W0 then
  have hB0 := Lib.hid (FBox.new hF)
  obtain ⟨g, hg⟩ : ∃ g, g = w.heap.size := ⟨_, rfl⟩
  obtain ⟨W0, hW0⟩ : ∃ W, W = w.alloc (.cells #[.slice v.A v.n v.c, .slice v.B v.m v.d, .slice v.C v.k v.e] 30) := ⟨_, rfl⟩
  rw [← hW0, ← hg] at hB0
  clear hF
  obtain ⟨gr, hgr⟩ : ∃ g, g = W0.heap.size := ⟨_, rfl⟩
  obtain ⟨W1, hW1⟩ : ∃ W, W = W0.alloc (.cells #[.int .i64 0, .slice none 0 0] 35) := ⟨_, rfl⟩
  have b1 : Below W0.heap.size W0 W1 := by rw [hW1]; exact (Below.refl _ _).alloc (Nat.le_refl _) _
  have kR : MatB W1 gr 35 0 none 0 0 := by rw [hW1, hgr]; exact MatB.new W0 _
  have hB1 := Lib.hid (hB0.out.later b1)
  have hgw := Lib.hid (show w.heap.size ≤ gr from by rw [hgr]; exact hB0.out.o.size)
  have p0 := hB1.out.c0
  have p1 := hB1.out.c1
  have p2 := hB1.out.c2
  clear b1 hB0
  go_enter Try.func22, Try.ntmps22
  go_wp2_with (first | (rw [← hW0, ← hg]; clear hW0 hg) | (rw [← hW1, ← hgr]; clear hW1; replace hgr := Lib.hid hgr))
  refine (cE.out _ hB1.out.f).mono ?_; rintro e w2 ⟨A1, n1, c1, rfl, r1, hc1, b2, -⟩
  obtain rfl : n1 = v.m := by rw [← r1.len]; exact hel.out
  replace kR := kR.below_ b2
  have hB2 := Lib.hid (hB1.out.later b2)
  replace r1 := Lib.hid r1
  clear p0 p1 p2 b2 hB1
  go_wp2_with fail
  refine (cC.out A1 c1 w2 r1.out).mono ?_; rintro e w3 ⟨A3, n3, c3, rfl, r3, hc3, b3⟩
  obtain rfl : n3 = v.m := by rw [← r3.len]; exact hlc.out
  have kR4 := kR.below_ b3
  have hfz := r3.farZ kR4
  have hB3 := Lib.hid (hB2.out.later b3)
  have f0 := kR4.c0
  have f1 := kR4.c1
  have g0 := kR4.frozen 0
  have g1 := kR4.frozen 1
  have hcc := kR4.two (.int .i64 (v.m : Int)) (.slice A3 v.m c3)
  have hd1 := Lib.hid hcc.1
  have hd2 := Lib.hid hcc.2
  have hrf := Lib.hid (r3.putB kR4 (fun h0 => hfz (hpos.out h0) h0) (.int .i64 (v.m : Int)) (.slice A3 v.m c3))
  have hbf := Lib.hid ((hB3.out.o.setCell (p := ⟨gr, 0, none⟩) hgw.out (.int .i64 (v.m : Int))).setCell (p := ⟨gr, 1, none⟩) hgw.out (.slice A3 v.m c3))
  clear hcc hfz kR b3 r3 kR4
  go_wp2_with fail
  exact bodyPost_ret (v := .agg #[.int .i64 (v.m : Int), .slice A3 v.m c3]) (by simp [results, Try.results22, go_sem, hd1.out, hd2.out]) rfl ⟨A3, v.m, c3, rfl, hrf.out, hc3, hbf.out⟩
end Go.Proofs.Ytpbiilhclmcehaa

namespace Go.Proofs.Ytpbiilhclmcehaa
open Go.RowKit
set_option linter.unusedVariables false
theorem LoopIs.b {n : Nat} {a : List (List Nat)} {r : Int} {b : Bool} (h : LoopIs n a r b) : b = loopB n a := by
  rcases h with ⟨rfl, i, -, hi, hr, -⟩ | ⟨rfl, -, hno⟩
  · exact (loopB_iff.2 ⟨i, hi, hr⟩).symm
  · cases h : loopB n a with
    | false => rfl
    | true => obtain ⟨i, hi, hr⟩ := loopB_iff.1 h; exact absurd hr (hno i hi)
end Go.Proofs.Ytpbiilhclmcehaa

namespace Go.Proofs.Ytpbiilhclmcehaa
open Go.RowKit
set_option linter.unusedVariables false

/-- conflicts of a and b, by reads out of l -/
def eZ (f : Fac) (M : List (List Nat)) (a b : Nat) (l : List Int) : List Ed := (l.filter fun z => clB f M a b z.toNat).map fun z => (⟨(a : Int), (b : Int), z⟩ : Ed)
/-- the conflict of a, b and z, where a is among ws -/
def oneE (a b : Nat) (z : Int) (ws : List Int) : List Ed := if (a : Int) ∈ ws ∧ a ≠ b then [⟨(a : Int), (b : Int), z⟩] else []
theorem eZ_nil (f : Fac) (M : List (List Nat)) (a b : Nat) : eZ f M a b [] = [] := rfl
theorem oneE_nil (a b : Nat) (z : Int) : oneE a b z [] = [] := by unfold oneE; simp
theorem eZ_len (f : Fac) (M : List (List Nat)) (a b : Nat) (l : List Int) : (eZ f M a b l).length ≤ l.length := by unfold eZ; rw [List.length_map]; exact List.length_filter_le _ _
theorem oneE_len (a b : Nat) (z : Int) (ws : List Int) : (oneE a b z ws).length ≤ 1 := by unfold oneE; split <;> simp
theorem eZ_take {f : Fac} {M : List (List Nat)} {a b q : Nat} {l : List Int} {z : Int} (h : l[q]? = some z) : eZ f M a b (l.take (q + 1)) = eZ f M a b (l.take q) ++ (if clB f M a b z.toNat = true then [⟨(a : Int), (b : Int), z⟩] else []) := by
  unfold eZ
  rw [List.take_add_one, h, List.filter_append, List.map_append]
  congr 1
  cases hc : clB f M a b z.toNat <;> simp [hc]
theorem eZ_all {f : Fac} {M : List (List Nat)} {a b n : Nat} : eZ f M a b (readF f.frm (b : Int) n) = eR f M a b n := by
  unfold eZ eR readF readN
  rw [List.filter_map, List.map_map, List.filter_filter]
  have : (List.range n).filter (fun r => ((fun z : Int => clB f M a b z.toNat) ∘ fun (i : Nat) => (i : Int)) r && (decide (0 ≤ (b : Int)) && decide (f.frm.getD r 0 = (b : Int)))) = (List.range n).filter (clB f M a b) := by
    refine List.filter_congr fun r _ => ?_
    simp only [Function.comp_apply, Int.toNat_natCast]
    cases hc : clB f M a b r with
    | false => rfl
    | true =>
      unfold clB at hc
      simp only [Bool.and_eq_true, decide_eq_true_eq] at hc
      rw [decide_eq_true hc.1.2, decide_eq_true (by omega : 0 ≤ (b : Int))]; rfl
  rw [this]
  rfl
theorem mem_colF {M : List (List Nat)} {o : Int} {n : Nat} {z : Int} : z ∈ colF M o n ↔ ∃ i : Nat, i < n ∧ z = (i : Int) ∧ hasM M (i : Int) o = true := by
  unfold colF colN
  rw [List.mem_map]
  constructor
  · rintro ⟨i, hi, rfl⟩
    obtain ⟨h1, h2⟩ := List.mem_filter.1 hi
    exact ⟨i, List.mem_range.1 h1, rfl, h2⟩
  · rintro ⟨i, h1, rfl, h2⟩
    exact ⟨i, List.mem_filter.2 ⟨List.mem_range.2 h1, h2⟩, rfl⟩
theorem wrs_nodup (is : List It) (v : Int) (M : List (List Nat)) (o : Int) (n : Nat) : (wrsF is v (colF M o n)).Nodup := by
  unfold wrsF colF colN
  refine List.Pairwise.filter _ ?_
  refine List.Pairwise.map _ (R := (· ≠ ·)) (fun a b h e => h (by omega)) ?_
  exact List.Pairwise.filter _ List.nodup_range
theorem wrs_len (is : List It) (v : Int) (M : List (List Nat)) (o : Int) (n : Nat) : (wrsF is v (colF M o n)).length ≤ n := by
  unfold wrsF colF colN
  refine Nat.le_trans (List.length_filter_le _ _) ?_
  rw [List.length_map]
  exact Nat.le_trans (List.length_filter_le _ _) (by simp)
theorem mem_wrs {is : List It} {v : Int} {M : List (List Nat)} {o : Int} {n : Nat} {z : Int} : z ∈ wrsF is v (colF M o n) ↔ ∃ (i : Nat) (y : It), i < n ∧ z = (i : Int) ∧ hasM M (i : Int) o = true ∧ is[i]? = some y ∧ y.wr = true ∧ y.va = v := by
  unfold wrsF
  rw [List.mem_filter, mem_colF]
  unfold wrOK
  constructor
  · rintro ⟨⟨i, h1, rfl, h2⟩, h3⟩
    rw [Int.toNat_natCast, Bool.and_eq_true] at h3
    cases hy : is[i]? with
    | none => rw [hy] at h3; simp at h3
    | some y =>
      rw [hy] at h3
      simp only [Bool.and_eq_true, decide_eq_true_eq] at h3
      exact ⟨i, y, h1, rfl, h2, hy, h3.2.1, h3.2.2⟩
  · rintro ⟨i, y, h1, rfl, h2, h3, h4, h5⟩
    refine ⟨⟨i, h1, rfl, h2⟩, ?_⟩
    rw [Int.toNat_natCast, h3]
    simp [h4, h5]
/-- of a reader r of the write b: who has a conflict is a write of its variable ahead of r -/
theorem clB_wrs {f : Fac} {M : List (List Nat)} {a b n r : Nat} {x : It} (hn : f.items.length = n) (hx : f.items[b]? = some x) (hw : x.wr = true) (hr : f.frm.getD r 0 = (b : Int)) (ha : a < n) :
    clB f M a b r = true ↔ (a : Int) ∈ wrsF f.items x.va (colF M (r : Int) n) ∧ a ≠ b := by
  have hy := List.getElem?_eq_getElem (show a < f.items.length by omega)
  rw [mem_wrs]
  unfold clB
  rw [bothW_at hy hx, hr, hw]
  simp only [Bool.and_eq_true, decide_eq_true_eq, Bool.and_true]
  constructor
  · rintro ⟨⟨⟨h1, h2, h3⟩, -⟩, h4⟩
    exact ⟨⟨a, _, ha, rfl, h4, hy, h2, h3⟩, h1⟩
  · rintro ⟨⟨i, y, h1, h2, h3, h4, h5, h6⟩, h7⟩
    obtain rfl : a = i := by omega
    rw [hy] at h4
    injection h4 with h4
    subst h4
    exact ⟨⟨⟨h7, h5, h6⟩, trivial⟩, h3⟩
theorem map_range_put {α : Type} {n s : Nat} {F G : Nat → List α} {x : α} (hs : s < n) (h1 : G s = F s ++ [x]) (h2 : ∀ a, a < n → a ≠ s → G a = F a) : ((List.range n).map F).set s (F s ++ [x]) = (List.range n).map G := by
  apply List.ext_getElem (by simp)
  intro i k1 k2
  rw [List.getElem_map, List.getElem_range]
  by_cases hi : s = i
  · subst hi
    rw [List.getElem_set_self, h1]
  · rw [List.getElem_set_ne hi, List.getElem_map, List.getElem_range]
    exact (h2 i (by simpa using k2) (fun e => hi e.symm)).symm
theorem map_range_eq {α : Type} {n : Nat} {F G : Nat → List α} (h : ∀ a, a < n → F a = G a) : (List.range n).map F = (List.range n).map G :=
  List.map_congr_left fun a ha => h a (List.mem_range.1 ha)
theorem map_range_get {α : Type} {n s : Nat} {F : Nat → List α} (hs : s < n) : ((List.range n).map F)[s]? = some (F s) := by
  rw [List.getElem?_map, List.getElem?_range hs]; rfl
theorem oneE_take {a b j : Nat} {z : Int} {ws : List Int} {s : Nat} (hnd : ws.Nodup) (h : ws[j]? = some (s : Int)) :
    oneE a b z (ws.take (j + 1)) = if a = s ∧ s ≠ b then oneE a b z (ws.take j) ++ [⟨(a : Int), (b : Int), z⟩] else oneE a b z (ws.take j) := by
  have hj := (List.getElem?_eq_some_iff.1 h).1
  have hmem : (s : Int) ∉ ws.take j := fun hm => by
    obtain ⟨i, hi, e⟩ := List.getElem_of_mem hm
    rw [List.length_take] at hi
    rw [List.getElem_take] at e
    have e2 := (List.getElem?_eq_some_iff.1 h).2
    have := (List.getElem_inj (h₀ := (by omega : i < ws.length)) (h₁ := hj) hnd).1 (by rw [e, e2])
    omega
  have hmm : (a : Int) ∈ ws.take (j + 1) ↔ (a : Int) ∈ ws.take j ∨ a = s := by
    rw [List.take_add_one, h, List.mem_append, Option.toList_some, List.mem_singleton]
    refine or_congr Iff.rfl ?_
    omega
  unfold oneE
  by_cases hs : a = s
  · subst hs
    by_cases hb : a = b
    · subst hb; simp
    · rw [if_pos ⟨hmm.2 (.inr rfl), hb⟩, if_pos ⟨rfl, hb⟩, if_neg (fun h => hmem h.1)]; rfl
  · rw [if_neg (fun h : a = s ∧ s ≠ b => hs h.1)]
    congr 1
    rw [hmm]
    simp [hs]
theorem oneE_all {f : Fac} {M : List (List Nat)} {a b n r : Nat} {x : It} (hn : f.items.length = n) (hx : f.items[b]? = some x) (hw : x.wr = true) (hr : f.frm.getD r 0 = (b : Int)) (ha : a < n) :
    oneE a b (r : Int) (wrsF f.items x.va (colF M (r : Int) n)) = if clB f M a b r = true then [⟨(a : Int), (b : Int), (r : Int)⟩] else [] := by
  unfold oneE
  by_cases h : clB f M a b r = true
  · rw [if_pos h, if_pos ((clB_wrs hn hx hw hr ha).1 h)]
  · rw [if_neg h, if_neg (fun k => h ((clB_wrs hn hx hw hr ha).2 k))]
/-- the lists, behind k second writes, q readers of the next one, j writes ahead of the next reader -/
def by0 (f : Fac) (M : List (List Nat)) (n k : Nat) : List (List Ed) := (List.range n).map fun a => eB f M a n k
def by1 (f : Fac) (M : List (List Nat)) (n k : Nat) (rs : List Int) : List (List Ed) := (List.range n).map fun a => eB f M a n k ++ eZ f M a k rs
def by2 (f : Fac) (M : List (List Nat)) (n k : Nat) (rs : List Int) (z : Int) (ws : List Int) : List (List Ed) := (List.range n).map fun a => (eB f M a n k ++ eZ f M a k rs) ++ oneE a k z ws
theorem by0_zero (f : Fac) (M : List (List Nat)) (n : Nat) : by0 f M n 0 = List.replicate n [] := by
  unfold by0
  apply List.ext_getElem (by simp)
  intro i h1 h2
  simp [eB_zero]
theorem by1_nil (f : Fac) (M : List (List Nat)) (n k : Nat) : by1 f M n k [] = by0 f M n k := by
  unfold by1 by0; refine map_range_eq fun a _ => ?_; rw [eZ_nil, List.append_nil]
theorem by2_nil (f : Fac) (M : List (List Nat)) (n k : Nat) (rs : List Int) (z : Int) : by2 f M n k rs z [] = by1 f M n k rs := by
  unfold by2 by1; refine map_range_eq fun a _ => ?_; rw [oneE_nil, List.append_nil]
theorem by1_all (f : Fac) (M : List (List Nat)) (n k : Nat) : by1 f M n k (readF f.frm (k : Int) n) = by0 f M n (k + 1) := by
  unfold by1 by0; refine map_range_eq fun a _ => ?_; rw [eZ_all, eB_succ]
theorem by2_all {f : Fac} {M : List (List Nat)} {n k q r : Nat} {x : It} {rs : List Int} (hn : f.items.length = n) (hx : f.items[k]? = some x) (hw : x.wr = true) (hr : f.frm.getD r 0 = (k : Int)) (hq : rs[q]? = some (r : Int)) :
    by2 f M n k (rs.take q) (r : Int) (wrsF f.items x.va (colF M (r : Int) n)) = by1 f M n k (rs.take (q + 1)) := by
  unfold by2 by1
  refine map_range_eq fun a ha => ?_
  rw [oneE_all hn hx hw hr ha, eZ_take hq, Int.toNat_natCast, List.append_assoc]
theorem by2_step {f : Fac} {M : List (List Nat)} {n k j s : Nat} {rs ws : List Int} {z : Int} (hs : s < n) (hnd : ws.Nodup) (h : ws[j]? = some (s : Int)) (hne : s ≠ k) :
    (by2 f M n k rs z (ws.take j)).set s (((eB f M s n k ++ eZ f M s k rs) ++ oneE s k z (ws.take j)) ++ [⟨(s : Int), (k : Int), z⟩]) = by2 f M n k rs z (ws.take (j + 1)) := by
  unfold by2
  refine map_range_put (F := fun a => (eB f M a n k ++ eZ f M a k rs) ++ oneE a k z (ws.take j)) hs ?_ fun a _ ha => ?_
  · rw [oneE_take hnd h, if_pos ⟨rfl, hne⟩, List.append_assoc _ (oneE s k z (ws.take j))]
  · rw [oneE_take hnd h, if_neg (fun h => ha h.1)]
theorem by2_skip {f : Fac} {M : List (List Nat)} {n k j : Nat} {rs ws : List Int} {z : Int} (hnd : ws.Nodup) (h : ws[j]? = some (k : Int)) : by2 f M n k rs z (ws.take (j + 1)) = by2 f M n k rs z (ws.take j) := by
  unfold by2
  refine map_range_eq fun a _ => ?_
  rw [oneE_take hnd h, if_neg (fun h => h.2 rfl)]
theorem by2_at {f : Fac} {M : List (List Nat)} {n k s : Nat} {rs ws : List Int} {z : Int} (hs : s < n) : (by2 f M n k rs z ws)[s]? = some ((eB f M s n k ++ eZ f M s k rs) ++ oneE s k z ws) := by unfold by2; exact map_range_get hs
theorem by2_len (f : Fac) (M : List (List Nat)) {n k s q j : Nat} {rs ws : List Int} {z : Int} (hn : n ≤ 64) (hk : k ≤ n) (hq : rs.length ≤ n) : (((eB f M s n k ++ eZ f M s k (rs.take q)) ++ oneE s k z (ws.take j)).length) ≤ 8192 := by
  rw [List.length_append, List.length_append]
  have h1 := eB_len f M s n k
  have h2 := eZ_len f M s k (rs.take q)
  have h3 := oneE_len s k z (ws.take j)
  rw [List.length_take] at h2
  have h4 : k * n ≤ 64 * 64 := Nat.mul_le_mul (by omega) hn
  omega
theorem by0_flat (f : Fac) (M : List (List Nat)) : (by0 f M f.items.length f.items.length).flatten = edgesF f M := by
  unfold by0 edgesF eA
  rw [List.flatMap_def]
/-- the pairs of conflicts as a matrix, laid over one, are it with them -/
theorem or_pairs {f : Fac} {M : List (List Nat)} (hG : Good f.items.length M) : Good f.items.length (foldP f.items.length (edP (edgesF f M))) ∧ orM M (foldP f.items.length (edP (edgesF f M))) = cfX f M := by
  have hn := Good.new (n := f.items.length) hG.le
  have h1 := fold_facts (edP (edgesF f M)) (newM f.items.length) hn edP_ok
  have hF : Good f.items.length (foldP f.items.length (edP (edgesF f M))) := h1.1
  have h2 := orM_good hG hF
  refine ⟨hF, rel_ext h2.1 (cfX_good hG) fun i j => ?_⟩
  rw [h2.2, cfX_rel hG]
  have : Rel (foldP f.items.length (edP (edgesF f M))) i j ↔ ((i : Int), (j : Int)) ∈ edP (edgesF f M) := by
    unfold Rel foldP
    rw [h1.2, Bool.or_eq_true, decide_eq_true_eq]
    constructor
    · rintro (h | h)
      · rw [newM_has] at h; cases h
      · exact h
    · exact .inr
  rw [this]
end Go.Proofs.Ytpbiilhclmcehaa

namespace Go.Proofs.Ytpbiilhclmcehaa
open Go.RowKit

section
variable {gb : Nat} {P : Program} {ops : Array Oper} {md : Region.Mode} {Q : Exit → Act → World → Prop}

/-! ### the steps -/
section
variable {tail : List Oper} {rest : List (Bool × Nat)} {a : Act} {w : World} {i : Nat} {o : Oper}
end
end
end Go.Proofs.Ytpbiilhclmcehaa

namespace Go.Proofs.Ytpbiilhclmcehaa
open Go.RowKit
set_option linter.unusedVariables false

theorem rows_apart {w : World} {b1 b2 s1 s2 n1 n2 : Nat} {e1 e2 : TypeId} {v1 v2 : Value} {xs1 xs2 : List Value} (h1 : w.ownsRow b1 e1 s1 v1 n1 xs1) (h2 : w.ownsRow b2 e2 s2 v2 n2 xs2) (hne : e1 ≠ e2) {b : Nat} (hb : v1.ownBlock = some b) : v2.ownBlock ≠ some b := by
  rcases h1.2 with ⟨rfl, _⟩ | ⟨g, cap, cur, rfl, _, hg, _⟩
  · cases hb
  · have : g = b := by simpa [Value.ownBlock] using hb
    subst this
    rcases h2.2 with ⟨rfl, _⟩ | ⟨k, cap2, cur2, rfl, _, hk, _⟩
    · intro h; cases h
    · intro he
      have : k = g := by simpa [Value.ownBlock] using he
      subst this
      rw [hg] at hk
      injection hk with hk
      injection hk with _ h2 _
      exact hne h2
/-- the i-th cell of an own row of one-cell elements is put -/
theorem own_put {w : World} {base g n c : Nat} {e : TypeId} {vs : List Value} (h : w.ownsRow base e 1 (.slice (some ⟨g, 0, none⟩) n c) n vs) {i : Nat} (hi : i < n) (u : Value) :
    (w.setCell ⟨g, i, none⟩ u).ownsRow base e 1 (.slice (some ⟨g, 0, none⟩) n c) n (vs.set i u) := by
  refine ⟨by rw [List.length_set]; exact h.1, ?_⟩
  rcases h.2 with ⟨h1, _⟩ | ⟨k, cap, cur, hv, hb, hk, hnc, hcm, hcs, ht⟩
  · cases h1
  · injection hv with h1 h2 h3
    injection h1 with h1
    injection h1 with h1
    subst h1; subst h3
    refine .inr ⟨g, c, cur.set! i u, rfl, hb, ?_, hnc, hcm, by simpa using hcs, ?_⟩
    · simp [World.setCell, Array.getElem?_modify, hk]
    · rw [Array.set!_eq_setIfInBounds, Array.toList_setIfInBounds, ← ht, List.take_set]
section
variable {T e : TypeId} {w w' : World} {base b2 : Nat} {vs : List Value} {hs : List (List OpT)}
end
end Go.Proofs.Ytpbiilhclmcehaa

namespace Go.Proofs.Ytpbiilhclmcehaa
open Go.RowKit
set_option linter.unusedVariables false

/-- lists of a call's own, each in a block of its own -/
structure OwnN {α : Type} (E : Enc α) (T : TypeId) (w : World) (base : Nat) (vs : List Value) (ls : List (List α)) : Prop where
  len : vs.length = ls.length
  row : ∀ (i : Nat) (v : Value) (l : List α), vs[i]? = some v → ls[i]? = some l → (∀ x ∈ l, E.ok x) ∧ w.ownsRow base T E.sz v l.length (E.all l)
  dis : ∀ (i j : Nat) (v u : Value) (b : Nat), vs[i]? = some v → vs[j]? = some u → v.ownBlock = some b → u.ownBlock = some b → i = j
/-- the row of them, n slices at go -/
structure SlotsM {α : Type} (E : Enc α) (tS tE : TypeId) (B go n : Nat) (w : World) (vs : List Value) (ls : List (List α)) : Prop where
  o : w.ownsRow B tS 1 (.slice (some ⟨go, 0, none⟩) n n) n vs
  s : OwnN E tE w B vs ls
/-- block k is neither the row's nor a list's -/
def Apart (go : Nat) (vs : List Value) (k : Nat) : Prop := k ≠ go ∧ ∀ v ∈ vs, v.ownBlock ≠ some k
/-- from w0 to w nothing has changed but the row and its lists -/
structure Mv (go : Nat) (w0 : World) (vs0 : List Value) (w : World) (vs : List Value) : Prop where
  os : w.os = w0.os
  tape : w.tape = w0.tape
  output : w.output = w0.output
  size : w0.heap.size ≤ w.heap.size
  block : ∀ k, k < w0.heap.size → Apart go vs0 k → w.heap[k]? = w0.heap[k]? ∧ Apart go vs k
section
variable {go : Nat} {w0 w w' : World} {vs0 vs vs' : List Value}
theorem Mv.refl (go : Nat) (w : World) (vs : List Value) : Mv go w vs w vs := ⟨rfl, rfl, rfl, Nat.le_refl _, fun k _ h => ⟨rfl, h⟩⟩
theorem Mv.trans (h : Mv go w0 vs0 w vs) (k : Mv go w vs w' vs') : Mv go w0 vs0 w' vs' :=
  ⟨k.os.trans h.os, k.tape.trans h.tape, k.output.trans h.output, Nat.le_trans h.size k.size, fun i hi ha => by
    obtain ⟨h1, h2⟩ := h.block i hi ha
    obtain ⟨h3, h4⟩ := k.block i (Nat.lt_of_lt_of_le hi h.size) h2
    exact ⟨h3.trans h1, h4⟩⟩
theorem Mv.of (go : Nat) (vs : List Value) (h : Below w.heap.size w w') : Mv go w vs w' vs := ⟨h.os, h.tape, h.output, h.size, fun k hk ha => ⟨h.block k hk, ha⟩⟩
theorem Mv.later (h : Mv go w0 vs0 w vs) (hb : Below w.heap.size w w') : Mv go w0 vs0 w' vs := h.trans (Mv.of go vs hb)
theorem Mv.blk {k : Nat} {t : TypeId} {cs : List Value} (h : Mv go w0 vs0 w vs) (hk : Blk w0 k t cs) (ha : Apart go vs0 k) : Blk w k t cs := (h.block k hk.lt ha).1.trans hk
theorem Mv.lat {α : Type} {E : Enc α} {A : Option Addr} {n : Nat} {xs : List α} (h : Mv go w0 vs0 w vs) (hL : LAt E w0 A n xs) (ha : ∀ ad, A = some ad → Apart go vs0 ad.block) : LAt E w A n xs :=
  ⟨hL.1, hL.2.1, fun hn => by
    obtain ⟨b, off, e, hb, hc⟩ := hL.2.2 hn
    exact ⟨b, off, e, Nat.lt_of_lt_of_le hb h.size, fun j u hu => (World.cell?_of_block (w := w0) (h.block b hb (ha _ e)).1).trans (hc j u hu)⟩⟩
end
section
variable {α : Type} {E : Enc α} {tS tE : TypeId} {B go n : Nat} {w w' : World} {vs : List Value} {ls : List (List α)}
theorem OwnN.nils (E : Enc α) (T : TypeId) (w : World) (base n : Nat) : OwnN E T w base (List.replicate n (.slice none 0 0)) (List.replicate n []) := by
  refine ⟨by simp, fun i v l h1 h2 => ?_, fun i j v u b h1 h2 h3 h4 => ?_⟩
  · have e1 := List.eq_of_mem_replicate (List.mem_of_getElem? h1)
    have e2 := List.eq_of_mem_replicate (List.mem_of_getElem? h2)
    subst e1; subst e2
    exact ⟨fun x hx => by simp at hx, World.ownsRow_nil _ _ _ _⟩
  · rw [List.eq_of_mem_replicate (List.mem_of_getElem? h1)] at h3
    cases h3
theorem OwnN.below {base : Nat} {T : TypeId} (h : OwnN E T w base vs ls) (hb : Below w.heap.size w w') : OwnN E T w' base vs ls :=
  ⟨h.len, fun i v l h1 h2 => ⟨(h.row i v l h1 h2).1, own_below (h.row i v l h1 h2).2 hb⟩, h.dis⟩
theorem SlotsM.later (h : SlotsM E tS tE B go n w vs ls) (hb : Below w.heap.size w w') : SlotsM E tS tE B go n w' vs ls := ⟨own_below h.o hb, h.s.below hb⟩
theorem SlotsM.fresh (h : SlotsM E tS tE B go n w vs ls) {k : Nat} (hk : w.heap.size ≤ k) : Apart go vs k := by
  refine ⟨fun e => ?_, fun v hv e => ?_⟩
  · have := (h.o.lt go rfl).2; omega
  · obtain ⟨i, hi, hv⟩ := List.getElem_of_mem hv
    have hil : i < ls.length := by rw [← h.s.len]; exact hi
    have := ((h.s.row i v ls[i] (by rw [← hv]; exact List.getElem?_eq_getElem hi) (List.getElem?_eq_getElem hil)).2.lt k e).2
    omega
theorem SlotsM.vlen (h : SlotsM E tS tE B go n w vs ls) : vs.length = n := by simpa using h.o.1
/-- list s and its slice -/
theorem SlotsM.get (h : SlotsM E tS tE B go n w vs ls) {s : Nat} (hs : s < n) : ∃ A m c l, vs[s]? = some (.slice A m c) ∧ ls[s]? = some l ∧ l.length = m ∧ w.cell? ⟨go, s, none⟩ = some (.slice A m c) ∧ w.frozen? ⟨go, s, none⟩ = false ∧
    w.ownsRow B tE E.sz (.slice A m c) m (E.all l) ∧ (∀ x ∈ l, E.ok x) ∧ m ≤ c ∧ c ≤ 9223372036854775807 ∧ LAt E w A m l := by
  have hvl : s < vs.length := by rw [h.vlen]; exact hs
  have hll : s < ls.length := by rw [← h.s.len]; exact hvl
  have hv := List.getElem?_eq_getElem hvl
  have hl := List.getElem?_eq_getElem hll
  obtain ⟨hok, hr⟩ := h.s.row s _ _ hv hl
  obtain ⟨A, c, e, h1, h2, h3⟩ := LAt.of_own hr hok rfl
  obtain ⟨b', off', u', e', _, hu', hc'⟩ := (Rd.of_own' h.o).at_ hs
  injection e' with e'
  injection e' with e1 e2
  rw [hv] at hu'
  injection hu' with hu'
  subst e1; subst e2
  rw [Nat.zero_add, ← hu', e] at hc'
  refine ⟨A, _, c, ls[s], by rw [hv, e], hl, rfl, hc', ?_, by rw [← e]; exact hr, hok, h1, h2, h3⟩
  rcases h.o.2 with ⟨k1, _⟩ | ⟨k, cap, cur, k1, _, k2, _⟩
  · cases k1
  · injection k1 with k1
    injection k1 with k1
    injection k1 with k1
    subst k1
    simp [World.frozen?, k2]
/-- list s has grown, and its slice is laid in place -/
theorem SlotsM.put {w4 : World} {s : Nat} {v v' : Value} {l l' : List α} (h : SlotsM E tS tE B go n w vs ls) (hne : tS ≠ tE) (hv : vs[s]? = some v) (hl : ls[s]? = some l) (hg : w.grownBy w4 v.ownBlock)
    (hr : w4.ownsRow B tE E.sz v' l'.length (E.all l')) (hok : ∀ x ∈ l', E.ok x) (hb : v'.ownBlock = v.ownBlock ∨ v'.ownBlock = some w.heap.size) :
    SlotsM E tS tE B go n (w4.setCell ⟨go, s, none⟩ v') (vs.set s v') (ls.set s l') ∧ Mv go w vs (w4.setCell ⟨go, s, none⟩ v') (vs.set s v') ∧ w4.cell? ⟨go, s, none⟩ = some v ∧ w4.frozen? ⟨go, s, none⟩ = false := by
  have hsn : s < n := by rw [← h.vlen]; exact (List.getElem?_eq_some_iff.1 hv).1
  have hsv : s < vs.length := (List.getElem?_eq_some_iff.1 hv).1
  have hsl : s < ls.length := (List.getElem?_eq_some_iff.1 hl).1
  obtain ⟨A, m, c, l0, q1, -, -, q2, q3, -⟩ := h.get hsn
  have hrow := (h.s.row s v l hv hl).2
  have hgo := (h.o.lt go rfl).2
  have hgoB : B ≤ go := (h.o.lt go rfl).1
  have hvgo : v.ownBlock ≠ some go := rows_apart h.o hrow hne rfl
  have hgo4 : w4.heap[go]? = w.heap[go]? := hg.block go hgo (fun e => hvgo e.symm)
  have ho4 : w4.ownsRow B tS 1 (.slice (some ⟨go, 0, none⟩) n n) n vs := own_grown h.o hrow hne hg
  have hv'go : v'.ownBlock ≠ some go := by
    rcases hb with e | e
    · rw [e]; exact hvgo
    · rw [e]; intro e2; injection e2 with e2; omega
  have hfresh : ∀ (k : Nat) (x : Value) (b : Nat), vs[k]? = some x → x.ownBlock = some b → b < w.heap.size ∧ b ≠ go := by
    intro k x b hk hx
    have hkl : k < ls.length := by rw [← h.s.len]; exact (List.getElem?_eq_some_iff.1 hk).1
    have h2 := (h.s.row k x ls[k] hk (List.getElem?_eq_getElem hkl)).2
    exact ⟨(h2.lt b hx).2, fun e => rows_apart h.o h2 hne rfl (by rw [hx, e])⟩
  have key : ∀ (k : Nat) (x : Value), k ≠ s → (vs.set s v')[k]? = some x → vs[k]? = some x := fun k x hk h => by rwa [List.getElem?_set_ne (fun e => hk e.symm)] at h
  have self : ∀ (x : Value), (vs.set s v')[s]? = some x → x = v' := fun x h => by rw [List.getElem?_set_self hsv] at h; injection h with h; exact h.symm
  refine ⟨⟨own_put ho4 hsn v', by simp [h.s.len], fun k x p h1 h2 => ?_, fun k j x u b h1 h2 hx hu => ?_⟩, ⟨hg.os, hg.tape, hg.output, by simpa using hg.size, fun k hk ha => ⟨?_, ha.1, fun x hx => ?_⟩⟩, ?_, by
    have q4 := q3
    unfold World.frozen? at q4 ⊢
    rw [show (⟨go, s, none⟩ : Addr).block = go from rfl, hgo4]
    exact q4⟩
  · by_cases hk : s = k
    · subst hk
      rw [List.getElem?_set_self hsv] at h1
      rw [List.getElem?_set_self hsl] at h2
      injection h1 with h1
      injection h2 with h2
      subst h1; subst h2
      exact ⟨hok, ownsRow_setCell_other (a := ⟨go, s, none⟩) hr hv'go v'⟩
    · rw [List.getElem?_set_ne hk] at h1 h2
      obtain ⟨h3, h4⟩ := h.s.row k x p h1 h2
      refine ⟨h3, ownsRow_setCell_other (a := ⟨go, s, none⟩) (h4.kept hg ?_) (rows_apart h.o h4 hne rfl) v'⟩
      cases hxb : x.ownBlock with
      | none => exact .inl rfl
      | some b => exact .inr (fun e => hk (h.s.dis s k v x b hv h1 (by rw [← e]) hxb))
  · by_cases hk : k = s
    · by_cases hj : j = s
      · rw [hk, hj]
      · subst hk
        have e1 := self x h1
        subst e1
        have h2' := key j u hj h2
        rcases hb with hb | hb
        · exact (h.s.dis k j v u b hv h2' (by rw [← hb]; exact hx) hu)
        · have := hfresh j u b h2' hu
          rw [hb] at hx; injection hx with hx
          omega
    · have h1' := key k x hk h1
      by_cases hj : j = s
      · subst hj
        have e1 := self u h2
        subst e1
        rcases hb with hb | hb
        · exact (h.s.dis k j x v b h1' hv hx (by rw [← hb]; exact hu))
        · have := hfresh k x b h1' hx
          rw [hb] at hu; injection hu with hu
          omega
      · exact h.s.dis k j x u b h1' (key j u hj h2) hx hu
  · rw [Below.heap_setCell _ _ _ _ (show k ≠ (⟨go, s, none⟩ : Addr).block from ha.1)]
    exact hg.block k hk (fun e => ha.2 v (List.mem_of_getElem? hv) e.symm)
  · rcases List.mem_or_eq_of_mem_set hx with h1 | h1
    · exact ha.2 x h1
    · subst h1
      rcases hb with e | e
      · rw [e]; exact ha.2 v (List.mem_of_getElem? hv)
      · rw [e]; intro e2; injection e2 with e2; omega
  · rw [World.cell?_of_block (w := w) (a := ⟨go, s, none⟩) hgo4, q2, ← q1, hv]
theorem SlotsM.start (w : World) (tE : TypeId) (hn : n ≤ maxLen) : SlotsM E tS tE w.heap.size w.heap.size n (w.alloc (.cells (zeros n (.slice none 0 0)) tS)) (List.replicate n (.slice none 0 0)) (List.replicate n []) :=
  ⟨own_zeros w n _ _ hn, OwnN.nils E tE _ _ n⟩
end
end Go.Proofs.Ytpbiilhclmcehaa

namespace Go.Proofs.Ytpbiilhclmcehaa
open Go.RowKit Go.Maps
set_option linter.unusedVariables false
end Go.Proofs.Ytpbiilhclmcehaa

namespace Go.Proofs.Ytpbiilhclmcehaa
open Go.RowKit
set_option linter.unusedVariables false
set_option linter.unusedSectionVars false

end Go.Proofs.Ytpbiilhclmcehaa

namespace Go.Proofs.Ytpbiilhclmcehaa
open Go.RowKit
set_option linter.unusedVariables false
end Go.Proofs.Ytpbiilhclmcehaa

namespace Go.Proofs.Ytpbiilhclmcehaa
open Go.RowKit Go.Maps
set_option linter.unusedVariables false
theorem readF_none {frm : List Int} {w : Int} {n : Nat} (h : ∀ i, i < n → ¬ (0 ≤ w ∧ frm.getD i 0 = w)) : readF frm w n = [] := by
  unfold readF readN
  rw [List.filter_eq_nil_iff.2 (fun i hi => by
    have := h i (List.mem_range.1 hi)
    simp only [Bool.and_eq_true, decide_eq_true_eq]
    exact this)]
  rfl
theorem fromF_writes {is : List It} {i : Nat} {w : Int} (hi : i < is.length) (h0 : 0 ≤ w) (h : (fromF is).getD i 0 = w) : ∃ x, is[w.toNat]? = some x ∧ x.wr = true := by
  rw [List.getD_eq_getElem?_getD, fromF_at (List.getElem?_eq_getElem hi)] at h
  have h : fromOne is is[i] = w := h
  unfold fromOne at h
  split at h
  · omega
  · split at h
    · omega
    · cases ho : writeF is (is[i]).va (is[i]).vl with
      | none => rw [ho] at h; simp only at h; omega
      | some k =>
        rw [ho] at h
        simp only at h
        obtain ⟨x, h1, h2, _⟩ := writeF_some ho
        simp only [hitW, Bool.and_eq_true, decide_eq_true_eq] at h2
        exact ⟨x, by rw [← h, Int.toNat_natCast]; exact h1, h2.1⟩
set_option maxRecDepth 100000 in
set_option maxHeartbeats 2000000 in
theorem origin_ReadersF (v : FV) (f : Fac) (x : Int) (w : World) (hF : FactsAt w v f) (hm : v.m ≤ 1048576) (hfr : f.frm = fromF f.items) :
    Calls Try.prog 35 #[.agg #[.slice v.A v.n v.c, .slice v.B v.m v.d, .slice v.C v.k v.e], .int .i64 x] w (fun e w' => ∃ A n c, e = .returned (.slice A n c) ∧ LAt encI w' A n (readF f.frm x f.items.length) ∧ n ≤ c ∧ c ≤ 9223372036854775807 ∧ Below w.heap.size w w' ∧ ∀ ad, A = some ad → w.heap.size ≤ ad.block) := by
  have hil := hF.is.len
  have hfl := hF.fs.len
  have hk : v.k = v.m := by rw [← hfl, ← hil, hfr, fromF_len]
  have hno1 : (∀ y, f.items[x.toNat]? = some y → y.wr = true → 0 ≤ x → False) → readF f.frm x f.items.length = [] := fun h => readF_none (fun i hi hh => by
    rw [hfr] at hh
    obtain ⟨y, h1, h2⟩ := fromF_writes hi hh.1 hh.2
    exact h y h1 h2 hh.1)
  rw [hil] at hno1 ⊢
  obtain ⟨i0, hi, hz0, hz1, hz2⟩ := info_parts info_int2
  have hkv := Lib.hid hk
  replace hi := Lib.hid hi
  replace hz0 := Lib.hid hz0
  replace hz1 := Lib.hid hz1
  replace hz2 := Lib.hid hz2
  clear hk hfr
  replace hil := Lib.hid hil
  replace hfl := Lib.hid hfl
  -- a call with facts v: they are boxed at g, the world is W0 then
  have hB0 := Lib.hid (FBox.new hF)
  obtain ⟨g, hg⟩ : ∃ g, g = w.heap.size := ⟨_, rfl⟩
  obtain ⟨W0, hW0⟩ : ∃ W, W = w.alloc (.cells #[.slice v.A v.n v.c, .slice v.B v.m v.d, .slice v.C v.k v.e] 30) := ⟨_, rfl⟩
  rw [← hW0, ← hg] at hB0
  clear hF
  have p0 := hB0.out.c0
  have p1 := hB0.out.c1
  have p2 := hB0.out.c2
  by_cases hx0 : x < 0
  · have hr := Lib.hid (hno1 (fun y _ _ h => by omega))
    have e0 : decide (x < 0) = true := decide_eq_true hx0
    clear hno1
    go_enter Try.func35, Try.ntmps35
    go_wp2_with (rw [← hW0, ← hg]; clear hW0 hg)
    go_ret
    rw [hr.out]
    exact ⟨none, 0, 0, rfl, LAt.nil _ _ _, Nat.le_refl _, by omega, hB0.out.o, fun ad e => by cases e⟩
  · have e0 : decide (x < 0) = false := decide_eq_false hx0
    by_cases hxm : (v.m : Int) ≤ x
    · have hr := Lib.hid (hno1 (fun y h _ _ => by
        have := (List.getElem?_eq_some_iff.1 h).1
        have := hil.out
        omega))
      have e1 : decide ((v.m : Int) ≤ x) = true := decide_eq_true hxm
      clear hno1
      go_enter Try.func35, Try.ntmps35
      go_wp2_with (rw [← hW0, ← hg]; clear hW0 hg)
      go_ret
      rw [hr.out]
      exact ⟨none, 0, 0, rfl, LAt.nil _ _ _, Nat.le_refl _, by omega, hB0.out.o, fun ad e => by cases e⟩
    · have e1 : decide ((v.m : Int) ≤ x) = false := decide_eq_false hxm
      obtain ⟨m, rfl⟩ : ∃ m : Nat, x = (m : Int) := ⟨x.toNat, by omega⟩
      obtain ⟨ib, io, y, hyB, hib, hy, hyo, i0', i1, i2, i3, i4⟩ := hB0.out.f.is.item (show m < v.m by omega)
      rw [hyB] at p1
      cases hyw : y.wr with
      | false =>
        rw [hyw] at i2
        have hr := Lib.hid (hno1 (fun y' h hw _ => by
          rw [Int.toNat_natCast, hy] at h
          injection h with h
          subst h
          rw [hyw] at hw; cases hw))
        clear hno1 hyB hy hyo hyw
        go_enter Try.func35, Try.ntmps35
        go_wp2_with (rw [← hW0, ← hg]; clear hW0 hg)
        go_ret
        rw [hr.out]
        exact ⟨none, 0, 0, rfl, LAt.nil _ _ _, Nat.le_refl _, by omega, hB0.out.o, fun ad e => by cases e⟩
      | true =>
        rw [hyw] at i2
        clear hno1 hyB hy hyo hyw
        go_enter Try.func35, Try.ntmps35
        go_wp2_with (rw [← hW0, ← hg]; clear hW0 hg)
        clear i0' i1 i2 i3 i4 p0 p1 p2 hib
        go_loopw [5, 29] (fun u t wr => ∃ k : Nat, k ≤ v.k ∧ t = .int .i64 k ∧ Hid (Below W0.heap.size W0 wr) ∧ Hid (wr.ownsRow W0.heap.size 3 1 u (readF f.frm m k).length (encI.all (readF f.frm m k)))) (fun _ t _ => v.k - (intOf t).toNat)
        case atStart => exact ⟨0, Nat.zero_le _, rfl, Lib.hid (Below.refl _ _), Lib.hid (World.ownsRow_nil _ _ _ _)⟩
        case round =>
          obtain ⟨k, hkm, rfl, hb, hown⟩ := hrel
          have hB := Lib.hid (hB0.out.later hb.out)
          have hrl := readF_len f.frm m k
          have hrs := readF_succ f.frm m k
          obtain ⟨L, hL⟩ : ∃ L, L = (readF f.frm m k).length := ⟨_, rfl⟩
          rw [← hL] at hown hrl
          have hkv2 := hkv.out
          by_cases hlt : k < v.k
          · have hlt' : (k : Int) < (v.k : Int) := by omega
            have hkw : (k : Int) + 1 < 9223372036854775808 := by omega
            obtain ⟨ic, jo, z, hzC, hic, hz, hzo, j0⟩ := hB.out.f.fs.int hlt
            rw [hzC]
            have hgd : f.frm.getD k 0 = z := by rw [List.getD_eq_getElem?_getD, hz]; rfl
            rw [hgd] at hrs
            replace hgd := Lib.hid hgd
            replace hkv2 := Lib.hid hkv2
            by_cases hzx : z = (m : Int)
            · rw [if_pos (by simp [hzx])] at hrs
              have e1 : (z == (m : Int)) = true := by simp [hzx]
              obtain ⟨gl, hgl⟩ : ∃ g, g = wr.heap.size := ⟨_, rfl⟩
              obtain ⟨VL, hVL⟩ : ∃ W, W = wr.alloc (.cells #[.int .i64 (k : Int)] 3) := ⟨_, rfl⟩
              have bL : Below wr.heap.size wr VL := by rw [hVL]; exact (Below.refl _ _).alloc (Nat.le_refl _) _
              have hlit := Lib.hid (show LAt encI VL (some ⟨gl, 0, none⟩) 1 [(k : Int)] from by rw [hVL, hgl]; exact LAt.lit1 (E := encI) wr 3 (k : Int) ⟨by omega, by omega⟩)
              have hownL := Lib.hid (own_below hown.out bL)
              have bWL := Lib.hid (below_trans2 hb.out bL)
              have hbase := Lib.hid bWL.out.size
              replace hzx := Lib.hid hzx
              replace hrs := Lib.hid hrs
              replace hL := Lib.hid hL
              have hL22 : L ≤ 1048576 := by have := hkv2.out; omega
              replace hzC := Lib.hid hzC
              clear hz hzo bL hown hlt
              go_wp2_with (first
                | (rw [← hVL, ← hgl]; clear hVL hgl)
                | (at_builtin; refine wpList_append_L (E := encI) rfl (.tmp 37) (.tmp 39) _ rfl W0.heap.size 3 i0 _ 8 Try.underlying28 hi.out hz0.out hz1.out hz2.out rfl _ L (readF f.frm m k) (by rfl) hownL.out _ 1 1 _ rfl hlit.out (by unfold maxLen; omega) (by omega) hbase.out ?_; intro v' w7 hown' hb7 _ _))
              refine ⟨⟨k + 1, by omega, by go_num, Lib.hid (bWL.out.trans hb7), Lib.hid (by rw [hrs.out, List.length_append, ← hL.out]; exact hown')⟩, by simp [intOf]; omega⟩
            · rw [if_neg (by simp [hzx])] at hrs
              have e1 : (z == (m : Int)) = false := by simp [hzx]
              replace hzx := Lib.hid hzx
              replace hrs := Lib.hid hrs
              replace hL := Lib.hid hL
              replace hzC := Lib.hid hzC
              clear hz hzo hlt
              go_wp2_with fail
              exact ⟨⟨k + 1, by omega, by go_num, hb, Lib.hid (by rw [hrs.out, ← hL.out]; exact hown.out)⟩, by simp [intOf]; omega⟩
          · have hlt' : ¬ (k : Int) < (v.k : Int) := by omega
            have hkm : k = v.m := by omega
            subst hkm
            have hfr := Lib.hid (own_lt_block hown.out)
            obtain ⟨A, c, rfl, hnc, hcm, hLA⟩ := LAt.of_own hown.out (fun z hz => by
              have := readF_ok f.frm m v.m z hz
              exact ⟨by omega, by omega⟩) hL.symm
            clear hlt hkv2
            replace hL := Lib.hid hL
            go_wp2_with fail
            go_ret
            exact ⟨A, _, c, rfl, hLA, hnc, hcm, hB.out.o, fun ad e => by subst e; exact Nat.le_trans hB0.out.o.size (hfr.out _ rfl)⟩
end Go.Proofs.Ytpbiilhclmcehaa

namespace Go.Proofs.Ytpbiilhclmcehaa
set_option linter.unusedVariables false

end Go.Proofs.Ytpbiilhclmcehaa

namespace Go.Proofs.Ytpbiilhclmcehaa
open Go.RowKit
set_option linter.unusedVariables false
end Go.Proofs.Ytpbiilhclmcehaa
