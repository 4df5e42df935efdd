/- The contracts of the document's own answers of layer 13: Rf, Edges, Co. The contracts of the document's own answers of layer 13: Edges, Co. The contract of the document's own answer of layer 18: Of. -/
import Derived.Test.YtbeigdbljepfkaaGreatSeenTellsPk7
import Derived.Test.YtbeigdbljepfkaaGreatSeenTellsPk5
import Derived.Test.YtbeigdbljepfkaaGreatSeenTellsPk8
namespace Go.Proofs.YtbeigdbljepfkaaGreat
open Go.RowKit
set_option linter.unusedVariables false
theorem foldP_len1024 {n : Nat} (hn : n ≤ 4096) (ps : List (Int × Int)) : ∀ xs ∈ foldP n ps, xs.length ≤ 1024 := poM_len hn ps
set_option maxRecDepth 100000 in
set_option maxHeartbeats 2000000 in
theorem ref13_Rf (v : FV) (f : Fac) (w : World) (hF : FactsAt w v f) (hm : v.m ≤ 4096) (hw : WholeF f) :
    Calls Tryz.prog 52 #[.agg #[.slice v.A v.n v.c, .slice v.B v.m v.d, .slice v.C v.k v.e]] w (RetMat1F (v.m : Int) (rfM f.items.length f.frm) w) := by
  have hil := hF.is.len
  have hfl := hF.fs.len
  have hkv : v.k = v.m := by rw [← hil, ← hfl]; exact hw.len
  rw [show rfM f.items.length f.frm = foldP v.m (rfPs f.frm v.m) from by unfold rfM; rw [hil, hfl, hkv]]
  have hlt' := hw.lt
  rw [hil] at hlt'
  replace hlt' := Lib.hid hlt'
  have cN := Lib.hid (ref3_NewF v.m hm)
  replace hil := Lib.hid hil
  replace hfl := Lib.hid hfl
  replace hkv := Lib.hid hkv
  -- a call with facts v: they are boxed at g, the world is W0 then
  have hB0 := Lib.hid (FBox.new hF)
  obtain ⟨g, hg⟩ : ∃ g, g = w.heap.size := ⟨_, rfl⟩
  obtain ⟨W0, hW0⟩ : ∃ W, W = w.alloc (.cells #[.slice v.A v.n v.c, .slice v.B v.m v.d, .slice v.C v.k v.e] 29) := ⟨_, rfl⟩
  rw [← hW0, ← hg] at hB0
  clear hF
  obtain ⟨gr, hgr⟩ : ∃ g, g = W0.heap.size := ⟨_, rfl⟩
  obtain ⟨W1, hW1⟩ : ∃ W, W = W0.alloc (.cells #[.int .i64 0, .slice none 0 0] 34) := ⟨_, rfl⟩
  have b1 : Below W0.heap.size W0 W1 := by rw [hW1]; exact (Below.refl _ _).alloc (Nat.le_refl _) _
  have kR : MatB W1 gr 34 0 none 0 0 := by rw [hW1, hgr]; exact MatB.new W0 _
  have hB1 := Lib.hid (hB0.out.later b1)
  have p0 := hB1.out.c0
  have p1 := hB1.out.c1
  have p2 := hB1.out.c2
  go_enter Tryz.func52, Tryz.ntmps52
  go_wp2_with (first | (rw [← hW0, ← hg]; clear hW0 hg) | (rw [← hW1, ← hgr]; clear hW1))
  refine (cN.out _).mono ?_; rintro e w2 ⟨C, p, q, rfl, hrows, hcap, b2, hfar⟩
  have hpn : p = v.m := by rw [← hrows.len]; exact (DimM.new v.m).1
  subst hpn
  obtain ⟨M, hM⟩ : ∃ M, M = w2.heap.size := ⟨_, rfl⟩
  obtain ⟨W2, hW2⟩ : ∃ W2, W2 = w2.alloc (.cells #[.int .i64 v.m, .slice C v.m q] 34) := ⟨_, rfl⟩
  have b3 : Below w2.heap.size w2 W2 := by rw [hW2]; exact (Below.refl _ _).alloc (Nat.le_refl _) _
  have hbb := Lib.hid (below_trans2 (below_trans2 b1 b2) b3)
  have hMV := Lib.hid (show MV W2 M v.m C q (foldP v.m (rfPs f.frm 0)) from ⟨by rw [hW2, hM]; exact MatB.new w2 _, by rw [show rfPs f.frm 0 = [] from rfl, foldP_nil]; exact hrows.below b3, hcap, fun h0 ad e => by have := hrows.block_lt h0 ad e; omega⟩)
  have hgrM : gr < M := by have := kR.lt; have := b2.size; omega
  have kR2 := Lib.hid ((kR.below_ b2).below_ b3)
  have hgW : W0.heap.size ≤ gr := by omega
  have hAf := Lib.hid (show ∀ ad, C = some ad → gr < ad.block from fun ad e => by have := hfar ad e; have := kR.lt; omega)
  replace hgr := Lib.hid hgr
  clear hrows hcap b2 b3 hfar kR b1 hB1 p0 p1 p2 cN
  go_wp2_with (rw [← hW2, ← hM]; clear hW2; replace hM := Lib.hid hM)
  go_loopw [5] (fun t wr => ∃ (i : Nat) (A : Option Addr) (c : Nat), i ≤ v.m ∧ t = .int .i64 i ∧ Hid (Below W0.heap.size W0 wr) ∧ Hid (MatB wr gr 34 0 none 0 0) ∧ Hid (MV wr M v.m A c (foldP v.m (rfPs f.frm i))) ∧ Hid (∀ ad, A = some ad → gr < ad.block)) (fun t _ => v.m - (intOf t).toNat)
  case atStart => exact ⟨0, _, _, Nat.zero_le _, rfl, hbb, kR2, hMV, hAf⟩
  case round =>
    clear hbb kR2 hMV hAf
    obtain ⟨i, A, c, hi, rfl, hbb, kR, hMV, hAf⟩ := hrel
    have hB := Lib.hid (hB0.out.later hbb.out)
    by_cases hlt : i < v.m
    · have hik : (i : Int) < (v.k : Int) := by have := hkv.out; omega
      have p0 := hB.out.c0
      have p1 := hB.out.c1
      have p2 := hB.out.c2
      obtain ⟨ib, io, z, hzC, hib, hz, hzo, j0⟩ := hB.out.f.fs.int (show i < v.k by have := hkv.out; omega)
      rw [hzC] at p2
      have hgd : f.frm.getD i 0 = z := by rw [List.getD_eq_getElem?_getD, hz]; rfl
      have hrs := rfPs_succ f.frm i
      rw [hgd] at hrs
      have hzm : z < (v.m : Int) := hlt'.out z (List.mem_of_getElem? hz)
      replace hgd := Lib.hid hgd
      by_cases hz0 : 0 ≤ z
      · rw [if_pos hz0] at hrs
        have e0 : decide (0 ≤ z) = true := decide_eq_true hz0
        have cS := fun W (hW : RowsAt W A v.m (foldP v.m (rfPs f.frm i))) => ref3_SetF (v.m : Int) A v.m c _ z (i : Int) W hW rfl hm (foldP_len1024 hm _) (by unfold inM; simp; omega)
        replace cS := Lib.hid cS
        replace hrs := Lib.hid hrs
        replace hz := Lib.hid hz
        clear hzo hzC hib
        go_wp2_with fail
        refine wp_region_planT 9 [(true, 0), (true, 1), (true, 2), (true, 3), (true, 4), (true, 5), (true, 6), (false, 7), (true, 8)] 11 [9, 10] (by kernel_rfl) (by kernel_rfl) (fun W hW => ?_)
        have hWb : Below wr.heap.size wr W := by rw [hW.out]; exact (Below.refl _ _).drew
        replace hbb := Lib.hid (below_trans2 hbb.out hWb)
        replace kR := Lib.hid (kR.out.below_ hWb)
        replace hMV := Lib.hid (hMV.out.later hWb)
        replace hB := Lib.hid (hB.out.later hWb)
        clear p0 p1 p2 j0 hW hWb
        have p0 := hB.out.c0
        have p1 := hB.out.c1
        have p2 := hB.out.c2
        obtain ⟨ib', io', z', hzC, hib, hz', hzo, j0⟩ := hB.out.f.fs.int (show i < v.k by have := hkv.out; omega)
        rw [hz.out] at hz'
        injection hz' with hz'
        subst hz'
        rw [hzC] at p2
        have m0 := hMV.out.loc.c0
        have m1 := hMV.out.loc.c1
        clear hzo hib hzC
        simp only [List.drop_succ_cons, List.drop_zero]
        iterate 7
          refine wpPlanE_float (v := ?_) rfl (by rfl) (fun w' hw' => ?_) (fun K hK => ?_)
          rotate_left
          · (go_simp; try with_reducible rfl)
          go_simp
          refine hK _ ?_
          clear hK K
        refine wpPlanE_only rfl (by rfl) (fun K hK => ?_)
        go_simp
        refine (cS.out W hMV.out.rows).mono ?_
        rintro e w4 ⟨C2, n2, c2, rfl, hrows2, hcap2, b4, hfar2⟩
        have hn2 : n2 = v.m := by
          have h1 := hrows2.len
          rw [← foldP_last v.m (rfPs f.frm i) (z, (i : Int))] at h1
          rw [← h1]; exact (DimM.fold v.m _).1
        subst hn2
        refine hK _ _ b4 ?_
        clear hK K p0 p1 p2 j0 m0 m1
        have hMV4 := Lib.hid (hMV.out.put b4 hrows2 hcap2 hfar2)
        have hAf4 := Lib.hid (show ∀ ad, C2 = some ad → gr < ad.block from fun ad e => by have := hfar2 ad e; have := kR.out.lt; omega)
        have kM := hMV.out.loc.below_ b4
        have hbb4 := Lib.hid (((below_trans2 hbb.out b4).setCell (p := ⟨M, 0, none⟩) (by show W0.heap.size ≤ M; omega) (.int .i64 (v.m : Int))).setCell (p := ⟨M, 1, none⟩) (by show W0.heap.size ≤ M; omega) (.slice C2 v.m c2))
        have kR4 := Lib.hid (((kR.out.below_ b4).farB (p := ⟨M, 0, none⟩) (by show gr ≠ M; omega) (.int .i64 (v.m : Int))).farB (p := ⟨M, 1, none⟩) (by show gr ≠ M; omega) (.slice C2 v.m c2))
        clear cS hrows2 hfar2 b4
        iterate 1
          refine wpPlanE_float (v := ?_) rfl (by rfl) (fun w' hw' => ?_) (fun K hK => ?_)
          rotate_left
          · (go_simp; try with_reducible rfl)
          go_simp
          refine hK _ ?_
          clear hK K
        refine wpPlanE_nil ?_
        iterate 2
          refine wpPlanT_float (v := ?_) rfl (by rfl) (fun w' => ?_) (fun K hK => ?_)
          rotate_left
          · (go_simp; try with_reducible rfl)
          go_simp
          refine hK _ ?_
          clear hK K
        refine wpPlanT_nil ?_
        have m0 := kM.c0
        have m1 := kM.c1
        have g0 := kM.frozen 0
        have g1 := kM.frozen 1
        clear kM
        go_wp2_with fail
        refine NoPanic.normal ?_
        go_wp2_with fail
        go_roundw
        case rel => exact ⟨i + 1, C2, c2, by omega, by go_num, hbb4, kR4, Lib.hid (by rw [hrs.out, foldP_last]; exact hMV4.out), hAf4⟩
        case measure => simp [intOf]; omega
      · rw [if_neg hz0] at hrs
        have e0 : decide (0 ≤ z) = false := decide_eq_false hz0
        replace hrs := Lib.hid hrs
        clear hzC hz hzo
        go_wp2_with fail
        exact ⟨⟨i + 1, A, c, by omega, by go_num, hbb, kR, Lib.hid (by rw [hrs.out]; exact hMV.out), hAf⟩, by simp [intOf]; omega⟩
    · have hik : ¬ (i : Int) < (v.k : Int) := by have := hkv.out; omega
      have him : i = v.m := by omega
      rw [him] at hMV
      replace him := Lib.hid him
      have p2 := hB.out.c2
      have m0 := hMV.out.loc.c0
      have m1 := hMV.out.loc.c1
      have f0 := kR.out.c0
      have f1 := kR.out.c1
      have g0 := kR.out.frozen 0
      have g1 := kR.out.frozen 1
      have hcc := kR.out.two (.int .i64 (v.m : Int)) (.slice A v.m c)
      have hc1 := Lib.hid hcc.1
      have hc2 := Lib.hid hcc.2
      have hrf := Lib.hid (show RowsAt ((wr.setCell ⟨gr, 0, none⟩ (.int .i64 (v.m : Int))).setCell ⟨gr, 1, none⟩ (.slice A v.m c)) A v.m (foldP v.m (rfPs f.frm v.m)) from hMV.out.rows.putB kR.out (fun h0 ad e hb => by have := hAf.out ad e; omega) _ _)
      have hbf := Lib.hid (((below_trans2 hB0.out.o hbb.out).setCell (p := ⟨gr, 0, none⟩) (by have := hB0.out.o.size; show w.heap.size ≤ gr; omega) (.int .i64 (v.m : Int))).setCell (p := ⟨gr, 1, none⟩) (by have := hB0.out.o.size; show w.heap.size ≤ gr; omega) (.slice A v.m c))
      clear hcc hlt
      go_wp2_with fail
      exact bodyPost_ret (v := .agg #[.int .i64 (v.m : Int), .slice A v.m c]) (by simp [results, Tryz.results52, go_sem, hc1.out, hc2.out]) rfl ⟨A, v.m, c, rfl, hrf.out, hMV.out.cap, hbf.out, fun ad e => by have := hAf.out ad e; have := hB0.out.o.size; omega⟩
end Go.Proofs.YtbeigdbljepfkaaGreat

namespace Go.Proofs.YtbeigdbljepfkaaGreat
open Go.RowKit
set_option linter.unusedVariables false
theorem rows_len_pos {n : Nat} {xss : List (List Nat)} (h : Good n xss) (hn : 0 < n) : ∀ xs ∈ xss, 0 < xs.length := fun xs hx => by
  have := (h.row xs hx).2.1; omega
theorem RowsAt.farZ {w : World} {C : Option Addr} {p g : Nat} {t : TypeId} {xss : List (List Nat)} {N : Int} (h : RowsAt w C p xss) (hM : MatB w g t N none 0 0) (hl : ∀ xs ∈ xss, 0 < xs.length) : 0 < p → ∀ ad, C = some ad → ad.block ≠ g := by
  intro h0 ad e
  obtain ⟨b, off, B, m, d, xs, e2, _, hx, hc, hr⟩ := h.at_ h0
  rw [e] at e2
  cases e2
  intro hb
  have hb' : b = g := hb
  subst hb'
  rw [Blk.cell hM] at hc
  match off + 0, hc with
  | 0, hc => simp at hc
  | 1, hc =>
    simp at hc
    obtain ⟨rfl, rfl, rfl⟩ := hc
    have h1 := hr.len
    have := hl xs (List.mem_of_getElem? hx)
    omega
  | k + 2, hc => simp at hc
set_option maxRecDepth 100000 in
set_option maxHeartbeats 2000000 in
theorem ref13_Edges (v : FV) (f : Fac) (w : World) (hF : FactsAt w v f) (hm : v.m ≤ 4096) (hw : WholeF f) :
    Calls Tryz.prog 29 #[.agg #[.slice v.A v.n v.c, .slice v.B v.m v.d, .slice v.C v.k v.e]] w (RetMat1F (v.m : Int) (edgeM f) w) := by
  have hil := hF.is.len
  have gp := poM_good (is := f.items) (by omega)
  have gq := rfM_good hw (by omega)
  rw [hil] at gp gq
  obtain ⟨pm, hpm⟩ : ∃ m, m = poM f.items := ⟨_, rfl⟩
  obtain ⟨rm, hrm⟩ : ∃ m, m = rfM f.items.length f.frm := ⟨_, rfl⟩
  rw [hil] at hrm
  have cPo := fun W hW => ref12_Po v f W hW hm
  have cRf := fun W hW => ref13_Rf v f W hW hm hw
  unfold edgeM
  rw [hil] at cRf ⊢
  rw [← hpm] at gp cPo ⊢
  rw [← hrm] at gq cRf ⊢
  have hpl := Lib.hid gp.1.len
  have hrl := Lib.hid gq.1.len
  have hp24 := Lib.hid (show ∀ (i : Nat) (xs : List Nat), pm[i]? = some xs → xs.length ≤ 1024 from fun i xs h => Nat.le_trans (gp.1.small xs (List.mem_of_getElem? h)) (by decide))
  have hr24 := Lib.hid (show ∀ (i : Nat) (xs : List Nat), rm[i]? = some xs → xs.length ≤ 1024 from fun i xs h => Nat.le_trans (gq.1.small xs (List.mem_of_getElem? h)) (by decide))
  replace cPo := Lib.hid cPo
  replace cRf := Lib.hid cRf
  clear gp gq hpm hrm hil
  -- a call with facts v: they are boxed at g, the world is W0 then
  have hB0 := Lib.hid (FBox.new hF)
  obtain ⟨g, hg⟩ : ∃ g, g = w.heap.size := ⟨_, rfl⟩
  obtain ⟨W0, hW0⟩ : ∃ W, W = w.alloc (.cells #[.slice v.A v.n v.c, .slice v.B v.m v.d, .slice v.C v.k v.e] 29) := ⟨_, rfl⟩
  rw [← hW0, ← hg] at hB0
  clear hF
  obtain ⟨gr, hgr⟩ : ∃ g, g = W0.heap.size := ⟨_, rfl⟩
  obtain ⟨W1, hW1⟩ : ∃ W, W = W0.alloc (.cells #[.int .i64 0, .slice none 0 0] 34) := ⟨_, rfl⟩
  have b1 : Below W0.heap.size W0 W1 := by rw [hW1]; exact (Below.refl _ _).alloc (Nat.le_refl _) _
  have kR : MatB W1 gr 34 0 none 0 0 := by rw [hW1, hgr]; exact MatB.new W0 _
  have hB1 := Lib.hid (hB0.out.later b1)
  have hgw := Lib.hid (show w.heap.size ≤ gr from by rw [hgr]; exact hB0.out.o.size)
  go_enter Tryz.func29, Tryz.ntmps29
  go_wp2_with (first | (rw [← hW0, ← hg]; clear hW0 hg) | (rw [← hW1, ← hgr]; clear hW1; replace hgr := Lib.hid hgr))
  refine wp_region_tree (.flt 0 (.flt 2 (.two 1 8 (.two 3 8 (.two 4 8 (.flt 5 (.flt 6 (.flt 7 (.one 8 (.one 9 (.flt 10 .done)))))) (.one 4 (.flt 5 (.flt 6 (.flt 7 (.one 9 (.flt 10 .done))))))) (.one 3 (.one 4 (.flt 5 (.flt 6 (.flt 7 (.one 9 (.flt 10 .done)))))))) (.one 1 (.one 3 (.one 4 (.flt 5 (.flt 6 (.flt 7 (.one 9 (.flt 10 .done))))))))))) (by kernel_rfl) (by kernel_rfl) (fun U hU => ?_)
  have hkR := Lib.hid (show MatB U gr 34 0 none 0 0 from by rw [hU.out]; exact kR.below_ (Below.refl _ _).drew)
  have hBU := Lib.hid (show FBox w g v f U from by rw [hU.out]; exact hB1.out.later (Below.refl _ _).drew)
  clear hU hB1 b1 kR hB0
  have bW : Below U.heap.size U U := Below.refl _ _
  have p0 := hBU.out.c0
  have p1 := hBU.out.c1
  have p2 := hBU.out.c2
  iterate 2
    refine wpPT_float (v := ?_) rfl (by rfl) (fun w' hw' => ?_) (fun K hK => ?_)
    rotate_left
    · (go_simp; try with_reducible rfl)
    go_simp
    refine hK _ ?_
    clear hK K
  clear p0 p1 p2
  refine wpPT_two rfl (by rfl) rfl (by rfl) (fun K hK => ?_) (fun K hK => ?_)
  · skip
    go_simp
    -- a call's matrix r1 : RowsAt, in the world U; the new world is v1
    refine (cPo.out U (hBU.out.later bW).f).mono ?_; rintro e v1 ⟨A1, n1, c1, rfl, r1, hc1, b, -⟩
    obtain rfl : n1 = v.m := by rw [← r1.len]; exact hpl.out
    replace bW := below_trans2 bW b
    refine hK _ _ bW ?_
    clear hK K
    replace r1 := Lib.hid r1
    clear b
    refine wpPT_two rfl (by rfl) rfl (by rfl) (fun K hK => ?_) (fun K hK => ?_)
    · skip
      go_simp
      -- a call's matrix r2 : RowsAt, in the world v1; the new world is v2
      refine (cRf.out v1 (hBU.out.later bW).f).mono ?_; rintro e v2 ⟨A2, n2, c2, rfl, r2, hc2, b, -⟩
      obtain rfl : n2 = v.m := by rw [← r2.len]; exact hrl.out
      replace bW := below_trans2 bW b
      refine hK _ _ bW ?_
      clear hK K
      replace r2 := Lib.hid r2
      replace r1 := Lib.hid (r1.out.below b)
      clear b
      refine wpPT_two rfl (by rfl) rfl (by rfl) (fun K hK => ?_) (fun K hK => ?_)
      · skip
        have cE := Lib.hid (ref3_OrF A1 A2 v.m c1 c2 pm rm v2 r1.out r2.out hm hp24.out hr24.out)
        go_simp
        refine cE.out.mono ?_; rintro e v3 ⟨A3, n3, c3, rfl, r3, hc3, b, hfar⟩
        obtain rfl : n3 = v.m := by rw [← r3.len, orM_len]; exact hpl.out
        have hfz3 := hfar
        replace hfar : ∀ ad, A3 = some ad → U.heap.size ≤ ad.block := fun ad e => Nat.le_trans bW.size (hfar ad e)
        replace bW := below_trans2 bW b
        refine hK _ _ bW ?_
        clear hK K cE r1 r2
        clear b
        iterate 3
          refine wpPT_float (v := ?_) rfl (by rfl) (fun w' hw' => ?_) (fun K hK => ?_)
          rotate_left
          · (go_simp; try with_reducible rfl)
          go_simp
          refine hK _ ?_
          clear hK K
        refine wpPT_one rfl (by rfl) (fun K hK => ?_)
        go_simp
        obtain ⟨M, hM⟩ : ∃ M, M = (World.heap v3).size := ⟨_, rfl⟩
        obtain ⟨v4, hw⟩ : ∃ X : World, X = World.alloc v3 (.cells #[.int .i64 0, .slice none 0 0] 34) := ⟨_, rfl⟩
        rw [← hw, ← hM]
        have b : Below (World.heap v3).size v3 v4 := by rw [hw]; exact below_alloc _ _
        have hUM : U.heap.size ≤ M := by rw [hM]; exact bW.size
        replace bW := below_trans2 bW b
        refine hK _ _ bW ?_
        clear hK K
        have kM := Lib.hid (show MatB v4 M 34 0 none 0 0 from by rw [hw, hM]; exact MatB.new _ _)
        have hne : 0 < v.m → ∀ ad, A3 = some ad → ad.block ≠ M := fun h0 ad e => by have := r3.block_lt h0 ad e; omega
        replace r3 := r3.below b
        clear b
        clear hw hM
        -- M holds the zero matrix in v4; the rows lie apart from it (hne)
        have f0 := kM.out.c0
        have f1 := kM.out.c1
        have g0 := kM.out.frozen 0
        have g1 := kM.out.frozen 1
        refine wpPT_one rfl (by rfl) (fun K hK => ?_)
        go_simp
        obtain ⟨wz, hw⟩ : ∃ X : World, X = (World.setCell v4 ⟨M, 0, none⟩ (.int .i64 (v.m : Int))).setCell ⟨M, 1, none⟩ (.slice A3 v.m c3) := ⟨_, rfl⟩
        rw [← hw]
        have r4 := Lib.hid (show RowsAt wz A3 v.m (orM pm rm) from by rw [hw]; exact r3.putB kM.out hne _ _)
        have k4 := Lib.hid (show MatB wz M 34 (v.m : Int) A3 v.m c3 from by rw [hw]; exact kM.out.put _ _ _ _)
        replace bW : Below U.heap.size U wz := by rw [hw]; exact (bW.setCell (p := ⟨M, 0, none⟩) hUM _).setCell (p := ⟨M, 1, none⟩) hUM _
        refine hK _ _ bW ?_
        clear hK K f0 f1 g0 g1 hw r3 kM
        iterate 1
          refine wpPT_float (v := ?_) rfl (by rfl) (fun w' hw' => ?_) (fun K hK => ?_)
          rotate_left
          · (go_simp; try with_reducible rfl)
          go_simp
          refine hK _ ?_
          clear hK K
        refine wpPT_done (NoPanic.normal ?_)
        have kR4 := hkR.out.below_ bW
        have m0 := k4.out.c0
        have m1 := k4.out.c1
        have f0 := kR4.c0
        have f1 := kR4.c1
        have g0 := kR4.frozen 0
        have g1 := kR4.frozen 1
        have hcc := kR4.two (.int .i64 (v.m : Int)) (.slice A3 v.m c3)
        have hc1 := Lib.hid hcc.1
        have hc2 := Lib.hid hcc.2
        have hrf := Lib.hid (r4.out.putB kR4 (fun h0 ad e hb => by have := hfar ad e; have := hkR.out.lt; omega) (.int .i64 (v.m : Int)) (.slice A3 v.m c3))
        have hbf := Lib.hid (((below_trans2 hBU.out.o bW).setCell (p := ⟨gr, 0, none⟩) hgw.out (.int .i64 (v.m : Int))).setCell (p := ⟨gr, 1, none⟩) hgw.out (.slice A3 v.m c3))
        have hfz := Lib.hid (show ∀ ad, A3 = some ad → w.heap.size ≤ ad.block from fun ad e => Nat.le_trans hBU.out.o.size (hfar ad e))
        clear hcc bW hfar hne k4 r4
        go_wp2_with fail
        exact bodyPost_ret (v := .agg #[.int .i64 (v.m : Int), .slice A3 v.m c3]) (by simp [results, Tryz.results29, go_sem, hc1.out, hc2.out]) rfl ⟨A3, v.m, c3, rfl, hrf.out, hc3, hbf.out, hfz.out⟩
      · skip
        go_simp
        obtain ⟨M, hM⟩ : ∃ M, M = (World.heap v2).size := ⟨_, rfl⟩
        obtain ⟨v5, hw⟩ : ∃ X : World, X = World.alloc v2 (.cells #[.int .i64 0, .slice none 0 0] 34) := ⟨_, rfl⟩
        rw [← hw, ← hM]
        have b : Below (World.heap v2).size v2 v5 := by rw [hw]; exact below_alloc _ _
        have hUM : U.heap.size ≤ M := by rw [hM]; exact bW.size
        replace bW := below_trans2 bW b
        refine hK _ _ bW ?_
        clear hK K
        have kM := Lib.hid (show MatB v5 M 34 0 none 0 0 from by rw [hw, hM]; exact MatB.new _ _)
        replace r1 := Lib.hid (r1.out.below b)
        replace r2 := Lib.hid (r2.out.below b)
        clear b
        clear hw hM
        refine wpPT_one rfl (by rfl) (fun K hK => ?_)
        have cE := Lib.hid (ref3_OrF A1 A2 v.m c1 c2 pm rm v5 r1.out r2.out hm hp24.out hr24.out)
        go_simp
        refine cE.out.mono ?_; rintro e v6 ⟨A3, n3, c3, rfl, r3, hc3, b, hfar⟩
        obtain rfl : n3 = v.m := by rw [← r3.len, orM_len]; exact hpl.out
        have hfz3 := hfar
        replace hfar : ∀ ad, A3 = some ad → U.heap.size ≤ ad.block := fun ad e => Nat.le_trans bW.size (hfar ad e)
        replace bW := below_trans2 bW b
        refine hK _ _ bW ?_
        clear hK K cE r1 r2
        have hne : 0 < v.m → ∀ ad, A3 = some ad → ad.block ≠ M := fun h0 ad e => by have := hfz3 ad e; have := kM.out.lt; omega
        replace kM := Lib.hid (kM.out.below_ b)
        clear b
        iterate 3
          refine wpPT_float (v := ?_) rfl (by rfl) (fun w' hw' => ?_) (fun K hK => ?_)
          rotate_left
          · (go_simp; try with_reducible rfl)
          go_simp
          refine hK _ ?_
          clear hK K
        -- M holds the zero matrix in v6; the rows lie apart from it (hne)
        have f0 := kM.out.c0
        have f1 := kM.out.c1
        have g0 := kM.out.frozen 0
        have g1 := kM.out.frozen 1
        refine wpPT_one rfl (by rfl) (fun K hK => ?_)
        go_simp
        obtain ⟨wz, hw⟩ : ∃ X : World, X = (World.setCell v6 ⟨M, 0, none⟩ (.int .i64 (v.m : Int))).setCell ⟨M, 1, none⟩ (.slice A3 v.m c3) := ⟨_, rfl⟩
        rw [← hw]
        have r4 := Lib.hid (show RowsAt wz A3 v.m (orM pm rm) from by rw [hw]; exact r3.putB kM.out hne _ _)
        have k4 := Lib.hid (show MatB wz M 34 (v.m : Int) A3 v.m c3 from by rw [hw]; exact kM.out.put _ _ _ _)
        replace bW : Below U.heap.size U wz := by rw [hw]; exact (bW.setCell (p := ⟨M, 0, none⟩) hUM _).setCell (p := ⟨M, 1, none⟩) hUM _
        refine hK _ _ bW ?_
        clear hK K f0 f1 g0 g1 hw r3 kM
        iterate 1
          refine wpPT_float (v := ?_) rfl (by rfl) (fun w' hw' => ?_) (fun K hK => ?_)
          rotate_left
          · (go_simp; try with_reducible rfl)
          go_simp
          refine hK _ ?_
          clear hK K
        refine wpPT_done (NoPanic.normal ?_)
        have kR4 := hkR.out.below_ bW
        have m0 := k4.out.c0
        have m1 := k4.out.c1
        have f0 := kR4.c0
        have f1 := kR4.c1
        have g0 := kR4.frozen 0
        have g1 := kR4.frozen 1
        have hcc := kR4.two (.int .i64 (v.m : Int)) (.slice A3 v.m c3)
        have hc1 := Lib.hid hcc.1
        have hc2 := Lib.hid hcc.2
        have hrf := Lib.hid (r4.out.putB kR4 (fun h0 ad e hb => by have := hfar ad e; have := hkR.out.lt; omega) (.int .i64 (v.m : Int)) (.slice A3 v.m c3))
        have hbf := Lib.hid (((below_trans2 hBU.out.o bW).setCell (p := ⟨gr, 0, none⟩) hgw.out (.int .i64 (v.m : Int))).setCell (p := ⟨gr, 1, none⟩) hgw.out (.slice A3 v.m c3))
        have hfz := Lib.hid (show ∀ ad, A3 = some ad → w.heap.size ≤ ad.block from fun ad e => Nat.le_trans hBU.out.o.size (hfar ad e))
        clear hcc bW hfar hne k4 r4
        go_wp2_with fail
        exact bodyPost_ret (v := .agg #[.int .i64 (v.m : Int), .slice A3 v.m c3]) (by simp [results, Tryz.results29, go_sem, hc1.out, hc2.out]) rfl ⟨A3, v.m, c3, rfl, hrf.out, hc3, hbf.out, hfz.out⟩
    · skip
      go_simp
      obtain ⟨M, hM⟩ : ∃ M, M = (World.heap v1).size := ⟨_, rfl⟩
      obtain ⟨v7, hw⟩ : ∃ X : World, X = World.alloc v1 (.cells #[.int .i64 0, .slice none 0 0] 34) := ⟨_, rfl⟩
      rw [← hw, ← hM]
      have b : Below (World.heap v1).size v1 v7 := by rw [hw]; exact below_alloc _ _
      have hUM : U.heap.size ≤ M := by rw [hM]; exact bW.size
      replace bW := below_trans2 bW b
      refine hK _ _ bW ?_
      clear hK K
      have kM := Lib.hid (show MatB v7 M 34 0 none 0 0 from by rw [hw, hM]; exact MatB.new _ _)
      replace r1 := Lib.hid (r1.out.below b)
      clear b
      clear hw hM
      refine wpPT_one rfl (by rfl) (fun K hK => ?_)
      go_simp
      -- a call's matrix r2 : RowsAt, in the world v7; the new world is v8
      refine (cRf.out v7 (hBU.out.later bW).f).mono ?_; rintro e v8 ⟨A2, n2, c2, rfl, r2, hc2, b, -⟩
      obtain rfl : n2 = v.m := by rw [← r2.len]; exact hrl.out
      replace bW := below_trans2 bW b
      refine hK _ _ bW ?_
      clear hK K
      replace r2 := Lib.hid r2
      replace r1 := Lib.hid (r1.out.below b)
      replace kM := Lib.hid (kM.out.below_ b)
      clear b
      refine wpPT_one rfl (by rfl) (fun K hK => ?_)
      have cE := Lib.hid (ref3_OrF A1 A2 v.m c1 c2 pm rm v8 r1.out r2.out hm hp24.out hr24.out)
      go_simp
      refine cE.out.mono ?_; rintro e v9 ⟨A3, n3, c3, rfl, r3, hc3, b, hfar⟩
      obtain rfl : n3 = v.m := by rw [← r3.len, orM_len]; exact hpl.out
      have hfz3 := hfar
      replace hfar : ∀ ad, A3 = some ad → U.heap.size ≤ ad.block := fun ad e => Nat.le_trans bW.size (hfar ad e)
      replace bW := below_trans2 bW b
      refine hK _ _ bW ?_
      clear hK K cE r1 r2
      have hne : 0 < v.m → ∀ ad, A3 = some ad → ad.block ≠ M := fun h0 ad e => by have := hfz3 ad e; have := kM.out.lt; omega
      replace kM := Lib.hid (kM.out.below_ b)
      clear b
      iterate 3
        refine wpPT_float (v := ?_) rfl (by rfl) (fun w' hw' => ?_) (fun K hK => ?_)
        rotate_left
        · (go_simp; try with_reducible rfl)
        go_simp
        refine hK _ ?_
        clear hK K
      -- M holds the zero matrix in v9; the rows lie apart from it (hne)
      have f0 := kM.out.c0
      have f1 := kM.out.c1
      have g0 := kM.out.frozen 0
      have g1 := kM.out.frozen 1
      refine wpPT_one rfl (by rfl) (fun K hK => ?_)
      go_simp
      obtain ⟨wz, hw⟩ : ∃ X : World, X = (World.setCell v9 ⟨M, 0, none⟩ (.int .i64 (v.m : Int))).setCell ⟨M, 1, none⟩ (.slice A3 v.m c3) := ⟨_, rfl⟩
      rw [← hw]
      have r4 := Lib.hid (show RowsAt wz A3 v.m (orM pm rm) from by rw [hw]; exact r3.putB kM.out hne _ _)
      have k4 := Lib.hid (show MatB wz M 34 (v.m : Int) A3 v.m c3 from by rw [hw]; exact kM.out.put _ _ _ _)
      replace bW : Below U.heap.size U wz := by rw [hw]; exact (bW.setCell (p := ⟨M, 0, none⟩) hUM _).setCell (p := ⟨M, 1, none⟩) hUM _
      refine hK _ _ bW ?_
      clear hK K f0 f1 g0 g1 hw r3 kM
      iterate 1
        refine wpPT_float (v := ?_) rfl (by rfl) (fun w' hw' => ?_) (fun K hK => ?_)
        rotate_left
        · (go_simp; try with_reducible rfl)
        go_simp
        refine hK _ ?_
        clear hK K
      refine wpPT_done (NoPanic.normal ?_)
      have kR4 := hkR.out.below_ bW
      have m0 := k4.out.c0
      have m1 := k4.out.c1
      have f0 := kR4.c0
      have f1 := kR4.c1
      have g0 := kR4.frozen 0
      have g1 := kR4.frozen 1
      have hcc := kR4.two (.int .i64 (v.m : Int)) (.slice A3 v.m c3)
      have hc1 := Lib.hid hcc.1
      have hc2 := Lib.hid hcc.2
      have hrf := Lib.hid (r4.out.putB kR4 (fun h0 ad e hb => by have := hfar ad e; have := hkR.out.lt; omega) (.int .i64 (v.m : Int)) (.slice A3 v.m c3))
      have hbf := Lib.hid (((below_trans2 hBU.out.o bW).setCell (p := ⟨gr, 0, none⟩) hgw.out (.int .i64 (v.m : Int))).setCell (p := ⟨gr, 1, none⟩) hgw.out (.slice A3 v.m c3))
      have hfz := Lib.hid (show ∀ ad, A3 = some ad → w.heap.size ≤ ad.block from fun ad e => Nat.le_trans hBU.out.o.size (hfar ad e))
      clear hcc bW hfar hne k4 r4
      go_wp2_with fail
      exact bodyPost_ret (v := .agg #[.int .i64 (v.m : Int), .slice A3 v.m c3]) (by simp [results, Tryz.results29, go_sem, hc1.out, hc2.out]) rfl ⟨A3, v.m, c3, rfl, hrf.out, hc3, hbf.out, hfz.out⟩
  · skip
    go_simp
    obtain ⟨M, hM⟩ : ∃ M, M = (World.heap U).size := ⟨_, rfl⟩
    obtain ⟨v10, hw⟩ : ∃ X : World, X = World.alloc U (.cells #[.int .i64 0, .slice none 0 0] 34) := ⟨_, rfl⟩
    rw [← hw, ← hM]
    have b : Below (World.heap U).size U v10 := by rw [hw]; exact below_alloc _ _
    have hUM : U.heap.size ≤ M := by rw [hM]; exact bW.size
    replace bW := below_trans2 bW b
    refine hK _ _ bW ?_
    clear hK K
    have kM := Lib.hid (show MatB v10 M 34 0 none 0 0 from by rw [hw, hM]; exact MatB.new _ _)
    clear b
    clear hw hM
    refine wpPT_one rfl (by rfl) (fun K hK => ?_)
    go_simp
    -- a call's matrix r1 : RowsAt, in the world v10; the new world is v11
    refine (cPo.out v10 (hBU.out.later bW).f).mono ?_; rintro e v11 ⟨A1, n1, c1, rfl, r1, hc1, b, -⟩
    obtain rfl : n1 = v.m := by rw [← r1.len]; exact hpl.out
    replace bW := below_trans2 bW b
    refine hK _ _ bW ?_
    clear hK K
    replace r1 := Lib.hid r1
    replace kM := Lib.hid (kM.out.below_ b)
    clear b
    refine wpPT_one rfl (by rfl) (fun K hK => ?_)
    go_simp
    -- a call's matrix r2 : RowsAt, in the world v11; the new world is v12
    refine (cRf.out v11 (hBU.out.later bW).f).mono ?_; rintro e v12 ⟨A2, n2, c2, rfl, r2, hc2, b, -⟩
    obtain rfl : n2 = v.m := by rw [← r2.len]; exact hrl.out
    replace bW := below_trans2 bW b
    refine hK _ _ bW ?_
    clear hK K
    replace r2 := Lib.hid r2
    replace kM := Lib.hid (kM.out.below_ b)
    replace r1 := Lib.hid (r1.out.below b)
    clear b
    refine wpPT_one rfl (by rfl) (fun K hK => ?_)
    have cE := Lib.hid (ref3_OrF A1 A2 v.m c1 c2 pm rm v12 r1.out r2.out hm hp24.out hr24.out)
    go_simp
    refine cE.out.mono ?_; rintro e v13 ⟨A3, n3, c3, rfl, r3, hc3, b, hfar⟩
    obtain rfl : n3 = v.m := by rw [← r3.len, orM_len]; exact hpl.out
    have hfz3 := hfar
    replace hfar : ∀ ad, A3 = some ad → U.heap.size ≤ ad.block := fun ad e => Nat.le_trans bW.size (hfar ad e)
    replace bW := below_trans2 bW b
    refine hK _ _ bW ?_
    clear hK K cE r1 r2
    have hne : 0 < v.m → ∀ ad, A3 = some ad → ad.block ≠ M := fun h0 ad e => by have := hfz3 ad e; have := kM.out.lt; omega
    replace kM := Lib.hid (kM.out.below_ b)
    clear b
    iterate 3
      refine wpPT_float (v := ?_) rfl (by rfl) (fun w' hw' => ?_) (fun K hK => ?_)
      rotate_left
      · (go_simp; try with_reducible rfl)
      go_simp
      refine hK _ ?_
      clear hK K
    -- M holds the zero matrix in v13; the rows lie apart from it (hne)
    have f0 := kM.out.c0
    have f1 := kM.out.c1
    have g0 := kM.out.frozen 0
    have g1 := kM.out.frozen 1
    refine wpPT_one rfl (by rfl) (fun K hK => ?_)
    go_simp
    obtain ⟨wz, hw⟩ : ∃ X : World, X = (World.setCell v13 ⟨M, 0, none⟩ (.int .i64 (v.m : Int))).setCell ⟨M, 1, none⟩ (.slice A3 v.m c3) := ⟨_, rfl⟩
    rw [← hw]
    have r4 := Lib.hid (show RowsAt wz A3 v.m (orM pm rm) from by rw [hw]; exact r3.putB kM.out hne _ _)
    have k4 := Lib.hid (show MatB wz M 34 (v.m : Int) A3 v.m c3 from by rw [hw]; exact kM.out.put _ _ _ _)
    replace bW : Below U.heap.size U wz := by rw [hw]; exact (bW.setCell (p := ⟨M, 0, none⟩) hUM _).setCell (p := ⟨M, 1, none⟩) hUM _
    refine hK _ _ bW ?_
    clear hK K f0 f1 g0 g1 hw r3 kM
    iterate 1
      refine wpPT_float (v := ?_) rfl (by rfl) (fun w' hw' => ?_) (fun K hK => ?_)
      rotate_left
      · (go_simp; try with_reducible rfl)
      go_simp
      refine hK _ ?_
      clear hK K
    refine wpPT_done (NoPanic.normal ?_)
    have kR4 := hkR.out.below_ bW
    have m0 := k4.out.c0
    have m1 := k4.out.c1
    have f0 := kR4.c0
    have f1 := kR4.c1
    have g0 := kR4.frozen 0
    have g1 := kR4.frozen 1
    have hcc := kR4.two (.int .i64 (v.m : Int)) (.slice A3 v.m c3)
    have hc1 := Lib.hid hcc.1
    have hc2 := Lib.hid hcc.2
    have hrf := Lib.hid (r4.out.putB kR4 (fun h0 ad e hb => by have := hfar ad e; have := hkR.out.lt; omega) (.int .i64 (v.m : Int)) (.slice A3 v.m c3))
    have hbf := Lib.hid (((below_trans2 hBU.out.o bW).setCell (p := ⟨gr, 0, none⟩) hgw.out (.int .i64 (v.m : Int))).setCell (p := ⟨gr, 1, none⟩) hgw.out (.slice A3 v.m c3))
    have hfz := Lib.hid (show ∀ ad, A3 = some ad → w.heap.size ≤ ad.block from fun ad e => Nat.le_trans hBU.out.o.size (hfar ad e))
    clear hcc bW hfar hne k4 r4
    go_wp2_with fail
    exact bodyPost_ret (v := .agg #[.int .i64 (v.m : Int), .slice A3 v.m c3]) (by simp [results, Tryz.results29, go_sem, hc1.out, hc2.out]) rfl ⟨A3, v.m, c3, rfl, hrf.out, hc3, hbf.out, hfz.out⟩
set_option maxRecDepth 100000 in
set_option maxHeartbeats 2000000 in
theorem ref13_Co (v : FV) (f : Fac) (w : World) (hF : FactsAt w v f) (hm : v.m < 64) (hw : WholeF f) :
    Calls Tryz.prog 8 #[.agg #[.slice v.A v.n v.c, .slice v.B v.m v.d, .slice v.C v.k v.e]] w (RetMat1 (v.m : Int) (coM f) w) := by
  have hil := hF.is.len
  have ge := (edgeM_good hw (by omega)).1
  have gc := (coM_hull hw (by omega)).1
  have cE := Lib.hid (fun W hW => ref13_Edges v f W hW (by omega) hw)
  rw [hil] at ge gc
  have hlc := Lib.hid gc.len
  have hpos := Lib.hid (fun h0 => rows_len_pos gc h0)
  have cC := fun A c W hW => ref4_Close A v.m c (edgeM f) W hW ge hm
  rw [show closeK (edgeM f) v.m = coM f from by unfold coM; rw [hil]] at cC
  have hel := Lib.hid ge.len
  replace cC := Lib.hid cC
  clear ge gc hil
  -- a call with facts v: they are boxed at g, the world is W0 then
  have hB0 := Lib.hid (FBox.new hF)
  obtain ⟨g, hg⟩ : ∃ g, g = w.heap.size := ⟨_, rfl⟩
  obtain ⟨W0, hW0⟩ : ∃ W, W = w.alloc (.cells #[.slice v.A v.n v.c, .slice v.B v.m v.d, .slice v.C v.k v.e] 29) := ⟨_, rfl⟩
  rw [← hW0, ← hg] at hB0
  clear hF
  obtain ⟨gr, hgr⟩ : ∃ g, g = W0.heap.size := ⟨_, rfl⟩
  obtain ⟨W1, hW1⟩ : ∃ W, W = W0.alloc (.cells #[.int .i64 0, .slice none 0 0] 34) := ⟨_, rfl⟩
  have b1 : Below W0.heap.size W0 W1 := by rw [hW1]; exact (Below.refl _ _).alloc (Nat.le_refl _) _
  have kR : MatB W1 gr 34 0 none 0 0 := by rw [hW1, hgr]; exact MatB.new W0 _
  have hB1 := Lib.hid (hB0.out.later b1)
  have hgw := Lib.hid (show w.heap.size ≤ gr from by rw [hgr]; exact hB0.out.o.size)
  have p0 := hB1.out.c0
  have p1 := hB1.out.c1
  have p2 := hB1.out.c2
  clear b1 hB0
  go_enter Tryz.func8, Tryz.ntmps8
  go_wp2_with (first | (rw [← hW0, ← hg]; clear hW0 hg) | (rw [← hW1, ← hgr]; clear hW1; replace hgr := Lib.hid hgr))
  refine (cE.out _ hB1.out.f).mono ?_; rintro e w2 ⟨A1, n1, c1, rfl, r1, hc1, b2, -⟩
  obtain rfl : n1 = v.m := by rw [← r1.len]; exact hel.out
  replace kR := kR.below_ b2
  have hB2 := Lib.hid (hB1.out.later b2)
  replace r1 := Lib.hid r1
  clear p0 p1 p2 b2 hB1
  go_wp2_with fail
  refine (cC.out A1 c1 w2 r1.out).mono ?_; rintro e w3 ⟨A3, n3, c3, rfl, r3, hc3, b3⟩
  obtain rfl : n3 = v.m := by rw [← r3.len]; exact hlc.out
  have kR4 := kR.below_ b3
  have hfz := r3.farZ kR4
  have hB3 := Lib.hid (hB2.out.later b3)
  have f0 := kR4.c0
  have f1 := kR4.c1
  have g0 := kR4.frozen 0
  have g1 := kR4.frozen 1
  have hcc := kR4.two (.int .i64 (v.m : Int)) (.slice A3 v.m c3)
  have hd1 := Lib.hid hcc.1
  have hd2 := Lib.hid hcc.2
  have hrf := Lib.hid (r3.putB kR4 (fun h0 => hfz (hpos.out h0) h0) (.int .i64 (v.m : Int)) (.slice A3 v.m c3))
  have hbf := Lib.hid ((hB3.out.o.setCell (p := ⟨gr, 0, none⟩) hgw.out (.int .i64 (v.m : Int))).setCell (p := ⟨gr, 1, none⟩) hgw.out (.slice A3 v.m c3))
  clear hcc hfz kR b3 r3 kR4
  go_wp2_with fail
  exact bodyPost_ret (v := .agg #[.int .i64 (v.m : Int), .slice A3 v.m c3]) (by simp [results, Tryz.results8, go_sem, hd1.out, hd2.out]) rfl ⟨A3, v.m, c3, rfl, hrf.out, hc3, hbf.out⟩
end Go.Proofs.YtbeigdbljepfkaaGreat

namespace Go.Proofs.YtbeigdbljepfkaaGreat
open Go.RowKit
set_option linter.unusedVariables false
theorem LAt.setFar {α : Type} {E : Enc α} {w : World} {A : Option Addr} {n : Nat} {xs : List α} (h : LAt E w A n xs) {p : Addr} (hne : ∀ ad, A = some ad → ad.block ≠ p.block) (u : Value) : LAt E (w.setCell p u) A n xs :=
  ⟨h.1, h.2.1, fun hn => by
    obtain ⟨b, off, e, hb, hc⟩ := h.2.2 hn
    exact ⟨b, off, e, by simpa using hb, fun j v hv => (World.cell?_of_block (Below.heap_setCell w p u b (fun e' => hne _ e e'))).trans (hc j v hv)⟩⟩
theorem LAt.grown18 {α : Type} {E : Enc α} {w w' : World} {A : Option Addr} {n : Nat} {xs : List α} {row : Option Nat} (h : LAt E w A n xs) (hg : w.grownBy w' row) (hne : ∀ ad, A = some ad → row ≠ some ad.block) : LAt E w' A n xs :=
  ⟨h.1, h.2.1, fun h0 => by
    obtain ⟨b, off, e, hb, hc⟩ := h.2.2 h0
    exact ⟨b, off, e, Nat.lt_of_lt_of_le hb hg.size, fun j u hu => (World.cell?_of_block (hg.block b hb (fun e' => hne _ e e'.symm))).trans (hc j u hu)⟩⟩
/-- what was seen: the matrix, the edges, the rounds -/
def RetSeen (n : Nat) (f : Fac) (kept : List Int) (B : List (List Nat)) (w : World) (e : Ending) (w' : World) : Prop := ∃ (k : Nat) (A : Option Addr) (d : Nat) (E : Option Addr) (ne ce : Nat),
  e = .returned (.tuple #[.agg #[.int .i64 (n : Int), .slice A n d], .slice E ne ce, .int .i64 ((k + 1 : Nat) : Int), .int .i64 0]) ∧ SeenIs f kept B k ∧ RowsAt w' A n (seX f kept B k) ∧ n ≤ d ∧ LAt encE w' E ne (seL f kept B k) ∧ ne ≤ ce ∧ ce ≤ 9223372036854775807 ∧ Below w.heap.size w w'
def RetNoSeen (w : World) (e : Ending) (w' : World) : Prop := e = .returned (.tuple #[.agg #[.int .i64 0, .slice none 0 0], .slice none 0 0, .int .i64 0, .int .i64 1]) ∧ Below w.heap.size w w'
theorem keptF_ok (is : List It) (o : Int) : ∀ r ∈ keptF is (pastF is o is.length), 0 ≤ r ∧ r < (is.length : Int) := fun r hr => pastF_ok is o is.length r (List.mem_filter.1 hr).1
theorem keptF_len (is : List It) (o : Int) : (keptF is (pastF is o is.length)).length ≤ is.length := Nat.le_trans (List.length_filter_le _ _) (pastF_len _ _ _)
set_option maxRecDepth 100000 in
set_option maxHeartbeats 4000000 in
theorem ref18_Of_no (v : FV) (f : Fac) (A : Option Addr) (c : Nat) (co : List (List Nat)) (o : Int) (w : World) (hF : FactsAt w v f) (hr : RowsAt w A v.m co) (h : o < 0 ∨ (v.m : Int) ≤ o) :
    Calls Tryz.prog 10 #[.agg #[.slice v.A v.n v.c, .slice v.B v.m v.d, .slice v.C v.k v.e], .agg #[.int .i64 (v.m : Int), .slice A v.m c], .int .i64 o] w (RetNoSeen w) := by
  -- a call with facts v and the matrix (A v.m c a), hr : RowsAt w ..: boxed at g (W0), gm (W1): hB1, hM1
  -- a call with facts v: they are boxed at g, the world is W0 then
  have hB0 := Lib.hid (FBox.new hF)
  obtain ⟨g, hg⟩ : ∃ g, g = w.heap.size := ⟨_, rfl⟩
  obtain ⟨W0, hW0⟩ : ∃ W, W = w.alloc (.cells #[.slice v.A v.n v.c, .slice v.B v.m v.d, .slice v.C v.k v.e] 29) := ⟨_, rfl⟩
  rw [← hW0, ← hg] at hB0
  clear hF
  replace hr := hr.below hB0.out.o
  have hM1 := Lib.hid (MatK.new (N := (v.m : Int)) (c := c) W0 34 hr)
  obtain ⟨gm, hgm⟩ : ∃ g, g = W0.heap.size := ⟨_, rfl⟩
  obtain ⟨W1, hW1⟩ : ∃ W, W = W0.alloc (.cells #[.int .i64 (v.m : Int), .slice A v.m c] 34) := ⟨_, rfl⟩
  rw [← hW1, ← hgm] at hM1
  have hB1 := Lib.hid (hB0.out.later (show Below W0.heap.size W0 W1 from by rw [hW1]; exact below_alloc _ _))
  clear hr hB0
  obtain ⟨gr, hgr⟩ : ∃ g, g = W1.heap.size := ⟨_, rfl⟩
  obtain ⟨W2, hW2⟩ : ∃ W, W = W1.alloc (.cells #[.int .i64 0, .slice none 0 0] 34) := ⟨_, rfl⟩
  have b2 : Below W1.heap.size W1 W2 := by rw [hW2]; exact below_alloc _ _
  have hB2 := Lib.hid (hB1.out.later b2)
  have hM2 := Lib.hid (hM1.out.below b2)
  have kR := Lib.hid (show MatB W2 gr 34 0 none 0 0 from by rw [hW2, hgr]; exact MatB.new W1 _)
  have hgw := Lib.hid (show w.heap.size ≤ gr from by rw [hgr]; exact hB1.out.o.size)
  clear hM1 hB1 b2
  have p0 := hB2.out.c0
  have p1 := hB2.out.c1
  have p2 := hB2.out.c2
  by_cases h0 : o < 0
  · have d1 : decide (o < 0) = true := decide_eq_true h0
    have kk := kR.out
    have f0 := kk.c0
    have f1 := kk.c1
    have g0 := kk.frozen 0
    have g1 := kk.frozen 1
    have hcc := kk.two (.int .i64 0) (.slice none 0 0)
    have hd1 := Lib.hid hcc.1
    have hd2 := Lib.hid hcc.2
    have hbf := Lib.hid ((hB2.out.o.setCell (p := ⟨gr, 0, none⟩) hgw.out (.int .i64 0)).setCell (p := ⟨gr, 1, none⟩) hgw.out (.slice none 0 0))
    clear hcc kk
    go_enter Tryz.func10, Tryz.ntmps10
    go_wp2_with (first | (rw [← hW0, ← hg]; clear hW0 hg) | (rw [← hW1, ← hgm]; clear hW1 hgm) | (rw [← hW2, ← hgr]; clear hW2; replace hgr := Lib.hid hgr))
    exact bodyPost_ret (v := .tuple #[.agg #[.int .i64 0, .slice none 0 0], .slice none 0 0, .int .i64 0, .int .i64 1]) (by simp [results, Tryz.results10, go_sem, hd1.out, hd2.out]) rfl ⟨rfl, hbf.out⟩
  · have d1 : decide (o < 0) = false := decide_eq_false h0
    have h1 : (v.m : Int) ≤ o := by omega
    have d2 : decide ((v.m : Int) ≤ o) = true := decide_eq_true h1
    have kk := kR.out
    have f0 := kk.c0
    have f1 := kk.c1
    have g0 := kk.frozen 0
    have g1 := kk.frozen 1
    have hcc := kk.two (.int .i64 0) (.slice none 0 0)
    have hd1 := Lib.hid hcc.1
    have hd2 := Lib.hid hcc.2
    have hbf := Lib.hid ((hB2.out.o.setCell (p := ⟨gr, 0, none⟩) hgw.out (.int .i64 0)).setCell (p := ⟨gr, 1, none⟩) hgw.out (.slice none 0 0))
    clear hcc kk
    go_enter Tryz.func10, Tryz.ntmps10
    go_wp2_with (first | (rw [← hW0, ← hg]; clear hW0 hg) | (rw [← hW1, ← hgm]; clear hW1 hgm) | (rw [← hW2, ← hgr]; clear hW2; replace hgr := Lib.hid hgr))
    exact bodyPost_ret (v := .tuple #[.agg #[.int .i64 0, .slice none 0 0], .slice none 0 0, .int .i64 0, .int .i64 1]) (by simp [results, Tryz.results10, go_sem, hd1.out, hd2.out]) rfl ⟨rfl, hbf.out⟩
set_option maxRecDepth 100000 in
set_option maxHeartbeats 8000000 in
theorem ref18_Of (v : FV) (f : Fac) (A : Option Addr) (c : Nat) (co : List (List Nat)) (o : Int) (w : World) (hF : FactsAt w v f) (hr : RowsAt w A v.m co) (hG : Good v.m co) (hm : v.m < 64) (hw : WholeF f) (h0 : 0 ≤ o) (h1 : o < (v.m : Int)) :
    Calls Tryz.prog 10 #[.agg #[.slice v.A v.n v.c, .slice v.B v.m v.d, .slice v.C v.k v.e], .agg #[.int .i64 (v.m : Int), .slice A v.m c], .int .i64 o] w (RetSeen v.m f (keptF f.items (pastF f.items o f.items.length)) (withinM v.m co (wihO co o v.m)) w) := by
  have hil := hF.is.len
  have d1 : decide (o < 0) = false := decide_eq_false (by omega)
  have d2 : decide ((v.m : Int) ≤ o) = false := decide_eq_false (by omega)
  have cK := fun W hW => ref16_Kept v f o W hW (by omega)
  have cW := Lib.hid (fun W hW => ref16_With A v.m c co o W hW hG)
  have cI := fun L m d W hR hI hmm => ref4_Within A L v.m c m d co (wihO co o v.m) W hR hG hm hI hmm
  have hkok := keptF_ok f.items o
  have hklen := keptF_len f.items o
  have gB := (within_facts hG (wihO co o v.m)).1
  have hwl : (wihO co o v.m).length ≤ 1048576 := by
    unfold wihO
    split
    · exact Nat.le_trans (wihF_len _ _ _) (by omega)
    · simp
  obtain ⟨kept, hke⟩ : ∃ l, l = keptF f.items (pastF f.items o f.items.length) := ⟨_, rfl⟩
  obtain ⟨B, hBe⟩ : ∃ M, M = withinM v.m co (wihO co o v.m) := ⟨_, rfl⟩
  rw [← hke] at cK hkok hklen ⊢
  rw [← hBe] at cI gB ⊢
  rw [hil] at hkok hklen
  have gB' : Good f.items.length B := by rw [hil]; exact gB
  have cN := fun A c X hX D m d W hF hR hL hmm => ref18_NewF v f A c X D m d kept W hF hR hX hL hkok (by omega) hmm hw
  have hsg : Hid (∀ k, Good v.m (seX f kept B k)) := Lib.hid (fun k => by rw [← hil]; exact seX_good gB' k)
  have hsl : Hid (∀ k, (seL f kept B k).length ≤ v.m * v.m) := Lib.hid (fun k => Nat.le_trans (seL_len gB' k) (by rw [hil]; exact Nat.mul_le_mul (by rw [← hil]; exact cntW_le _ _) (by rw [← hil]; exact cntW_le _ _)))
  have hsk : Hid (∀ k, ∀ x ∈ seL f kept B k, Ed.Ok x) := Lib.hid (seL_okE gB' (by rw [hil]; exact hkok) (by omega))
  have hnp : Hid (∀ k (q : Nat) (x : Ed), (newF f (seX f kept B k) kept)[q]? = some x → inM (v.m : Int) x.w1 x.w2 = true) := Lib.hid (fun k q x h => by
    rw [← hil]
    exact newF_ok (f := f) (X := seX f kept B k) (kept := kept) (x.w1, x.w2) (List.mem_map.2 ⟨x, List.mem_of_getElem? h, rfl⟩))
  have hfg : Hid (∀ k q, Good v.m ((edP ((newF f (seX f kept B k) kept).take q)).foldl setP (seX f kept B k))) := Lib.hid (fun k q => by
    rw [← hil]
    exact (fold_facts _ _ (seX_good gB' k) (fun p hp => by
      obtain ⟨x, hx, rfl⟩ := List.mem_map.1 hp
      exact newF_ok (f := f) (X := seX f kept B k) (kept := kept) _ (List.mem_map.2 ⟨x, List.mem_of_mem_take hx, rfl⟩))).1)
  have hsn : Hid (∀ X, (newF f X kept).length ≤ v.m * v.m) := Lib.hid (fun X => by unfold newF; rw [hil]; exact nwA_len _ _)
  have hst : Hid (∀ k, seX f kept B (k + 1) = closeK ((edP (newF f (seX f kept B k) kept)).foldl setP (seX f kept B k)) v.m) := Lib.hid (fun k => by rw [← hil]; rfl)
  have hBl := Lib.hid gB.len
  have hposB := Lib.hid (fun h0 => rows_len_pos gB h0)
  replace cK := Lib.hid cK
  replace cI := Lib.hid cI
  replace cN := Lib.hid cN
  replace hke := Lib.hid hke
  replace hBe := Lib.hid hBe
  replace hil := Lib.hid hil
  replace hkok := Lib.hid hkok
  replace hklen := Lib.hid hklen
  clear gB gB' hw
  obtain ⟨i0, hi, hz0, hz1, hz2⟩ := info_parts info_edge
  replace hi := Lib.hid hi
  replace hz0 := Lib.hid hz0
  replace hz1 := Lib.hid hz1
  replace hz2 := Lib.hid hz2
  -- a call with facts v and the matrix (A v.m c a), hr : RowsAt w ..: boxed at g (W0), gm (W1): hB1, hM1
  -- a call with facts v: they are boxed at g, the world is W0 then
  have hB0 := Lib.hid (FBox.new hF)
  obtain ⟨g, hg⟩ : ∃ g, g = w.heap.size := ⟨_, rfl⟩
  obtain ⟨W0, hW0⟩ : ∃ W, W = w.alloc (.cells #[.slice v.A v.n v.c, .slice v.B v.m v.d, .slice v.C v.k v.e] 29) := ⟨_, rfl⟩
  rw [← hW0, ← hg] at hB0
  clear hF
  replace hr := hr.below hB0.out.o
  have hM1 := Lib.hid (MatK.new (N := (v.m : Int)) (c := c) W0 34 hr)
  obtain ⟨gm, hgm⟩ : ∃ g, g = W0.heap.size := ⟨_, rfl⟩
  obtain ⟨W1, hW1⟩ : ∃ W, W = W0.alloc (.cells #[.int .i64 (v.m : Int), .slice A v.m c] 34) := ⟨_, rfl⟩
  rw [← hW1, ← hgm] at hM1
  have hB1 := Lib.hid (hB0.out.later (show Below W0.heap.size W0 W1 from by rw [hW1]; exact below_alloc _ _))
  clear hr hB0
  obtain ⟨gr, hgr⟩ : ∃ g, g = W1.heap.size := ⟨_, rfl⟩
  obtain ⟨W2, hW2⟩ : ∃ W, W = W1.alloc (.cells #[.int .i64 0, .slice none 0 0] 34) := ⟨_, rfl⟩
  have b2 : Below W1.heap.size W1 W2 := by rw [hW2]; exact below_alloc _ _
  have hB2 := Lib.hid (hB1.out.later b2)
  have hM2 := Lib.hid (hM1.out.below b2)
  have kR := Lib.hid (show MatB W2 gr 34 0 none 0 0 from by rw [hW2, hgr]; exact MatB.new W1 _)
  have hgw := Lib.hid (show w.heap.size ≤ gr from by rw [hgr]; exact hB1.out.o.size)
  clear hM1 hB1 b2
  have p0 := hB2.out.c0
  have p1 := hB2.out.c1
  have p2 := hB2.out.c2
  go_enter Tryz.func10, Tryz.ntmps10
  go_wp2_with (first | (rw [← hW0, ← hg]; clear hW0 hg) | (rw [← hW1, ← hgm]; clear hW1 hgm) | (rw [← hW2, ← hgr]; clear hW2; replace hgr := Lib.hid hgr))
  refine (cK.out W2 hB2.out.f).mono ?_; rintro e w3 ⟨D, m, d, rfl, hL, hmd, hdm, b⟩
  have hm64 : m ≤ 64 := by rw [← hL.len]; have := hklen.out; omega
  replace hB2 := Lib.hid (hB2.out.later b)
  replace hM2 := Lib.hid (hM2.out.below b)
  replace kR := Lib.hid (kR.out.below_ b)
  replace hL := Lib.hid hL
  clear p0 p1 p2 b
  go_wp2_with fail
  refine wp_region_tree (.flt 0 (.flt 1 (.flt 2 (.two 3 5 (.two 4 5 (.one 5 (.one 6 .done)) (.one 4 (.one 6 .done))) (.one 3 (.one 4 (.one 6 .done))))))) (by kernel_rfl) (by kernel_rfl) (fun U hU => ?_)
  have hU' : Below w3.heap.size w3 U := by rw [hU.out]; exact (Below.refl _ _).drew
  replace hB2 := Lib.hid (hB2.out.later hU')
  replace hM2 := Lib.hid (hM2.out.below hU')
  replace kR := Lib.hid (kR.out.below_ hU')
  replace hL := Lib.hid (hL.out.below hU')
  clear hU hU'
  have bW : Below U.heap.size U U := Below.refl _ _
  apply cut_seven (F := fun (M : Nat) (w9 : World) (D2 : Option Addr) (m2 d2 : Nat) (C : Option Addr) (dC : Nat) => MV w9 M v.m C dC B ∧ U.heap.size ≤ M ∧ Below U.heap.size U w9)
  · intro key
    have m0 := hM2.out.1.c0
    have m1 := hM2.out.1.c1
    iterate 3
      refine wpPT_float (v := ?_) rfl (by rfl) (fun w' hw' => ?_) (fun K hK => ?_)
      rotate_left
      · (go_simp; try with_reducible rfl)
      go_simp
      refine hK _ ?_
      clear hK K
    clear m0 m1
    refine wpPT_two rfl (by rfl) rfl (by rfl) (fun K hK => ?_) (fun K hK => ?_)
    · skip
      go_simp
      refine (cW.out U (hM2.out.below bW).2).mono ?_; rintro e v1 ⟨D2, m2, d2, rfl, hI, hmd2, hdm2, b⟩
      have hm2 := Lib.hid hI.len
      replace hI := Lib.hid hI
      replace bW := below_trans2 bW b
      refine hK _ _ bW ?_
      clear hK K
      refine wpPT_two rfl (by rfl) rfl (by rfl) (fun K hK => ?_) (fun K hK => ?_)
      · skip
        go_simp
        refine (cI.out D2 m2 d2 v1 (hM2.out.below bW).2 hI.out.ints (by have := hm2.out; omega)).mono ?_; rintro e v2 ⟨C, n3, dC, rfl, rC, hdC, b⟩
        obtain rfl : n3 = v.m := by rw [← rC.len]; exact hBl.out
        replace bW := below_trans2 bW b
        refine hK _ _ bW ?_
        clear hK K
        refine wpPT_one rfl (by rfl) (fun K hK => ?_)
        go_simp
        obtain ⟨M, hM⟩ : ∃ M, M = (World.heap v2).size := ⟨_, rfl⟩
        obtain ⟨v3, hw⟩ : ∃ X : World, X = World.alloc v2 (.cells #[.int .i64 0, .slice none 0 0] 34) := ⟨_, rfl⟩
        rw [← hw, ← hM]
        have b : Below (World.heap v2).size v2 v3 := by rw [hw]; exact below_alloc _ _
        have hUM : U.heap.size ≤ M := by rw [hM]; exact bW.size
        replace bW := below_trans2 bW b
        refine hK _ _ bW ?_
        clear hK K
        have kM := Lib.hid (show MatB v3 M 34 0 none 0 0 from by rw [hw, hM]; exact MatB.new _ _)
        have hne : 0 < v.m → ∀ ad, C = some ad → ad.block ≠ M := fun h0 ad e => by have := rC.block_lt h0 ad e; omega
        replace rC := rC.below b
        clear hM hw b
        have f0 := kM.out.c0
        have f1 := kM.out.c1
        have g0 := kM.out.frozen 0
        have g1 := kM.out.frozen 1
        refine wpPT_one rfl (by rfl) (fun K hK => ?_)
        go_simp
        obtain ⟨wz, hw⟩ : ∃ X : World, X = (World.setCell v3 ⟨M, 0, none⟩ (.int .i64 (v.m : Int))).setCell ⟨M, 1, none⟩ (.slice C v.m dC) := ⟨_, rfl⟩
        rw [← hw]
        have hMV := Lib.hid (show MV wz M v.m C dC B from ⟨by rw [hw]; exact kM.out.put _ _ _ _, by rw [hw]; exact rC.putB kM.out hne _ _, hdC, hne⟩)
        replace bW : Below U.heap.size U wz := by rw [hw]; exact (bW.setCell (p := ⟨M, 0, none⟩) hUM _).setCell (p := ⟨M, 1, none⟩) hUM _
        refine hK _ _ bW ?_
        clear hK K f0 f1 g0 g1 hw rC kM hne
        refine wpPT_done (NoPanic.normal ?_)
        exact key M wz D2 m2 d2 C dC ⟨hMV.out, hUM, bW⟩
      · skip
        go_simp
        obtain ⟨M, hM⟩ : ∃ M, M = (World.heap v1).size := ⟨_, rfl⟩
        obtain ⟨v4, hw⟩ : ∃ X : World, X = World.alloc v1 (.cells #[.int .i64 0, .slice none 0 0] 34) := ⟨_, rfl⟩
        rw [← hw, ← hM]
        have b : Below (World.heap v1).size v1 v4 := by rw [hw]; exact below_alloc _ _
        have hUM : U.heap.size ≤ M := by rw [hM]; exact bW.size
        replace bW := below_trans2 bW b
        refine hK _ _ bW ?_
        clear hK K
        have kM := Lib.hid (show MatB v4 M 34 0 none 0 0 from by rw [hw, hM]; exact MatB.new _ _)
        replace hI := Lib.hid (hI.out.below b)
        clear hM hw b
        refine wpPT_one rfl (by rfl) (fun K hK => ?_)
        go_simp
        refine (cI.out D2 m2 d2 v4 (hM2.out.below bW).2 hI.out.ints (by have := hm2.out; omega)).mono ?_; rintro e v5 ⟨C, n3, dC, rfl, rC, hdC, b⟩
        obtain rfl : n3 = v.m := by rw [← rC.len]; exact hBl.out
        replace bW := below_trans2 bW b
        refine hK _ _ bW ?_
        clear hK K
        replace kM := Lib.hid (kM.out.below_ b)
        have hne : 0 < v.m → ∀ ad, C = some ad → ad.block ≠ M := fun h0 => rC.farZ kM.out (hposB.out h0) h0
        clear b
        have f0 := kM.out.c0
        have f1 := kM.out.c1
        have g0 := kM.out.frozen 0
        have g1 := kM.out.frozen 1
        refine wpPT_one rfl (by rfl) (fun K hK => ?_)
        go_simp
        obtain ⟨wz, hw⟩ : ∃ X : World, X = (World.setCell v5 ⟨M, 0, none⟩ (.int .i64 (v.m : Int))).setCell ⟨M, 1, none⟩ (.slice C v.m dC) := ⟨_, rfl⟩
        rw [← hw]
        have hMV := Lib.hid (show MV wz M v.m C dC B from ⟨by rw [hw]; exact kM.out.put _ _ _ _, by rw [hw]; exact rC.putB kM.out hne _ _, hdC, hne⟩)
        replace bW : Below U.heap.size U wz := by rw [hw]; exact (bW.setCell (p := ⟨M, 0, none⟩) hUM _).setCell (p := ⟨M, 1, none⟩) hUM _
        refine hK _ _ bW ?_
        clear hK K f0 f1 g0 g1 hw rC kM hne
        refine wpPT_done (NoPanic.normal ?_)
        exact key M wz D2 m2 d2 C dC ⟨hMV.out, hUM, bW⟩
    · skip
      go_simp
      obtain ⟨M, hM⟩ : ∃ M, M = (World.heap U).size := ⟨_, rfl⟩
      obtain ⟨v6, hw⟩ : ∃ X : World, X = World.alloc U (.cells #[.int .i64 0, .slice none 0 0] 34) := ⟨_, rfl⟩
      rw [← hw, ← hM]
      have b : Below (World.heap U).size U v6 := by rw [hw]; exact below_alloc _ _
      have hUM : U.heap.size ≤ M := by rw [hM]; exact bW.size
      replace bW := below_trans2 bW b
      refine hK _ _ bW ?_
      clear hK K
      have kM := Lib.hid (show MatB v6 M 34 0 none 0 0 from by rw [hw, hM]; exact MatB.new _ _)
      clear hM hw b
      refine wpPT_one rfl (by rfl) (fun K hK => ?_)
      go_simp
      refine (cW.out v6 (hM2.out.below bW).2).mono ?_; rintro e v7 ⟨D2, m2, d2, rfl, hI, hmd2, hdm2, b⟩
      have hm2 := Lib.hid hI.len
      replace hI := Lib.hid hI
      replace bW := below_trans2 bW b
      refine hK _ _ bW ?_
      clear hK K
      replace kM := Lib.hid (kM.out.below_ b)
      refine wpPT_one rfl (by rfl) (fun K hK => ?_)
      go_simp
      refine (cI.out D2 m2 d2 v7 (hM2.out.below bW).2 hI.out.ints (by have := hm2.out; omega)).mono ?_; rintro e v8 ⟨C, n3, dC, rfl, rC, hdC, b⟩
      obtain rfl : n3 = v.m := by rw [← rC.len]; exact hBl.out
      replace bW := below_trans2 bW b
      refine hK _ _ bW ?_
      clear hK K
      replace kM := Lib.hid (kM.out.below_ b)
      have hne : 0 < v.m → ∀ ad, C = some ad → ad.block ≠ M := fun h0 => rC.farZ kM.out (hposB.out h0) h0
      clear b
      have f0 := kM.out.c0
      have f1 := kM.out.c1
      have g0 := kM.out.frozen 0
      have g1 := kM.out.frozen 1
      refine wpPT_one rfl (by rfl) (fun K hK => ?_)
      go_simp
      obtain ⟨wz, hw⟩ : ∃ X : World, X = (World.setCell v8 ⟨M, 0, none⟩ (.int .i64 (v.m : Int))).setCell ⟨M, 1, none⟩ (.slice C v.m dC) := ⟨_, rfl⟩
      rw [← hw]
      have hMV := Lib.hid (show MV wz M v.m C dC B from ⟨by rw [hw]; exact kM.out.put _ _ _ _, by rw [hw]; exact rC.putB kM.out hne _ _, hdC, hne⟩)
      replace bW : Below U.heap.size U wz := by rw [hw]; exact (bW.setCell (p := ⟨M, 0, none⟩) hUM _).setCell (p := ⟨M, 1, none⟩) hUM _
      refine hK _ _ bW ?_
      clear hK K f0 f1 g0 g1 hw rC kM hne
      refine wpPT_done (NoPanic.normal ?_)
      exact key M wz D2 m2 d2 C dC ⟨hMV.out, hUM, bW⟩
  · intro M w9 D2 m2 d2 C dC hk
    obtain ⟨hMV, hUM, hbU⟩ := hk
    have hgrU := kR.out.lt
    have hkeep : Hid (∀ wr, Below U.heap.size U wr → FBox w g v f wr ∧ LAt encI wr D m kept ∧ MatB wr gr 34 0 none 0 0) := Lib.hid (fun wr hb => ⟨hB2.out.later hb, hL.out.below hb, kR.out.below_ hb⟩)
    have hMB : M < w9.heap.size := hMV.loc.lt
    have hRG : Hid (∃ Bk, RowsG Bk w9 C v.m (seX f kept B 0) ∧ ∀ g, (Value.slice none 0 0).ownBlock = some g → g < Bk) := Lib.hid ⟨0, RowsG.of hMV.rows, fun g e => by cases e⟩
    have hUs := hbU.size
    replace hMV := Lib.hid (show MV w9 M v.m C dC (seX f kept B 0) from hMV)
    have hbb := Lib.hid hbU
    clear hB2 kR hL hM2 bW hbU cW cI cK hke hposB hBe
    go_wp2_with fail
    go_loopw [12, 13] (fun u t wr => ∃ (k : Nat) (A2 : Option Addr) (d2 : Nat), t = .int .i64 ((k + 1 : Nat) : Int) ∧ Hid (∀ j, j < k → newF f (seX f kept B j) kept ≠ []) ∧ Hid (Below U.heap.size U wr) ∧ Hid (MV wr M v.m A2 d2 (seX f kept B k)) ∧ Hid (wr.ownsRow w9.heap.size 55 3 u (seL f kept B k).length (encE.all (seL f kept B k))) ∧ Hid (∃ Bk, RowsG Bk wr A2 v.m (seX f kept B k) ∧ ∀ g, u.ownBlock = some g → g < Bk) ∧ Hid (w9.heap.size ≤ wr.heap.size)) (fun _ t _ => v.m * v.m + 2 - (intOf t).toNat)
    case atStart => exact ⟨0, C, dC, rfl, Lib.hid (fun j h => absurd h (by omega)), hbb, hMV, Lib.hid (World.ownsRow_nil _ _ _ _), hRG, Lib.hid (Nat.le_refl _)⟩
    case round =>
      clear hRG hMV hbb
      obtain ⟨k, A2, d2, rfl, hne, hbb, hN, hown, hRG, hsz⟩ := hrel
      obtain ⟨hB, hL, kR⟩ := hkeep.out _ hbb.out
      replace hB := Lib.hid hB
      replace hL := Lib.hid hL
      have gX := hsg.out k
      obtain ⟨X, hX⟩ : ∃ X, X = seX f kept B k := ⟨_, rfl⟩
      obtain ⟨al, hal⟩ : ∃ l, l = seL f kept B k := ⟨_, rfl⟩
      have halm : al.length ≤ v.m * v.m := by rw [hal]; exact hsl.out k
      have halk : k ≤ al.length := by rw [hal]; exact seL_ge k hne.out
      have hmm : v.m * v.m ≤ 64 * 64 := Nat.mul_le_mul (by omega) (by omega)
      rw [← hX] at hN hRG gX
      rw [← hal] at hown
      have cNk := cN.out A2 d2 X gX D m d wr hB.out.f hN.out.rows hL.out hm64
      obtain ⟨nl, hnl⟩ : ∃ l, l = newF f X kept := ⟨_, rfl⟩
      rw [← hnl] at cNk
      replace cNk := Lib.hid cNk
      replace gX := Lib.hid gX
      obtain ⟨la, hla⟩ : ∃ n, n = al.length := ⟨_, rfl⟩
      rw [← hla] at hown halm halk
      replace hla := Lib.hid hla
      replace hX := Lib.hid hX
      replace hal := Lib.hid hal
      replace hnl := Lib.hid hnl
      have p0 := hB.out.c0
      have p1 := hB.out.c1
      have p2 := hB.out.c2
      have n0 := hN.out.loc.c0
      have n1 := hN.out.loc.c1
      go_wp2_with fail
      refine cNk.out.mono ?_; rintro e w3 ⟨E, ne, ce, rfl, hE, hnc, hcm, b, hEf⟩
      have hnel := Lib.hid hE.len
      have hub := Lib.hid (own_block_lt hown.out)
      replace hown := Lib.hid (own_below hown.out b)
      replace hB := Lib.hid (hB.out.later b)
      replace hN := Lib.hid (hN.out.later b)
      replace hbb := Lib.hid (below_trans2 hbb.out b)
      have hwr3 := b.size
      replace hRG := Lib.hid (show ∃ Bk, RowsG Bk w3 A2 v.m X ∧ ∀ g, u12.ownBlock = some g → g < Bk from by obtain ⟨Bk, h1, h2⟩ := hRG.out; exact ⟨Bk, h1.below b, h2⟩)
      replace hE := Lib.hid hE
      replace kR := kR.below_ b
      have hnlm : nl.length ≤ v.m * v.m := by rw [hnl.out]; exact hsn.out X
      clear p0 p1 p2 n0 n1 b
      rcases Nat.eq_zero_or_pos ne with hz | hz
      · subst hz
        have hnil : Hid (newF f (seX f kept B k) kept = []) := Lib.hid (by
          have h1 := hnel.out
          rw [hnl.out, hX.out] at h1
          exact List.eq_nil_of_length_eq_zero h1)
        have n0 := hN.out.loc.c0
        have n1 := hN.out.loc.c1
        have f0 := kR.c0
        have f1 := kR.c1
        have g0 := kR.frozen 0
        have g1 := kR.frozen 1
        have hcc := kR.two (.int .i64 (v.m : Int)) (.slice A2 v.m d2)
        have hd1 := Lib.hid hcc.1
        have hd2 := Lib.hid hcc.2
        have hrf := Lib.hid (hN.out.rows.putB kR (fun h0 => hN.out.rows.farZ kR (rows_len_pos gX.out h0) h0) (.int .i64 (v.m : Int)) (.slice A2 v.m d2))
        have hbf := Lib.hid ((hB.out.o.setCell (p := ⟨gr, 0, none⟩) hgw.out (.int .i64 (v.m : Int))).setCell (p := ⟨gr, 1, none⟩) hgw.out (.slice A2 v.m d2))
        have hown2 := own_farT (i := 1) (own_farT (i := 0) hown.out kR (by decide) (.int .i64 (v.m : Int))) (Blk.set_ kR 0 (.int .i64 (v.m : Int))) (by decide) (.slice A2 v.m d2)
        obtain ⟨A', c', rfl, hnc', hcm', hLA⟩ := LAt.of_own hown2 (by rw [hal.out]; exact hsk.out k) hla.out.symm
        have hcap := Lib.hid hN.out.cap
        replace hLA := Lib.hid hLA
        clear hcc kR hown hown2 hN hRG
        go_wp2_with fail
        exact bodyPost_ret (v := .tuple #[.agg #[.int .i64 (v.m : Int), .slice A2 v.m d2], .slice A' la c', .int .i64 ((k + 1 : Nat) : Int), .int .i64 0]) (by simp [results, Tryz.results10, go_sem, hd1.out, hd2.out]) rfl ⟨k, A2, d2, A', la, c', rfl, ⟨hne.out, hnil.out⟩, by rw [← hX.out]; exact hrf.out, hcap.out, by rw [← hal.out]; exact hLA.out, hnc', hcm', hbf.out⟩
      · have hnep : Hid (newF f (seX f kept B k) kept ≠ []) := Lib.hid (fun h => by
          have h1 := hnel.out
          rw [hnl.out, hX.out, h] at h1
          simp at h1
          omega)
        have hbase := Lib.hid (show w9.heap.size ≤ w3.heap.size from Nat.le_trans hsz.out hwr3)
        have hnz : ((ne : Int) == 0) = false := by rw [beq_eq_false_iff_ne]; omega
        have hnl2 := hnel.out
        have hEM : Hid (∀ ad, E = some ad → ad.block ≠ M) := Lib.hid (fun ad e => by have := hEf ad e; have := hsz.out; omega)
        have hfgk := Lib.hid (hfg.out k)
        have hnpk := Lib.hid (hnp.out k)
        rw [← hX.out] at hfgk hnpk
        rw [← hnl.out] at hfgk hnpk
        clear hB kR
        go_wp2_with (at_builtin; refine wpList_append_L (E := encE) rfl (.tmp 46) (.tmp 47) _ rfl w9.heap.size 55 i0 _ 24 Tryz.underlying36 hi.out hz0.out hz1.out hz2.out rfl _ la al (by rfl) hown.out _ ne ce nl rfl hE.out (by unfold maxLen; omega) (by omega) hbase.out ?_; intro v' w7 hown' hb7 hg7 _)
        have hUw := hbb.out.size
        have hbb7 := Lib.hid (hbb.out.trans (hb7.mono (by omega)))
        have hE7 := Lib.hid (hE.out.grown18 hg7 (fun ad e h => by have := hub.out _ h; have := hEf ad e; omega))
        have hR7 : RowsAt w7 A2 v.m X := by obtain ⟨Bk, h1, h2⟩ := hRG.out; exact (h1.grown hg7 h2).at
        have hN7 := Lib.hid (show MV w7 M v.m A2 d2 X from ⟨hN.out.loc.belowB hb7 hMB, hR7, hN.out.cap, hN.out.far⟩)
        have hsz7 := Lib.hid (show w9.heap.size ≤ w7.heap.size from Nat.le_trans hbase.out hb7.size)
        replace hown' := Lib.hid hown'
        clear hR7 hbb hE hN hRG hub hown hb7 hg7 hnz
        go_loopw [15] (fun t wr => ∃ (q : Nat) (A3 : Option Addr) (d3 : Nat) (Y : List (List Nat)), q ≤ ne ∧ t = .int .i64 (q : Int) ∧ Hid (Y = (edP (nl.take q)).foldl setP X) ∧ Hid (Below U.heap.size U wr) ∧ Hid (MV wr M v.m A3 d3 Y) ∧ Hid (wr.ownsRow w9.heap.size 55 3 v' (la + ne) (encE.all (al ++ nl))) ∧ Hid (LAt encE wr E ne nl) ∧ Hid (w9.heap.size ≤ wr.heap.size)) (fun t _ => ne - (intOf t).toNat)
        case atStart => exact ⟨0, A2, d2, X, Nat.zero_le _, rfl, Lib.hid rfl, hbb7, hN7, hown', hE7, hsz7⟩
        case round =>
          clear hbb7 hN7 hown' hE7 hsz7
          obtain ⟨q, A3, d3, Y, hq, rfl, hY, hbb, hN, hown, hE, hsz'⟩ := hrel
          have hgY := hfgk.out q
          rw [← hY.out] at hgY
          replace hgY := Lib.hid hgY
          by_cases hlt : q < ne
          · have hlt' : (q : Int) < (ne : Int) := by omega
            have bq : 0 ≤ (q : Int) ∧ (q : Int) < (ne : Int) := by omega
            obtain ⟨eb, eo, x, hEe, heb, hx, hxo, x0, x1, x2⟩ := hE.out.edge hlt
            have hin := hnpk.out q x hx
            have hYn := edP_take hx X
            rw [← hY.out] at hYn
            have hgN := hfgk.out (q + 1)
            rw [hYn] at hgN
            replace hYn := Lib.hid hYn.symm
            replace hgN := Lib.hid hgN
            obtain ⟨xa, xb, xr⟩ := x
            simp only at x0 x1 hin hYn hgN
            have cS := Lib.hid (fun W (hW : RowsAt W A3 v.m Y) => ref3_SetF (v.m : Int) A3 v.m d3 Y xa xb W hW rfl (by omega) (fun xs hx => Nat.le_trans (hgY.out.small xs hx) (by decide)) hin)
            subst hEe
            clear hx hxo x2 hin heb
            replace hlt := Lib.hid hlt
            go_wp2_with fail
            refine wp_region_planT 13 [(true, 0), (true, 1), (true, 2), (true, 3), (true, 4), (true, 5), (true, 6), (true, 7), (true, 8), (true, 9), (true, 10), (false, 11), (true, 12)] 15 [13, 14] (by kernel_rfl) (by kernel_rfl) (fun U2 hU => ?_)
            have hU' : Below wr.heap.size wr U2 := by rw [hU.out]; exact (Below.refl _ _).drew
            replace hbb := Lib.hid (below_trans2 hbb.out hU')
            replace hN := Lib.hid (hN.out.later hU')
            replace hown := Lib.hid (own_below hown.out hU')
            replace hE := Lib.hid (hE.out.below hU')
            replace x0 : U2.cell? ⟨eb, eo + q * 3, none⟩ = some (.int .i64 xa) := by rw [hU.out]; exact x0
            replace x1 : U2.cell? ⟨eb, eo + q * 3 + 1, none⟩ = some (.int .i64 xb) := by rw [hU.out]; exact x1
            replace hsz' := Lib.hid (Nat.le_trans hsz'.out hU'.size)
            clear hU hU'
            simp only [List.drop_succ_cons, List.drop_zero]
            have t0 := hN.out.loc.c0
            have t1 := hN.out.loc.c1
            iterate 11
              refine wpPlanE_float (v := ?_) rfl (by rfl) (fun w' hw' => ?_) (fun K hK => ?_)
              rotate_left
              · (go_simp; try with_reducible rfl)
              go_simp
              refine hK _ ?_
              clear hK K
            clear x0 x1 t0 t1
            refine wpPlanE_only rfl (by rfl) (fun K hK => ?_)
            go_simp
            refine (cS.out U2 hN.out.rows).mono ?_
            rintro e w8 ⟨C2, n2, c2, rfl, hrows2, hcap2, b4, hfar2⟩
            obtain rfl : n2 = v.m := by rw [← hrows2.len]; exact hgN.out.len
            refine hK _ _ b4 ?_
            clear hK K
            have hT4 := Lib.hid (hN.out.put b4 hrows2 hcap2 hfar2)
            have kM := hN.out.loc.below_ b4
            have hbb4 := Lib.hid (((below_trans2 hbb.out b4).setCell (p := ⟨M, 0, none⟩) hUM (.int .i64 (v.m : Int))).setCell (p := ⟨M, 1, none⟩) hUM (.slice C2 v.m c2))
            have hown4 := Lib.hid (own_farT (i := 1) (own_farT (i := 0) (own_below hown.out b4) kM (by decide) (.int .i64 (v.m : Int))) (Blk.set_ kM 0 (.int .i64 (v.m : Int))) (by decide) (.slice C2 v.m c2))
            have hE4 := Lib.hid (((hE.out.below b4).setFar (p := ⟨M, 0, none⟩) hEM.out (.int .i64 (v.m : Int))).setFar (p := ⟨M, 1, none⟩) hEM.out (.slice C2 v.m c2))
            have hsz4 := Lib.hid (show w9.heap.size ≤ ((w8.setCell ⟨M, 0, none⟩ (.int .i64 (v.m : Int))).setCell ⟨M, 1, none⟩ (.slice C2 v.m c2)).heap.size from by have := hsz'.out; have := b4.size; simp; omega)
            clear cS hrows2 hfar2 b4 hown hE hN hbb hsz'
            iterate 1
              refine wpPlanE_float (v := ?_) rfl (by rfl) (fun w' hw' => ?_) (fun K hK => ?_)
              rotate_left
              · (go_simp; try with_reducible rfl)
              go_simp
              refine hK _ ?_
              clear hK K
            refine wpPlanE_nil ?_
            iterate 2
              refine wpPlanT_float (v := ?_) rfl (by rfl) (fun w' => ?_) (fun K hK => ?_)
              rotate_left
              · (go_simp; try with_reducible rfl)
              go_simp
              refine hK _ ?_
              clear hK K
            refine wpPlanT_nil ?_
            have m0 := kM.c0
            have m1 := kM.c1
            have g0 := kM.frozen 0
            have g1 := kM.frozen 1
            clear kM
            go_wp2_with fail
            refine NoPanic.normal ?_
            go_wp2_with fail
            go_roundw
            case rel => exact ⟨q + 1, C2, c2, _, by have := hlt.out; omega, by go_num, hYn, hbb4, hT4, hown4, hE4, hsz4⟩
            case measure => simp [intOf]; have := hlt.out; omega
          · have hlt' : ¬ (q : Int) < (ne : Int) := by omega
            obtain rfl : q = ne := by omega
            have hYe : Hid (closeK Y v.m = seX f kept B (k + 1)) := Lib.hid (by rw [hst.out, hY.out, List.take_of_length_le (by rw [hnl2]; exact Nat.le_refl _), hnl.out, hX.out])
            have hsL : Hid (seL f kept B (k + 1) = al ++ nl) := Lib.hid (by rw [hal.out, hnl.out, hX.out]; rfl)
            have cC := ref4_CloseG A3 v.m d3 Y wr hN.out.rows hgY.out hm
            rw [hYe.out] at cC
            replace cC := Lib.hid cC
            have hgC := Lib.hid (hsg.out (k + 1))
            have hub := Lib.hid (own_block_lt hown.out)
            have hnx : Hid (∀ j, j < k + 1 → newF f (seX f kept B j) kept ≠ []) := Lib.hid (fun j hj => by
              rcases Nat.lt_succ_iff_lt_or_eq.1 hj with h1 | h1
              · exact hne.out j h1
              · rw [h1]; exact hnep.out)
            have hlen : Hid ((seL f kept B (k + 1)).length = la + q) := Lib.hid (by rw [hsL.out, List.length_append, hnl2, hla.out])
            have t0 := hN.out.loc.c0
            have t1 := hN.out.loc.c1
            clear hlt hE hnl2
            go_wp2_with fail
            refine cC.out.mono ?_; rintro e w8 ⟨C2, n2, c2, rfl, hrows2, hcap2, b4⟩
            obtain rfl : n2 = v.m := by rw [← hrows2.at.len]; exact hgC.out.len
            have kM := hN.out.loc.below_ b4
            have hMw : M < wr.heap.size := by have := hsz'.out; omega
            have hfar2 : 0 < v.m → ∀ ad, C2 = some ad → ad.block ≠ M := fun h0 ad e => by
              obtain ⟨vs, -, -, h3, -⟩ := hrows2
              have := h3 ad e
              omega
            have hT4 := Lib.hid (show MV ((w8.setCell ⟨M, 0, none⟩ (.int .i64 (v.m : Int))).setCell ⟨M, 1, none⟩ (.slice C2 v.m c2)) M v.m C2 c2 (seX f kept B (k + 1)) from ⟨kM.put _ _ _ _, hrows2.at.putB kM hfar2 _ _, hcap2, hfar2⟩)
            have hRG4 : Hid (∃ Bk, RowsG Bk ((w8.setCell ⟨M, 0, none⟩ (.int .i64 (v.m : Int))).setCell ⟨M, 1, none⟩ (.slice C2 v.m c2)) C2 v.m (seX f kept B (k + 1)) ∧ ∀ g, v'.ownBlock = some g → g < Bk) := Lib.hid ⟨wr.heap.size, hrows2.putB kM hfar2 _ _, hub.out⟩
            have hbb4 := Lib.hid (((below_trans2 hbb.out b4).setCell (p := ⟨M, 0, none⟩) hUM (.int .i64 (v.m : Int))).setCell (p := ⟨M, 1, none⟩) hUM (.slice C2 v.m c2))
            have hown4 := own_farT (i := 1) (own_farT (i := 0) (own_below hown.out b4) kM (by decide) (.int .i64 (v.m : Int))) (Blk.set_ kM 0 (.int .i64 (v.m : Int))) (by decide) (.slice C2 v.m c2)
            rw [← hsL.out, ← hlen.out] at hown4
            replace hown4 := Lib.hid hown4
            have hsz4 := Lib.hid (show w9.heap.size ≤ ((w8.setCell ⟨M, 0, none⟩ (.int .i64 (v.m : Int))).setCell ⟨M, 1, none⟩ (.slice C2 v.m c2)).heap.size from by have := hsz'.out; have := b4.size; simp; omega)
            have m0 := kM.c0
            have m1 := kM.c1
            have g0 := kM.frozen 0
            have g1 := kM.frozen 1
            clear kM t0 t1 hown hN hbb hrows2 b4 hub
            go_wp2_with fail
            exact ⟨⟨k + 1, C2, c2, by go_num, hnx, hbb4, hT4, hown4, hRG4, hsz4⟩, by simp [intOf]; omega⟩
end Go.Proofs.YtbeigdbljepfkaaGreat
