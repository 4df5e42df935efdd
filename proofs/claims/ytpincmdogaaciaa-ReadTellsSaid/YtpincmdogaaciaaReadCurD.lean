/- The code's own contracts of layer 7: a number, an operation, by a model of a cursor. -/
import Derived.Test.YtpincmdogaaciaaReadCurC
import Derived.Test.YtpincmdogaaciaaReadRefB
namespace Go.Proofs.Ytpincmdogaaciaa
open Go.RowKit
set_option linter.unusedVariables false

set_option maxRecDepth 100000 in
set_option maxHeartbeats 1000000 in
theorem cur_number (g : Nat) (S : CS) (w : World) (hC : CurS w g S) (hO : S.Ok) :
    Calls Try.prog 26 #[.pointer (some ⟨g, 0, none⟩)] w (RetCur g (.int .i64 (numVS S)) (numS S) w) := by
  obtain ⟨ai, hai⟩ : ∃ ai : Int, ai = (S.a : Int) := ⟨_, rfl⟩
  obtain ⟨m, hm⟩ : ∃ m, m = spanN (restS S) := ⟨_, rfl⟩
  have hax := hO.ax
  have hx := hO.x
  have hmle : S.a + m ≤ S.x.size := by
    have := spanN_le (restS S)
    rw [restS_len, ← hm] at this
    omega
  have hsz : spanZ S.x ai = m := by rw [hm]; unfold spanZ; rw [if_pos (by omega), hai]; rfl
  obtain ⟨p, hp⟩ : ∃ p : Int, p = ai + (m : Int) := ⟨_, rfl⟩
  have hp0 : 0 ≤ ai := by omega
  have hp1 : ai ≤ p := by omega
  have hp2 : p ≤ (S.x.size : Int) := by omega
  obtain ⟨y, hy⟩ : ∃ y, y = S.x.extract ai.toNat p.toNat := ⟨_, rfl⟩
  have hyl : y.data.toList = numAt (restS S) := by
    rw [hy, ByteArray.data_extract, Array.toList_extract, List.extract, hp, hai]
    unfold numAt restS
    rw [← show m = spanN (S.x.data.toList.drop S.a) from hm, show ((S.a : Int) + (m : Int)).toNat - (S.a : Int).toNat = m by omega]
    rfl
  have hys : y.size ≤ 1073741824 := by rw [hy, ByteArray.size_extract]; omega
  have hsl : ∀ W', (Instr.slice 9 (.string S.x) (some (.int .i64 ai)) (some (.int .i64 p)) none).run Try.prog W' = .ok (.string y) W' := fun W' => by
    rw [run_slice_string W' _ S.x .i64 .i64 ai p Try.underlying9 hp0 hp1 hp2, hy]
  have hwi : IntKind.i64.wrap (ai + (m : Int)) = p := by rw [IntKind.wrap_i64]; omega
  obtain ⟨gv, hgv⟩ : ∃ gv, gv = getV (numAt (restS S)) := ⟨_, rfl⟩
  obtain ⟨ge, hge⟩ : ∃ ge, ge = getE (numAt (restS S)) := ⟨_, rfl⟩
  have cG := fun W => num_Get y W hys
  unfold RetGet at cG
  rw [hyl, ← hgv, ← hge] at cG
  have cS := fun W => num_Span S.x ai W hx (by omega) (by omega)
  rw [hsz] at cS
  have hpN : p = ((S.a + m : Nat) : Int) := by omega
  have hnum0 := Lib.hid (show ge = 0 → numS S = atS S m ∧ numVS S = gv from fun h => by
    rw [hge] at h
    exact ⟨by unfold numS; rw [if_pos h, hm], by unfold numVS; rw [if_pos h, hgv]⟩)
  have hnum1 := Lib.hid (show ge ≠ 0 → numS S = stopS S ge ∧ numVS S = 0 from fun h => by
    rw [hge] at h ⊢
    exact ⟨if_neg h, if_neg h⟩)
  replace cG := Lib.hid cG
  replace cS := Lib.hid cS
  replace hgv := Lib.hid hgv
  replace hge := Lib.hid hge
  replace hyl := Lib.hid hyl
  replace hy := Lib.hid hy
  replace hsz := Lib.hid hsz
  replace hm := Lib.hid hm
  replace hai := Lib.hid hai
  replace hp := Lib.hid hp
  replace hpN := Lib.hid hpN
  go_enter Try.func26, Try.ntmps26
  go_wp2_with fail
  refine wp_region_plan 15 [(true, 0), (true, 1), (true, 2), (true, 3), (true, 4), (true, 5), (true, 6), (true, 7), (true, 8), (true, 9), (true, 10), (true, 11), (false, 12), (true, 13), (true, 14)] (by kernel_rfl) (by kernel_rfl) (fun V hV => ?_)
  have hCV : CurS V g S := by rw [hV.out]; exact hC
  have bb := Lib.hid (show BelowB g w V from by rw [hV.out]; exact BelowB.of (Below.refl _ _).drew)
  have q0 := hCV.c0
  have q1 := hCV.c1
  rw [← hai.out] at q1
  clear hV hC
  simp only [List.drop_succ_cons, List.drop_nil]
  iterate 12
    refine wpPlan_float (v := ?_) rfl (by rfl) (fun w' hw' => ?_) (fun K hK => ?_)
    rotate_left
    · (go_simp; try with_reducible rfl)
    go_simp
    refine hK _ ?_
    clear hK K
  refine wpPlan_only rfl (by rfl) (fun K hK => ?_)
  go_simp
  refine (cS.out _).mono ?_
  rintro e w1 ⟨rfl, b1⟩
  refine hK _ _ b1 ?_
  clear hK K
  replace bb := Lib.hid (bb.out.next b1)
  replace hCV := Lib.hid (hCV.below b1)
  clear q0 q1 b1
  iterate 2
    refine wpPlan_float (v := ?_) rfl (by rfl) (fun w' hw' => ?_) (fun K hK => ?_)
    rotate_left
    · (go_simp; try with_reducible rfl)
    go_simp
    refine hK _ ?_
    clear hK K
  refine wpPlan_nil (NoPanic.normal ?_)
  go_wp2_with fail
  refine wp_region_plan 16 [(true, 0), (true, 1), (true, 2), (true, 3), (true, 4), (true, 5), (true, 6), (true, 7), (true, 8), (true, 9), (false, 10), (true, 11), (true, 12), (true, 13), (true, 14), (true, 15)] (by kernel_rfl) (by kernel_rfl) (fun U hU => ?_)
  have hCU : CurS U g S := by rw [hU.out]; exact hCV.out
  replace bb := Lib.hid (show BelowB g w U from by rw [hU.out]; exact bb.out.next (Below.refl _ _).drew)
  have q0 := hCU.c0
  have q1 := hCU.c1
  rw [← hai.out] at q1
  clear hU hCV
  simp only [List.drop_succ_cons, List.drop_nil]
  iterate 10
    refine wpPlan_float (v := ?_) rfl (by rfl) (fun w' hw' => ?_) (fun K hK => ?_)
    rotate_left
    · (go_simp; try with_reducible rfl)
    go_simp
    refine hK _ ?_
    clear hK K
  refine wpPlan_only rfl (by rfl) (fun K hK => ?_)
  go_simp
  refine (cG.out _).mono ?_
  rintro e w2 ⟨rfl, b2⟩
  refine hK _ _ b2 ?_
  clear hK K
  replace bb := Lib.hid (bb.out.next b2)
  replace hCU := Lib.hid (hCU.below b2)
  clear q0 q1 b2
  iterate 5
    refine wpPlan_float (v := ?_) rfl (by rfl) (fun w' hw' => ?_) (fun K hK => ?_)
    rotate_left
    · (go_simp; try with_reducible rfl)
    go_simp
    refine hK _ ?_
    clear hK K
  refine wpPlan_nil (NoPanic.normal ?_)
  by_cases h0 : ge = 0
  · have e0 : (ge != 0) = false := by simp [h0]
    have q1 := hCU.out.c1
    have f1 := Blk.frozen hCU.out 1
    have hC4 := Lib.hid (show CurS (w2.setCell ⟨g, 1, none⟩ (.int .i64 p)) g (atS S m) from by rw [hpN.out]; exact CurS.seta hCU.out)
    have hr := Lib.hid (hnum0.out h0)
    replace h0 := Lib.hid h0
    go_wp2_with fail
    go_ret
    rw [hr.out.1, hr.out.2]
    exact ⟨rfl, hC4.out, bb.out.set _ _⟩
  · have e0 : (ge != 0) = true := by simp [h0]
    have cT := Lib.hid (cur_stop g S ge w2 hCU.out hO)
    have hr := Lib.hid (hnum1.out h0)
    replace h0 := Lib.hid h0
    go_wp2_with fail
    refine cT.out.mono ?_; rintro e w3 ⟨rfl, hC3, b3⟩
    go_wp2_with fail
    go_ret
    rw [hr.out.1, hr.out.2]
    exact ⟨rfl, hC3, bb.out.trans b3⟩
/-- an operation by the model: what is answered, and where the cursor stands behind it -/
def opS0 (S : CS) : CS := mustS (beginS S) 58
def opS1 (S : CS) : CS := mustS (nameS (opS0 S)) 61
def opOf (S : CS) : OpT := (onS S 119, nmS (opS0 S), numVS (opS1 S))
def opTo (S : CS) : CS := numS (opS1 S)
theorem opS0_ok {S : CS} (h : S.Ok) : (opS0 S).Ok := mustS_ok (beginS_ok h) _
theorem opS1_ok {S : CS} (h : S.Ok) : (opS1 S).Ok := mustS_ok (nameS_ok (opS0_ok h)) _
theorem opTo_ok {S : CS} (h : S.Ok) : (opTo S).Ok := numS_ok (opS1_ok h)
theorem BelowB.setNew {g : Nat} {a w' : World} (h : BelowB g a w') {p : Addr} (hp : a.heap.size ≤ p.block) (u : Value) : BelowB g a (w'.setCell p u) :=
  ⟨h.os, h.tape, h.output, by simpa using h.size, fun k hk hg => (Below.heap_setCell w' p u k (by omega)).trans (h.block k hk hg)⟩
theorem BelowB.allocN {g : Nat} {a w' : World} (h : BelowB g a w') (o : Obj) : BelowB g a (w'.alloc o) := h.next ((Below.refl _ _).alloc (Nat.le_refl _) _)
set_option maxRecDepth 100000 in
set_option maxHeartbeats 1000000 in
theorem cur_op (g : Nat) (S : CS) (w : World) (hC : CurS w g S) (hO : S.Ok) :
    Calls Try.prog 19 #[.pointer (some ⟨g, 0, none⟩)] w (RetCur g (.agg #[.bool (opOf S).1, .string (opOf S).2.1, .int .i64 (opOf S).2.2]) (opTo S) w) := by
  have hgw := hC.lt
  obtain ⟨gr, hgr⟩ : ∃ g, g = w.heap.size := ⟨_, rfl⟩
  obtain ⟨W0, hW0⟩ : ∃ W, W = w.alloc (.cells #[.bool false, .string ⟨#[]⟩, .int .i64 0] 35) := ⟨_, rfl⟩
  have kr := Lib.hid (show Op3 W0 gr 35 opZ from by rw [hW0, hgr]; exact Op3.new _ _ opZ)
  have b0 : Below w.heap.size w W0 := by rw [hW0]; exact (Below.refl _ _).alloc (Nat.le_refl _) _
  have hC0 := hC.below b0
  have cO := Lib.hid (cur_on g S 119 W0 hC0 hO (by omega))
  obtain ⟨T, hT⟩ : ∃ T, T = opTo S := ⟨_, rfl⟩
  obtain ⟨ow, how⟩ : ∃ x, x = onS S 119 := ⟨_, rfl⟩
  obtain ⟨S1, hS1⟩ : ∃ x, x = beginS S := ⟨_, rfl⟩
  obtain ⟨S2, hS2⟩ : ∃ x, x = mustS S1 58 := ⟨_, rfl⟩
  obtain ⟨S3, hS3⟩ : ∃ x, x = nameS S2 := ⟨_, rfl⟩
  obtain ⟨S4, hS4⟩ : ∃ x, x = mustS S3 61 := ⟨_, rfl⟩
  have hO1 := Lib.hid (show S1.Ok from by rw [hS1]; exact beginS_ok hO)
  have hO2 := Lib.hid (show S2.Ok from by rw [hS2]; exact mustS_ok hO1.out _)
  have hO3 := Lib.hid (show S3.Ok from by rw [hS3]; exact nameS_ok hO2.out)
  have hO4 := Lib.hid (show S4.Ok from by rw [hS4]; exact mustS_ok hO3.out _)
  obtain ⟨nm, hnm⟩ : ∃ x, x = nmS S2 := ⟨_, rfl⟩
  obtain ⟨nv, hnv⟩ : ∃ x, x = numVS S4 := ⟨_, rfl⟩
  have hres := Lib.hid (show opOf S = (ow, nm, nv) ∧ opTo S = numS S4 from by
    rw [hnm, hnv, how, hS4, hS3, hS2, hS1]; exact ⟨rfl, rfl⟩)
  clear hT T
  rw [← how] at cO
  replace b0 := Lib.hid (BelowB.of (g := g) b0)
  replace hC0 := Lib.hid hC0
  replace how := Lib.hid how
  replace hS1 := Lib.hid hS1
  replace hS2 := Lib.hid hS2
  replace hS3 := Lib.hid hS3
  replace hS4 := Lib.hid hS4
  replace hnm := Lib.hid hnm
  replace hnv := Lib.hid hnv
  clear hC
  go_enter Try.func19, Try.ntmps19
  go_wp2_with (rw [← hW0, ← hgr]; clear hW0)
  refine cO.out.mono ?_; rintro e w1 ⟨rfl, b1⟩
  have hgs : g < w1.heap.size := by have := b1.size; have := b0.out.size; omega
  have hgo : gr < w1.heap.size := by have := b1.size; have := kr.out.lt; omega
  replace kr := Lib.hid (kr.out.below b1)
  have hC := Lib.hid (hC0.out.below b1)
  have bb := Lib.hid (b0.out.next b1)
  clear b1 b0 hC0 cO
  obtain ⟨go, hgo'⟩ : ∃ x, x = w1.heap.size := ⟨_, rfl⟩
  obtain ⟨V0, hV0⟩ : ∃ V0, V0 = w1.alloc (.cells #[.bool false, .string ⟨#[]⟩, .int .i64 0] 35) := ⟨_, rfl⟩
  obtain ⟨V, hV⟩ : ∃ V, V = ((V0.setCell ⟨go, 0, none⟩ (.bool ow)).setCell ⟨go, 1, none⟩ (.string ⟨#[]⟩)).setCell ⟨go, 2, none⟩ (.int .i64 0) := ⟨_, rfl⟩
  have k0 := show Op3 V0 go 35 opZ from by rw [hV0, hgo']; exact Op3.new _ _ opZ
  have ko := Lib.hid (show Op3 V go 35 (ow, ⟨#[]⟩, 0) from by rw [hV]; exact k0.put (ow, ⟨#[]⟩, 0))
  have p0 : V0.cell? ⟨go, 0, none⟩ = some (.bool false) := k0.c0
  have p1 : V0.cell? ⟨go, 1, none⟩ = some (.string ⟨#[]⟩) := k0.c1
  have p2 : V0.cell? ⟨go, 2, none⟩ = some (.int .i64 0) := k0.c2
  have f0 := Blk.frozen k0 0
  have f1 := Blk.frozen k0 1
  have f2 := Blk.frozen k0 2
  have hwo : w.heap.size ≤ go := by rw [hgo']; exact bb.out.size
  have hne1 : Hid (gr ≠ g) := Lib.hid (by omega)
  have hne2 : Hid (go ≠ g) := Lib.hid (by omega)
  have hne3 : Hid (gr ≠ go) := Lib.hid (by omega)
  replace bb := Lib.hid (show BelowB g w V from by
    rw [hV, hV0]; exact ((((bb.out.allocN _).setNew hwo _).setNew hwo _).setNew hwo _))
  replace kr := Lib.hid (show Op3 V gr 35 opZ from by
    rw [hV, hV0]; exact Blk.far (Blk.far (Blk.far (Blk.alloc kr.out _) (p := ⟨go, 0, none⟩) hne3.out _) (p := ⟨go, 1, none⟩) hne3.out _) (p := ⟨go, 2, none⟩) hne3.out _)
  replace hC := Lib.hid (show CurS V g S from by
    rw [hV, hV0]; exact Blk.far (Blk.far (Blk.far (Blk.alloc hC.out _) (p := ⟨go, 0, none⟩) (fun h => hne2.out h.symm) _) (p := ⟨go, 1, none⟩) (fun h => hne2.out h.symm) _) (p := ⟨go, 2, none⟩) (fun h => hne2.out h.symm) _)
  replace hgr := Lib.hid hgr
  clear k0 hgs hgo hgw
  replace hwo := Lib.hid hwo
  have c := Lib.hid (cur_begin g S _ hC.out hO)
  rw [← hS1.out] at c
  go_wp2_with (first
    | (rw [← hV0, ← hgo']; clear hV0 hgo')
    | (rw [← hV]; clear hV))
  clear p0 p1 p2 f0 f1 f2
  refine c.out.mono ?_; rintro e w2 ⟨rfl, hC', b⟩
  replace kr := Lib.hid (b.blk kr.out hne1.out)
  replace ko := Lib.hid (b.blk ko.out hne2.out)
  replace bb := Lib.hid (bb.out.trans b)
  replace hC := Lib.hid hC'
  clear c b hC'
  have c := Lib.hid (cur_must g S1 58 _ hC.out hO1.out (by omega))
  rw [← hS2.out] at c
  go_wp2_with fail
  refine c.out.mono ?_; rintro e w3 ⟨rfl, hC', b⟩
  replace kr := Lib.hid (show Op3 w3 gr 35 opZ from b.blk kr.out hne1.out)
  replace ko := Lib.hid (show Op3 w3 go 35 (ow, ⟨#[]⟩, 0) from b.blk ko.out hne2.out)
  replace bb := Lib.hid (bb.out.trans b)
  replace hC := Lib.hid hC'
  clear c b hC'
  have c := Lib.hid (cur_name g S2 _ hC.out hO2.out)
  rw [← hS3.out, ← hnm.out] at c
  go_wp2_with fail
  refine c.out.mono ?_; rintro e w4 ⟨rfl, hC', b⟩
  replace kr := Lib.hid (show Op3 w4 gr 35 opZ from b.blk kr.out hne1.out)
  replace ko := Lib.hid (show Op3 w4 go 35 (ow, ⟨#[]⟩, 0) from b.blk ko.out hne2.out)
  replace bb := Lib.hid (bb.out.trans b)
  replace hC := Lib.hid hC'
  clear c b hC'
  have q1 := ko.out.c1
  have f1 := Blk.frozen ko.out 1
  obtain ⟨V4, hV4⟩ : ∃ V, V = w4.setCell ⟨go, 1, none⟩ (.string nm) := ⟨_, rfl⟩
  replace ko := Lib.hid (show Op3 V4 go 35 (ow, nm, 0) from by rw [hV4]; exact Blk.set_ ko.out 1 _)
  replace kr := Lib.hid (show Op3 V4 gr 35 opZ from by rw [hV4]; exact Blk.far kr.out (p := ⟨go, 1, none⟩) hne3.out _)
  replace hC := Lib.hid (show CurS V4 g S3 from by rw [hV4]; exact Blk.far hC.out (p := ⟨go, 1, none⟩) (fun h => hne2.out h.symm) _)
  replace bb := Lib.hid (show BelowB g w V4 from by rw [hV4]; exact bb.out.setNew hwo.out _)
  have c := Lib.hid (cur_must g S3 61 _ hC.out hO3.out (by omega))
  rw [← hS4.out] at c
  go_wp2_with (rw [← hV4]; clear hV4)
  clear q1 f1
  refine c.out.mono ?_; rintro e w5 ⟨rfl, hC', b⟩
  replace kr := Lib.hid (show Op3 w5 gr 35 opZ from b.blk kr.out hne1.out)
  replace ko := Lib.hid (show Op3 w5 go 35 (ow, nm, 0) from b.blk ko.out hne2.out)
  replace bb := Lib.hid (bb.out.trans b)
  replace hC := Lib.hid hC'
  clear c b hC'
  have c := Lib.hid (cur_number g S4 _ hC.out hO4.out)
  rw [← hnv.out] at c
  go_wp2_with fail
  refine c.out.mono ?_; rintro e w6 ⟨rfl, hC', b⟩
  replace kr := Lib.hid (show Op3 w6 gr 35 opZ from b.blk kr.out hne1.out)
  replace ko := Lib.hid (show Op3 w6 go 35 (ow, nm, 0) from b.blk ko.out hne2.out)
  replace bb := Lib.hid (bb.out.trans b)
  replace hC := Lib.hid hC'
  clear c b hC'
  have q2 := ko.out.c2
  have f2 := Blk.frozen ko.out 2
  obtain ⟨V6, hV6⟩ : ∃ V, V = w6.setCell ⟨go, 2, none⟩ (.int .i64 nv) := ⟨_, rfl⟩
  replace ko := Lib.hid (show Op3 V6 go 35 (ow, nm, nv) from by rw [hV6]; exact Blk.set_ ko.out 2 _)
  replace kr := Lib.hid (show Op3 V6 gr 35 opZ from by rw [hV6]; exact Blk.far kr.out (p := ⟨go, 2, none⟩) hne3.out _)
  replace hC := Lib.hid (show CurS V6 g (numS S4) from by rw [hV6]; exact Blk.far hC.out (p := ⟨go, 2, none⟩) (fun h => hne2.out h.symm) _)
  replace bb := Lib.hid (show BelowB g w V6 from by rw [hV6]; exact bb.out.setNew hwo.out _)
  have p0 := ko.out.c0
  have p1 := ko.out.c1
  have p2 := ko.out.c2
  have i0 := Blk.frozen kr.out 0
  have i1 := Blk.frozen kr.out 1
  have i2 := Blk.frozen kr.out 2
  have j0 : World.cell? V6 ⟨gr, 0, none⟩ = some (.bool false) := kr.out.c0
  have j1 : World.cell? V6 ⟨gr, 1, none⟩ = some (.string ⟨#[]⟩) := kr.out.c1
  have j2 : World.cell? V6 ⟨gr, 2, none⟩ = some (.int .i64 0) := kr.out.c2
  have r0 := Op3.put0 kr.out (.bool ow)
  have r1 := Op3.put1 kr.out (.bool ow) (.string nm)
  have r2 := Op3.put2 kr.out (.bool ow) (.string nm) (.int .i64 nv)
  go_wp2_with (rw [← hV6]; clear hV6 q2 f2)
  rw [hres.out.1, hres.out.2]
  refine bodyPost_ret (v := .agg #[.bool ow, .string nm, .int .i64 nv]) (by simp [results, Try.results19, go_sem, r0, r1, r2]) rfl ⟨rfl, ?_, ?_⟩
  · exact Blk.far (Blk.far (Blk.far hC.out (p := ⟨gr, 0, none⟩) (fun h => hne1.out h.symm) _) (p := ⟨gr, 1, none⟩) (fun h => hne1.out h.symm) _) (p := ⟨gr, 2, none⟩) (fun h => hne1.out h.symm) _
  · have hwr : w.heap.size ≤ gr := by rw [hgr.out]; exact Nat.le_refl _
    exact ((bb.out.setNew (p := ⟨gr, 0, none⟩) hwr _).setNew (p := ⟨gr, 1, none⟩) hwr _).setNew (p := ⟨gr, 2, none⟩) hwr _
end Go.Proofs.Ytpincmdogaaciaa
