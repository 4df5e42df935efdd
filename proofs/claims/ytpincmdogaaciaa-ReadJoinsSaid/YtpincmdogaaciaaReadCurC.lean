/- The code's own contracts of layer 7: a name, a number, an operation, by a model of a cursor. -/
import Derived.Test.YtpincmdogaaciaaReadCurB
namespace Go.Proofs.Ytpincmdogaaciaa
open Go.RowKit
set_option linter.unusedVariables false

def restS (S : CS) : List UInt8 := S.x.data.toList.drop S.a
def lenS (S : CS) : Nat := nameN (restS S)
def nameS (S : CS) : CS := if lenS S = 0 then stopS S 2 else ⟨S.x, S.a + lenS S, S.o, S.e⟩
def nmS (S : CS) : ByteArray := ⟨((restS S).take (lenS S)).toArray⟩
def atS (S : CS) (k : Nat) : CS := ⟨S.x, S.a + k, S.o, S.e⟩
def numS (S : CS) : CS := if getE (numAt (restS S)) = 0 then atS S (spanN (restS S)) else stopS S (getE (numAt (restS S)))
def numVS (S : CS) : Int := if getE (numAt (restS S)) = 0 then getV (numAt (restS S)) else 0
theorem stopS_ok {S : CS} (h : S.Ok) (why : Int) : (stopS S why).Ok := by
  unfold stopS
  split
  · exact ⟨by show S.a ≤ (S.x.extract 0 S.a).size; rw [ByteArray.size_extract]; have := h.ax; omega, by show (S.x.extract 0 S.a).size ≤ _; rw [ByteArray.size_extract]; have := h.x; omega, h.o⟩
  · exact h
theorem passS_ok {S : CS} (h : S.Ok) (c : Nat) : (passS S c).Ok := by
  unfold passS
  split
  · rename_i h1; exact ⟨onS_len h1, h.x, h.o⟩
  · exact h
theorem mustS_ok {S : CS} (h : S.Ok) (c : Nat) : (mustS S c).Ok := by
  unfold mustS
  split
  · rename_i h1; exact ⟨onS_len h1, h.x, h.o⟩
  · exact stopS_ok h 2
theorem beginS_ok {S : CS} (h : S.Ok) : (beginS S).Ok := by
  unfold beginS
  split
  · exact stopS_ok h 2
  · rename_i h1
    split
    · exact stopS_ok h 3
    · have h2 : S.a < S.x.size := by
        rcases Classical.em (onS S 119 = true) with h3 | h3
        · exact onS_len h3
        · refine onS_len (c := 114) ?_
          cases h4 : onS S 114 with
          | true => rfl
          | false => exact absurd (by rw [h4, Bool.eq_false_iff.2 h3]; rfl) h1
      have := h.o
      exact ⟨h2, h.x, by show S.o + 1 ≤ 4096; omega⟩
theorem restS_len {S : CS} : (restS S).length = S.x.size - S.a := by unfold restS; rw [List.length_drop, size_list]
theorem lenS_le {S : CS} : lenS S ≤ S.x.size - S.a := by
  unfold lenS nameN
  refine Nat.le_trans (Nat.min_le_right _ _) ?_
  rw [← restS_len]
  exact (List.takeWhile_prefix _).length_le
theorem lenS_le8 {S : CS} : lenS S ≤ 8 := Nat.min_le_left _ _
theorem atS_ok {S : CS} (h : S.Ok) {k : Nat} (hk : k ≤ S.x.size - S.a) : (atS S k).Ok := ⟨by have := h.ax; show S.a + k ≤ S.x.size; omega, h.x, h.o⟩
theorem nameS_ok {S : CS} (h : S.Ok) : (nameS S).Ok := by
  unfold nameS
  split
  · exact stopS_ok h 2
  · exact atS_ok h lenS_le
theorem numS_ok {S : CS} (h : S.Ok) : (numS S).Ok := by
  unfold numS
  split
  · exact atS_ok h (by have := spanN_le (restS S); rwa [restS_len] at this)
  · exact stopS_ok h _
theorem CurS.seta {w : World} {g : Nat} {S : CS} {k : Nat} (h : CurS w g S) : CurS (w.setCell ⟨g, 1, none⟩ (.int .i64 ((S.a + k : Nat) : Int))) g (atS S k) := by
  have := Blk.set_ h 1 (.int .i64 ((S.a + k : Nat) : Int))
  exact this
/-- how much of the text is left, as the memory has it -/
def leftW (w : World) (g : Nat) (n : Nat) : Nat := match w.cell? ⟨g, 1, none⟩ with | some (.int _ a) => n - a.toNat | _ => 0
theorem leftW_is {w : World} {g n : Nat} {S : CS} (h : CurS w g S) : leftW w g n = n - S.a := by unfold leftW; rw [h.c1]; simp
theorem take_all (Q : List UInt8) {k : Nat} (h : ∀ j, j < k → ∃ c, Q[j]? = some c ∧ isAZ c = true) : ∀ c ∈ Q.take k, isAZ c = true := fun c hc => by
  obtain ⟨j, hj, e⟩ := List.mem_iff_getElem.1 hc
  rw [List.length_take] at hj
  obtain ⟨d, hd, hz⟩ := h j (by omega)
  rw [List.getElem_take] at e
  rw [List.getElem?_eq_getElem (by omega), e] at hd
  injection hd with hd
  rw [hd]; exact hz
/-- one more sign: may it be a name? -/
theorem nameL_more {Q : List UInt8} {k : Nat} {c : UInt8} (h : ∀ j, j < k → ∃ c, Q[j]? = some c ∧ isAZ c = true) (hc : Q[k]? = some c) : nameL (Q.take (k + 1)) = (isAZ c && decide (k < 8)) := by
  have hl : (Q.take (k + 1)).length = k + 1 := by rw [List.length_take]; have := (List.getElem?_eq_some_iff.1 hc).1; omega
  have ht : Q.take (k + 1) = Q.take k ++ [c] := by
    have := (List.getElem?_eq_some_iff.1 hc).1
    rw [List.take_add_one, hc]; rfl
  unfold nameL
  rw [hl, ht, List.all_append]
  have h1 : (Q.take k).all (fun c => decide (97 ≤ c.toNat) && decide (c.toNat ≤ 122)) = true := List.all_eq_true.2 (take_all Q h)
  rw [h1]
  have h2 : [c].all (fun c => decide (97 ≤ c.toNat) && decide (c.toNat ≤ 122)) = isAZ c := by simp [isAZ]
  rw [h2, decide_eq_true (by omega : 1 ≤ k + 1)]
  simp [Nat.lt_iff_add_one_le]
set_option maxRecDepth 100000 in
set_option maxHeartbeats 1000000 in
theorem cur_name (g : Nat) (S : CS) (w : World) (hC : CurS w g S) (hO : S.Ok) :
    Calls Try.prog 25 #[.pointer (some ⟨g, 0, none⟩)] w (RetCur g (.string (nmS S)) (nameS S) w) := by
  obtain ⟨Q, hQ⟩ : ∃ Q, Q = restS S := ⟨_, rfl⟩
  have hax := hO.ax
  have hx := hO.x
  have q1 := hC.c1
  obtain ⟨ai, hai⟩ : ∃ ai : Int, ai = (S.a : Int) := ⟨_, rfl⟩
  rw [← hai] at q1
  replace hai := Lib.hid hai
  replace hO := Lib.hid hO
  go_enter Try.func25, Try.ntmps25
  go_wp2_with fail
  clear q1
  go_loopw [29] (fun _ wr => ∃ k : Nat, k ≤ 8 ∧ S.a + k ≤ S.x.size ∧ Hid (CurS wr g (atS S k)) ∧ Hid (BelowB g w wr) ∧ Hid (∀ j, j < k → ∃ c, Q[j]? = some c ∧ isAZ c = true)) (fun _ wr => leftW wr g S.x.size)
  case atStart => exact ⟨0, by omega, by omega, Lib.hid hC, Lib.hid (BelowB.refl _ _), Lib.hid (fun j hj => absurd hj (by omega))⟩
  case round =>
    obtain ⟨k, hk, hkx, hCk, hB, hall⟩ := hrel
    go_wp2_with fail
    refine wp_region_plan 17 [(true, 0), (false, 1), (true, 2), (true, 3), (true, 4), (true, 5), (true, 6), (true, 7), (true, 8), (true, 9), (true, 10), (true, 11), (true, 12), (true, 13), (true, 14), (false, 15), (true, 16)] (by kernel_rfl) (by kernel_rfl) (fun V hV => ?_)
    have hC' : CurS V g (atS S k) := by rw [hV.out]; exact hCk.out
    have bb := Lib.hid (show BelowB g w V from by rw [hV.out]; exact hB.out.next (Below.refl _ _).drew)
    have cE := Lib.hid (cur_ended g (atS S k) V hC')
    have hm0 := Lib.hid (leftW_is (n := S.x.size) hCk.out)
    clear hV hC hB hCk
    simp only [List.drop_succ_cons, List.drop_nil]
    by_cases hlt : S.a + k < S.x.size
    · have he : (((atS S k).a : Int) == ((atS S k).x.size : Int)) = false := by show (((S.a + k : Nat) : Int) == (S.x.size : Int)) = false; simp; omega
      rw [he] at cE
      obtain ⟨p, hp⟩ : ∃ p : Int, p = ((S.a + k : Nat) : Int) := ⟨_, rfl⟩
      obtain ⟨y, hy⟩ : ∃ y, y = S.x.extract ai.toNat (p + 1).toNat := ⟨_, rfl⟩
      have hyl : y.data.toList = Q.take (k + 1) := by
        rw [hy, ByteArray.data_extract, Array.toList_extract, List.extract, hQ, hai.out, hp]
        unfold restS
        congr 1; omega
      have hys : y.size ≤ 9223372036854775807 := by rw [hy, ByteArray.size_extract]; omega
      have hsl : ∀ W', (Instr.slice 9 (.string S.x) (some (.int .i64 ai)) (some (.int .i64 (p + 1))) none).run Try.prog W' = .ok (.string y) W' := fun W' => by
        rw [run_slice_string W' _ S.x .i64 .i64 ai (p + 1) Try.underlying9 (by rw [hai.out]; omega) (by rw [hai.out, hp]; omega) (by rw [hp]; omega), hy]
      obtain ⟨c, hc⟩ : ∃ c : UInt8, S.x[S.a + k]'hlt = c := ⟨_, rfl⟩
      have hcQ : Q[k]? = some c := by rw [hQ]; unfold restS; rw [List.getElem?_drop, byte_at S.x (S.a + k) hlt, hc]
      have hnl := nameL_more hall.out hcQ
      rw [← hyl] at hnl
      have hwp : wrap64 (p + 1) = p + 1 := by rw [hp]; unfold wrap64; omega
      have hwi : IntKind.i64.wrap (p + 1) = p + 1 := by rw [IntKind.wrap_i64, hp]; omega
      obtain ⟨bn, hbn⟩ : ∃ bn, bn = nameL y.data.toList := ⟨_, rfl⟩
      replace hyl := Lib.hid hyl
      replace hy := Lib.hid hy
      replace hc := Lib.hid hc
      replace hcQ := Lib.hid hcQ
      replace hnl := Lib.hid hnl
      iterate 1
        refine wpPlan_float (v := ?_) rfl (by rfl) (fun w' hw' => ?_) (fun K hK => ?_)
        rotate_left
        · (go_simp; try with_reducible rfl)
        go_simp
        refine hK _ ?_
        clear hK K
      refine wpPlan_only rfl (by rfl) (fun K hK => ?_)
      go_simp
      refine cE.out.mono ?_
      rintro e w2 ⟨rfl, b2⟩
      refine hK _ _ b2 ?_
      clear hK K cE
      have hC2 := Lib.hid (hC'.below b2)
      replace bb := Lib.hid (bb.out.next b2)
      have q0 : w2.cell? ⟨g, 0, none⟩ = some (.string S.x) := hC2.out.c0
      have q1 : w2.cell? ⟨g, 1, none⟩ = some (.int .i64 ((S.a + k : Nat) : Int)) := hC2.out.c1
      rw [← hp] at q1
      have cN := Lib.hid (read_named y w2 hys)
      rw [← hbn] at cN
      replace hbn := Lib.hid hbn
      replace hp := Lib.hid hp
      clear b2 hC'
      iterate 13
        refine wpPlan_float (v := ?_) rfl (by rfl) (fun w' hw' => ?_) (fun K hK => ?_)
        rotate_left
        · (go_simp; try with_reducible rfl)
        go_simp
        refine hK _ ?_
        clear hK K
      refine wpPlan_only rfl (by rfl) (fun K hK => ?_)
      go_simp
      refine cN.out.mono ?_
      rintro e w3 ⟨rfl, b3⟩
      refine hK _ _ b3 ?_
      clear hK K cN
      have hC3 := Lib.hid (hC2.out.below b3)
      replace bb := Lib.hid (bb.out.next b3)
      clear b3 q0 q1 hC2
      cases bn with
      | true =>
        iterate 1
          refine wpPlan_float (v := ?_) rfl (by rfl) (fun w' hw' => ?_) (fun K hK => ?_)
          rotate_left
          · (go_simp; try with_reducible rfl)
          go_simp
          refine hK _ ?_
          clear hK K
        refine wpPlan_nil (NoPanic.normal ?_)
        have hnl' : (isAZ c && decide (k < 8)) = true := by rw [← hnl.out, ← hbn.out]
        rw [Bool.and_eq_true, decide_eq_true_eq] at hnl'
        have q1 : w3.cell? ⟨g, 1, none⟩ = some (.int .i64 p) := by rw [hp.out]; exact hC3.out.c1
        have f1 := Blk.frozen hC3.out 1
        have hall' := Lib.hid (show ∀ j, j < k + 1 → ∃ c, Q[j]? = some c ∧ isAZ c = true from fun j hj => by
          rcases Nat.lt_succ_iff_lt_or_eq.1 hj with h1 | h1
          · exact hall.out j h1
          · subst h1; exact ⟨c, hcQ.out, hnl'.1⟩)
        have hk8 := hnl'.2
        have hC4 := Lib.hid (show CurS (w3.setCell ⟨g, 1, none⟩ (.int .i64 (p + 1))) g (atS S (k + 1)) from by
          have := CurS.seta (k := 1) hC3.out
          rw [hp.out, show ((S.a + k : Nat) : Int) + 1 = (((atS S k).a + 1 : Nat) : Int) from by show _ = ((S.a + k + 1 : Nat) : Int); omega]
          exact this)
        clear hall hnl'
        go_wp2_with fail
        go_round
        case rel => exact ⟨k + 1, by omega, by omega, hC4, Lib.hid (bb.out.set _ _), hall'⟩
        case measure =>
          rw [leftW_is hC4.out, hm0.out]
          show S.x.size - (S.a + (k + 1)) < S.x.size - (S.a + k)
          omega
      | false =>
        have hn := Lib.hid (show lenS S = k from by
          unfold lenS; rw [← hQ]
          refine nameN_is hk hall.out (fun h8 d hd => ?_)
          rw [hcQ.out] at hd; injection hd with hd; subst hd
          have := hnl.out
          rw [← hbn.out, decide_eq_true h8, Bool.and_true] at this
          exact this.symm)
        iterate 1
          refine wpPlan_float (v := ?_) rfl (by rfl) (fun w' hw' => ?_) (fun K hK => ?_)
          rotate_left
          · (go_simp; try with_reducible rfl)
          go_simp
          refine hK _ ?_
          clear hK K
        refine wpPlan_nil (NoPanic.normal ?_)
        replace hp := Lib.hid hp
        clear hsl hwp hwi hall
        -- the name ends behind k signs, in the world w3: hC3, bb, hn
        have r1 : World.cell? w3 ⟨g, 1, none⟩ = some (.int .i64 ((S.a + k : Nat) : Int)) := hC3.out.c1
        obtain ⟨pk, hpk⟩ : ∃ p : Int, p = ((S.a + k : Nat) : Int) := ⟨_, rfl⟩
        rw [← hpk] at r1
        by_cases hk0 : k = 0
        · subst hk0
          have e0 : (pk == ai) = true := by rw [hpk, hai.out]; simp
          have hC0 : CurS w3 g S := hC3.out
          have cS := Lib.hid (cur_stop g S 2 _ hC0 hO.out)
          obtain ⟨T, hT⟩ : ∃ T, T = stopS S 2 := ⟨_, rfl⟩
          have hnT := Lib.hid (show nameS S = T from by rw [hT]; exact if_pos hn.out)
          have hTok := Lib.hid (show T.Ok from by rw [hT]; exact stopS_ok hO.out 2)
          have hTa : T.a = S.a := by rw [hT]; unfold stopS; split <;> rfl
          have haT := Lib.hid (show S.a ≤ T.a by omega)
          have hnm := Lib.hid (show nmS S = T.x.extract S.a T.a from by
            unfold nmS; rw [hn.out, hTa]; apply ByteArray.ext; simp)
          rw [← hT] at cS
          replace hT := Lib.hid hT
          replace hTa := Lib.hid hTa
          replace hpk := Lib.hid hpk
          clear hC0
          go_wp2_with fail
          refine cS.out.mono ?_; rintro e w5 ⟨rfl, hCT, b5⟩
          replace hCT := Lib.hid hCT
          have bT := Lib.hid (bb.out.trans b5)
          clear b5 bb hC3 r1 e0
          -- the cursor T stands behind the name: what is read is copied; hCT : CurS w5 g T, bT : BelowB g w w5, hnm : the name, hnT : nameS S = T
          have hTo := hTok.out
          obtain ⟨p, hp⟩ : ∃ p : Int, p = (T.a : Int) := ⟨_, rfl⟩
          have hp1 : ai ≤ p := by rw [hp, hai.out]; have := haT.out; omega
          have hp2 : p ≤ (T.x.size : Int) := by rw [hp]; have := hTo.ax; omega
          have hp0 : 0 ≤ ai := by rw [hai.out]; omega
          obtain ⟨y, hy⟩ : ∃ y, y = T.x.extract ai.toNat p.toNat := ⟨_, rfl⟩
          have hys : y.size ≤ 281474976710656 := by rw [hy, ByteArray.size_extract]; have := hTo.x; omega
          have hsl : ∀ W', (Instr.slice 9 (.string T.x) (some (.int .i64 ai)) (some (.int .i64 p)) none).run Try.prog W' = .ok (.string y) W' := fun W' => by
            rw [run_slice_string W' _ T.x .i64 .i64 ai p Try.underlying9 hp0 hp1 hp2, hy]
          have hyn : Hid (y = nmS S) := Lib.hid (by rw [hnm.out, hy, hai.out, hp]; rfl)
          go_wp2_with fail
          refine wp_region_plan 12 [(true, 0), (true, 1), (true, 2), (true, 3), (true, 4), (true, 5), (true, 6), (true, 7), (true, 8), (true, 9), (false, 10), (true, 11)] (by kernel_rfl) (by kernel_rfl) (fun U hU => ?_)
          have hCU := Lib.hid (show CurS U g T from by rw [hU.out]; exact hCT.out)
          have bU := Lib.hid (show BelowB g w U from by rw [hU.out]; exact bT.out.next (Below.refl _ _).drew)
          have cC := Lib.hid (strings_Clone y U hys)
          have y0 := hCU.out.c0
          have y1 := hCU.out.c1
          rw [← hp] at y1
          replace hp := Lib.hid hp
          replace hy := Lib.hid hy
          clear hU hCT bT
          simp only [List.drop_succ_cons, List.drop_nil]
          iterate 10
            refine wpPlan_float (v := ?_) rfl (by rfl) (fun w' hw' => ?_) (fun K hK => ?_)
            rotate_left
            · (go_simp; try with_reducible rfl)
            go_simp
            refine hK _ ?_
            clear hK K
          refine wpPlan_only rfl (by rfl) (fun K hK => ?_)
          go_simp
          refine cC.out.mono ?_
          rintro e w9 ⟨rfl, b9⟩
          refine hK _ _ b9 ?_
          clear hK K
          iterate 1
            refine wpPlan_float (v := ?_) rfl (by rfl) (fun w' hw' => ?_) (fun K hK => ?_)
            rotate_left
            · (go_simp; try with_reducible rfl)
            go_simp
            refine hK _ ?_
            clear hK K
          refine wpPlan_nil (NoPanic.normal ?_)
          go_wp2_with fail
          go_ret
          rw [hnT.out]
          exact ⟨by rw [hyn.out]; rfl, hCU.out.below b9, bU.out.next b9⟩
        · have e0 : (pk == ai) = false := by rw [hpk, hai.out]; simp; omega
          obtain ⟨T, hT⟩ : ∃ T, T = atS S k := ⟨_, rfl⟩
          have hnT := Lib.hid (show nameS S = T from by rw [hT, ← hn.out]; exact if_neg (by rw [hn.out]; exact hk0))
          have hTok := Lib.hid (show T.Ok from by rw [hT]; exact atS_ok hO.out (by omega))
          have haT := Lib.hid (show S.a ≤ T.a by rw [hT]; exact Nat.le_add_right _ _)
          have hnm := Lib.hid (show nmS S = T.x.extract S.a T.a from by
            rw [hT]
            unfold nmS restS atS
            rw [hn.out]
            apply ByteArray.ext
            rw [ByteArray.data_extract]
            apply Array.toList_inj.1
            rw [Array.toList_extract, List.extract, List.toList_toArray, show S.a + k - S.a = k by omega])
          have hCT := Lib.hid (show CurS w3 g T from by rw [hT]; exact hC3.out)
          have bT := Lib.hid bb.out
          replace hT := Lib.hid hT
          replace hpk := Lib.hid hpk
          replace hk0 := Lib.hid hk0
          clear bb hC3
          -- the cursor T stands behind the name: what is read is copied; hCT : CurS w3 g T, bT : BelowB g w w3, hnm : the name, hnT : nameS S = T
          have hTo := hTok.out
          obtain ⟨p, hp⟩ : ∃ p : Int, p = (T.a : Int) := ⟨_, rfl⟩
          have hp1 : ai ≤ p := by rw [hp, hai.out]; have := haT.out; omega
          have hp2 : p ≤ (T.x.size : Int) := by rw [hp]; have := hTo.ax; omega
          have hp0 : 0 ≤ ai := by rw [hai.out]; omega
          obtain ⟨y, hy⟩ : ∃ y, y = T.x.extract ai.toNat p.toNat := ⟨_, rfl⟩
          have hys : y.size ≤ 281474976710656 := by rw [hy, ByteArray.size_extract]; have := hTo.x; omega
          have hsl : ∀ W', (Instr.slice 9 (.string T.x) (some (.int .i64 ai)) (some (.int .i64 p)) none).run Try.prog W' = .ok (.string y) W' := fun W' => by
            rw [run_slice_string W' _ T.x .i64 .i64 ai p Try.underlying9 hp0 hp1 hp2, hy]
          have hyn : Hid (y = nmS S) := Lib.hid (by rw [hnm.out, hy, hai.out, hp]; rfl)
          go_wp2_with fail
          refine wp_region_plan 12 [(true, 0), (true, 1), (true, 2), (true, 3), (true, 4), (true, 5), (true, 6), (true, 7), (true, 8), (true, 9), (false, 10), (true, 11)] (by kernel_rfl) (by kernel_rfl) (fun U hU => ?_)
          have hCU := Lib.hid (show CurS U g T from by rw [hU.out]; exact hCT.out)
          have bU := Lib.hid (show BelowB g w U from by rw [hU.out]; exact bT.out.next (Below.refl _ _).drew)
          have cC := Lib.hid (strings_Clone y U hys)
          have y0 := hCU.out.c0
          have y1 := hCU.out.c1
          rw [← hp] at y1
          replace hp := Lib.hid hp
          replace hy := Lib.hid hy
          clear hU hCT bT
          simp only [List.drop_succ_cons, List.drop_nil]
          iterate 10
            refine wpPlan_float (v := ?_) rfl (by rfl) (fun w' hw' => ?_) (fun K hK => ?_)
            rotate_left
            · (go_simp; try with_reducible rfl)
            go_simp
            refine hK _ ?_
            clear hK K
          refine wpPlan_only rfl (by rfl) (fun K hK => ?_)
          go_simp
          refine cC.out.mono ?_
          rintro e w9 ⟨rfl, b9⟩
          refine hK _ _ b9 ?_
          clear hK K
          iterate 1
            refine wpPlan_float (v := ?_) rfl (by rfl) (fun w' hw' => ?_) (fun K hK => ?_)
            rotate_left
            · (go_simp; try with_reducible rfl)
            go_simp
            refine hK _ ?_
            clear hK K
          refine wpPlan_nil (NoPanic.normal ?_)
          go_wp2_with fail
          go_ret
          rw [hnT.out]
          exact ⟨by rw [hyn.out]; rfl, hCU.out.below b9, bU.out.next b9⟩
    · have he : (((atS S k).a : Int) == ((atS S k).x.size : Int)) = true := by show (((S.a + k : Nat) : Int) == (S.x.size : Int)) = true; simp; omega
      rw [he] at cE
      iterate 1
        refine wpPlan_float (v := ?_) rfl (by rfl) (fun w' hw' => ?_) (fun K hK => ?_)
        rotate_left
        · (go_simp; try with_reducible rfl)
        go_simp
        refine hK _ ?_
        clear hK K
      refine wpPlan_only rfl (by rfl) (fun K hK => ?_)
      go_simp
      refine cE.out.mono ?_
      rintro e w3 ⟨rfl, b3⟩
      refine hK _ _ b3 ?_
      clear hK K
      iterate 2
        refine wpPlan_float (v := ?_) rfl (by rfl) (fun w' hw' => ?_) (fun K hK => ?_)
        rotate_left
        · (go_simp; try with_reducible rfl)
        go_simp
        refine hK _ ?_
        clear hK K
      iterate 11
        refine wpPlan_skip rfl (by rfl) (fun K hK => ?_)
        go_simp
        refine hK _ ?_
        clear hK K
      refine wpPlan_skip' rfl (by rfl) (fun K hK => ?_)
      go_simp
      refine hK _ ?_
      clear hK K
      iterate 1
        refine wpPlan_float (v := ?_) rfl (by rfl) (fun w' hw' => ?_) (fun K hK => ?_)
        rotate_left
        · (go_simp; try with_reducible rfl)
        go_simp
        refine hK _ ?_
        clear hK K
      refine wpPlan_nil (NoPanic.normal ?_)
      have hn := Lib.hid (show lenS S = k from by
        unfold lenS; rw [← hQ]
        exact nameN_is hk hall.out (fun _ d hd => by rw [hQ, List.getElem?_eq_none (by rw [restS_len]; omega)] at hd; cases hd))
      have hC3 := Lib.hid (hC'.below b3)
      replace bb := Lib.hid (bb.out.next b3)
      clear hC' b3 hall
      -- the name ends behind k signs, in the world w3: hC3, bb, hn
      have r1 : World.cell? w3 ⟨g, 1, none⟩ = some (.int .i64 ((S.a + k : Nat) : Int)) := hC3.out.c1
      obtain ⟨pk, hpk⟩ : ∃ p : Int, p = ((S.a + k : Nat) : Int) := ⟨_, rfl⟩
      rw [← hpk] at r1
      by_cases hk0 : k = 0
      · subst hk0
        have e0 : (pk == ai) = true := by rw [hpk, hai.out]; simp
        have hC0 : CurS w3 g S := hC3.out
        have cS := Lib.hid (cur_stop g S 2 _ hC0 hO.out)
        obtain ⟨T, hT⟩ : ∃ T, T = stopS S 2 := ⟨_, rfl⟩
        have hnT := Lib.hid (show nameS S = T from by rw [hT]; exact if_pos hn.out)
        have hTok := Lib.hid (show T.Ok from by rw [hT]; exact stopS_ok hO.out 2)
        have hTa : T.a = S.a := by rw [hT]; unfold stopS; split <;> rfl
        have haT := Lib.hid (show S.a ≤ T.a by omega)
        have hnm := Lib.hid (show nmS S = T.x.extract S.a T.a from by
          unfold nmS; rw [hn.out, hTa]; apply ByteArray.ext; simp)
        rw [← hT] at cS
        replace hT := Lib.hid hT
        replace hTa := Lib.hid hTa
        replace hpk := Lib.hid hpk
        clear hC0
        go_wp2_with fail
        refine cS.out.mono ?_; rintro e w5 ⟨rfl, hCT, b5⟩
        replace hCT := Lib.hid hCT
        have bT := Lib.hid (bb.out.trans b5)
        clear b5 bb hC3 r1 e0
        -- the cursor T stands behind the name: what is read is copied; hCT : CurS w5 g T, bT : BelowB g w w5, hnm : the name, hnT : nameS S = T
        have hTo := hTok.out
        obtain ⟨p, hp⟩ : ∃ p : Int, p = (T.a : Int) := ⟨_, rfl⟩
        have hp1 : ai ≤ p := by rw [hp, hai.out]; have := haT.out; omega
        have hp2 : p ≤ (T.x.size : Int) := by rw [hp]; have := hTo.ax; omega
        have hp0 : 0 ≤ ai := by rw [hai.out]; omega
        obtain ⟨y, hy⟩ : ∃ y, y = T.x.extract ai.toNat p.toNat := ⟨_, rfl⟩
        have hys : y.size ≤ 281474976710656 := by rw [hy, ByteArray.size_extract]; have := hTo.x; omega
        have hsl : ∀ W', (Instr.slice 9 (.string T.x) (some (.int .i64 ai)) (some (.int .i64 p)) none).run Try.prog W' = .ok (.string y) W' := fun W' => by
          rw [run_slice_string W' _ T.x .i64 .i64 ai p Try.underlying9 hp0 hp1 hp2, hy]
        have hyn : Hid (y = nmS S) := Lib.hid (by rw [hnm.out, hy, hai.out, hp]; rfl)
        go_wp2_with fail
        refine wp_region_plan 12 [(true, 0), (true, 1), (true, 2), (true, 3), (true, 4), (true, 5), (true, 6), (true, 7), (true, 8), (true, 9), (false, 10), (true, 11)] (by kernel_rfl) (by kernel_rfl) (fun U hU => ?_)
        have hCU := Lib.hid (show CurS U g T from by rw [hU.out]; exact hCT.out)
        have bU := Lib.hid (show BelowB g w U from by rw [hU.out]; exact bT.out.next (Below.refl _ _).drew)
        have cC := Lib.hid (strings_Clone y U hys)
        have y0 := hCU.out.c0
        have y1 := hCU.out.c1
        rw [← hp] at y1
        replace hp := Lib.hid hp
        replace hy := Lib.hid hy
        clear hU hCT bT
        simp only [List.drop_succ_cons, List.drop_nil]
        iterate 10
          refine wpPlan_float (v := ?_) rfl (by rfl) (fun w' hw' => ?_) (fun K hK => ?_)
          rotate_left
          · (go_simp; try with_reducible rfl)
          go_simp
          refine hK _ ?_
          clear hK K
        refine wpPlan_only rfl (by rfl) (fun K hK => ?_)
        go_simp
        refine cC.out.mono ?_
        rintro e w9 ⟨rfl, b9⟩
        refine hK _ _ b9 ?_
        clear hK K
        iterate 1
          refine wpPlan_float (v := ?_) rfl (by rfl) (fun w' hw' => ?_) (fun K hK => ?_)
          rotate_left
          · (go_simp; try with_reducible rfl)
          go_simp
          refine hK _ ?_
          clear hK K
        refine wpPlan_nil (NoPanic.normal ?_)
        go_wp2_with fail
        go_ret
        rw [hnT.out]
        exact ⟨by rw [hyn.out]; rfl, hCU.out.below b9, bU.out.next b9⟩
      · have e0 : (pk == ai) = false := by rw [hpk, hai.out]; simp; omega
        obtain ⟨T, hT⟩ : ∃ T, T = atS S k := ⟨_, rfl⟩
        have hnT := Lib.hid (show nameS S = T from by rw [hT, ← hn.out]; exact if_neg (by rw [hn.out]; exact hk0))
        have hTok := Lib.hid (show T.Ok from by rw [hT]; exact atS_ok hO.out (by omega))
        have haT := Lib.hid (show S.a ≤ T.a by rw [hT]; exact Nat.le_add_right _ _)
        have hnm := Lib.hid (show nmS S = T.x.extract S.a T.a from by
          rw [hT]
          unfold nmS restS atS
          rw [hn.out]
          apply ByteArray.ext
          rw [ByteArray.data_extract]
          apply Array.toList_inj.1
          rw [Array.toList_extract, List.extract, List.toList_toArray, show S.a + k - S.a = k by omega])
        have hCT := Lib.hid (show CurS w3 g T from by rw [hT]; exact hC3.out)
        have bT := Lib.hid bb.out
        replace hT := Lib.hid hT
        replace hpk := Lib.hid hpk
        replace hk0 := Lib.hid hk0
        clear bb hC3
        -- the cursor T stands behind the name: what is read is copied; hCT : CurS w3 g T, bT : BelowB g w w3, hnm : the name, hnT : nameS S = T
        have hTo := hTok.out
        obtain ⟨p, hp⟩ : ∃ p : Int, p = (T.a : Int) := ⟨_, rfl⟩
        have hp1 : ai ≤ p := by rw [hp, hai.out]; have := haT.out; omega
        have hp2 : p ≤ (T.x.size : Int) := by rw [hp]; have := hTo.ax; omega
        have hp0 : 0 ≤ ai := by rw [hai.out]; omega
        obtain ⟨y, hy⟩ : ∃ y, y = T.x.extract ai.toNat p.toNat := ⟨_, rfl⟩
        have hys : y.size ≤ 281474976710656 := by rw [hy, ByteArray.size_extract]; have := hTo.x; omega
        have hsl : ∀ W', (Instr.slice 9 (.string T.x) (some (.int .i64 ai)) (some (.int .i64 p)) none).run Try.prog W' = .ok (.string y) W' := fun W' => by
          rw [run_slice_string W' _ T.x .i64 .i64 ai p Try.underlying9 hp0 hp1 hp2, hy]
        have hyn : Hid (y = nmS S) := Lib.hid (by rw [hnm.out, hy, hai.out, hp]; rfl)
        go_wp2_with fail
        refine wp_region_plan 12 [(true, 0), (true, 1), (true, 2), (true, 3), (true, 4), (true, 5), (true, 6), (true, 7), (true, 8), (true, 9), (false, 10), (true, 11)] (by kernel_rfl) (by kernel_rfl) (fun U hU => ?_)
        have hCU := Lib.hid (show CurS U g T from by rw [hU.out]; exact hCT.out)
        have bU := Lib.hid (show BelowB g w U from by rw [hU.out]; exact bT.out.next (Below.refl _ _).drew)
        have cC := Lib.hid (strings_Clone y U hys)
        have y0 := hCU.out.c0
        have y1 := hCU.out.c1
        rw [← hp] at y1
        replace hp := Lib.hid hp
        replace hy := Lib.hid hy
        clear hU hCT bT
        simp only [List.drop_succ_cons, List.drop_nil]
        iterate 10
          refine wpPlan_float (v := ?_) rfl (by rfl) (fun w' hw' => ?_) (fun K hK => ?_)
          rotate_left
          · (go_simp; try with_reducible rfl)
          go_simp
          refine hK _ ?_
          clear hK K
        refine wpPlan_only rfl (by rfl) (fun K hK => ?_)
        go_simp
        refine cC.out.mono ?_
        rintro e w9 ⟨rfl, b9⟩
        refine hK _ _ b9 ?_
        clear hK K
        iterate 1
          refine wpPlan_float (v := ?_) rfl (by rfl) (fun w' hw' => ?_) (fun K hK => ?_)
          rotate_left
          · (go_simp; try with_reducible rfl)
          go_simp
          refine hK _ ?_
          clear hK K
        refine wpPlan_nil (NoPanic.normal ?_)
        go_wp2_with fail
        go_ret
        rw [hnT.out]
        exact ⟨by rw [hyn.out]; rfl, hCU.out.below b9, bU.out.next b9⟩
end Go.Proofs.Ytpincmdogaaciaa
