/- The code's own contract of layer 7: a line, and a text. -/
import Derived.Test.YtpincmdogaaciaaReadCurM
namespace Go.Proofs.Ytpincmdogaaciaa
open Go.RowKit
set_option linter.unusedVariables false
/-- within a line, of which the operations os are read -/
def LineP (s : ByteArray) (R : PRes (List (List OpT))) (ls : List (List OpT)) (a0 : Nat) (T : CS) (os : List OpT) : Prop :=
  (T.e = 0 ∧ T.x = s ∧ os.length ≤ T.a ∧ a0 < T.a ∧ os ≠ [] ∧ fromL s.data.toList T.a os ls T.o = R) ∨ (T.e ≠ 0 ∧ T.a = T.x.size ∧ R = .bad T.a T.e)
/-- behind a line -/
def EndP (s : ByteArray) (R : PRes (List (List OpT))) (ls : List (List OpT)) (a0 : Nat) (T : CS) : Prop :=
  (T.e = 0 ∧ T.x = s ∧ a0 < T.a ∧ fromT s.data.toList T.a ls T.o = R) ∨ (T.e ≠ 0 ∧ T.a = T.x.size ∧ R = .bad T.a T.e)
theorem line_op {s : ByteArray} {R : PRes (List (List OpT))} {ls : List (List OpT)} {a0 a o : Nat} {os : List OpT} {first : Bool} {c : UInt8} (hf : first = os.isEmpty) (ha : a < s.size) (haa : a0 ≤ a) (hc : s.data.toList[a]? = some c) (h10 : ¬ c.toNat = 10)
    (hsp : first = true ∨ c.toNat = 32) (hl : os.length ≤ a) (hr : fromL s.data.toList a os ls o = R) (hOk : (⟨s, a + skN first, o, 0⟩ : CS).Ok) :
    LineP s R ls a0 (opTo ⟨s, a + skN first, o, 0⟩) (os ++ [opOf ⟨s, a + skN first, o, 0⟩]) := by
  have hk1 : skN first ≤ 1 := by cases first <;> decide
  have hd0 : (s.data.toList.drop a)[0]? = some c := by rw [List.getElem?_drop]; exact hc
  obtain ⟨u1, u2⟩ := op_next (o := o) (first := first) (a := a) (s := s) (by omega) (hsp.imp id fun h => ⟨c, hd0, h⟩)
  have hT := opTo_ok hOk
  cases ho : opS first o (s.data.toList.drop a) with
  | bad k e =>
    obtain ⟨he, o', ht⟩ := u1 k e ho
    have hb := fromL_bad hc h10 (by rw [← hf]; exact ho) ls
    rw [hr] at hb
    rw [ht] at hT ⊢
    refine .inr ⟨he, ?_, hb⟩
    have h1 := hT.ax
    have h2 : (downS s (a + k) o' e).x.size = min (a + k) s.size - 0 := by show (s.extract 0 (a + k)).size = _; rw [ByteArray.size_extract]
    have h3 : (downS s (a + k) o' e).a = a + k := rfl
    omega
  | ok x =>
    obtain ⟨x, k⟩ := x
    obtain ⟨h1, h2⟩ := u2 x k ho
    have h3 := opS_pos ho
    rw [h1, h2]
    refine .inl ⟨rfl, rfl, ?_, ?_, by simp, ?_⟩
    · show (os ++ [x]).length ≤ a + k
      simp; omega
    · show a0 < a + k; omega
    · rw [← hr]
      exact (fromL_op hc h10 (by rw [← hf]; exact ho) ls).symm
theorem onS_is {S : CS} {c : Nat} (h : onS S c = true) : ∃ d, S.x.data.toList[S.a]? = some d ∧ d.toNat = c := by
  unfold onS at h
  split at h
  · cases h
  · rename_i d hd; exact ⟨d, hd, of_decide_eq_true h⟩
theorem onS_not {S : CS} {c : Nat} (h : onS S c = false) {d : UInt8} (hd : S.x.data.toList[S.a]? = some d) : d.toNat ≠ c := by
  unfold onS at h; rw [hd] at h; exact of_decide_eq_false h
theorem line_end {s : ByteArray} {R : PRes (List (List OpT))} {ls : List (List OpT)} {a0 : Nat} {T : CS} {os : List OpT} (hT : T.Ok) (h : LineP s R ls a0 T os) (h32 : onS T 32 = false) : EndP s R (ls ++ [os]) a0 (mustS T 10) := by
  rcases h with ⟨he, hx, hl, ha, hne, hr⟩ | ⟨he, ha, hR⟩
  · obtain ⟨x, a, o, e⟩ := T
    simp only at he hx hl ha hr
    subst he; subst hx
    cases h10 : onS ⟨x, a, o, 0⟩ 10 with
    | true =>
      obtain ⟨d, hd, h10'⟩ := onS_is h10
      rw [must_up h10]
      exact .inl ⟨rfl, rfl, by show a0 < a + 1; omega, by rw [← hr]; exact (fromL_end hd h10' os ls o).symm⟩
    | false =>
      rw [must_no h10]
      refine .inr ⟨(by decide : (2 : Int) ≠ 0), down_size hT.ax, ?_⟩
      rw [← hr]
      by_cases hlt : a < x.size
      · have hd := byte_at x a hlt
        have hE : os.isEmpty = false := by cases os with | nil => exact absurd rfl hne | cons => rfl
        exact fromL_bad (all := o) hd (onS_not h10 hd) (by rw [hE]; exact opS_blank (all := o) (by rw [List.getElem?_drop]; exact hd) (onS_not h32 hd)) ls
      · exact fromL_nil (by rw [size_list]; omega) os ls o
  · rw [must_down he ha]
    exact .inr ⟨he, ha, hR⟩
theorem numVS_fits (S : CS) : -9223372036854775808 ≤ numVS S ∧ numVS S < 9223372036854775808 := by
  unfold numVS
  split
  · exact getV_bounds _
  · exact ⟨by decide, by decide⟩
theorem nmS_size (S : CS) : (nmS S).size ≤ 8 := by
  have h := lenS_le8 (S := S)
  unfold nmS
  show (((restS S).take (lenS S)).toArray).size ≤ 8
  rw [List.size_toArray, List.length_take]; omega
theorem okO_one {a : Bool} {b : ByteArray} {c : Int} (h : -9223372036854775808 ≤ c ∧ c < 9223372036854775808) (hb : b.size ≤ 8) : OkO [(a, b, c)] := fun o ho => by
  simp at ho; subst ho; exact ⟨h, Nat.le_trans hb (by decide)⟩
theorem opOf_ok (S : CS) : OkO [opOf S] := by
  unfold opOf
  exact okO_one (numVS_fits _) (nmS_size _)
/-- what is left of the text that a cursor has, as the memory has it -/
def leftX (w : World) (g : Nat) : Nat := match w.cell? ⟨g, 0, none⟩, w.cell? ⟨g, 1, none⟩ with | some (.string x), some (.int _ a) => x.size - a.toNat | _, _ => 0
theorem leftX_is {w : World} {g : Nat} {S : CS} (h : CurS w g S) : leftX w g = S.x.size - S.a := by unfold leftX; rw [h.c0, h.c1]; simp
theorem own_keptB {w w' : World} {g base size n : Nat} {e : TypeId} {v : Value} {xs : List Value} (h : w.ownsRow base e size v n xs) (hb : BelowB g w w') (hg : g < base) : w'.ownsRow base e size v n xs :=
  h.kept (row := some g) ⟨hb.os, hb.tape, hb.output, hb.size, fun k hk hne => hb.block k hk (fun e => hne (by rw [e]))⟩ (by
    cases hv : v.ownBlock with
    | none => exact .inl rfl
    | some k => exact .inr (fun e => by injection e with e; have := own_lt_block h k hv; omega))
theorem BelowB.base {g B : Nat} {a w w' : World} (h : BelowB g a w) (hB : a.heap.size ≤ B) (hs : B ≤ w.heap.size) (hb : Below B w w') : BelowB g a w' :=
  ⟨hb.os.trans h.os, hb.tape.trans h.tape, hb.output.trans h.output, Nat.le_trans h.size hb.size, fun k hk hg => (hb.block k (by omega)).trans (h.block k hk hg)⟩
theorem CurS.base {w w' : World} {g B : Nat} {S : CS} (h : CurS w g S) (hb : Below B w w') (hg : g < B) : CurS w' g S := Blk.below h hb hg
theorem own_ne_cur {w : World} {base s n g : Nat} {e t : TypeId} {v : Value} {xs cs : List Value} (h : w.ownsRow base e s v n xs) (hB : Blk w g t cs) (hne : e ≠ t) : v.ownBlock ≠ some g := by
  rcases h.2 with ⟨h1, h2⟩ | ⟨k, cap, cur, rfl, hbg, hg, r⟩
  · rw [h1]; intro h; cases h
  · intro he
    have he : some k = some g := he
    injection he with he
    subst he
    rw [show w.heap[k]? = _ from hB] at hg
    injection hg with hg
    injection hg with _ h2 _
    exact hne h2.symm
theorem LineP.weaken {s : ByteArray} {R : PRes (List (List OpT))} {ls : List (List OpT)} {a0 a1 : Nat} {T : CS} {os : List OpT} (h : LineP s R ls a1 T os) (ha : a0 ≤ a1) : LineP s R ls a0 T os :=
  h.imp (fun ⟨h1, h2, h3, h4, h5⟩ => ⟨h1, h2, h3, Nat.lt_of_le_of_lt ha h4, h5⟩) id
theorem LineP.less {s : ByteArray} {R : PRes (List (List OpT))} {ls : List (List OpT)} {a1 : Nat} {T : CS} {os : List OpT} (h : LineP s R ls a1 T os) (hT : T.Ok) (ha : a1 < s.size) : T.x.size - T.a < s.size - a1 := by
  rcases h with ⟨_, hx, _, h4, _⟩ | ⟨_, h4, _⟩
  · rw [hx]; omega
  · omega
def RetLine (s : ByteArray) (R : PRes (List (List OpT))) (ls : List (List OpT)) (a0 g : Nat) (w : World) (e : Ending) (w' : World) : Prop :=
  ∃ v T os, e = .returned v ∧ CurS w' g T ∧ T.Ok ∧ BelowB g w w' ∧ w'.ownsRow w.heap.size 35 3 v os.length (cellsO os) ∧ OkO os ∧ EndP s R (ls ++ [os]) a0 T
set_option maxRecDepth 100000 in
set_option maxHeartbeats 1000000 in
theorem cur_line (g : Nat) (s : ByteArray) (a o : Nat) (R : PRes (List (List OpT))) (ls : List (List OpT)) (w : World) (hC : CurS w g ⟨s, a, o, 0⟩) (hs : s.size ≤ 1073741824) (ha : a < s.size) (ho : o ≤ 4096) (hr : fromL s.data.toList a [] ls o = R) :
    Calls Try.prog 14 #[.pointer (some ⟨g, 0, none⟩)] w (RetLine s R ls a g w) := by
  obtain ⟨j0, ji, jz0, jz1, jz2⟩ := info_parts info_op
  replace ji := Lib.hid ji
  replace jz0 := Lib.hid jz0
  replace jz1 := Lib.hid jz1
  replace jz2 := Lib.hid jz2
  have hOk : (⟨s, a, o, 0⟩ : CS).Ok := ⟨Nat.le_of_lt ha, hs, ho⟩
  have hgw := hC.lt
  have hbyte := byte_at s a ha
  have cP := Lib.hid (cur_pass g _ 10 w hC hOk (by omega))
  cases h10 : onS ⟨s, a, o, 0⟩ 10 with
  | true =>
    have hp : passS ⟨s, a, o, 0⟩ 10 = ⟨s, a + 1, o, 0⟩ := if_pos h10
    obtain ⟨d, hd, hd10⟩ := onS_is h10
    have hE : EndP s R (ls ++ [[]]) a ⟨s, a + 1, o, 0⟩ := .inl ⟨rfl, rfl, Nat.lt_succ_self a, by rw [← hr]; exact (fromL_end hd hd10 [] ls o).symm⟩
    rw [h10, hp] at cP
    replace hE := Lib.hid hE
    clear hd hd10
    go_enter Try.func14, Try.ntmps14
    go_wp2_with fail
    refine cP.out.mono ?_; rintro e w1 ⟨rfl, hC1, b1⟩
    go_wp2_with fail
    go_ret
    exact ⟨_, _, [], rfl, hC1, ⟨ha, hs, ho⟩, b1, World.ownsRow_nil _ _ _ _, fun o h => by simp at h, hE.out⟩
  | false =>
    have hp : passS ⟨s, a, o, 0⟩ 10 = ⟨s, a, o, 0⟩ := if_neg (by rw [h10]; simp)
    rw [h10, hp] at cP
    have hL := Lib.hid (line_op (first := true) (os := []) (a0 := a) rfl ha (Nat.le_refl _) hbyte (onS_not h10 hbyte) (.inl rfl) (Nat.zero_le _) hr hOk)
    have hx1 := Lib.hid (opOf_ok ⟨s, a, o, 0⟩)
    have hTok := Lib.hid (opTo_ok hOk)
    have hL : Hid (LineP s R ls a (opTo ⟨s, a, o, 0⟩) [opOf ⟨s, a, o, 0⟩]) := hL
    obtain ⟨T, hT⟩ : ∃ T, T = opTo ⟨s, a, o, 0⟩ := ⟨_, rfl⟩
    obtain ⟨x, hx⟩ : ∃ x, x = opOf ⟨s, a, o, 0⟩ := ⟨_, rfl⟩
    rw [← hT, ← hx] at hL
    rw [← hT] at hTok
    rw [← hx] at hx1
    have hbyte := Lib.hid hbyte
    go_enter Try.func14, Try.ntmps14
    go_wp2_with fail
    refine cP.out.mono ?_; rintro e w1 ⟨rfl, hC1, b1⟩
    have cO := cur_op g _ w1 hC1 hOk
    rw [← hT, ← hx] at cO
    replace cO := Lib.hid cO
    replace hT := Lib.hid hT
    replace hx := Lib.hid hx
    go_wp2_with fail
    refine cO.out.mono ?_; rintro e w2 ⟨rfl, hC2, b2⟩
    obtain ⟨xw, xn, xv⟩ := x
    obtain ⟨V, hV⟩ : ∃ V, V = w2.alloc (.cells #[.bool xw, .string xn, .int .i64 xv] 35) := ⟨_, rfl⟩
    obtain ⟨gl, hgl⟩ : ∃ x, x = w2.heap.size := ⟨_, rfl⟩
    have b12 := b1.trans b2
    have own0 := Lib.hid (show V.ownsRow w.heap.size 35 3 (.slice (some ⟨gl, 0, none⟩) 1 1) 1 (cellsO [(xw, xn, xv)]) from by
      rw [hV, hgl]
      exact World.ownsRow_lit (size := 3) (base := w.heap.size) (e := 35) w2 #[.bool xw, .string xn, .int .i64 xv] 1 b12.size (by decide) rfl)
    have bb := Lib.hid (show BelowB g w V from by rw [hV]; exact b12.allocN _)
    have hCV := Lib.hid (show CurS V g T from by rw [hV]; exact Blk.alloc hC2 _)
    clear hC1 b1 b2 b12 hC2 cO cP hC
    go_wp2_with (rw [← hV, ← hgl]; clear hV hgl)
    go_loopw [3] (fun v wr => ∃ (T : CS) (os : List OpT), os.length ≤ 1073741826 ∧ Hid T.Ok ∧ Hid (CurS wr g T) ∧ Hid (BelowB g w wr) ∧ Hid (wr.ownsRow w.heap.size 35 3 v os.length (cellsO os)) ∧ Hid (OkO os) ∧ Hid (LineP s R ls a T os)) (fun _ wr => leftX wr g)
    case atStart => exact ⟨T, [(xw, xn, xv)], by simp, hTok, hCV, bb, own0, hx1, hL⟩
    case round =>
      clear hL hTok hx1 hT hx bb hCV own0
      obtain ⟨T, os, hl, hTok, hCT, bb, hown, hok, hL⟩ := hrel
      obtain ⟨B, c2, hv, -⟩ := OpsAt.of_own hown.out hok.out rfl
      subst hv
      have hm0 := Lib.hid (leftX_is hCT.out)
      have cP := Lib.hid (cur_pass g T 32 wr hCT.out hTok.out (by omega))
      cases h32 : onS T 32 with
      | true =>
        rcases hL.out with ⟨he, hx, hlen, haa, hne, hr'⟩ | ⟨he, ha', _⟩
        · obtain ⟨tx, ta, to, te⟩ := T
          simp only at he hx hlen haa hr'
          subst he; subst hx
          have hlt : ta < tx.size := onS_len h32
          have hp : passS ⟨tx, ta, to, 0⟩ 32 = ⟨tx, ta + 1, to, 0⟩ := if_pos h32
          obtain ⟨d, hd, hd32⟩ := onS_is h32
          have hf : false = os.isEmpty := by cases os with | nil => exact absurd rfl hne | cons => rfl
          have hOk1 : (⟨tx, ta + 1, to, 0⟩ : CS).Ok := ⟨hlt, hs, hTok.out.o⟩
          have hL2 : LineP tx R ls ta (opTo ⟨tx, ta + 1, to, 0⟩) (os ++ [opOf ⟨tx, ta + 1, to, 0⟩]) := line_op (first := false) hf hlt (Nat.le_refl _) hd (by omega) (.inr hd32) hlen hr' hOk1
          have hx1 := opOf_ok ⟨tx, ta + 1, to, 0⟩
          have hT2 := opTo_ok hOk1
          obtain ⟨T', hT'⟩ : ∃ T', T' = opTo ⟨tx, ta + 1, to, 0⟩ := ⟨_, rfl⟩
          obtain ⟨x, hx⟩ : ∃ x, x = opOf ⟨tx, ta + 1, to, 0⟩ := ⟨_, rfl⟩
          have cO := fun w' hC' => cur_op g ⟨tx, ta + 1, to, 0⟩ w' hC' hOk1
          rw [← hT', ← hx] at hL2
          rw [← hT'] at hT2
          rw [← hx] at hx1
          rw [← hT', ← hx] at cO
          rw [h32, hp] at cP
          have hml := Lib.hid (hL2.less hT2 hlt)
          replace hL2 := Lib.hid (hL2.weaken (Nat.le_of_lt haa))
          have hlen2 : os.length ≤ 1073741824 := by omega
          obtain ⟨L, hLL⟩ : ∃ L, L = os.length := ⟨_, rfl⟩
          rw [← hLL] at hlen2 hown ⊢
          replace hLL := Lib.hid hLL
          replace cO := Lib.hid cO
          replace hT' := Lib.hid hT'
          replace hx := Lib.hid hx
          clear hTok hCT hd hd32 hf hlt hl hlen hr' hr haa hL
          go_wp2_with fail
          refine cP.out.mono ?_; rintro e w3 ⟨rfl, hC3, b3⟩
          replace cO := Lib.hid (cO.out w3 hC3)
          go_wp2_with fail
          refine cO.out.mono ?_; rintro e w4 ⟨rfl, hC4, b4⟩
          obtain ⟨xw, xn, xv⟩ := x
          obtain ⟨V, hV⟩ : ∃ V, V = w4.alloc (.cells #[.bool xw, .string xn, .int .i64 xv] 35) := ⟨_, rfl⟩
          obtain ⟨gl, hgl⟩ : ∃ x, x = w4.heap.size := ⟨_, rfl⟩
          have b34 := b3.trans b4
          have hown4 := own_keptB hown.out b34 hgw
          have hOne := Lib.hid (OpsAt.of_blk1 (show Blk V gl 35 (cellsO [(xw, xn, xv)]) from by rw [hV, hgl]; exact Blk.new w4 _ _) hx1 rfl)
          have hownV := Lib.hid (show V.ownsRow w.heap.size 35 3 (.slice B L c2) L (cellsO os) from by rw [hV]; exact own_below hown4 ((Below.refl _ _).alloc (Nat.le_refl _) _))
          have bV := Lib.hid (show BelowB g w V from by rw [hV]; exact (bb.out.trans b34).allocN _)
          have hCV := Lib.hid (show CurS V g T' from by rw [hV]; exact Blk.alloc hC4 _)
          have hbase := Lib.hid bV.out.size
          replace hx1 := Lib.hid hx1
          replace hT2 := Lib.hid hT2
          clear hC3 b3 b4 b34 hC4 cO cP bb hown hown4
          go_wp2_with (first
            | (rw [← hV, ← hgl]; clear hV hgl)
            | (at_builtin; refine wpList_append_ops rfl (.tmp 11) (.tmp 14) _ rfl w.heap.size 35 j0 _ Try.underlying33 ji.out jz0.out jz1.out jz2.out rfl _ L os (by rfl) hownV.out _ 1 1 [(xw, xn, xv)] rfl hOne.out (by omega) hbase.out ?_; intro v' w7 hown' hb7))
          have hC7 := hCV.out.base hb7 hgw
          refine ⟨⟨T', os ++ [(xw, xn, xv)], by rw [List.length_append, ← hLL.out]; simp; omega, hT2, Lib.hid hC7, Lib.hid (bV.out.base (Nat.le_refl _) hbase.out hb7), Lib.hid (by rw [List.length_append, ← hLL.out]; exact hown'), Lib.hid (okO_append hok.out hx1.out), hL2⟩, ?_⟩
          rw [leftX_is hC7, hm0.out]
          exact hml.out
        · rw [onS_end (by omega)] at h32; cases h32
      | false =>
        have hp : passS T 32 = T := if_neg (by rw [h32]; simp)
        have hE := Lib.hid (line_end hTok.out hL.out h32)
        rw [h32, hp] at cP
        go_wp2_with fail
        refine cP.out.mono ?_; rintro e w3 ⟨rfl, hC3, b3⟩
        have cM := Lib.hid (cur_must g T 10 w3 hC3 hTok.out (by omega))
        go_wp2_with fail
        refine cM.out.mono ?_; rintro e w4 ⟨rfl, hC4, b4⟩
        go_wp2_with fail
        go_ret
        have b34 := b3.trans b4
        exact ⟨_, _, os, rfl, hC4, mustS_ok hTok.out 10, bb.out.trans b34, own_keptB hown.out b34 hgw, hok.out, hE.out⟩
theorem info_sessR : (Try.prog.info? 33).map (fun i => (i.zero, i.size, i.bytes)) = some (some (.slice none 0 0), 1, 24) := by kernel_rfl
/-- between lines -/
def TextP (s : ByteArray) (R : PRes (List (List OpT))) (T : CS) (hs : List (List OpT)) : Prop :=
  (T.e = 0 ∧ T.x = s ∧ hs.length ≤ T.a ∧ fromT s.data.toList T.a hs T.o = R) ∨ (T.e ≠ 0 ∧ T.a = T.x.size ∧ R = .bad T.a T.e)
theorem EndP.text {s : ByteArray} {R : PRes (List (List OpT))} {hs : List (List OpT)} {os : List OpT} {a0 : Nat} {T : CS} (h : EndP s R (hs ++ [os]) a0 T) (hl : hs.length ≤ a0) : TextP s R T (hs ++ [os]) :=
  h.imp (fun ⟨h1, h2, h3, h4⟩ => ⟨h1, h2, by simp; omega, h4⟩) id
theorem EndP.less {s : ByteArray} {R : PRes (List (List OpT))} {ls : List (List OpT)} {a1 : Nat} {T : CS} (h : EndP s R ls a1 T) (hT : T.Ok) (ha : a1 < s.size) : T.x.size - T.a < s.size - a1 := by
  rcases h with ⟨_, hx, h4, _⟩ | ⟨_, h4, _⟩
  · rw [hx]; omega
  · omega
theorem OutsO.keptB {T : TypeId} {w w' : World} {g base : Nat} {vs : List Value} {hs : List (List OpT)} (h : OutsO T w base vs hs) (hb : BelowB g w w') (hg : g < base) : OutsO T w' base vs hs :=
  ⟨h.1, fun i v os h1 h2 => ⟨(h.2 i v os h1 h2).1, own_keptB (h.2 i v os h1 h2).2 hb hg⟩⟩
set_option maxRecDepth 100000 in
set_option maxHeartbeats 2000000 in
theorem read_Text (s : ByteArray) (w : World) (hs : s.size ≤ 1073741824) : Calls Try.prog 8 #[.string s] w (RetText (textL s.data.toList) w) := by
  obtain ⟨i0, hi, hz0, hz1, hz2⟩ := info_parts info_sessR
  replace hi := Lib.hid hi
  replace hz0 := Lib.hid hz0
  replace hz1 := Lib.hid hz1
  replace hz2 := Lib.hid hz2
  obtain ⟨R, hR⟩ : ∃ R, R = textL s.data.toList := ⟨_, rfl⟩
  rw [← hR]
  obtain ⟨gc, hgc⟩ : ∃ x, x = w.heap.size := ⟨_, rfl⟩
  obtain ⟨V0, hV0⟩ : ∃ V0, V0 = w.alloc (.cells #[.string ⟨#[]⟩, .int .i64 0, .int .i64 0, .int .i64 0] 37) := ⟨_, rfl⟩
  obtain ⟨V, hV⟩ : ∃ V, V = (((V0.setCell ⟨gc, 0, none⟩ (.string s)).setCell ⟨gc, 1, none⟩ (.int .i64 0)).setCell ⟨gc, 2, none⟩ (.int .i64 0)).setCell ⟨gc, 3, none⟩ (.int .i64 0) := ⟨_, rfl⟩
  have k0 := show Blk V0 gc 37 [.string ⟨#[]⟩, .int .i64 0, .int .i64 0, .int .i64 0] from by rw [hV0, hgc]; exact Blk.new _ _ _
  have p0 : V0.cell? ⟨gc, 0, none⟩ = some (.string ⟨#[]⟩) := Blk.cell k0 0
  have p1 : V0.cell? ⟨gc, 1, none⟩ = some (.int .i64 0) := Blk.cell k0 1
  have p2 : V0.cell? ⟨gc, 2, none⟩ = some (.int .i64 0) := Blk.cell k0 2
  have p3 : V0.cell? ⟨gc, 3, none⟩ = some (.int .i64 0) := Blk.cell k0 3
  have f0 := Blk.frozen k0 0
  have f1 := Blk.frozen k0 1
  have f2 := Blk.frozen k0 2
  have f3 := Blk.frozen k0 3
  have hC := Lib.hid (show CurS V gc ⟨s, 0, 0, 0⟩ from by rw [hV]; exact Blk.set_ (Blk.set_ (Blk.set_ (Blk.set_ k0 0 (.string s)) 1 (.int .i64 0)) 2 (.int .i64 0)) 3 (.int .i64 0))
  have hge : w.heap.size ≤ gc := by omega
  have bb := Lib.hid (show Below w.heap.size w V from by
    rw [hV, hV0]
    exact (((((Below.refl _ w).alloc (Nat.le_refl _) _).setCell (p := ⟨gc, 0, none⟩) hge _).setCell (p := ⟨gc, 1, none⟩) hge _).setCell (p := ⟨gc, 2, none⟩) hge _).setCell (p := ⟨gc, 3, none⟩) hge _)
  have hTP := Lib.hid (show TextP s R ⟨s, 0, 0, 0⟩ [] from .inl ⟨rfl, rfl, Nat.zero_le _, by rw [hR]; exact fromT_start _⟩)
  have hTo := Lib.hid (show (⟨s, 0, 0, 0⟩ : CS).Ok from ⟨Nat.zero_le _, hs, Nat.zero_le _⟩)
  replace hge := Lib.hid hge
  replace hR := Lib.hid hR
  clear k0
  go_enter Try.func8, Try.ntmps8
  go_wp2_with (first
    | (rw [← hV0, ← hgc]; clear hV0 hgc)
    | (rw [← hV]; clear hV))
  clear p0 p1 p2 p3 f0 f1 f2 f3
  go_loopw [6] (fun v wr => ∃ (T : CS) (vs : List Value) (hs : List (List OpT)), hs.length ≤ 1073741826 ∧ Hid T.Ok ∧ Hid (CurS wr gc T) ∧ Hid (Below w.heap.size w wr) ∧ Hid (wr.ownsRow (gc + 1) 33 1 v hs.length vs) ∧ Hid (OutsO 35 wr (gc + 1) vs hs) ∧ Hid (TextP s R T hs)) (fun _ wr => leftX wr gc)
  case atStart => exact ⟨_, [], [], by simp, hTo, hC, bb, Lib.hid (World.ownsRow_nil _ _ _ _), Lib.hid (OutsO.nil _ _ _), hTP⟩
  case round =>
    clear hTo hC bb hTP
    obtain ⟨T, vs, ls, hl, hTok, hCT, bb, hown, houts, hTP⟩ := hrel
    have hm0 := Lib.hid (leftX_is hCT.out)
    have cE := Lib.hid (cur_ended gc T wr hCT.out)
    by_cases hend : T.a = T.x.size
    · have he : ((T.a : Int) == (T.x.size : Int)) = true := by simp; omega
      rw [he] at cE
      go_wp2_with fail
      refine cE.out.mono ?_; rintro e w3 ⟨rfl, b3⟩
      have hC3 := hCT.out.below b3
      have bb3 := Lib.hid (below_trans2 bb.out b3)
      have hown3 := own_below hown.out b3
      have houts3 := houts.out.below b3
      rcases hTP.out with ⟨he0, hx, hlen, hr⟩ | ⟨he0, ha', hb⟩
      · obtain ⟨A, c, ev, hnc, hc, hH⟩ := houts3.hist hown3 (by have := hown3.1; omega)
        subst ev
        have hRv := Lib.hid (show R = .ok ls from by rw [← hr]; exact fromT_end (by rw [size_list, ← hx]; omega) ls T.o)
        have q3 := hC3.c3
        rw [he0] at q3
        replace hH := Lib.hid hH
        clear hC3 hown3 houts3 hTP hown houts hr he0 hx hm0 hCT
        go_wp2_with fail
        rw [hRv.out]
        exact bodyPost_ret (v := .tuple #[.slice A ls.length c, .int .i64 0, .int .i64 0]) (by simp [results, go_sem]) rfl ⟨A, _, c, rfl, hH.out, hnc, hc, bb3.out⟩
      · have q3 := hC3.c3
        have e3 : (T.e != 0) = true := by simp [he0]
        have hRv := Lib.hid hb
        replace hC3 := Lib.hid hC3
        replace ha' := Lib.hid ha'
        replace he0 := Lib.hid he0
        obtain ⟨te, hte⟩ : ∃ x, x = T.e := ⟨_, rfl⟩
        obtain ⟨ta, hta⟩ : ∃ x, x = T.a := ⟨_, rfl⟩
        rw [← hte] at q3 e3 hRv
        rw [← hta] at hRv
        replace hte := Lib.hid hte
        replace hta := Lib.hid hta
        clear hown3 houts3 hTP hown houts hb hm0 hCT
        go_wp2_with fail
        refine wp_region_plan 7 [(true, 0), (true, 1), (true, 2), (true, 3), (true, 4), (true, 5), (true, 6)] (by kernel_rfl) (by kernel_rfl) (fun U hU => ?_)
        have y1 : U.cell? ⟨gc, 1, none⟩ = some (.int .i64 (ta : Int)) := by rw [hU.out, hta.out]; exact hC3.out.c1
        have y3 : U.cell? ⟨gc, 3, none⟩ = some (.int .i64 te) := by rw [hU.out, hte.out]; exact hC3.out.c3
        replace bb3 := Lib.hid (show Below w.heap.size w U from by rw [hU.out]; exact bb3.out.drew)
        clear hU hC3 q3
        simp only [List.drop_succ_cons, List.drop_nil]
        iterate 7
          refine wpPlan_float (v := ?_) rfl (by rfl) (fun w' hw' => ?_) (fun K hK => ?_)
          rotate_left
          · (go_simp; try with_reducible rfl)
          go_simp
          refine hK _ ?_
          clear hK K
        refine wpPlan_nil (NoPanic.normal ?_)
        go_wp2_with fail
        rw [hRv.out]
        exact bodyPost_ret (v := .tuple #[.slice none 0 0, .int .i64 (ta : Int), .int .i64 te]) (by simp [results, go_sem]) rfl ⟨none, 0, 0, rfl, HistAt.nil _ _, Nat.le_refl _, by omega, bb3.out⟩
    · have he : ((T.a : Int) == (T.x.size : Int)) = false := by simp; omega
      rw [he] at cE
      rcases hTP.out with ⟨he0, hx, hlen, hr⟩ | ⟨_, ha', _⟩
      · obtain ⟨tx, ta, to, te⟩ := T
        simp only at he0 hx hlen hr
        subst he0; subst hx
        have hlt : ta < tx.size := by have := hTok.out.ax; show ta < tx.size; have h1 : (⟨tx, ta, to, 0⟩ : CS).a = ta := rfl; have h2 : (⟨tx, ta, to, 0⟩ : CS).x = tx := rfl; rw [h1, h2] at this hend; omega
        rw [fromT_line (by rw [size_list]; exact hlt)] at hr
        have hlen2 : ls.length ≤ 1073741824 := by omega
        have hg1 := hCT.out.lt
        have ho := hTok.out.o
        have cL := fun w' hC' => cur_line gc tx ta to R ls w' hC' hs hlt ho hr
        replace cL := Lib.hid cL
        replace hr := Lib.hid hr
        go_wp2_with fail
        refine cE.out.mono ?_; rintro e w3 ⟨rfl, b3⟩
        have hC3 := hCT.out.below b3
        replace cL := Lib.hid (cL.out w3 hC3)
        go_wp2_with fail
        refine cL.out.mono ?_; rintro e w4 ⟨v, T', os, rfl, hC4, hT', b4, hownS, hokS, hEnd⟩
        obtain ⟨B, c2, hv, -⟩ := OpsAt.of_own hownS hokS rfl
        subst hv
        have b34 := (BelowB.of (g := gc) b3).trans b4
        have hown4 := own_keptB hown.out b34 (Nat.lt_succ_self gc)
        have houts4 := houts.out.keptB b34 (Nat.lt_succ_self gc)
        have hownS' := own_base hownS (show gc + 1 ≤ w3.heap.size from by have := b3.size; omega)
        obtain ⟨gy, hgy⟩ : ∃ g, g = w4.heap.size := ⟨_, rfl⟩
        obtain ⟨wy, hwy⟩ : ∃ W, W = w4.alloc (.cells #[.slice B os.length c2] 33) := ⟨_, rfl⟩
        have by1 : Below w4.heap.size w4 wy := by rw [hwy]; exact (Below.refl _ _).alloc (Nat.le_refl _) _
        have hcell := Blk.cell (show Blk wy gy 33 [.slice B os.length c2] from by rw [hwy, hgy]; exact Blk.new w4 _ _) 0
        have hnews : ∀ (j : Nat) (u : Value), [Value.slice B os.length c2][j]? = some u → wy.cell? ((⟨gy, 0, none⟩ : Addr).add j) = some u := fun j u hu => by
          match j with
          | 0 => have e : (⟨gy, 0, none⟩ : Addr).add 0 = ⟨gy, 0, none⟩ := rfl; rw [e, hcell]; exact hu
          | j + 1 => simp at hu
        have h1c : ∀ u ∈ [Value.slice B os.length c2], u.oneCell' = true := fun u hu => by simp at hu; subst hu; rfl
        have hownY := Lib.hid (own_below hown4 by1)
        have houtsY := Lib.hid (houts4.below by1)
        have hlv := Lib.hid (own_below hownS' by1)
        have hCY := Lib.hid (hC4.below by1)
        have bY := Lib.hid (show Below w.heap.size w wy from (b34.below (g := gc) (w' := w4) (B := w.heap.size) bb.out.size hge.out |> fun h => bb.out.trans h).trans (by1.mono (Nat.le_trans bb.out.size b34.size)))
        have hbase := Lib.hid (show gc + 1 ≤ wy.heap.size from Nat.le_trans (Nat.succ_le_of_lt hg1) (Nat.le_trans b34.size by1.size))
        have hml := Lib.hid (hEnd.less hT' hlt)
        have hTP' := Lib.hid (hEnd.text hlen)
        replace hT' := Lib.hid hT'
        replace hokS := Lib.hid hokS
        replace hnews := Lib.hid hnews
        replace h1c := Lib.hid h1c
        have hneC := Lib.hid (own_ne_cur hownY.out hCY.out (by decide))
        clear hcell by1 hown4 houts4 hownS hownS' hC3 b3 b4 b34 hC4 hEnd cL cE hCT hown houts hTP hTok hlt hlen hend he
        go_wp2_with (first
          | (rw [← hwy, ← hgy]; clear hwy hgy)
          | (at_builtin; refine wpList_append_own_at wy rfl (.tmp 11) (.tmp 13) _ rfl (gc + 1) 33 i0 _ 1 24 Try.underlying23 hi.out hz0.out hz1.out hz2.out rfl (by omega) _ _ _ (by rfl) hownY.out ⟨gy, 0, none⟩ 1 1 [.slice B os.length c2] rfl rfl hnews.out h1c.out (by unfold maxLen; omega) (by omega) hbase.out ?_; intro v' w' hown' hg _ _))
        have hC7 : CurS w' gc T' := Blk.grown hCY.out hg (fun h => hneC.out h.symm)
        refine ⟨⟨T', vs ++ [.slice B os.length c2], ls ++ [os], by rw [List.length_append]; simp; omega, hT', Lib.hid hC7, Lib.hid (bY.out.grown hg bY.out.size (fun k hk => by have := own_lt_block hownY.out k hk; have := hge.out; omega)), Lib.hid (by rw [List.length_append]; exact hown'), Lib.hid ((houtsY.out.grown hownY.out (by decide) hg).snoc hokS.out (own_grown hlv.out hownY.out (by decide) hg)), hTP'⟩, ?_⟩
        rw [leftX_is hC7, hm0.out]
        exact hml.out
      · exact absurd ha' hend
end Go.Proofs.Ytpincmdogaaciaa
