/- The code's own contracts of layer 7, first half: the cursor's methods, by a model of a cursor. -/
import Derived.Test.YtpincmdogaaciaaProg
import Derived.Test.YtpincmdogaaciaaReadMath
import Derived.Test.YtpincmdogaaciaaPlanG
import Derived.Test.YtpincmdogaaciaaNum
import Derived.Test.YtpincmdogaaciaaHist
namespace Go.Proofs.Ytpincmdogaaciaa
open Go.RowKit
set_option linter.unusedVariables false

/-- a cursor: the text, the place, how many operations, what is wrong -/
structure CS where
  x : ByteArray
  a : Nat
  o : Nat
  e : Int
/-- a variable that holds a cursor -/
def CurS (w : World) (g : Nat) (S : CS) : Prop := Blk w g 37 [.string S.x, .int .i64 (S.a : Int), .int .i64 (S.o : Int), .int .i64 S.e]
structure CS.Ok (S : CS) : Prop where
  ax : S.a ≤ S.x.size
  x : S.x.size ≤ 1073741824
  o : S.o ≤ 4096
def stopS (S : CS) (why : Int) : CS := if S.e = 0 then ⟨S.x.extract 0 S.a, S.a, S.o, why⟩ else S
def onS (S : CS) (c : Nat) : Bool := match S.x.data.toList[S.a]? with | none => false | some d => decide (d.toNat = c)
def passS (S : CS) (c : Nat) : CS := if onS S c = true then ⟨S.x, S.a + 1, S.o, S.e⟩ else S
def mustS (S : CS) (c : Nat) : CS := if onS S c = true then ⟨S.x, S.a + 1, S.o, S.e⟩ else stopS S 2
def beginS (S : CS) : CS := if (onS S 119 || onS S 114) = false then stopS S 2 else if S.o = 4096 then stopS S 3 else ⟨S.x, S.a + 1, S.o + 1, S.e⟩
section
variable {w w' : World} {g : Nat} {S : CS}
theorem CurS.c0 (h : CurS w g S) : w.cell? ⟨g, 0, none⟩ = some (.string S.x) := Blk.cell h 0
theorem CurS.c1 (h : CurS w g S) : w.cell? ⟨g, 1, none⟩ = some (.int .i64 (S.a : Int)) := Blk.cell h 1
theorem CurS.c2 (h : CurS w g S) : w.cell? ⟨g, 2, none⟩ = some (.int .i64 (S.o : Int)) := Blk.cell h 2
theorem CurS.c3 (h : CurS w g S) : w.cell? ⟨g, 3, none⟩ = some (.int .i64 S.e) := Blk.cell h 3
theorem CurS.below (h : CurS w g S) (hb : Below w.heap.size w w') : CurS w' g S := Blk.below h hb h.lt
theorem BelowB.set {w' : World} (h : BelowB g w w') (o : Nat) (u : Value) : BelowB g w (w'.setCell ⟨g, o, none⟩ u) :=
  ⟨h.os, h.tape, h.output, by simpa using h.size, fun k hk hg => (Below.heap_setCell w' ⟨g, o, none⟩ u k (by simpa using hg)).trans (h.block k hk hg)⟩
end
theorem onS_len {S : CS} {c : Nat} (h : onS S c = true) : S.a < S.x.size := by
  unfold onS at h
  split at h
  · cases h
  · rename_i d hd
    have := (List.getElem?_eq_some_iff.1 hd).1
    rwa [size_list] at this
def RetCur (g : Nat) (v : Value) (S' : CS) (w : World) (e : Ending) (w' : World) : Prop := e = .returned v ∧ CurS w' g S' ∧ BelowB g w w'
set_option maxRecDepth 100000 in
theorem cur_ended (g : Nat) (S : CS) (w : World) (hC : CurS w g S) :
    Calls Try.prog 13 #[.pointer (some ⟨g, 0, none⟩)] w (RetBool ((S.a : Int) == (S.x.size : Int)) w) := by
  have q0 := hC.c0
  have q1 := hC.c1
  clear hC
  go_enter Try.func13, Try.ntmps13
  go_wp2_with fail
  go_quiet (fail)
  go_wp2_with fail
  go_ret
  exact ⟨rfl, below_drewN (Below.refl _ _) _⟩
set_option maxRecDepth 100000 in
theorem cur_stop (g : Nat) (S : CS) (why : Int) (w : World) (hC : CurS w g S) (hO : S.Ok) :
    Calls Try.prog 27 #[.pointer (some ⟨g, 0, none⟩), .int .i64 why] w (RetCur g (.tuple #[]) (stopS S why) w) := by
  have q0 := hC.c0
  have q1 := hC.c1
  have q3 := hC.c3
  by_cases he : S.e = 0
  · have hs : stopS S why = ⟨S.x.extract 0 S.a, S.a, S.o, why⟩ := if_pos he
    rw [he] at q3
    have f0 := Blk.frozen hC 0
    have f3 := Blk.frozen hC 3
    obtain ⟨W, hW⟩ : ∃ W, W = w.setCell ⟨g, 3, none⟩ (.int .i64 why) := ⟨_, rfl⟩
    have hB : Blk W g 37 [.string S.x, .int .i64 (S.a : Int), .int .i64 (S.o : Int), .int .i64 why] := by rw [hW]; exact Blk.set_ hC 3 _
    have p0 : W.cell? ⟨g, 0, none⟩ = some (.string S.x) := Blk.cell hB 0
    have p1 : W.cell? ⟨g, 1, none⟩ = some (.int .i64 (S.a : Int)) := Blk.cell hB 1
    have pf := Blk.frozen hB 0
    have bB : BelowB g w W := by rw [hW]; exact (BelowB.refl _ _).set _ _
    replace hB := Lib.hid hB
    replace bB := Lib.hid bB
    obtain ⟨ai, hai⟩ : ∃ ai : Int, ai = (S.a : Int) := ⟨_, rfl⟩
    have hab : 0 ≤ ai ∧ ai ≤ (S.x.size : Int) := by have := hO.ax; omega
    obtain ⟨y, hy⟩ : ∃ y, y = S.x.extract 0 ai.toNat := ⟨_, rfl⟩
    have hsl : ∀ W', (Instr.slice 9 (.string S.x) none (some (.int .i64 ai)) none).run Try.prog W' = .ok (.string y) W' := fun W' => by
      rw [hy]
      exact run_slice_string_h _ _ _ Try.underlying9 .i64 ai hab.1 hab.2
    rw [← hai] at p1
    have hy2 := Lib.hid (show S.x.extract 0 S.a = y by rw [hy, hai]; rfl)
    replace hai := Lib.hid hai
    replace hy := Lib.hid hy
    replace hs := Lib.hid hs
    clear hC q0 q1
    go_enter Try.func27, Try.ntmps27
    go_wp2_with (rw [← hW]; clear hW)
    refine wp_region_plan 12 [(true, 0), (true, 1), (true, 2), (true, 3), (true, 4), (true, 5), (true, 6), (true, 7), (true, 8), (true, 9), (true, 10), (true, 11)] (by kernel_rfl) (by kernel_rfl) (fun V hV => ?_)
    replace hB : Hid (Blk V g 37 [.string S.x, .int .i64 (S.a : Int), .int .i64 (S.o : Int), .int .i64 why]) := Lib.hid (by rw [hV.out]; exact hB.out)
    replace p0 : V.cell? ⟨g, 0, none⟩ = some (.string S.x) := by rw [hV.out]; exact p0
    replace p1 : V.cell? ⟨g, 1, none⟩ = some (.int .i64 ai) := by rw [hV.out]; exact p1
    replace pf : V.frozen? ⟨g, 0, none⟩ = false := by rw [hV.out]; exact pf
    replace bB : Hid (BelowB g w V) := Lib.hid (by rw [hV.out]; exact ⟨bB.out.os, bB.out.tape, bB.out.output, bB.out.size, bB.out.block⟩)
    clear hV f3 f0 q3
    simp only [List.drop_succ_cons, List.drop_zero]
    iterate 12
      refine wpPlan_float (v := ?_) rfl (by rfl) (fun w' hw' => ?_) (fun K hK => ?_)
      rotate_left
      · (go_simp; try with_reducible rfl)
      go_simp
      refine hK _ ?_
      clear hK K
    refine wpPlan_nil ?_
    go_wp2_with fail
    go_end0
    refine ⟨rfl, ?_, bB.out.set 0 _⟩
    rw [hs.out, hy2.out]
    exact Blk.set_ hB.out 0 _
  · have hs : stopS S why = S := if_neg he
    rw [hs]
    have he' : (S.e == 0) = false := by simp [he]
    go_enter Try.func27, Try.ntmps27
    go_wp2_with fail
    go_end0
    exact ⟨rfl, hC, BelowB.refl _ _⟩
theorem onS_end {S : CS} (h : ¬ S.a < S.x.size) (c : Nat) : onS S c = false := by
  unfold onS; rw [List.getElem?_eq_none (by rw [size_list]; omega)]
theorem onS_at {S : CS} (h : S.a < S.x.size) (c : Nat) : onS S c = decide ((S.x[S.a]'h).toNat = c) := by
  unfold onS; rw [byte_at S.x S.a h]
set_option maxRecDepth 100000 in
set_option maxHeartbeats 400000 in
theorem cur_on (g : Nat) (S : CS) (c : Nat) (w : World) (hC : CurS w g S) (hO : S.Ok) (hc : c < 256) :
    Calls Try.prog 23 #[.pointer (some ⟨g, 0, none⟩), .int .u8 (c : Int)] w (RetBool (onS S c) w) := by
  go_enter Try.func23, Try.ntmps23
  go_wp2_with fail
  refine wp_region_plan 17 [(true, 0), (false, 1), (true, 2), (true, 3), (true, 4), (true, 5), (true, 6), (true, 7), (true, 8), (true, 9), (true, 10), (true, 11), (true, 12), (true, 13), (true, 14), (true, 15), (true, 16)] (by kernel_rfl) (by kernel_rfl) (fun V hV => ?_)
  have hC' : CurS V g S := by rw [hV.out]; exact hC
  have bb := Lib.hid (show Below w.heap.size w V from by rw [hV.out]; exact (Below.refl _ _).drew)
  have cE := Lib.hid (cur_ended g S V hC')
  clear hV hC
  simp only [List.drop_succ_cons, List.drop_nil]
  by_cases hlt : S.a < S.x.size
  · have he : ((S.a : Int) == (S.x.size : Int)) = false := by simp; omega
    rw [he] at cE
    obtain ⟨ai, hai⟩ : ∃ ai : Int, ai = (S.a : Int) := ⟨_, rfl⟩
    have hab : 0 ≤ ai ∧ ai < (S.x.size : Int) := by omega
    have hbs : S.x[ai.toNat]'(by omega) = S.x[S.a]'hlt := by congr 1; omega
    have hres := Lib.hid (onS_at hlt c)
    have hdc : Hid ((((S.x[S.a]'hlt).toNat : Int) == (c : Int)) = decide ((S.x[S.a]'hlt).toNat = c)) := Lib.hid (by rw [Bool.eq_iff_iff]; simp; omega)
    iterate 1
      refine wpPlan_float (v := ?_) rfl (by rfl) (fun w' hw' => ?_) (fun K hK => ?_)
      rotate_left
      · (go_simp; try with_reducible rfl)
      go_simp
      refine hK _ ?_
      clear hK K
    refine wpPlan_only rfl (by rfl) (fun K hK => ?_)
    go_simp
    refine cE.out.mono ?_
    rintro e w3 ⟨rfl, b3⟩
    refine hK _ _ b3 ?_
    clear hK K
    have q0 := (hC'.below b3).c0
    have q1 := (hC'.below b3).c1
    replace bb := Lib.hid (below_trans2 bb.out b3)
    rw [← hai] at q1
    replace hai := Lib.hid hai
    clear hC' b3
    iterate 15
      refine wpPlan_float (v := ?_) rfl (by rfl) (fun w' hw' => ?_) (fun K hK => ?_)
      rotate_left
      · (go_simp; try with_reducible rfl)
      go_simp
      refine hK _ ?_
      clear hK K
    refine wpPlan_nil (NoPanic.normal ?_)
    go_wp2_with fail
    go_ret
    rw [hres.out]
    exact ⟨congrArg (fun b => Ending.returned (Value.bool b)) hdc.out, bb.out⟩
  · have he : ((S.a : Int) == (S.x.size : Int)) = true := by simp; have := hO.ax; omega
    rw [he] at cE
    have hres := Lib.hid (onS_end hlt c)
    iterate 1
      refine wpPlan_float (v := ?_) rfl (by rfl) (fun w' hw' => ?_) (fun K hK => ?_)
      rotate_left
      · (go_simp; try with_reducible rfl)
      go_simp
      refine hK _ ?_
      clear hK K
    refine wpPlan_only rfl (by rfl) (fun K hK => ?_)
    go_simp
    refine cE.out.mono ?_
    rintro e w3 ⟨rfl, b3⟩
    refine hK _ _ b3 ?_
    clear hK K
    replace bb := Lib.hid (below_trans2 bb.out b3)
    iterate 2
      refine wpPlan_float (v := ?_) rfl (by rfl) (fun w' hw' => ?_) (fun K hK => ?_)
      rotate_left
      · (go_simp; try with_reducible rfl)
      go_simp
      refine hK _ ?_
      clear hK K
    iterate 11
      refine wpPlan_skip rfl (by rfl) (fun K hK => ?_)
      go_simp
      refine hK _ ?_
      clear hK K
    iterate 2
      refine wpPlan_float (v := ?_) rfl (by rfl) (fun w' hw' => ?_) (fun K hK => ?_)
      rotate_left
      · (go_simp; try with_reducible rfl)
      go_simp
      refine hK _ ?_
      clear hK K
    refine wpPlan_nil (NoPanic.normal ?_)
    go_wp2_with fail
    go_ret
    rw [hres.out]
    exact ⟨rfl, bb.out⟩
theorem CurS.set1 {w : World} {g : Nat} {S : CS} (h : CurS w g S) : CurS (w.setCell ⟨g, 1, none⟩ (.int .i64 ((S.a : Int) + 1))) g ⟨S.x, S.a + 1, S.o, S.e⟩ := by
  have := Blk.set_ h 1 (.int .i64 ((S.a : Int) + 1))
  exact this
theorem CurS.set2 {w : World} {g : Nat} {S : CS} (h : CurS w g S) : CurS (w.setCell ⟨g, 2, none⟩ (.int .i64 ((S.o : Int) + 1))) g ⟨S.x, S.a, S.o + 1, S.e⟩ := by
  have := Blk.set_ h 2 (.int .i64 ((S.o : Int) + 1))
  exact this
theorem BelowB.next {a w w' : World} {g : Nat} (h : BelowB g a w) (hb : Below w.heap.size w w') : BelowB g a w' := h.trans (BelowB.of hb)
set_option maxRecDepth 100000 in
set_option maxHeartbeats 400000 in
theorem cur_pass (g : Nat) (S : CS) (c : Nat) (w : World) (hC : CurS w g S) (hO : S.Ok) (hc : c < 256) :
    Calls Try.prog 18 #[.pointer (some ⟨g, 0, none⟩), .int .u8 (c : Int)] w (RetCur g (.bool (onS S c)) (passS S c) w) := by
  have cO := Lib.hid (cur_on g S c w hC hO hc)
  cases hon : onS S c with
  | true =>
    have hs : passS S c = ⟨S.x, S.a + 1, S.o, S.e⟩ := if_pos hon
    have hlt := onS_len hon
    have hx := hO.x
    rw [hon] at cO
    rw [hs]
    go_enter Try.func18, Try.ntmps18
    go_wp2_with fail
    refine cO.out.mono ?_; rintro e w1 ⟨rfl, b1⟩
    have hC1 := Lib.hid (hC.below b1)
    have q1 := hC1.out.c1
    have f1 := Blk.frozen hC1.out 1
    have hwr : wrap64 ((S.a : Int) + 1) = (S.a : Int) + 1 := by unfold wrap64; omega
    clear hC
    go_wp2_with fail
    go_ret
    exact ⟨rfl, hC1.out.set1, (BelowB.of b1).set _ _⟩
  | false =>
    have hs : passS S c = S := if_neg (by rw [hon]; simp)
    rw [hon] at cO
    rw [hs]
    go_enter Try.func18, Try.ntmps18
    go_wp2_with fail
    refine cO.out.mono ?_; rintro e w1 ⟨rfl, b1⟩
    go_wp2_with fail
    go_ret
    exact ⟨rfl, hC.below b1, BelowB.of b1⟩
set_option maxRecDepth 100000 in
set_option maxHeartbeats 400000 in
theorem cur_must (g : Nat) (S : CS) (c : Nat) (w : World) (hC : CurS w g S) (hO : S.Ok) (hc : c < 256) :
    Calls Try.prog 20 #[.pointer (some ⟨g, 0, none⟩), .int .u8 (c : Int)] w (RetCur g (.tuple #[]) (mustS S c) w) := by
  have cO := Lib.hid (cur_pass g S c w hC hO hc)
  cases hon : onS S c with
  | true =>
    have hs : mustS S c = passS S c := by unfold mustS passS; rw [if_pos hon, if_pos hon]
    rw [hon] at cO
    rw [hs]
    go_enter Try.func20, Try.ntmps20
    go_wp2_with fail
    refine cO.out.mono ?_; rintro e w1 ⟨rfl, hC1, b1⟩
    go_wp2_with fail
    go_end0
    exact ⟨rfl, hC1, b1⟩
  | false =>
    have hs : passS S c = S := if_neg (by rw [hon]; simp)
    have hm : mustS S c = stopS S 2 := if_neg (by rw [hon]; simp)
    rw [hon, hs] at cO
    rw [hm]
    go_enter Try.func20, Try.ntmps20
    go_wp2_with fail
    refine cO.out.mono ?_; rintro e w1 ⟨rfl, hC1, b1⟩
    have cS := Lib.hid (cur_stop g S 2 w1 hC1 hO)
    go_wp2_with fail
    refine cS.out.mono ?_; rintro e w2 ⟨rfl, hC2, b2⟩
    go_wp2_with fail
    go_end0
    exact ⟨rfl, hC2, b1.trans b2⟩
set_option maxRecDepth 100000 in
set_option maxHeartbeats 400000 in
theorem cur_begin (g : Nat) (S : CS) (w : World) (hC : CurS w g S) (hO : S.Ok) :
    Calls Try.prog 24 #[.pointer (some ⟨g, 0, none⟩)] w (RetCur g (.tuple #[]) (beginS S) w) := by
  have cW := Lib.hid (cur_on g S 119 w hC hO (by omega))
  cases hw : onS S 119 with
  | true =>
    have hlt := onS_len hw
    have hb : beginS S = if S.o = 4096 then stopS S 3 else ⟨S.x, S.a + 1, S.o + 1, S.e⟩ := if_neg (by rw [hw]; simp)
    replace hb := Lib.hid hb
    rw [hw] at cW
    go_enter Try.func24, Try.ntmps24
    go_wp2_with fail
    refine cW.out.mono ?_; rintro e w1 ⟨rfl, b1⟩
    replace hC := Lib.hid (hC.below b1)
    replace b1 := Lib.hid (BelowB.of (g := g) b1)
    have q2 := hC.out.c2
    by_cases ho : S.o = 4096
    · have ho' : (S.o : Int) = 4096 := by omega
      have cS := Lib.hid (cur_stop g S 3 _ hC.out hO)
      have e4 : ((S.o : Int) == 4096) = true := by simp; omega
      go_wp2_with fail
      refine cS.out.mono ?_; rintro e w3 ⟨rfl, hC3, b3⟩
      go_wp2_with fail
      go_end0
      rw [hb.out, if_pos ho]
      exact ⟨rfl, hC3, b1.out.trans b3⟩
    · have e4 : ((S.o : Int) == 4096) = false := by simp; omega
      have q1 := hC.out.c1
      have f1 := Blk.frozen hC.out 1
      have r2 := hC.out.set1.c2
      have g2 := Blk.frozen hC.out.set1 2
      have hx := hO.x
      have ho2 := hO.o
      have hw1 : wrap64 ((S.a : Int) + 1) = (S.a : Int) + 1 := by unfold wrap64; omega
      have hw2 : wrap64 ((S.o : Int) + 1) = (S.o : Int) + 1 := by unfold wrap64; omega
      have hfin := Lib.hid hC.out.set1.set2
      go_wp2_with fail
      go_end0
      rw [hb.out, if_neg ho]
      exact ⟨rfl, hfin.out, (b1.out.set _ _).set _ _⟩
  | false =>
    rw [hw] at cW
    go_enter Try.func24, Try.ntmps24
    go_wp2_with fail
    refine cW.out.mono ?_; rintro e w1 ⟨rfl, b1⟩
    replace hC := hC.below b1
    replace b1 := BelowB.of (g := g) b1
    have cR := Lib.hid (cur_on g S 114 w1 hC hO (by omega))
    cases hr : onS S 114 with
    | true =>
      have hlt := onS_len hr
      have hb : beginS S = if S.o = 4096 then stopS S 3 else ⟨S.x, S.a + 1, S.o + 1, S.e⟩ := if_neg (by rw [hw, hr]; simp)
      replace hb := Lib.hid hb
      rw [hr] at cR
      go_wp2_with fail
      refine cR.out.mono ?_; rintro e w2 ⟨rfl, b2⟩
      replace hC := Lib.hid (hC.below b2)
      replace b1 := Lib.hid (b1.next b2)
      obtain ⟨w1, rfl⟩ : ∃ w1, w1 = w2 := ⟨_, rfl⟩
      have q2 := hC.out.c2
      by_cases ho : S.o = 4096
      · have ho' : (S.o : Int) = 4096 := by omega
        have cS := Lib.hid (cur_stop g S 3 _ hC.out hO)
        have e4 : ((S.o : Int) == 4096) = true := by simp; omega
        go_wp2_with fail
        refine cS.out.mono ?_; rintro e w3 ⟨rfl, hC3, b3⟩
        go_wp2_with fail
        go_end0
        rw [hb.out, if_pos ho]
        exact ⟨rfl, hC3, b1.out.trans b3⟩
      · have e4 : ((S.o : Int) == 4096) = false := by simp; omega
        have q1 := hC.out.c1
        have f1 := Blk.frozen hC.out 1
        have r2 := hC.out.set1.c2
        have g2 := Blk.frozen hC.out.set1 2
        have hx := hO.x
        have ho2 := hO.o
        have hw1 : wrap64 ((S.a : Int) + 1) = (S.a : Int) + 1 := by unfold wrap64; omega
        have hw2 : wrap64 ((S.o : Int) + 1) = (S.o : Int) + 1 := by unfold wrap64; omega
        have hfin := Lib.hid hC.out.set1.set2
        go_wp2_with fail
        go_end0
        rw [hb.out, if_neg ho]
        exact ⟨rfl, hfin.out, (b1.out.set _ _).set _ _⟩
    | false =>
      have hb : beginS S = stopS S 2 := if_pos (by rw [hw, hr]; rfl)
      rw [hr] at cR
      go_wp2_with fail
      refine cR.out.mono ?_; rintro e w2 ⟨rfl, b2⟩
      replace hC := hC.below b2
      replace b1 := b1.next b2
      have cS := Lib.hid (cur_stop g S 2 w2 hC hO)
      go_wp2_with fail
      refine cS.out.mono ?_; rintro e w3 ⟨rfl, hC3, b3⟩
      go_wp2_with fail
      go_end0
      rw [hb]
      exact ⟨rfl, hC3, b1.trans b3⟩
end Go.Proofs.Ytpincmdogaaciaa
