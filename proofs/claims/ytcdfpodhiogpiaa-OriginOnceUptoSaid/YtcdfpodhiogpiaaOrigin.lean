/- The code's own contracts of layer 11: copies of lists, a map of writes whose keys are arrays, what each item reads from, Fill, Whole, Readers. -/
import Derived.Test.YtcdfpodhiogpiaaOrigRef
import Derived.Test.YtcdfpodhiogpiaaDiffer
import Derived.Test.YtcdfpodhiogpiaaInternEq
import Derived.Maps.OwnSet
import Derived.Maps.OwnOps
import Derived.DeepKeys4
namespace Go.Proofs.Ytcdfpodhiogpiaa
open Go.RowKit Go.Maps
set_option linter.unusedVariables false
/-- facts that are differentiated: no step says otherwise -/
theorem step_ok {is : List It} (h : (checkF is).2.2 = 0) (j : Nat) : stepC is j = none := by
  rcases checkF_cases is with h1 | ⟨j', r, h1, _, h2⟩
  · exact h1.1 j
  · rw [h2] at h
    obtain ⟨i, a, b, _, _, _, _, _, _, _, _, h3⟩ := stepC_some h1
    rcases h3 with ⟨h3, _⟩ | ⟨h3, _⟩ <;> omega
theorem take_none {is : List It} {k : Nat} {x : It} (h : stepC is k = none) (hx : is[k]? = some x) (hw : x.wr = true) : writeF (is.take k) x.va x.vl = none := by
  cases ho : writeF (is.take k) x.va x.vl with
  | none => rfl
  | some i =>
    obtain ⟨h1, h2⟩ := writeF_take ho
    rw [(stepC_none h hx hw).1] at h1
    injection h1 with h1
    omega
theorem no_zero {is : List It} (h : ∀ j, stepC is j = none) (a : Int) : writeF is a 0 = none := by
  cases ho : writeF is a 0 with
  | none => rfl
  | some i =>
    obtain ⟨x, h1, h2, _⟩ := writeF_some ho
    simp only [hitW, Bool.and_eq_true, decide_eq_true_eq] at h2
    exact absurd h2.2.2 (stepC_none (h i) h1 h2.1).2
/-- a call's answer: a list -/
def RetLE {α : Type} (E : Enc α) (xs : List α) (w : World) (e : Ending) (w' : World) : Prop := ∃ A n c, e = .returned (.slice A n c) ∧ LAt E w' A n xs ∧ n ≤ c ∧ c ≤ 9223372036854775807 ∧ Below w.heap.size w w'
theorem info_str11 : (Try.prog.info? 9).map (fun i => (i.zero, i.size, i.bytes)) = some (some (.string .empty), 1, 16) := by kernel_rfl
theorem clone_str (A : Option Addr) (n c : Nat) (xs : List ByteArray) (w : World) (hX : LAt encS w A n xs) (hn : n ≤ 4294967296) :
    Calls Try.prog 20 #[.slice A n c] w (RetLE encS xs w) := by
  obtain ⟨i0, hi, hz0, hz1, hz2⟩ := info_parts info_str11
  replace hi := Lib.hid hi
  replace hz0 := Lib.hid hz0
  replace hz1 := Lib.hid hz1
  replace hz2 := Lib.hid hz2
  have hxl := hX.len
  have hok := Lib.hid hX.okAll
  rcases A with _ | ad
  · have hn0 : n = 0 := by
      rcases Nat.eq_zero_or_pos n with h0 | h0
      · exact h0
      · obtain ⟨_, _, hh, _⟩ := hX.2.2 h0
        cases hh
    subst hn0
    have hx0 : xs = [] := List.eq_nil_of_length_eq_zero hxl
    subst hx0
    clear hX hxl
    have hnil : ∀ W : World, (binOp .eql 24 (.slice none 0 c) (.slice none 0 0)).run Try.prog W = .ok (.bool true) W := fun W => by kernel_rfl
    go_enter Try.func20, Try.ntmps20
    go_wp2_with fail
    go_ret
    exact ⟨none, 0, 0, rfl, LAt.nil _ _ _, Nat.le_refl _, by omega, Below.refl _ _⟩
  · have hlit : (w.alloc (.cells #[] 9)).ownsRow w.heap.size 9 1 (.slice (some ⟨w.heap.size, 0, none⟩) 0 0) 0 [] := by
      have h := World.ownsRow_lit (size := 1) (base := w.heap.size) (e := 9) w #[] 0 (Nat.le_refl _) (by omega) (by simp)
      simpa using h
    have hb0 : Below w.heap.size w (w.alloc (.cells #[] 9)) := (Below.refl _ _).alloc (Nat.le_refl _) _
    have hX1 := Lib.hid (hX.below hb0)
    replace hlit := Lib.hid hlit
    replace hb0 := Lib.hid hb0
    clear hX
    have hnil : ∀ W : World, (binOp .eql 24 (.slice (some ad) n c) (.slice none 0 0)).run Try.prog W = .ok (.bool false) W := fun W => by kernel_rfl
    go_enter Try.func20, Try.ntmps20
    go_wp2_with (at_builtin; refine wpList_append_L (E := encS) rfl (.tmp 5) (.tmp 6) _ rfl w.heap.size 9 i0 _ 16 Try.underlying24 hi.out hz0.out hz1.out hz2.out rfl _ 0 [] (by rfl) hlit.out _ n c xs rfl hX1.out (by unfold maxLen; omega) (by omega) hb0.out.size ?_; intro v1 w1 hown1 hbb _ _; have hb1 := Lib.hid (hb0.out.trans hbb); rw [Nat.zero_add, List.nil_append] at hown1; obtain ⟨A1, c1, rfl, hnc, hcm, hL⟩ := LAt.of_own hown1 hok.out hxl; clear hbb hlit hb0 hown1; replace hL := Lib.hid hL; replace hxl := Lib.hid hxl)
    go_ret
    exact ⟨A1, n, c1, rfl, hL.out, hnc, hcm, hb1.out⟩
theorem info_it11 : (Try.prog.info? 38).map (fun i => (i.zero, i.size, i.bytes)) = some (some (.agg #[.int .i64 0, .int .i64 0, .bool false, .int .i64 0, .int .i64 0]), 5, 40) := by kernel_rfl
theorem clone_it (A : Option Addr) (n c : Nat) (xs : List It) (w : World) (hX : LAt encT w A n xs) (hn : n ≤ 4294967296) :
    Calls Try.prog 21 #[.slice A n c] w (RetLE encT xs w) := by
  obtain ⟨i0, hi, hz0, hz1, hz2⟩ := info_parts info_it11
  replace hi := Lib.hid hi
  replace hz0 := Lib.hid hz0
  replace hz1 := Lib.hid hz1
  replace hz2 := Lib.hid hz2
  have hxl := hX.len
  have hok := Lib.hid hX.okAll
  rcases A with _ | ad
  · have hn0 : n = 0 := by
      rcases Nat.eq_zero_or_pos n with h0 | h0
      · exact h0
      · obtain ⟨_, _, hh, _⟩ := hX.2.2 h0
        cases hh
    subst hn0
    have hx0 : xs = [] := List.eq_nil_of_length_eq_zero hxl
    subst hx0
    clear hX hxl
    have hnil : ∀ W : World, (binOp .eql 25 (.slice none 0 c) (.slice none 0 0)).run Try.prog W = .ok (.bool true) W := fun W => by kernel_rfl
    go_enter Try.func21, Try.ntmps21
    go_wp2_with fail
    go_ret
    exact ⟨none, 0, 0, rfl, LAt.nil _ _ _, Nat.le_refl _, by omega, Below.refl _ _⟩
  · have hlit : (w.alloc (.cells #[] 38)).ownsRow w.heap.size 38 5 (.slice (some ⟨w.heap.size, 0, none⟩) 0 0) 0 [] := by
      have h := World.ownsRow_lit (size := 5) (base := w.heap.size) (e := 38) w #[] 0 (Nat.le_refl _) (by omega) (by simp)
      simpa using h
    have hb0 : Below w.heap.size w (w.alloc (.cells #[] 38)) := (Below.refl _ _).alloc (Nat.le_refl _) _
    have hX1 := Lib.hid (hX.below hb0)
    replace hlit := Lib.hid hlit
    replace hb0 := Lib.hid hb0
    clear hX
    have hnil : ∀ W : World, (binOp .eql 25 (.slice (some ad) n c) (.slice none 0 0)).run Try.prog W = .ok (.bool false) W := fun W => by kernel_rfl
    go_enter Try.func21, Try.ntmps21
    go_wp2_with (at_builtin; refine wpList_append_L (E := encT) rfl (.tmp 5) (.tmp 6) _ rfl w.heap.size 38 i0 _ 40 Try.underlying25 hi.out hz0.out hz1.out hz2.out rfl _ 0 [] (by rfl) hlit.out _ n c xs rfl hX1.out (by unfold maxLen; omega) (by omega) hb0.out.size ?_; intro v1 w1 hown1 hbb _ _; have hb1 := Lib.hid (hb0.out.trans hbb); rw [Nat.zero_add, List.nil_append] at hown1; obtain ⟨A1, c1, rfl, hnc, hcm, hL⟩ := LAt.of_own hown1 hok.out hxl; clear hbb hlit hb0 hown1; replace hL := Lib.hid hL; replace hxl := Lib.hid hxl)
    go_ret
    exact ⟨A1, n, c1, rfl, hL.out, hnc, hcm, hb1.out⟩
def I11 (a : Int) : Prop := -9223372036854775808 ≤ a ∧ a < 9223372036854775808
theorem row11 : (65 : TypeId) < Try.prog.types.size := of_decide_eq_true (by kernel_rfl)
theorem laid11 : laidOutB Try.prog = true := by kernel_rfl
theorem wide11 : (match Try.prog.underlying 65 with | some (.array _ _) | some (.struct _) => true | _ => false) = true := by kernel_rfl
theorem keyLaw11 : WideMaps.KeyLaw Try.prog 65 := deep_law_laid laid11 (m := 2) (by omega) row11 (by kernel_rfl) wide11
theorem law11K : Keyed Try.prog 65 := Keyed.of_law keyLaw11
theorem zeroI11 (w : World) : (zeroValue 3).run Try.prog w = .ok (.int .i64 0) w := by kernel_rfl
theorem cells11 : Try.prog.cellsOf 65 = 2 := by kernel_rfl
theorem cells11i : Try.prog.cellsOf 3 = 1 := by kernel_rfl
theorem keyT11 : Try.prog.keyType 65 = true := by kernel_rfl
theorem types11 : ∃ m, Try.prog.types.size = m + 1 := ⟨Try.prog.types.size - 1, by kernel_rfl⟩
def keyV (a v : Int) : Lit := .string (keyBytes [.int .i64 a, .int .i64 v])
theorem key11 {a v : Int} (ha : I11 a) (hv : I11 v) : keyOf Try.prog 65 (.agg #[.int .i64 a, .int .i64 v]) = some (keyV a v) := by
  have hu := Try.underlying65
  have hi := Try.underlying3
  have wa : (Lit.int .i64 a).wf = true := WalkArith.wf_i64 (by unfold I11 at ha; omega)
  have wv : (Lit.int .i64 v).wf = true := WalkArith.wf_i64 (by unfold I11 at hv; omega)
  obtain ⟨m, hm⟩ := types11
  have hf : (Value.agg #[.int .i64 a, .int .i64 v]).formed Try.prog 65 = true := by simp [Value.formed, hu, cells11]
  unfold keyOf
  rw [hu]
  simp only [keyT11, hf, hm, Bool.and_self, if_true, Value.cells]
  unfold Program.keyLits
  simp [hu, hi, cells11, cells11i, Program.keyLits, wa, wv, keyV, show List.range 2 = [0, 1] from rfl]
theorem keyV_ne {a v b u : Int} (ha : I11 a) (hv : I11 v) (hb : I11 b) (hu : I11 u) (h : ¬ (a = b ∧ v = u)) : keyV a v ≠ keyV b u := by
  intro e
  have h1 := key11 ha hv
  rw [e] at h1
  have h2 := keyLaw11.inj h1 (key11 hb hu)
  simp at h2
  exact h h2
theorem keyV_lit (a v : Int) : Go.WideAt.IsKeyLit (keyV a v) := trivial
/-- the map in block B has the first of these items that writes it, of each value of each variable -/
structure KnownA (w : World) (B : Nat) (is : List It) : Prop where
  m : ∃ D : DataW Unit, w.ownsMap Try.prog 65 (plainElem Try.prog 3) B is.length D ∧ (∀ a v, I11 a → I11 v → Maps.has D (keyV a v) = (writeF is a v).isSome) ∧ ∀ a v, I11 a → I11 v → D.atKey (keyV a v) (.lit (.int .i64 0)) = .lit (.int .i64 (((writeF is a v).getD 0 : Nat) : Int))
theorem KnownA.made (w : World) : KnownA (w.alloc (.map #[] 0)) w.heap.size [] :=
  ⟨⟨_, World.ownsMap_made w _ _ _, fun a v _ _ => rfl, fun a v _ _ => rfl⟩⟩
theorem KnownA.below {w w' : World} {B : Nat} {is : List It} (h : KnownA w B is) (hb : Below w.heap.size w w') : KnownA w' B is := by
  obtain ⟨D, hD, h1, h2⟩ := h.m
  exact ⟨⟨D, hD.kept ⟨hb.os, hb.tape, hb.output, hb.size, fun i hi _ => hb.block i hi⟩ (row := none) (by simp), h1, h2⟩⟩
theorem KnownA.setCell {w : World} {B : Nat} {is : List It} (h : KnownA w B is) {a : Addr} (ha : B ≠ a.block) (u : Value) : KnownA (w.setCell a u) B is := by
  obtain ⟨D, hD, h1, h2⟩ := h.m
  exact ⟨⟨D, hD.setCell ha u, h1, h2⟩⟩
theorem KnownA.skip {w : World} {B : Nat} {is : List It} {x : It} (h : KnownA w B is) (hx : ∀ a v, writeF (is ++ [x]) a v = writeF is a v) : KnownA w B (is ++ [x]) := by
  obtain ⟨D, hD, h1, h2⟩ := h.m
  exact ⟨⟨D, hD.mono (by simp), fun a v ha hv => by rw [hx, h1 a v ha hv], fun a v ha hv => by rw [hx, h2 a v ha hv]⟩⟩
theorem KnownA.read {w : World} {B k : Nat} {is : List It} {x : It} (h : KnownA w B (is.take k)) (hx : is[k]? = some x) (hw : x.wr = false) : KnownA w B (is.take (k + 1)) := by rw [take_snoc hx]; exact h.skip (writeF_skip hw)
set_option maxRecDepth 100000 in
set_option maxHeartbeats 2000000 in
theorem writes_origin (w : World) (B : Nat) (is : List It) (x : It) (hN : KnownA w B is) (hx : It.Ok x) (h0 : writeF is x.va 0 = none) :
    Calls Try.prog 33 #[.map (some B), .agg #[.int .i64 x.se, .int .i64 x.pl, .bool x.wr, .int .i64 x.va, .int .i64 x.vl]] w fun e w' => e = .returned (.int .i64 (fromOne is x)) ∧ Below w.heap.size w w' := by
  obtain ⟨xs, xp, xw, xa, xl⟩ := x
  have hone : fromOne is ⟨xs, xp, xw, xa, xl⟩ = if xw = true then -3 else if xl = 0 then -1 else match writeF is xa xl with | some w => (w : Int) | none => -2 := rfl
  simp only at h0 ⊢
  rw [hone]
  clear hone
  have ia : I11 xa := ⟨hx.v0, hx.v1⟩
  have iv : I11 xl := ⟨hx.x0, hx.x1⟩
  obtain ⟨W1, hW1⟩ : ∃ W, W = w.alloc (.cells #[.int .i64 xs, .int .i64 xp, .bool xw, .int .i64 xa, .int .i64 xl] 38) := ⟨_, rfl⟩
  obtain ⟨g1, hg1⟩ : ∃ g, g = w.heap.size := ⟨_, rfl⟩
  have b1 := Lib.hid (show Below w.heap.size w W1 from by rw [hW1]; exact (Below.refl _ _).alloc (Nat.le_refl _) _)
  have k1 : Blk W1 g1 38 [.int .i64 xs, .int .i64 xp, .bool xw, .int .i64 xa, .int .i64 xl] := by rw [hW1, hg1]; exact Blk.new w _ _
  have i2 := k1.cell 2
  have i3 := k1.cell 3
  have i4 := k1.cell 4
  simp only [List.getElem?_cons_zero, List.getElem?_cons_succ] at i2 i3 i4
  cases xw with
  | true =>
    rw [if_pos rfl]
    clear hx hN h0 ia iv
    go_enter Try.func33, Try.ntmps33
    go_wp2_with (rw [← hW1, ← hg1]; clear hW1; replace hg1 := Lib.hid hg1)
    exact bodyPost_ret (v := .int .i64 (-3)) (by simp [results, go_sem]) rfl ⟨rfl, b1.out⟩
  | false =>
    rw [if_neg (by simp)]
    obtain ⟨D, hD, hhas, hat0⟩ := hN.m
    have hD2 := Lib.hid (hD.kept ⟨b1.out.os, b1.out.tape, b1.out.output, b1.out.size, fun i hi _ => b1.out.block i hi⟩ (row := none) (by simp))
    have hkey := Lib.hid (key11 ia iv)
    obtain ⟨kl, hkl⟩ : ∃ k, k = keyV xa xl := ⟨_, rfl⟩
    rw [← hkl] at hkey
    cases ho : writeF is xa xl with
    | some i =>
      have hl0 : xl ≠ 0 := by intro e; rw [e, h0] at ho; cases ho
      rw [if_neg hl0]
      have hh : Hid (Maps.has D kl = true) := Lib.hid (by rw [hkl, hhas xa xl ia iv, ho]; rfl)
      obtain ⟨Z, hZ⟩ : ∃ Z : Int, Z = (i : Int) := ⟨_, rfl⟩
      have hatZ : Hid (D.atKey kl (.lit (.int .i64 0)) = .lit (.int .i64 Z)) := Lib.hid (by rw [hkl, hat0 xa xl ia iv, ho, hZ]; rfl)
      replace hZ := Lib.hid hZ
      clear hhas hat0 ho ia iv hx hD hN hkl h0 hl0 k1
      go_enter Try.func33, Try.ntmps33
      go_wp2_with (first
        | (rw [← hW1, ← hg1]; clear hW1; replace hg1 := Lib.hid hg1)
        |
          (at_lookup
           refine wpList_lookup_own_ok_int _ rfl _ _ 62 rfl 65 3 .i64 law11K Try.underlying62 Try.underlying3 (zeroI11 _) B _ D rfl hD2.out _ _ rfl hkey.out ?_
           intro c' hat hwc
           obtain rfl : c' = Z := by rw [hatZ.out] at hat; injection hat with hat; injection hat with _ hat; exact hat.symm
           rw [hh.out]
           clear hat)
        )
      obtain hZ := hZ.out
      subst hZ
      exact bodyPost_ret (v := .int .i64 (i : Int)) (by simp [results, go_sem]) rfl ⟨rfl, b1.out⟩
    | none =>
      have hh : Hid (Maps.has D kl = false) := Lib.hid (by rw [hkl, hhas xa xl ia iv, ho]; rfl)
      obtain ⟨Z, hZ⟩ : ∃ Z : Int, Z = 0 := ⟨_, rfl⟩
      have hatZ : Hid (D.atKey kl (.lit (.int .i64 0)) = .lit (.int .i64 Z)) := Lib.hid (by rw [hkl, hat0 xa xl ia iv, ho, hZ]; rfl)
      replace hZ := Lib.hid hZ
      clear hhas hat0 ho ia iv hx hD hN hkl h0 k1
      by_cases hl0 : xl = 0
      · rw [if_pos hl0]
        have e0 : (xl == 0) = true := by simp [hl0]
        clear hl0
        go_enter Try.func33, Try.ntmps33
        go_wp2_with (first
          | (rw [← hW1, ← hg1]; clear hW1; replace hg1 := Lib.hid hg1)
          |
            (at_lookup
             refine wpList_lookup_own_ok_int _ rfl _ _ 62 rfl 65 3 .i64 law11K Try.underlying62 Try.underlying3 (zeroI11 _) B _ D rfl hD2.out _ _ rfl hkey.out ?_
             intro c' hat hwc
             obtain rfl : c' = Z := by rw [hatZ.out] at hat; injection hat with hat; injection hat with _ hat; exact hat.symm
             rw [hh.out]
             clear hat)
          )
        exact bodyPost_ret (v := .int .i64 (-1)) (by simp [results, go_sem]) rfl ⟨rfl, b1.out⟩
      · rw [if_neg hl0]
        have e0 : (xl == 0) = false := by simp [hl0]
        clear hl0
        go_enter Try.func33, Try.ntmps33
        go_wp2_with (first
          | (rw [← hW1, ← hg1]; clear hW1; replace hg1 := Lib.hid hg1)
          |
            (at_lookup
             refine wpList_lookup_own_ok_int _ rfl _ _ 62 rfl 65 3 .i64 law11K Try.underlying62 Try.underlying3 (zeroI11 _) B _ D rfl hD2.out _ _ rfl hkey.out ?_
             intro c' hat hwc
             obtain rfl : c' = Z := by rw [hatZ.out] at hat; injection hat with hat; injection hat with _ hat; exact hat.symm
             rw [hh.out]
             clear hat)
          )
        exact bodyPost_ret (v := .int .i64 (-2)) (by simp [results, go_sem]) rfl ⟨rfl, b1.out⟩
set_option maxRecDepth 100000 in
set_option maxHeartbeats 2000000 in
theorem origin_written (A : Option Addr) (n c : Nat) (is : List It) (w : World) (hX : LAt encT w A n is) (hn : n ≤ 4294967296) (hd : ∀ j, stepC is j = none) :
    Calls Try.prog 32 #[.slice A n c] w fun e w' => e = .returned (.map (some w.heap.size)) ∧ KnownA w' w.heap.size is ∧ Below w.heap.size w w' ∧ w.heap.size < w'.heap.size := by
  have hil := hX.len
  obtain ⟨B, hB⟩ : ∃ B, B = w.heap.size := ⟨_, rfl⟩
  obtain ⟨W1, hW1⟩ : ∃ W, W = w.alloc (.map #[] 0) := ⟨_, rfl⟩
  have b1 := Lib.hid (show Below B w W1 from by rw [hW1, hB]; exact (Below.refl _ _).alloc (Nat.le_refl _) _)
  have K1 := Lib.hid (show KnownA W1 B (is.take 0) from by rw [hW1, hB]; exact KnownA.made w)
  have hs1 := Lib.hid (show B < W1.heap.size from by rw [hW1, hB]; simp)
  replace hX := Lib.hid hX
  have hmm := @run_makeMap Try.prog 62
  rw [← hB]
  go_enter Try.func32, Try.ntmps32
  go_wp2_with (rw [← hW1, ← hB]; clear hW1; replace hB := Lib.hid hB)
  clear hmm
  go_loopw [9] (fun t wr => ∃ k : Nat, k ≤ n ∧ t = .int .i64 k ∧ Hid (KnownA wr B (is.take k)) ∧ Hid (Below B w wr) ∧ Hid (B < wr.heap.size)) (fun t _ => n - (intOf t).toNat)
  case atStart => exact ⟨0, Nat.zero_le _, rfl, K1, b1, hs1⟩
  case round =>
    clear b1 K1
    obtain ⟨k, hk, rfl, hK, hb, hsz⟩ := hrel
    by_cases hlt : k < n
    · have hlt' : (k : Int) < (n : Int) := by omega
      have hXr := hX.out.below (hB.out ▸ hb.out)
      obtain ⟨ib, io, x, rfl, hib, hx, hxo, i0, i1, i2, i3, i4⟩ := hXr.item hlt
      have hkw : (k : Int) + 1 < 9223372036854775808 := by omega
      obtain ⟨V, hV⟩ : ∃ W, W = wr.alloc (.cells #[.int .i64 x.se, .int .i64 x.pl, .bool x.wr, .int .i64 x.va, .int .i64 x.vl] 38) := ⟨_, rfl⟩
      obtain ⟨gx, hgx⟩ : ∃ g, g = wr.heap.size := ⟨_, rfl⟩
      have bV : Below wr.heap.size wr V := by rw [hV]; exact (Below.refl _ _).alloc (Nat.le_refl _) _
      have kIt : Blk V gx 38 [.int .i64 x.se, .int .i64 x.pl, .bool x.wr, .int .i64 x.va, .int .i64 x.vl] := by rw [hV, hgx]; exact Blk.new wr _ _
      have bV2 := Lib.hid (hb.out.trans (bV.mono (by have := hsz.out; omega)))
      have szV := Lib.hid (Nat.lt_of_lt_of_le hsz.out bV.size)
      have KV := Lib.hid (hK.out.below bV)
      have hlen : (is.take k).length = k := by rw [List.length_take]; omega
      have hst := hd k
      obtain ⟨J2, J3, J4⟩ := (⟨kIt.cell 2, kIt.cell 3, kIt.cell 4⟩ : _ ∧ _ ∧ _)
      simp only [List.getElem?_cons_zero, List.getElem?_cons_succ] at J2 J3 J4
      obtain ⟨Xs, Xp, Xw, Xa, Xl⟩ := x
      simp only at i0 i1 i2 i3 i4 J2 J3 J4 hV kIt
      replace hb := Lib.hid True.intro
      replace hd := Lib.hid hd
      cases Xw with
      | false =>
        have Kn := Lib.hid (KV.out.read hx rfl)
        clear hxo hx hib hlt bV kIt hlen hst hXr hsz KV
        replace hil := Lib.hid hil
        go_wp2_with (rw [← hV, ← hgx]; clear hV hgx)
        go_round
        case rel => exact ⟨k + 1, by omega, by go_num, Kn, bV2, szV⟩
        case measure => simp [intOf]; omega
      | true =>
        have ho := take_none hst hx rfl
        simp only at ho
        obtain ⟨D, hD, hhas, hat0⟩ := KV.out.m
        rw [hlen] at hD
        replace hD := Lib.hid hD
        have ia : I11 Xa := ⟨hxo.v0, hxo.v1⟩
        have iv : I11 Xl := ⟨hxo.x0, hxo.x1⟩
        have hkey := Lib.hid (key11 ia iv)
        obtain ⟨kl, hkl⟩ : ∃ k, k = keyV Xa Xl := ⟨_, rfl⟩
        rw [← hkl] at hkey
        replace hkl := Lib.hid hkl
        replace hhas := Lib.hid hhas
        replace hat0 := Lib.hid hat0
        replace ia := Lib.hid ia
        replace iv := Lib.hid iv
        replace ho := Lib.hid ho
        replace hx := Lib.hid hx
        replace hlen := Lib.hid hlen
        clear hxo hib hlt bV kIt hst hXr hsz KV
        replace hil := Lib.hid hil
        go_wp2_with (first
          | (rw [← hV, ← hgx]; clear hV; replace hgx := Lib.hid hgx)
          | (at_mapUpdate
             refine wpList_mapUpdate_own _ rfl _ _ _ 62 rfl 65 3 law11K Try.underlying62 _ B k D rfl hD.out (by unfold maxLen; omega) _ _ _ rfl rfl hkey.out _ [] (plainElem_int Try.underlying3 (WalkArith.wf_i64 (by omega))) ?_
             intro w3 hD3 hg3
             replace hD3 := Lib.hid hD3
             replace hg3 := Lib.hid hg3))
        have hIs := World.ownsMap.isMap hD.out
        have b3 : Below B V w3 := ⟨hg3.out.os, hg3.out.tape, hg3.out.output, hg3.out.size, fun i hi => hg3.out.block i (by have := szV.out; omega) (by intro e; injection e with e; omega)⟩
        have Kn : Hid (KnownA w3 B (is.take (k + 1))) := Lib.hid (by
          rw [take_snoc hx.out]
          refine ⟨_, by rw [List.length_append, hlen.out]; exact hD3.out, fun a v ha hv => ?_, fun a v ha hv => ?_⟩
          · by_cases hav : a = Xa ∧ v = Xl
            · obtain ⟨rfl, rfl⟩ := hav
              rw [hkl.out, has_put_same hIs (keyV_lit _ _), writeF_new (x := ⟨Xs, Xp, true, a, v⟩) rfl ho.out]; rfl
            · rw [hkl.out, has_put_other (keyV_ne ha hv ia.out iv.out hav), hhas.out a v ha hv, writeF_other (x := ⟨Xs, Xp, true, Xa, Xl⟩) hav]
          · by_cases hav : a = Xa ∧ v = Xl
            · obtain ⟨rfl, rfl⟩ := hav
              rw [hkl.out, atKey_put_same hIs (keyV_lit _ _), writeF_new (x := ⟨Xs, Xp, true, a, v⟩) rfl ho.out, hlen.out]; rfl
            · rw [hkl.out, atKey_put_other (keyV_ne ha hv ia.out iv.out hav), hat0.out a v ha hv, writeF_other (x := ⟨Xs, Xp, true, Xa, Xl⟩) hav])
        have bE := Lib.hid (bV2.out.trans b3)
        have szE := Lib.hid (Nat.lt_of_lt_of_le szV.out b3.size)
        clear b3 hIs hD3 hg3 i0 i1 i2 i3 i4 J2 J3 J4
        go_wp2_with fail
        go_round
        case rel => exact ⟨k + 1, by omega, by go_num, Kn, bE, szE⟩
        case measure => simp [intOf]; omega
    · have hlt' : ¬ (k : Int) < (n : Int) := by omega
      have hk' : is.take k = is := List.take_of_length_le (by omega)
      rw [hk'] at hK
      clear hlt hk'
      replace hil := Lib.hid hil
      go_wp2_with fail
      exact bodyPost_ret (v := .map (some B)) (by simp [results, go_sem]) rfl ⟨rfl, hK.out, hB.out ▸ hb.out, hsz.out⟩
theorem mk_ints11 (kl kc : IntKind) (n c : Nat) (hnc : n ≤ c) (hc : c ≤ 4398046511104) (W : World) :
    (Instr.makeSlice 23 (.int kl (n : Int)) (.int kc (c : Int))).run Try.prog W = .ok (.slice (some ⟨W.heap.size, 0, none⟩) n c) (W.alloc (.cells (zeros c (.int .i64 0)) 3)) := by
  obtain ⟨i, hi, hz0, hz1, hz2⟩ := info_parts info_int1
  exact run_make_one _ _ i _ Try.underlying23 hi hz0 hz1 rfl kl kc n c hnc (by rw [hz2]; omega) (by omega) W
theorem encI_all11 (ds : List Int) : encI.all ds = ds.map i64v := by
  induction ds with
  | nil => rfl
  | cons x ds ih => rw [Enc.all_cons, ih]; rfl
/-- the first k are put, of n -/
def putK (ds : List Int) (k n : Nat) : List Int := ds.take k ++ List.replicate (n - k) 0
theorem putK_zero (ds : List Int) (n : Nat) : putK ds 0 n = List.replicate n 0 := by simp [putK]
theorem putK_all {ds : List Int} {n : Nat} (h : ds.length = n) : putK ds n n = ds := by simp [putK, ← h]
theorem putK_at {ds : List Int} {k n : Nat} (h : k ≤ ds.length) (hk : k < n) : (putK ds k n)[k]? = some 0 := by
  have ht : (ds.take k).length = k := by rw [List.length_take]; omega
  unfold putK
  rw [List.getElem?_append_right (by omega), ht, Nat.sub_self, show n - k = (n - (k + 1)) + 1 by omega, List.replicate_succ]; rfl
theorem putK_next {ds : List Int} {k n : Nat} {z : Int} (h : ds[k]? = some z) (hk : k < n) : (putK ds k n).set k z = putK ds (k + 1) n := by
  have hl : k < ds.length := (List.getElem?_eq_some_iff.1 h).1
  have ht : (ds.take k).length = k := by rw [List.length_take]; omega
  unfold putK
  rw [List.set_append_right _ _ (by omega), ht, Nat.sub_self, List.take_add_one, h]
  rw [show n - k = (n - (k + 1)) + 1 by omega, List.replicate_succ]
  simp
set_option maxRecDepth 100000 in
set_option maxHeartbeats 2000000 in
theorem origin_origins (A : Option Addr) (n c : Nat) (is : List It) (w : World) (hX : LAt encT w A n is) (hn : n ≤ 4294967296) (hd : (checkF is).2.2 = 0) :
    Calls Try.prog 22 #[.slice A n c] w (RetLE encI (fromF is) w) := by
  have hil := hX.len
  replace hd := Lib.hid (step_ok hd)
  have hmk := mk_ints11 .i64 .i64 n n (Nat.le_refl _) (by omega)
  have cW := Lib.hid (origin_written A n c is w hX hn hd.out)
  replace hX := Lib.hid hX
  replace hil := Lib.hid hil
  go_enter Try.func22, Try.ntmps22
  go_wp2_with fail
  refine cW.out.mono ?_; rintro e W0 ⟨rfl, hK0, b0, s0⟩
  obtain ⟨B, hB⟩ : ∃ B, B = w.heap.size := ⟨_, rfl⟩
  rw [← hB] at hK0 b0 s0 ⊢
  obtain ⟨g1, hg1⟩ : ∃ g, g = W0.heap.size := ⟨_, rfl⟩
  obtain ⟨W1, hW1⟩ : ∃ W, W = W0.alloc (.cells (zeros n (.int .i64 0)) 3) := ⟨_, rfl⟩
  have bW1 : Below W0.heap.size W0 W1 := by rw [hW1]; exact (Below.refl _ _).alloc (Nat.le_refl _) _
  have hK1 := Lib.hid (hK0.below bW1)
  have b1 := Lib.hid (b0.trans (bW1.mono (Nat.le_of_lt s0)))
  have hown0 : Hid (W1.ownsRow g1 3 1 (.slice (some ⟨g1, 0, none⟩) n n) n ((putK (fromF is) 0 n).map i64v)) := Lib.hid (by rw [putK_zero, hW1, hg1]; simpa [i64v] using own_zeros W0 n (.int .i64 0) 3 (by unfold maxLen; omega))
  have hBg := Lib.hid (show B < g1 from by rw [hg1]; exact s0)
  replace hB := Lib.hid hB
  clear cW hK0 b0 s0 bW1
  go_wp2_with (rw [← hW1, ← hg1]; clear hW1 hmk; replace hg1 := Lib.hid hg1)
  go_loopw [14] (fun t wr => ∃ k : Nat, k ≤ n ∧ t = .int .i64 k ∧ Hid (KnownA wr B is) ∧ Hid (Below B w wr) ∧ Hid (wr.ownsRow g1 3 1 (.slice (some ⟨g1, 0, none⟩) n n) n ((putK (fromF is) k n).map i64v))) (fun t _ => n - (intOf t).toNat)
  case atStart => exact ⟨0, Nat.zero_le _, rfl, hK1, b1, hown0⟩
  case round =>
    clear b1 hK1 hown0
    obtain ⟨k, hk, rfl, hK, hb, hown⟩ := hrel
    by_cases hlt : k < n
    · have hlt' : (k : Int) < (n : Int) := by omega
      have hXr := hX.out.below (hB.out ▸ hb.out)
      obtain ⟨ib, io, x, rfl, hib, hx, hxo, i0, i1, i2, i3, i4⟩ := hXr.item hlt
      have hkw : (k : Int) + 1 < 9223372036854775808 := by omega
      obtain ⟨V, hV⟩ : ∃ W, W = wr.alloc (.cells #[.int .i64 x.se, .int .i64 x.pl, .bool x.wr, .int .i64 x.va, .int .i64 x.vl] 38) := ⟨_, rfl⟩
      obtain ⟨gx, hgx⟩ : ∃ g, g = wr.heap.size := ⟨_, rfl⟩
      have bV : Below wr.heap.size wr V := by rw [hV]; exact (Below.refl _ _).alloc (Nat.le_refl _) _
      have kIt : Blk V gx 38 [.int .i64 x.se, .int .i64 x.pl, .bool x.wr, .int .i64 x.va, .int .i64 x.vl] := by rw [hV, hgx]; exact Blk.new wr _ _
      have hwB : B ≤ wr.heap.size := by have := hb.out.size; have := hB.out; omega
      have bV2 := Lib.hid (hb.out.trans (bV.mono hwB))
      have KV := Lib.hid (hK.out.below bV)
      have ownV := Lib.hid (own_below hown.out bV)
      have cO := Lib.hid (writes_origin V B is x KV.out hxo (no_zero hd.out _))
      have hfk := Lib.hid (fromF_at hx)
      obtain ⟨J0, J1, J2, J3, J4⟩ := (⟨kIt.cell 0, kIt.cell 1, kIt.cell 2, kIt.cell 3, kIt.cell 4⟩ : _ ∧ _ ∧ _ ∧ _ ∧ _)
      simp only [List.getElem?_cons_zero, List.getElem?_cons_succ] at J0 J1 J2 J3 J4
      obtain ⟨z, hz⟩ : ∃ z, z = fromOne is x := ⟨_, rfl⟩
      rw [← hz] at cO hfk
      obtain ⟨Xs, Xp, Xw, Xa, Xl⟩ := x
      simp only at i0 i1 i2 i3 i4 J0 J1 J2 J3 J4 hV
      clear hxo hx hib hlt bV kIt hXr hb hK hown hz hwB
      go_wp2_with (rw [← hV, ← hgx]; clear hV; replace hgx := Lib.hid hgx)
      refine cO.out.mono ?_; rintro e w3 ⟨rfl, b3⟩
      have hwV : B ≤ V.heap.size := by have := bV2.out.size; have := hB.out; omega
      have bE := bV2.out.trans (b3.mono hwV)
      have own3 := own_below ownV.out b3
      have K3 := KV.out.below b3
      have fr := own3.frozenAt k
      have cg : w3.cell? ⟨g1, k, none⟩ = some (.int .i64 0) := by rw [own3.cellAt k (by omega), List.getElem?_map, putK_at (by have := (List.getElem?_eq_some_iff.1 hfk.out).1; omega) (by omega)]; rfl
      have own4 := Lib.hid (show (w3.setCell ⟨g1, k, none⟩ (.int .i64 z)).ownsRow g1 3 1 (.slice (some ⟨g1, 0, none⟩) n n) n ((putK (fromF is) (k + 1) n).map i64v) from by
        have := (own3.stored k (i64v z)).1
        rw [← List.map_set, putK_next hfk.out (by omega)] at this
        exact this)
      have K4 := Lib.hid (K3.setCell (a := ⟨g1, k, none⟩) (by have := hBg.out; show B ≠ g1; omega) (.int .i64 z))
      have b4 := Lib.hid (bE.setCell (p := ⟨g1, k, none⟩) (by have := hBg.out; show B ≤ g1; omega) (.int .i64 z))
      clear i0 i1 i2 i3 i4 J0 J1 J2 J3 J4 b3 bE K3 cO hwV
      replace own3 := Lib.hid own3
      go_wp2_with fail
      go_round
      case rel => exact ⟨k + 1, by omega, by go_num, K4, b4, own4⟩
      case measure => simp [intOf]; omega
    · have hkn : k = n := by omega
      subst hkn
      have hlt' : ¬ (k : Int) < (k : Int) := by omega
      rw [putK_all (by rw [fromF_len, hil.out])] at hown
      have hbw := Lib.hid (show Below w.heap.size w wr from hB.out ▸ hb.out)
      clear hlt
      go_wp2_with fail
      refine bodyPost_ret (v := .slice (some ⟨g1, 0, none⟩) k k) (by simp [results, go_sem]) rfl ?_
      refine ⟨_, _, _, rfl, LAt.of_own' (c := k) (base := g1) (e := 3) (E := encI) (by rw [encI_all11]; exact hown.out) (fun z hz => ?_) (by rw [fromF_len, hil.out]), Nat.le_refl _, by omega, hbw.out⟩
      obtain ⟨x, _, rfl⟩ := List.mem_map.1 hz
      have := fromOne_range is x
      have := hil.out
      exact ⟨by omega, by omega⟩
set_option maxRecDepth 100000 in
set_option maxHeartbeats 2000000 in
theorem origin_Fill (v : FV) (f : Fac) (w : World) (hF : FactsAt w v f) (hm : v.m ≤ 1048576) (hn : v.n ≤ 4294967296) (hd : (checkF f.items).2.2 = 0) :
    Calls Try.prog 8 #[.agg #[.slice v.A v.n v.c, .slice v.B v.m v.d, .slice v.C v.k v.e]] w (RetFacts (fillF f) w) := by
  -- a call with facts v: they are boxed at g, the world is W0 then
  have hB0 := Lib.hid (FBox.new hF)
  obtain ⟨g, hg⟩ : ∃ g, g = w.heap.size := ⟨_, rfl⟩
  obtain ⟨W0, hW0⟩ : ∃ W, W = w.alloc (.cells #[.slice v.A v.n v.c, .slice v.B v.m v.d, .slice v.C v.k v.e] 27) := ⟨_, rfl⟩
  rw [← hW0, ← hg] at hB0
  clear hF
  obtain ⟨gr, hgr⟩ : ∃ g, g = W0.heap.size := ⟨_, rfl⟩
  obtain ⟨W1, hW1⟩ : ∃ W, W = W0.alloc (.cells #[.slice none 0 0, .slice none 0 0, .slice none 0 0] 27) := ⟨_, rfl⟩
  have b1 : Below W0.heap.size W0 W1 := by rw [hW1]; exact (Below.refl _ _).alloc (Nat.le_refl _) _
  have kR : Blk W1 gr 27 [.slice none 0 0, .slice none 0 0, .slice none 0 0] := by rw [hW1, hgr]; exact Blk.new W0 _ _
  have hB1 := Lib.hid (hB0.out.later b1)
  have hgw : w.heap.size ≤ gr := by rw [hgr]; exact hB0.out.o.size
  replace hd := Lib.hid hd
  clear hB0 b1
  go_enter Try.func8, Try.ntmps8
  go_wp2_with (first | (rw [← hW0, ← hg]; clear hW0 hg) | (rw [← hW1, ← hgr]; clear hW1; replace hgr := Lib.hid hgr))
  refine wp_region_plan 10 [(true, 0), (true, 1), (true, 3), (true, 4), (true, 6), (true, 7), (false, 2), (false, 5), (false, 8), (true, 9)] (by kernel_rfl) (by kernel_rfl) (fun V hV => ?_)
  have hB := Lib.hid (show FBox w g v f V from by rw [hV.out]; exact hB1.out.later (Below.refl _ _).drew)
  replace kR := Lib.hid (show Blk V gr 27 [.slice none 0 0, .slice none 0 0, .slice none 0 0] from by rw [hV.out]; exact kR)
  clear hV hB1
  have p0 := hB.out.c0
  have p1 := hB.out.c1
  have p2 := hB.out.c2
  have cA := Lib.hid (clone_str v.A v.n v.c f.vars V hB.out.f.vs hn)
  simp only [List.drop_succ_cons, List.drop_zero]
  iterate 6
    refine wpPlan_float (v := ?_) rfl (by rfl) (fun w' hw' => ?_) (fun K hK => ?_)
    rotate_left
    · (go_simp; try with_reducible rfl)
    go_simp
    refine hK _ ?_
    clear hK K
  refine wpPlan_only rfl (by rfl) (fun K hK => ?_)
  go_simp
  refine cA.out.mono ?_
  rintro e w3 ⟨A, na, ca, rfl, hLa, hna, hca, b3⟩
  refine hK _ _ b3 ?_
  clear hK K
  replace hB := Lib.hid (hB.out.later b3)
  replace kR := Lib.hid (kR.out.below b3 kR.out.lt)
  have cB := Lib.hid (clone_it v.B v.m v.d f.items w3 hB.out.f.is (by omega))
  clear b3 cA
  refine wpPlan_only rfl (by rfl) (fun K hK => ?_)
  go_simp
  refine cB.out.mono ?_
  rintro e w4 ⟨B, nb, cb, rfl, hLb, hnb, hcb, b3⟩
  refine hK _ _ b3 ?_
  clear hK K
  replace hB := Lib.hid (hB.out.later b3)
  replace hLa := Lib.hid (hLa.below b3)
  replace kR := Lib.hid (kR.out.below b3 kR.out.lt)
  have cC := Lib.hid (origin_origins v.B v.m v.d f.items w4 hB.out.f.is (by omega) hd.out)
  clear b3 cB
  refine wpPlan_only rfl (by rfl) (fun K hK => ?_)
  go_simp
  refine cC.out.mono ?_
  rintro e w5 ⟨C, nc, cc, rfl, hLc, hnc, hcc, b3⟩
  refine hK _ _ b3 ?_
  clear hK K
  replace hB := Lib.hid (hB.out.later b3)
  replace hLa := Lib.hid (hLa.out.below b3)
  replace hLb := Lib.hid (hLb.below b3)
  replace kR := kR.out.below b3 kR.out.lt
  iterate 1
    refine wpPlan_float (v := ?_) rfl (by rfl) (fun w' hw' => ?_) (fun K hK => ?_)
    rotate_left
    · (go_simp; try with_reducible rfl)
    go_simp
    refine hK _ ?_
    clear hK K
  refine wpPlan_nil ?_
  have hY := (⟨hLa.out, hna, hca, hLb.out, hnb, hcb, hLc, hnc, hcc⟩ : FactsAt w5 ⟨A, na, ca, B, nb, cb, C, nc, cc⟩ (fillF f))
  have hY3 := Lib.hid (hY.put kR (fun u hu => by simp only [List.mem_cons, List.not_mem_nil, or_false] at hu; rcases hu with rfl | rfl | rfl <;> exact ⟨_, _, _, rfl⟩))
  have k4 := ((kR.set_ 0 (.slice A na ca)).set_ 1 (.slice B nb cb)).set_ 2 (.slice C nc cc)
  have e0 := k4.cell 0
  have e1 := k4.cell 1
  have e2 := k4.cell 2
  have c0 := kR.cell 0
  have c1 := kR.cell 1
  have c2 := kR.cell 2
  have f0 := kR.frozen 0
  have f1 := kR.frozen 1
  have f2 := kR.frozen 2
  have hb3 := Lib.hid (((hB.out.o.setCell (p := ⟨gr, 0, none⟩) hgw (.slice A na ca)).setCell (p := ⟨gr, 1, none⟩) hgw (.slice B nb cb)).setCell (p := ⟨gr, 2, none⟩) hgw (.slice C nc cc))
  clear k4 kR hY hLc b3 p0 p1 p2 cC
  go_wp2_with fail
  refine NoPanic.normal ?_
  go_wp2_with fail
  exact bodyPost_ret (v := .agg #[.slice A na ca, .slice B nb cb, .slice C nc cc]) (by simp [results, Try.results8, go_sem, e0, e1, e2]) rfl ⟨⟨A, na, ca, B, nb, cb, C, nc, cc⟩, rfl, hY3.out, hb3.out⟩
set_option maxRecDepth 100000 in
set_option maxHeartbeats 2000000 in
theorem origin_Whole (v : FV) (f : Fac) (w : World) (hF : FactsAt w v f) (hm : v.m ≤ 1048576) (hd : (checkF f.items).2.2 = 0) :
    Calls Try.prog 11 #[.agg #[.slice v.A v.n v.c, .slice v.B v.m v.d, .slice v.C v.k v.e]] w (RetBool (decide (f.frm = fromF f.items)) w) := by
  have hk := hF.fc
  have hk2 := hF.fm
  -- a call with facts v: they are boxed at g, the world is W0 then
  have hB0 := Lib.hid (FBox.new hF)
  obtain ⟨g, hg⟩ : ∃ g, g = w.heap.size := ⟨_, rfl⟩
  obtain ⟨W0, hW0⟩ : ∃ W, W = w.alloc (.cells #[.slice v.A v.n v.c, .slice v.B v.m v.d, .slice v.C v.k v.e] 27) := ⟨_, rfl⟩
  rw [← hW0, ← hg] at hB0
  clear hF
  replace hd := Lib.hid hd
  go_enter Try.func11, Try.ntmps11
  go_wp2_with (rw [← hW0, ← hg]; clear hW0 hg)
  refine wp_region_plan 7 [(true, 0), (true, 1), (true, 2), (true, 3), (false, 4), (false, 5), (true, 6)] (by kernel_rfl) (by kernel_rfl) (fun V hV => ?_)
  have hB := Lib.hid (show FBox w g v f V from by rw [hV.out]; exact hB0.out.later (Below.refl _ _).drew)
  clear hV hB0
  have p0 := hB.out.c0
  have p1 := hB.out.c1
  have p2 := hB.out.c2
  have cC := Lib.hid (origin_origins v.B v.m v.d f.items V hB.out.f.is (by omega) hd.out)
  simp only [List.drop_succ_cons, List.drop_zero]
  iterate 4
    refine wpPlan_float (v := ?_) rfl (by rfl) (fun w' hw' => ?_) (fun K hK => ?_)
    rotate_left
    · (go_simp; try with_reducible rfl)
    go_simp
    refine hK _ ?_
    clear hK K
  refine wpPlan_only rfl (by rfl) (fun K hK => ?_)
  go_simp
  refine cC.out.mono ?_
  rintro e w5 ⟨C, nc, cc, rfl, hLc, hnc, hcc, b3⟩
  refine hK _ _ b3 ?_
  clear hK K
  replace hB := Lib.hid (hB.out.later b3)
  have cE := Lib.hid (equal_int v.C C v.k v.e nc cc f.frm (fromF f.items) w5 hB.out.f.fs hLc (by omega) (by omega))
  clear b3 cC hLc
  refine wpPlan_only rfl (by rfl) (fun K hK => ?_)
  go_simp
  refine cE.out.mono ?_
  rintro e w6 ⟨rfl, q, rfl⟩
  refine hK _ _ (below_drewN (Below.refl _ _) _) ?_
  clear hK K
  replace hB := Lib.hid (hB.out.drewN q)
  iterate 1
    refine wpPlan_float (v := ?_) rfl (by rfl) (fun w' hw' => ?_) (fun K hK => ?_)
    rotate_left
    · (go_simp; try with_reducible rfl)
    go_simp
    refine hK _ ?_
    clear hK K
  refine wpPlan_nil ?_
  clear p0 p1 p2 cE
  go_wp2_with fail
  refine NoPanic.normal ?_
  go_wp2_with fail
  go_ret
  exact ⟨rfl, hB.out.o⟩
theorem readF_none {frm : List Int} {w : Int} {n : Nat} (h : ∀ i, i < n → ¬ (0 ≤ w ∧ frm.getD i 0 = w)) : readF frm w n = [] := by
  unfold readF readN
  rw [List.filter_eq_nil_iff.2 (fun i hi => by
    have := h i (List.mem_range.1 hi)
    simp only [Bool.and_eq_true, decide_eq_true_eq]
    exact this)]
  rfl
theorem fromF_writes {is : List It} {i : Nat} {w : Int} (hi : i < is.length) (h0 : 0 ≤ w) (h : (fromF is).getD i 0 = w) : ∃ x, is[w.toNat]? = some x ∧ x.wr = true := by
  rw [List.getD_eq_getElem?_getD, fromF_at (List.getElem?_eq_getElem hi)] at h
  have h : fromOne is is[i] = w := h
  unfold fromOne at h
  split at h
  · omega
  · split at h
    · omega
    · cases ho : writeF is (is[i]).va (is[i]).vl with
      | none => rw [ho] at h; simp only at h; omega
      | some k =>
        rw [ho] at h
        simp only at h
        obtain ⟨x, h1, h2, _⟩ := writeF_some ho
        simp only [hitW, Bool.and_eq_true, decide_eq_true_eq] at h2
        exact ⟨x, by rw [← h, Int.toNat_natCast]; exact h1, h2.1⟩
set_option maxRecDepth 100000 in
set_option maxHeartbeats 2000000 in
theorem origin_Readers (v : FV) (f : Fac) (x : Int) (w : World) (hF : FactsAt w v f) (hm : v.m ≤ 1048576) (hfr : f.frm = fromF f.items) :
    Calls Try.prog 14 #[.agg #[.slice v.A v.n v.c, .slice v.B v.m v.d, .slice v.C v.k v.e], .int .i64 x] w (RetIL (readF f.frm x f.items.length) w) := by
  have hil := hF.is.len
  have hfl := hF.fs.len
  have hk : v.k = v.m := by rw [← hfl, ← hil, hfr, fromF_len]
  have hno1 : (∀ y, f.items[x.toNat]? = some y → y.wr = true → 0 ≤ x → False) → readF f.frm x f.items.length = [] := fun h => readF_none (fun i hi hh => by
    rw [hfr] at hh
    obtain ⟨y, h1, h2⟩ := fromF_writes hi hh.1 hh.2
    exact h y h1 h2 hh.1)
  rw [hil] at hno1 ⊢
  obtain ⟨i0, hi, hz0, hz1, hz2⟩ := info_parts info_int2
  have hkv := Lib.hid hk
  replace hi := Lib.hid hi
  replace hz0 := Lib.hid hz0
  replace hz1 := Lib.hid hz1
  replace hz2 := Lib.hid hz2
  clear hk hfr
  replace hil := Lib.hid hil
  replace hfl := Lib.hid hfl
  -- a call with facts v: they are boxed at g, the world is W0 then
  have hB0 := Lib.hid (FBox.new hF)
  obtain ⟨g, hg⟩ : ∃ g, g = w.heap.size := ⟨_, rfl⟩
  obtain ⟨W0, hW0⟩ : ∃ W, W = w.alloc (.cells #[.slice v.A v.n v.c, .slice v.B v.m v.d, .slice v.C v.k v.e] 27) := ⟨_, rfl⟩
  rw [← hW0, ← hg] at hB0
  clear hF
  have p0 := hB0.out.c0
  have p1 := hB0.out.c1
  have p2 := hB0.out.c2
  by_cases hx0 : x < 0
  · have hr := Lib.hid (hno1 (fun y _ _ h => by omega))
    have e0 : decide (x < 0) = true := decide_eq_true hx0
    clear hno1
    go_enter Try.func14, Try.ntmps14
    go_wp2_with (rw [← hW0, ← hg]; clear hW0 hg)
    go_ret
    rw [hr.out]
    exact ⟨none, 0, 0, rfl, LAt.nil _ _ _, Nat.le_refl _, by omega, hB0.out.o⟩
  · have e0 : decide (x < 0) = false := decide_eq_false hx0
    by_cases hxm : (v.m : Int) ≤ x
    · have hr := Lib.hid (hno1 (fun y h _ _ => by
        have := (List.getElem?_eq_some_iff.1 h).1
        have := hil.out
        omega))
      have e1 : decide ((v.m : Int) ≤ x) = true := decide_eq_true hxm
      clear hno1
      go_enter Try.func14, Try.ntmps14
      go_wp2_with (rw [← hW0, ← hg]; clear hW0 hg)
      go_ret
      rw [hr.out]
      exact ⟨none, 0, 0, rfl, LAt.nil _ _ _, Nat.le_refl _, by omega, hB0.out.o⟩
    · have e1 : decide ((v.m : Int) ≤ x) = false := decide_eq_false hxm
      obtain ⟨m, rfl⟩ : ∃ m : Nat, x = (m : Int) := ⟨x.toNat, by omega⟩
      obtain ⟨ib, io, y, hyB, hib, hy, hyo, i0', i1, i2, i3, i4⟩ := hB0.out.f.is.item (show m < v.m by omega)
      rw [hyB] at p1
      cases hyw : y.wr with
      | false =>
        rw [hyw] at i2
        have hr := Lib.hid (hno1 (fun y' h hw _ => by
          rw [Int.toNat_natCast, hy] at h
          injection h with h
          subst h
          rw [hyw] at hw; cases hw))
        clear hno1 hyB hy hyo hyw
        go_enter Try.func14, Try.ntmps14
        go_wp2_with (rw [← hW0, ← hg]; clear hW0 hg)
        go_ret
        rw [hr.out]
        exact ⟨none, 0, 0, rfl, LAt.nil _ _ _, Nat.le_refl _, by omega, hB0.out.o⟩
      | true =>
        rw [hyw] at i2
        clear hno1 hyB hy hyo hyw
        go_enter Try.func14, Try.ntmps14
        go_wp2_with (rw [← hW0, ← hg]; clear hW0 hg)
        clear i0' i1 i2 i3 i4 p0 p1 p2 hib
        go_loopw [5, 29] (fun u t wr => ∃ k : Nat, k ≤ v.k ∧ t = .int .i64 k ∧ Hid (Below W0.heap.size W0 wr) ∧ Hid (wr.ownsRow W0.heap.size 3 1 u (readF f.frm m k).length (encI.all (readF f.frm m k)))) (fun _ t _ => v.k - (intOf t).toNat)
        case atStart => exact ⟨0, Nat.zero_le _, rfl, Lib.hid (Below.refl _ _), Lib.hid (World.ownsRow_nil _ _ _ _)⟩
        case round =>
          obtain ⟨k, hkm, rfl, hb, hown⟩ := hrel
          have hB := Lib.hid (hB0.out.later hb.out)
          have hrl := readF_len f.frm m k
          have hrs := readF_succ f.frm m k
          obtain ⟨L, hL⟩ : ∃ L, L = (readF f.frm m k).length := ⟨_, rfl⟩
          rw [← hL] at hown hrl
          have hkv2 := hkv.out
          by_cases hlt : k < v.k
          · have hlt' : (k : Int) < (v.k : Int) := by omega
            have hkw : (k : Int) + 1 < 9223372036854775808 := by omega
            obtain ⟨ic, jo, z, hzC, hic, hz, hzo, j0⟩ := hB.out.f.fs.int hlt
            rw [hzC]
            have hgd : f.frm.getD k 0 = z := by rw [List.getD_eq_getElem?_getD, hz]; rfl
            rw [hgd] at hrs
            replace hgd := Lib.hid hgd
            replace hkv2 := Lib.hid hkv2
            by_cases hzx : z = (m : Int)
            · rw [if_pos (by simp [hzx])] at hrs
              have e1 : (z == (m : Int)) = true := by simp [hzx]
              obtain ⟨gl, hgl⟩ : ∃ g, g = wr.heap.size := ⟨_, rfl⟩
              obtain ⟨VL, hVL⟩ : ∃ W, W = wr.alloc (.cells #[.int .i64 (k : Int)] 3) := ⟨_, rfl⟩
              have bL : Below wr.heap.size wr VL := by rw [hVL]; exact (Below.refl _ _).alloc (Nat.le_refl _) _
              have hlit := Lib.hid (show LAt encI VL (some ⟨gl, 0, none⟩) 1 [(k : Int)] from by rw [hVL, hgl]; exact LAt.lit1 (E := encI) wr 3 (k : Int) ⟨by omega, by omega⟩)
              have hownL := Lib.hid (own_below hown.out bL)
              have bWL := Lib.hid (below_trans2 hb.out bL)
              have hbase := Lib.hid bWL.out.size
              replace hzx := Lib.hid hzx
              replace hrs := Lib.hid hrs
              replace hL := Lib.hid hL
              have hL22 : L ≤ 1048576 := by have := hkv2.out; omega
              replace hzC := Lib.hid hzC
              clear hz hzo bL hown hlt
              go_wp2_with (first
                | (rw [← hVL, ← hgl]; clear hVL hgl)
                | (at_builtin; refine wpList_append_L (E := encI) rfl (.tmp 37) (.tmp 39) _ rfl W0.heap.size 3 i0 _ 8 Try.underlying23 hi.out hz0.out hz1.out hz2.out rfl _ L (readF f.frm m k) (by rfl) hownL.out _ 1 1 _ rfl hlit.out (by unfold maxLen; omega) (by omega) hbase.out ?_; intro v' w7 hown' hb7 _ _))
              refine ⟨⟨k + 1, by omega, by go_num, Lib.hid (bWL.out.trans hb7), Lib.hid (by rw [hrs.out, List.length_append, ← hL.out]; exact hown')⟩, by simp [intOf]; omega⟩
            · rw [if_neg (by simp [hzx])] at hrs
              have e1 : (z == (m : Int)) = false := by simp [hzx]
              replace hzx := Lib.hid hzx
              replace hrs := Lib.hid hrs
              replace hL := Lib.hid hL
              replace hzC := Lib.hid hzC
              clear hz hzo hlt
              go_wp2_with fail
              exact ⟨⟨k + 1, by omega, by go_num, hb, Lib.hid (by rw [hrs.out, ← hL.out]; exact hown.out)⟩, by simp [intOf]; omega⟩
          · have hlt' : ¬ (k : Int) < (v.k : Int) := by omega
            have hkm : k = v.m := by omega
            subst hkm
            obtain ⟨A, c, rfl, hnc, hcm, hLA⟩ := LAt.of_own hown.out (fun z hz => by
              have := readF_ok f.frm m v.m z hz
              exact ⟨by omega, by omega⟩) hL.symm
            clear hlt hkv2
            replace hL := Lib.hid hL
            go_wp2_with fail
            go_ret
            exact ⟨A, _, c, rfl, hLA, hnc, hcm, hB.out.o⟩
end Go.Proofs.Ytcdfpodhiogpiaa
