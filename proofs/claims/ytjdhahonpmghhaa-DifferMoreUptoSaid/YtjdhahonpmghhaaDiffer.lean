/- The code's own contracts of layer 10: a map of first writes, Check, Write. -/
import Derived.Test.YtjdhahonpmghhaaDiffRef
import Derived.Maps.OwnSet
import Derived.Maps.OwnOps
import Derived.DeepKeys4
namespace Go.Proofs.Ytjdhahonpmghhaa
open Go.RowKit Go.Maps
set_option linter.unusedVariables false
theorem writeF_snoc (is : List It) (x : It) (a v : Int) : writeF (is ++ [x]) a v = (writeF is a v).or (if hitW a v x then some is.length else none) := by
  unfold writeF
  rw [List.findIdx?_append]
  congr 1
  simp [List.findIdx?_cons]
theorem writeF_skip {is : List It} {x : It} (h : x.wr = false) (a v : Int) : writeF (is ++ [x]) a v = writeF is a v := by
  rw [writeF_snoc]
  simp [hitW, h]
theorem writeF_old {is : List It} {x : It} {i : Nat} (h : writeF is x.va x.vl = some i) (a v : Int) : writeF (is ++ [x]) a v = writeF is a v := by
  rw [writeF_snoc]
  by_cases hh : hitW a v x = true
  · have h2 := hh
    simp only [hitW, Bool.and_eq_true, decide_eq_true_eq] at h2
    rw [← h2.2.1, ← h2.2.2, h]; rfl
  · rw [if_neg hh]; simp
theorem writeF_new {is : List It} {x : It} (hw : x.wr = true) (h : writeF is x.va x.vl = none) : writeF (is ++ [x]) x.va x.vl = some is.length := by
  rw [writeF_snoc, h]
  simp [hitW, hw]
theorem writeF_other {is : List It} {x : It} {a v : Int} (h : ¬ (a = x.va ∧ v = x.vl)) : writeF (is ++ [x]) a v = writeF is a v := by
  rw [writeF_snoc]
  have : hitW a v x = false := by
    cases hh : hitW a v x with
    | false => rfl
    | true =>
      simp only [hitW, Bool.and_eq_true, decide_eq_true_eq] at hh
      exact absurd ⟨hh.2.1.symm, hh.2.2.symm⟩ h
  rw [this]; simp
theorem take_snoc {α : Type} {l : List α} {k : Nat} {x : α} (h : l[k]? = some x) : l.take (k + 1) = l.take k ++ [x] := by
  rw [List.take_add_one, h]; rfl
theorem writeF_take {is : List It} {k i : Nat} {a v : Int} (h : writeF (is.take k) a v = some i) : writeF is a v = some i ∧ i < k := by
  have h1 := writeF_append (l := is.drop k) h
  rw [List.take_append_drop] at h1
  obtain ⟨x, h2, -⟩ := writeF_some h
  have := (List.getElem?_eq_some_iff.1 h2).1
  rw [List.length_take] at this
  exact ⟨h1, by omega⟩
theorem writeF_take_none {is : List It} {k : Nat} {x : It} (hx : is[k]? = some x) (hw : x.wr = true) (h : writeF (is.take k) x.va x.vl = none) : writeF is x.va x.vl = some k := by
  have h1 := writeF_new hw h
  rw [← take_snoc hx] at h1
  have := (writeF_take h1).1
  rw [this, List.length_take]
  have := (List.getElem?_eq_some_iff.1 hx).1
  rw [Nat.min_eq_left (by omega)]
def In64 (a : Int) : Prop := -9223372036854775808 ≤ a ∧ a < 9223372036854775808
theorem row10 : (53 : TypeId) < Try.prog.types.size := of_decide_eq_true (by kernel_rfl)
theorem laid10 : laidOutB Try.prog = true := by kernel_rfl
theorem wide10 : (match Try.prog.underlying 53 with | some (.array _ _) | some (.struct _) => true | _ => false) = true := by kernel_rfl
theorem keyLaw10 : WideMaps.KeyLaw Try.prog 53 := deep_law_laid laid10 (m := 2) (by omega) row10 (by kernel_rfl) wide10
theorem law10 : Keyed Try.prog 53 := Keyed.of_law keyLaw10
theorem zeroI10 (w : World) : (zeroValue 3).run Try.prog w = .ok (.int .i64 0) w := by kernel_rfl
theorem cells10 : Try.prog.cellsOf 53 = 2 := by kernel_rfl
theorem cells10i : Try.prog.cellsOf 3 = 1 := by kernel_rfl
theorem keyT10 : Try.prog.keyType 53 = true := by kernel_rfl
theorem types10 : ∃ m, Try.prog.types.size = m + 1 := ⟨Try.prog.types.size - 1, by kernel_rfl⟩
def keyW (a v : Int) : Lit := .string (keyBytes [.int .i64 a, .int .i64 v])
theorem key10 {a v : Int} (ha : In64 a) (hv : In64 v) : keyOf Try.prog 53 (.agg #[.int .i64 a, .int .i64 v]) = some (keyW a v) := by
  have hu := Try.underlying53
  have hi := Try.underlying3
  have wa : (Lit.int .i64 a).wf = true := WalkArith.wf_i64 (by unfold In64 at ha; omega)
  have wv : (Lit.int .i64 v).wf = true := WalkArith.wf_i64 (by unfold In64 at hv; omega)
  obtain ⟨m, hm⟩ := types10
  have hf : (Value.agg #[.int .i64 a, .int .i64 v]).formed Try.prog 53 = true := by simp [Value.formed, hu, cells10]
  unfold keyOf
  rw [hu]
  simp only [keyT10, hf, hm, Bool.and_self, if_true, Value.cells]
  unfold Program.keyLits
  simp [hu, hi, cells10, cells10i, Program.keyLits, wa, wv, keyW]
theorem keyW_ne {a v b u : Int} (ha : In64 a) (hv : In64 v) (hb : In64 b) (hu : In64 u) (h : ¬ (a = b ∧ v = u)) : keyW a v ≠ keyW b u := by
  intro e
  have h1 := key10 ha hv
  rw [e] at h1
  have h2 := keyLaw10.inj h1 (key10 hb hu)
  simp at h2
  exact h h2
theorem keyW_lit (a v : Int) : Go.WideAt.IsKeyLit (keyW a v) := trivial
/-- the map in block B has the first of these items that writes it, of each value of each variable -/
structure Known (w : World) (B : Nat) (is : List It) : Prop where
  m : ∃ D : DataW Unit, w.ownsMap Try.prog 53 (plainElem Try.prog 3) B is.length D ∧ (∀ a v, In64 a → In64 v → Maps.has D (keyW a v) = (writeF is a v).isSome) ∧ ∀ a v, In64 a → In64 v → D.atKey (keyW a v) (.lit (.int .i64 0)) = .lit (.int .i64 (((writeF is a v).getD 0 : Nat) : Int))
theorem Known.made (w : World) : Known (w.alloc (.map #[] 0)) w.heap.size [] :=
  ⟨⟨_, World.ownsMap_made w _ _ _, fun a v _ _ => rfl, fun a v _ _ => rfl⟩⟩
theorem Known.below {w w' : World} {B : Nat} {is : List It} (h : Known w B is) (hb : Below w.heap.size w w') : Known w' B is := by
  obtain ⟨D, hD, h1, h2⟩ := h.m
  exact ⟨⟨D, hD.kept ⟨hb.os, hb.tape, hb.output, hb.size, fun i hi _ => hb.block i hi⟩ (row := none) (by simp), h1, h2⟩⟩
theorem Known.skip {w : World} {B : Nat} {is : List It} {x : It} (h : Known w B is) (hx : ∀ a v, writeF (is ++ [x]) a v = writeF is a v) : Known w B (is ++ [x]) := by
  obtain ⟨D, hD, h1, h2⟩ := h.m
  exact ⟨⟨D, hD.mono (by simp), fun a v ha hv => by rw [hx, h1 a v ha hv], fun a v ha hv => by rw [hx, h2 a v ha hv]⟩⟩
def RetFirst (B : Nat) (is : List It) (x : It) (w : World) (e : Ending) (w' : World) : Prop := e = .returned (.int .i64 (((writeF is x.va x.vl).getD is.length : Nat) : Int)) ∧ Known w' B (is ++ [x]) ∧ Below B w w'
set_option maxRecDepth 100000 in
set_option maxHeartbeats 2000000 in
theorem writes_first (w : World) (B : Nat) (is : List It) (x : It) (hN : Known w B is) (hx : It.Ok x) (hw : x.wr = true) (hL : is.length ≤ 9223372036854775806) :
    Calls Try.prog 18 #[.map (some B), .agg #[.int .i64 x.se, .int .i64 x.pl, .bool x.wr, .int .i64 x.va, .int .i64 x.vl], .int .i64 (is.length : Int)] w (RetFirst B is x w) := by
  obtain ⟨D, hD, hhas, hat0⟩ := hN.m
  have hBw := hD.lt
  obtain ⟨xs, xp, xw, xa, xl⟩ := x
  simp only at hw hhas hat0 ⊢
  unfold RetFirst
  simp only
  have ia : In64 xa := ⟨hx.v0, hx.v1⟩
  have iv : In64 xl := ⟨hx.x0, hx.x1⟩
  have hkey := Lib.hid (key10 ia iv)
  obtain ⟨W1, hW1⟩ : ∃ W, W = w.alloc (.cells #[.int .i64 xs, .int .i64 xp, .bool xw, .int .i64 xa, .int .i64 xl] 40) := ⟨_, rfl⟩
  obtain ⟨g1, hg1⟩ : ∃ g, g = w.heap.size := ⟨_, rfl⟩
  have b1 : Below w.heap.size w W1 := by rw [hW1]; exact (Below.refl _ _).alloc (Nat.le_refl _) _
  have k1 : Blk W1 g1 40 [.int .i64 xs, .int .i64 xp, .bool xw, .int .i64 xa, .int .i64 xl] := by rw [hW1, hg1]; exact Blk.new w _ _
  have i3 := k1.cell 3
  have i4 := k1.cell 4
  simp only [List.getElem?_cons_zero, List.getElem?_cons_succ] at i3 i4
  obtain ⟨W2, hW2⟩ : ∃ W, W = W1.alloc (.cells #[.int .i64 xa, .int .i64 xl] 53) := ⟨_, rfl⟩
  obtain ⟨g2, hg2⟩ : ∃ g, g = W1.heap.size := ⟨_, rfl⟩
  have b2 : Below W1.heap.size W1 W2 := by rw [hW2]; exact (Below.refl _ _).alloc (Nat.le_refl _) _
  have k2 : Blk W2 g2 53 [.int .i64 xa, .int .i64 xl] := by rw [hW2, hg2]; exact Blk.new W1 _ _
  have j0 := k2.cell 0
  have j1 := k2.cell 1
  simp only [List.getElem?_cons_zero, List.getElem?_cons_succ] at j0 j1
  have b12 := below_trans2 b1 b2
  have hD2 := hD.kept ⟨b12.os, b12.tape, b12.output, b12.size, fun i hi _ => b12.block i hi⟩ (row := none) (by simp)
  replace hD2 := Lib.hid hD2
  have hN2 := Lib.hid (hN.below b12)
  replace b12 := Lib.hid b12
  obtain ⟨kl, hkl⟩ : ∃ k, k = keyW xa xl := ⟨_, rfl⟩
  rw [← hkl] at hkey
  obtain ⟨n, hn⟩ : ∃ n, n = is.length := ⟨_, rfl⟩
  cases ho : writeF is xa xl with
  | some i =>
    have hh : Hid (Maps.has D kl = true) := Lib.hid (by rw [hkl, hhas xa xl ia iv, ho]; rfl)
    obtain ⟨Z, hZ⟩ : ∃ Z : Int, Z = (i : Int) := ⟨_, rfl⟩
    have hatZ : Hid (D.atKey kl (.lit (.int .i64 0)) = .lit (.int .i64 Z)) := Lib.hid (by rw [hkl, hat0 xa xl ia iv, ho, hZ]; rfl)
    replace hZ := Lib.hid hZ
    replace hw := Lib.hid hw
    have hold := Lib.hid (writeF_old (is := is) (x := ⟨xs, xp, xw, xa, xl⟩) ho)
    clear hhas hat0 ho ia iv hx hD hN b1 k1 b2 k2 hkl
    rw [← hn] at hL hD2 ⊢
    replace hn := Lib.hid hn
    go_enter Try.func18, Try.ntmps18
    go_wp2_with (first
      | (rw [← hW1, ← hg1]; clear hW1; replace hg1 := Lib.hid hg1)
      | (rw [← hW2, ← hg2]; clear hW2; replace hg2 := Lib.hid hg2)
      | (at_lookup
         refine wpList_lookup_own_ok_int _ rfl _ _ 50 rfl 53 3 .i64 law10 Try.underlying50 Try.underlying3 (zeroI10 _) B _ D rfl hD2.out _ _ rfl hkey.out ?_
         intro c' hat hwc
         obtain rfl : c' = Z := by rw [hatZ.out] at hat; injection hat with hat; injection hat with _ hat; exact hat.symm
         rw [hh.out]
         clear hat))
    obtain hZ := hZ.out
    subst hZ
    exact bodyPost_ret (v := .int .i64 (i : Int)) (by simp [results, go_sem]) rfl ⟨rfl, hN2.out.skip hold.out, b12.out.mono (by omega)⟩
  | none =>
    have hh : Hid (Maps.has D kl = false) := Lib.hid (by rw [hkl, hhas xa xl ia iv, ho]; rfl)
    replace hkl := Lib.hid hkl
    replace hhas := Lib.hid hhas
    replace hat0 := Lib.hid hat0
    replace hx := Lib.hid hx
    replace hD := Lib.hid hD
    replace hN := Lib.hid True.intro
    clear b1 k1 b2 hN2
    replace ia := Lib.hid ia
    replace iv := Lib.hid iv
    replace ho := Lib.hid ho
    rw [← hn] at hL hD2 ⊢
    replace hn := Lib.hid hn
    replace hw := Lib.hid hw
    replace k2 := Lib.hid k2
    go_enter Try.func18, Try.ntmps18
    go_wp2_with (first
      | (rw [← hW1, ← hg1]; clear hW1; replace hg1 := Lib.hid hg1)
      | (rw [← hW2, ← hg2]; clear hW2; replace hg2 := Lib.hid hg2)
      | (at_lookup
         refine wpList_lookup_own_ok_int _ rfl _ _ 50 rfl 53 3 .i64 law10 Try.underlying50 Try.underlying3 (zeroI10 _) B _ D rfl hD2.out _ _ rfl hkey.out ?_
         intro c' hat hwc
         rw [hh.out]
         clear hat)
      | (at_mapUpdate
         refine wpList_mapUpdate_own _ rfl _ _ _ 50 rfl 53 3 law10 Try.underlying50 _ B n D rfl hD2.out (by unfold maxLen; omega) _ _ _ rfl rfl hkey.out _ [] (plainElem_int Try.underlying3 (WalkArith.wf_i64 (by omega))) ?_
         intro w3 hD3 hg3
         replace hD3 := Lib.hid hD3
         replace hg3 := Lib.hid hg3))
    have hIs := World.ownsMap.isMap hD.out
    refine bodyPost_ret (v := .int .i64 (n : Int)) (by simp [results, go_sem]) rfl ⟨rfl, ⟨_, by rw [List.length_append, ← hn.out]; exact hD3.out, fun a v ha hv => ?_, fun a v ha hv => ?_⟩, ?_⟩
    · by_cases hav : a = xa ∧ v = xl
      · obtain ⟨rfl, rfl⟩ := hav
        rw [hkl.out, has_put_same hIs (keyW_lit _ _), writeF_new (x := ⟨xs, xp, xw, a, v⟩) hw.out ho.out]; rfl
      · rw [hkl.out, has_put_other (keyW_ne ha hv ia.out iv.out hav), hhas.out a v ha hv, writeF_other (x := ⟨xs, xp, xw, xa, xl⟩) hav]
    · by_cases hav : a = xa ∧ v = xl
      · obtain ⟨rfl, rfl⟩ := hav
        rw [hkl.out, atKey_put_same hIs (keyW_lit _ _), writeF_new (x := ⟨xs, xp, xw, a, v⟩) hw.out ho.out, hn.out]; rfl
      · rw [hkl.out, atKey_put_other (keyW_ne ha hv ia.out iv.out hav), hat0.out a v ha hv, writeF_other (x := ⟨xs, xp, xw, xa, xl⟩) hav]
    · have hg := hg3.out
      have hb := b12.out
      exact ⟨hg.os.trans hb.os, hg.tape.trans hb.tape, hg.output.trans hb.output, Nat.le_trans hb.size hg.size, fun i hi => (hg.block i (by have := hb.size; omega) (by intro e; injection e with e; omega)).trans (hb.block i (by omega))⟩
theorem Known.write {w' : World} {B k : Nat} {is : List It} {x : It} (h : Known w' B (is.take k ++ [x])) (hx : is[k]? = some x) : Known w' B (is.take (k + 1)) := by rw [take_snoc hx]; exact h
theorem Known.read {w : World} {B k : Nat} {is : List It} {x : It} (h : Known w B (is.take k)) (hx : is[k]? = some x) (hw : x.wr = false) : Known w B (is.take (k + 1)) := by rw [take_snoc hx]; exact h.skip (writeF_skip hw)
set_option maxRecDepth 100000 in
set_option maxHeartbeats 2000000 in
theorem differ_Check (v : FV) (f : Fac) (w : World) (hF : FactsAt w v f) :
    Calls Try.prog 10 #[.agg #[.slice v.A v.n v.c, .slice v.B v.m v.d, .slice v.C v.k v.e]] w (RetCheck (checkF f.items) w) := by
  have hil := hF.is.len
  have him : v.m ≤ 9223372036854775807 := by have := hF.ic; have := hF.im; omega
  -- a call with facts v: they are boxed at g, the world is W0 then
  have hB0 := Lib.hid (FBox.new hF)
  obtain ⟨g, hg⟩ : ∃ g, g = w.heap.size := ⟨_, rfl⟩
  obtain ⟨W0, hW0⟩ : ∃ W, W = w.alloc (.cells #[.slice v.A v.n v.c, .slice v.B v.m v.d, .slice v.C v.k v.e] 30) := ⟨_, rfl⟩
  rw [← hW0, ← hg] at hB0
  clear hF
  have p0 := hB0.out.c0
  have p1 := hB0.out.c1
  have p2 := hB0.out.c2
  obtain ⟨B, hB⟩ : ∃ B, B = W0.heap.size := ⟨_, rfl⟩
  obtain ⟨W1, hW1⟩ : ∃ W, W = W0.alloc (.map #[] 0) := ⟨_, rfl⟩
  have b1 := Lib.hid (show Below B W0 W1 from by rw [hW1, hB]; exact (Below.refl _ _).alloc (Nat.le_refl _) _)
  have K1 := Lib.hid (show Known W1 B (f.items.take 0) from by rw [hW1, hB]; exact Known.made W0)
  have hB1 := Lib.hid (hB0.out.later (hB ▸ b1.out))
  have q0 := hB1.out.c0
  have q1 := hB1.out.c1
  have q2 := hB1.out.c2
  obtain ⟨vB, hvB⟩ : ∃ b, b = v.B := ⟨_, rfl⟩
  rw [← hvB] at p1 q1 hW0 ⊢
  replace hvB := Lib.hid hvB
  have hmm := @run_makeMap Try.prog 50
  go_enter Try.func10, Try.ntmps10
  go_wp2_with (first
    | (rw [← hW0, ← hg]; clear hW0 hg)
    | (rw [← hW1, ← hB]; clear hW1; replace hB := Lib.hid hB; clear p0 p1 p2))
  clear q0 q1 q2 hB1 hmm
  go_loopw [13] (fun t wr => ∃ k : Nat, k ≤ v.m ∧ t = .int .i64 k ∧ Hid (Known wr B (f.items.take k)) ∧ Hid (Below B W0 wr) ∧ Hid (∀ j, j < k → stepC f.items j = none)) (fun t _ => v.m - (intOf t).toNat)
  case atStart => exact ⟨0, Nat.zero_le _, rfl, K1, b1, Lib.hid (fun j hj => absurd hj (by omega))⟩
  case round =>
    clear b1 K1
    obtain ⟨k, hk, rfl, hK, hb, hall⟩ := hrel
    have hBr := Lib.hid (hB0.out.later (hB.out ▸ hb.out))
    by_cases hlt : k < v.m
    · have hlt' : (k : Int) < (v.m : Int) := by omega
      obtain ⟨ib, io, x, hxB, hib, hx, hxo, i0, i1, i2, i3, i4⟩ := hBr.out.f.is.item hlt
      have hkw : (k : Int) + 1 < 9223372036854775808 := by omega
      have hno := fun (h : stepC f.items k = none) => Lib.hid (show ∀ j, j < k + 1 → stepC f.items j = none from fun j hj => by
        rcases Nat.lt_succ_iff_lt_or_eq.1 hj with h1 | h1
        · exact hall.out j h1
        · subst h1; exact h)
      have hyes := fun r (h : stepC f.items k = some r) => checkF_at h hall.out
      have hst : stepC f.items k = if x.wr = false then none else if x.vl = 0 then some ((k : Int), (k : Int), 5) else if (writeF f.items x.va x.vl).getD 0 < k then some (((writeF f.items x.va x.vl).getD 0 : Nat), (k : Int), 4) else none := by
        unfold stepC; rw [hx]
      obtain ⟨V, hV⟩ : ∃ W, W = wr.alloc (.cells #[.int .i64 x.se, .int .i64 x.pl, .bool x.wr, .int .i64 x.va, .int .i64 x.vl] 40) := ⟨_, rfl⟩
      obtain ⟨gx, hgx⟩ : ∃ g, g = wr.heap.size := ⟨_, rfl⟩
      have bV : Below wr.heap.size wr V := by rw [hV]; exact (Below.refl _ _).alloc (Nat.le_refl _) _
      have kIt : Blk V gx 40 [.int .i64 x.se, .int .i64 x.pl, .bool x.wr, .int .i64 x.va, .int .i64 x.vl] := by rw [hV, hgx]; exact Blk.new wr _ _
      have hBk : B ≤ wr.heap.size := by have := hB.out; have := hb.out.size; omega
      have bV2 := Lib.hid (hb.out.trans (bV.mono hBk))
      have KV := Lib.hid (hK.out.below bV)
      have hlen : (f.items.take k).length = k := by rw [List.length_take]; omega
      obtain ⟨J0, J1, J2, J3, J4⟩ := (⟨kIt.cell 0, kIt.cell 1, kIt.cell 2, kIt.cell 3, kIt.cell 4⟩ : _ ∧ _ ∧ _ ∧ _ ∧ _)
      simp only [List.getElem?_cons_zero, List.getElem?_cons_succ] at J0 J1 J2 J3 J4
      obtain ⟨Xs, Xp, Xw, Xa, Xl⟩ := x
      simp only at i0 i1 i2 i3 i4 hst J0 J1 J2 J3 J4 hV kIt
      have hvb : vB = some ⟨ib, io, none⟩ := hvB.out.trans hxB
      subst hvb
      replace hall := Lib.hid True.intro
      replace hb := Lib.hid True.intro
      cases Xw with
      | false =>
        have hn := hno (by rw [hst]; rfl)
        have Kn := Lib.hid (KV.out.read hx rfl)
        clear hno hyes hst hxo hx hxB hib hlt bV kIt hlen
        replace hil := Lib.hid hil
        go_wp2_with (rw [← hV, ← hgx]; clear hV hgx)
        go_round
        case rel => exact ⟨k + 1, by omega, by go_num, Kn, bV2, hn⟩
        case measure => simp [intOf]; omega
      | true =>
        by_cases h0 : Xl = 0
        · have hy := Lib.hid (hyes _ (by rw [hst, if_neg (by simp), if_pos h0]))
          have e0 : (Xl == 0) = true := by simp [h0]
          have bE := Lib.hid (hB0.out.later (hB.out ▸ bV2.out)).o
          clear hno hyes hst hxo hx hxB hib hlt bV kIt hlen
          replace h0 := Lib.hid h0
          replace hil := Lib.hid hil
          go_wp2_with (rw [← hV, ← hgx]; clear hV hgx)
          exact bodyPost_ret (v := .tuple #[.int .i64 (k : Int), .int .i64 (k : Int), .int .i64 5]) (by simp [results, go_sem]) rfl ⟨by rw [hy.out], bE.out⟩
        · have e0 : (Xl == 0) = false := by simp [h0]
          have cF := writes_first V B _ _ KV.out hxo rfl (by rw [hlen]; omega)
          rw [hlen] at cF
          unfold RetFirst at cF
          simp only [hlen] at cF
          rw [if_neg (by simp), if_neg h0] at hst
          have hW := Lib.hid (KV.out)
          cases ho : writeF (f.items.take k) Xa Xl with
          | none =>
            rw [ho] at cF
            rw [writeF_take_none hx rfl ho] at hst
            have hn := hno (by rw [hst]; simp)
            have e1 : ((k : Int) != (k : Int)) = false := by simp
            replace cF : Hid (Calls Try.prog 18 _ V fun e w' => e = .returned (.int .i64 (k : Int)) ∧ Known w' B (f.items.take k ++ [_]) ∧ Below B V w') := Lib.hid cF
            replace hx := Lib.hid hx
            clear hno hyes hst hxo hxB hib hlt bV kIt hlen ho
            replace h0 := Lib.hid h0
            replace hil := Lib.hid hil
            go_wp2_with (rw [← hV, ← hgx]; clear hV hgx)
            refine cF.out.mono ?_; rintro e w3 ⟨rfl, K3, b3⟩
            have Kn := Lib.hid (K3.write hx.out)
            have b4 := Lib.hid (bV2.out.trans b3)
            clear K3 b3 i0 i1 i2 i3 i4 J0 J1 J2 J3 J4 e0 cF
            go_wp2_with fail
            go_round
            case rel => exact ⟨k + 1, by omega, by go_num, Kn, b4, hn⟩
            case measure => simp [intOf]; omega
          | some i =>
            obtain ⟨hw1, hik⟩ := writeF_take ho
            rw [ho] at cF
            rw [hw1] at hst
            have hy := Lib.hid (hyes _ (by rw [hst]; simp [hik]; rfl))
            obtain ⟨ii, hii⟩ : ∃ ii : Int, ii = (i : Int) := ⟨_, rfl⟩
            have e1 : (ii != (k : Int)) = true := by simp; omega
            replace cF : Hid (Calls Try.prog 18 _ V fun e w' => e = .returned (.int .i64 ii) ∧ Known w' B (f.items.take k ++ [_]) ∧ Below B V w') := Lib.hid (by rw [hii]; exact cF)
            replace hii := Lib.hid hii
            clear hno hyes hst hxo hxB hib hlt bV kIt hlen ho hw1
            replace h0 := Lib.hid h0
            replace hil := Lib.hid hil
            replace hx := Lib.hid hx
            replace hik := Lib.hid hik
            go_wp2_with (rw [← hV, ← hgx]; clear hV hgx)
            refine cF.out.mono ?_; rintro e w3 ⟨rfl, K3, b3⟩
            have bE := Lib.hid (hB0.out.later (hB.out ▸ bV2.out.trans b3)).o
            clear K3 b3 i0 i1 i2 i3 i4 J0 J1 J2 J3 J4 e0 cF
            go_wp2_with fail
            exact bodyPost_ret (v := .tuple #[.int .i64 ii, .int .i64 (k : Int), .int .i64 4]) (by simp [results, go_sem]) rfl ⟨by rw [hy.out, hii.out], bE.out⟩
    · have hlt' : ¬ (k : Int) < (v.m : Int) := by omega
      have hn := Lib.hid (checkF_none (is := f.items) (fun j hj => hall.out j (by omega)))
      have bE := Lib.hid (hBr.out.o)
      clear hall hlt hBr
      go_wp2_with fail
      exact bodyPost_ret (v := .tuple #[.int .i64 0, .int .i64 0, .int .i64 0]) (by simp [results, go_sem]) rfl ⟨by rw [hn.out], bE.out⟩
set_option maxRecDepth 100000 in
set_option maxHeartbeats 2000000 in
theorem differ_Write (v : FV) (f : Fac) (va vl : Int) (hva : In64 va) (hvl : In64 vl) (w : World) (hF : FactsAt w v f) :
    Calls Try.prog 12 #[.agg #[.slice v.A v.n v.c, .slice v.B v.m v.d, .slice v.C v.k v.e], .int .i64 va, .int .i64 vl] w (RetWrite (writeF f.items va vl) w) := by
  have hil := hF.is.len
  have him : v.m ≤ 9223372036854775807 := by have := hF.ic; have := hF.im; omega
  -- a call with facts v: they are boxed at g, the world is W0 then
  have hB0 := Lib.hid (FBox.new hF)
  obtain ⟨g, hg⟩ : ∃ g, g = w.heap.size := ⟨_, rfl⟩
  obtain ⟨W0, hW0⟩ : ∃ W, W = w.alloc (.cells #[.slice v.A v.n v.c, .slice v.B v.m v.d, .slice v.C v.k v.e] 30) := ⟨_, rfl⟩
  rw [← hW0, ← hg] at hB0
  clear hF
  have p0 := hB0.out.c0
  have p1 := hB0.out.c1
  have p2 := hB0.out.c2
  obtain ⟨B, hB⟩ : ∃ B, B = W0.heap.size := ⟨_, rfl⟩
  obtain ⟨W1, hW1⟩ : ∃ W, W = W0.alloc (.map #[] 0) := ⟨_, rfl⟩
  have b1 := Lib.hid (show Below B W0 W1 from by rw [hW1, hB]; exact (Below.refl _ _).alloc (Nat.le_refl _) _)
  have K1 := Lib.hid (show Known W1 B (f.items.take 0) from by rw [hW1, hB]; exact Known.made W0)
  have hB1 := Lib.hid (hB0.out.later (hB ▸ b1.out))
  have q0 := hB1.out.c0
  have q1 := hB1.out.c1
  have q2 := hB1.out.c2
  obtain ⟨vB, hvB⟩ : ∃ b, b = v.B := ⟨_, rfl⟩
  rw [← hvB] at p1 q1 hW0 ⊢
  replace hvB := Lib.hid hvB
  have hmm := @run_makeMap Try.prog 50
  go_enter Try.func12, Try.ntmps12
  go_wp2_with (first
    | (rw [← hW0, ← hg]; clear hW0 hg)
    | (rw [← hW1, ← hB]; clear hW1; replace hB := Lib.hid hB; clear p0 p1 p2))
  clear q0 q1 q2 hB1 hmm
  go_loopw [17] (fun t wr => ∃ k : Nat, k ≤ v.m ∧ t = .int .i64 k ∧ Hid (Known wr B (f.items.take k)) ∧ Hid (Below B W0 wr)) (fun t _ => v.m - (intOf t).toNat)
  case atStart => exact ⟨0, Nat.zero_le _, rfl, K1, b1⟩
  case round =>
    clear b1 K1
    obtain ⟨k, hk, rfl, hK, hb⟩ := hrel
    have hBr := Lib.hid (hB0.out.later (hB.out ▸ hb.out))
    by_cases hlt : k < v.m
    · have hlt' : (k : Int) < (v.m : Int) := by omega
      obtain ⟨ib, io, x, hxB, hib, hx, hxo, i0, i1, i2, i3, i4⟩ := hBr.out.f.is.item hlt
      have hkw : (k : Int) + 1 < 9223372036854775808 := by omega
      obtain ⟨V, hV⟩ : ∃ W, W = wr.alloc (.cells #[.int .i64 x.se, .int .i64 x.pl, .bool x.wr, .int .i64 x.va, .int .i64 x.vl] 40) := ⟨_, rfl⟩
      obtain ⟨gx, hgx⟩ : ∃ g, g = wr.heap.size := ⟨_, rfl⟩
      have bV : Below wr.heap.size wr V := by rw [hV]; exact (Below.refl _ _).alloc (Nat.le_refl _) _
      have kIt : Blk V gx 40 [.int .i64 x.se, .int .i64 x.pl, .bool x.wr, .int .i64 x.va, .int .i64 x.vl] := by rw [hV, hgx]; exact Blk.new wr _ _
      have hBk : B ≤ wr.heap.size := by have := hB.out; have := hb.out.size; omega
      have bV2 := Lib.hid (hb.out.trans (bV.mono hBk))
      have KV := Lib.hid (hK.out.below bV)
      have hlen : (f.items.take k).length = k := by rw [List.length_take]; omega
      obtain ⟨J0, J1, J2, J3, J4⟩ := (⟨kIt.cell 0, kIt.cell 1, kIt.cell 2, kIt.cell 3, kIt.cell 4⟩ : _ ∧ _ ∧ _ ∧ _ ∧ _)
      simp only [List.getElem?_cons_zero, List.getElem?_cons_succ] at J0 J1 J2 J3 J4
      obtain ⟨Xs, Xp, Xw, Xa, Xl⟩ := x
      simp only at i0 i1 i2 i3 i4 J0 J1 J2 J3 J4 hV kIt
      have hvb : vB = some ⟨ib, io, none⟩ := hvB.out.trans hxB
      subst hvb
      replace hb := Lib.hid True.intro
      cases Xw with
      | false =>
        have Kn := Lib.hid (KV.out.read hx rfl)
        clear hxo hx hxB hib hlt bV kIt hlen
        replace hil := Lib.hid hil
        go_wp2_with (rw [← hV, ← hgx]; clear hV hgx)
        go_round
        case rel => exact ⟨k + 1, by omega, by go_num, Kn, bV2⟩
        case measure => simp [intOf]; omega
      | true =>
        have cF := writes_first V B _ _ KV.out hxo rfl (by rw [hlen]; omega)
        rw [hlen] at cF
        unfold RetFirst at cF
        simp only [hlen] at cF
        obtain ⟨ii, hii⟩ : ∃ ii : Int, ii = (((writeF (f.items.take k) Xa Xl).getD k : Nat) : Int) := ⟨_, rfl⟩
        rw [← hii] at cF
        replace cF := Lib.hid cF
        replace hx := Lib.hid hx
        clear hxo hxB hib hlt bV kIt hlen hii
        replace hil := Lib.hid hil
        go_wp2_with (rw [← hV, ← hgx]; clear hV hgx)
        refine cF.out.mono ?_; rintro e w3 ⟨rfl, K3, b3⟩
        have Kn := Lib.hid (K3.write hx.out)
        have b4 := Lib.hid (bV2.out.trans b3)
        clear K3 b3 i0 i1 i2 i3 i4 J0 J1 J2 J3 J4 cF
        go_wp2_with fail
        go_round
        case rel => exact ⟨k + 1, by omega, by go_num, Kn, b4⟩
        case measure => simp [intOf]; omega
    · have hlt' : ¬ (k : Int) < (v.m : Int) := by omega
      have bE := Lib.hid (hBr.out.o)
      have hk' : f.items.take k = f.items := List.take_of_length_le (by omega)
      rw [hk'] at hK
      obtain ⟨D, hD, hhas, hat0⟩ := hK.out.m
      have hkey := Lib.hid (key10 hva hvl)
      obtain ⟨kl, hkl⟩ : ∃ k, k = keyW va vl := ⟨_, rfl⟩
      rw [← hkl] at hkey
      have hh := Lib.hid (show Maps.has D kl = (writeF f.items va vl).isSome from by rw [hkl, hhas va vl hva hvl])
      have hat1 := Lib.hid (show D.atKey kl (.lit (.int .i64 0)) = .lit (.int .i64 (((writeF f.items va vl).getD 0 : Nat) : Int)) from by rw [hkl, hat0 va vl hva hvl])
      obtain ⟨r1, hr1⟩ : ∃ r : Int, r = (((writeF f.items va vl).getD 0 : Nat) : Int) := ⟨_, rfl⟩
      obtain ⟨r2, hr2⟩ : ∃ r, r = (writeF f.items va vl).isSome := ⟨_, rfl⟩
      rw [← hr1] at hat1
      rw [← hr2] at hh
      replace hr1 := Lib.hid hr1
      replace hr2 := Lib.hid hr2
      replace hD := Lib.hid hD
      replace hkl := Lib.hid hkl
      clear hlt hBr hhas hat0 hk'
      replace hil := Lib.hid hil
      go_wp2_with (first
        | (at_lookup
           refine wpList_lookup_own_ok_int _ rfl _ _ 50 rfl 53 3 .i64 law10 Try.underlying50 Try.underlying3 (zeroI10 _) B _ D rfl hD.out _ _ rfl hkey.out ?_
           intro c' hat hwc
           obtain rfl : c' = r1 := by rw [hat1.out] at hat; injection hat with hat; injection hat with _ hat; exact hat.symm
           rw [hh.out]
           clear hat))
      exact bodyPost_ret (v := .tuple #[.int .i64 (((writeF f.items va vl).getD 0 : Nat) : Int), .bool (writeF f.items va vl).isSome]) (by rw [← hr1.out, ← hr2.out]; simp [results, go_sem]) rfl ⟨rfl, bE.out⟩
end Go.Proofs.Ytjdhahonpmghhaa
