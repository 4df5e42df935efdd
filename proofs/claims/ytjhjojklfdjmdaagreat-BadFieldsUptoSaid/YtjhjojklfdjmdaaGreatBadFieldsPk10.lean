/- The code's own contracts of layer 18: what a round finds (wants, lacks). Contracts of package hull: chosen, keep, Within. -/
import Derived.Test.YtjhjojklfdjmdaaGreatBadFieldsPk9
import Derived.Test.YtjhjojklfdjmdaaGreatBadFieldsPk6
import Derived.Test.YtjhjojklfdjmdaaGreatBadFieldsPk2
import Derived.Maps.OwnSet
import Derived.Maps.OwnOps
import Derived.DeepKeys4
import Derived.Test.YtjhjojklfdjmdaaGreatBadFieldsPk4
namespace Go.Proofs.YtjhjojklfdjmdaaGreat
open Go.RowKit Go.Maps
set_option linter.unusedVariables false
def In18 (a : Int) : Prop := -9223372036854775808 ≤ a ∧ a < 9223372036854775808
set_option maxRecDepth 100000 in
set_option maxHeartbeats 1000000 in
theorem seen_wants (A : Option Addr) (n c : Nat) (X : List (List Nat)) (a b r : Int) (w : World) (hr : RowsAt w A n X) (hn : n ≤ 4096) (hl : ∀ xs ∈ X, xs.length ≤ 64) (ha : In18 a) (hb0 : In18 b) (hr0 : In18 r) :
    Calls Tryz.prog 136 #[.agg #[.int .i64 (n : Int), .slice A n c], .agg #[.int .i64 a, .int .i64 b], .int .i64 r] w (RetB (decide (a ≠ b) && hasM X a r && !hasM X a b) w) := by
  have cH := Lib.hid (fun (i j : Int) (hi : In18 i) (hj : In18 j) (W : World) (hW : RowsAt W A n X) => mat_Has (n : Int) A n c X i j W hW (by omega) (fun xs hx => by have := hl xs hx; omega) hi.1 hi.2 hj.1 hj.2)
  replace ha := Lib.hid ha
  replace hb0 := Lib.hid hb0
  replace hr0 := Lib.hid hr0
  replace hl := Lib.hid hl
  by_cases hab : a = b
  · have hres : Hid ((decide (a ≠ b) && hasM X a r && !hasM X a b) = false) := Lib.hid (by rw [decide_eq_false (by omega)]; rfl)
    have e1 : (a != b) = false := by rw [hab]; simp
    replace hab := Lib.hid hab
    -- the matrix and the pair of a call are boxed: W0 at g, W1 at gp
    have hM0 := Lib.hid (MatK.new (N := (n : Int)) (c := c) w 57 hr)
    obtain ⟨g, hg⟩ : ∃ g, g = w.heap.size := ⟨_, rfl⟩
    obtain ⟨W0, hW0⟩ : ∃ W, W = w.alloc (.cells #[.int .i64 (n : Int), .slice A n c] 57) := ⟨_, rfl⟩
    rw [← hW0, ← hg] at hM0
    have b0 : Below w.heap.size w W0 := by rw [hW0]; exact below_alloc _ _
    obtain ⟨gp, hgp⟩ : ∃ g, g = W0.heap.size := ⟨_, rfl⟩
    obtain ⟨W1, hW1⟩ : ∃ W, W = W0.alloc (.cells #[.int .i64 a, .int .i64 b] 157) := ⟨_, rfl⟩
    have b1 : Below W0.heap.size W0 W1 := by rw [hW1]; exact below_alloc _ _
    have hM := Lib.hid (hM0.out.below b1)
    have kp := Lib.hid (show Blk W1 gp 157 [.int .i64 a, .int .i64 b] from by rw [hW1, hgp]; exact Blk.new _ _ _)
    have hb := Lib.hid (below_trans2 b0 b1)
    have m0 := hM.out.1.c0
    have m1 := hM.out.1.c1
    have p0 := kp.out.cell 0
    have p1 := kp.out.cell 1
    simp only [List.getElem?_cons_zero, List.getElem?_cons_succ] at p0 p1
    clear hM0 b0 b1 hr
    go_enter Tryz.func136, Tryz.ntmps136
    go_wp2_with (first | (rw [← hW0, ← hg]; clear hW0; replace hg := Lib.hid hg) | (rw [← hW1, ← hgp]; clear hW1; replace hgp := Lib.hid hgp))
    go_ret
    exact ⟨by rw [hres.out]; rfl, hb.out⟩
  · have e1 : (a != b) = true := by rw [bne_iff_ne]; exact hab
    cases h1 : hasM X a r with
    | false =>
      have hres : Hid ((decide (a ≠ b) && false && !hasM X a b) = false) := Lib.hid (by simp)
      replace hab := Lib.hid hab
      -- the matrix and the pair of a call are boxed: W0 at g, W1 at gp
      have hM0 := Lib.hid (MatK.new (N := (n : Int)) (c := c) w 57 hr)
      obtain ⟨g, hg⟩ : ∃ g, g = w.heap.size := ⟨_, rfl⟩
      obtain ⟨W0, hW0⟩ : ∃ W, W = w.alloc (.cells #[.int .i64 (n : Int), .slice A n c] 57) := ⟨_, rfl⟩
      rw [← hW0, ← hg] at hM0
      have b0 : Below w.heap.size w W0 := by rw [hW0]; exact below_alloc _ _
      obtain ⟨gp, hgp⟩ : ∃ g, g = W0.heap.size := ⟨_, rfl⟩
      obtain ⟨W1, hW1⟩ : ∃ W, W = W0.alloc (.cells #[.int .i64 a, .int .i64 b] 157) := ⟨_, rfl⟩
      have b1 : Below W0.heap.size W0 W1 := by rw [hW1]; exact below_alloc _ _
      have hM := Lib.hid (hM0.out.below b1)
      have kp := Lib.hid (show Blk W1 gp 157 [.int .i64 a, .int .i64 b] from by rw [hW1, hgp]; exact Blk.new _ _ _)
      have hb := Lib.hid (below_trans2 b0 b1)
      have m0 := hM.out.1.c0
      have m1 := hM.out.1.c1
      have p0 := kp.out.cell 0
      have p1 := kp.out.cell 1
      simp only [List.getElem?_cons_zero, List.getElem?_cons_succ] at p0 p1
      clear hM0 b0 b1 hr
      have c1 := Lib.hid (cH.out a r ha.out hr0.out W1 hM.out.2)
      rw [h1] at c1
      go_enter Tryz.func136, Tryz.ntmps136
      go_wp2_with (first | (rw [← hW0, ← hg]; clear hW0; replace hg := Lib.hid hg) | (rw [← hW1, ← hgp]; clear hW1; replace hgp := Lib.hid hgp))
      refine c1.out.mono ?_; rintro e w2 ⟨rfl, b2⟩
      have hb2 := Lib.hid (below_trans2 hb.out b2)
      clear b2 m0 m1 p0 p1 c1
      go_wp2_with fail
      go_ret
      exact ⟨by rw [hres.out]; rfl, hb2.out⟩
    | true =>
      have hres : Hid ((decide (a ≠ b) && true && !hasM X a b) = !hasM X a b) := Lib.hid (by rw [decide_eq_true hab]; simp)
      obtain ⟨bo, hbo⟩ : ∃ x, x = hasM X a b := ⟨_, rfl⟩
      rw [← hbo] at hres ⊢
      replace hab := Lib.hid hab
      -- the matrix and the pair of a call are boxed: W0 at g, W1 at gp
      have hM0 := Lib.hid (MatK.new (N := (n : Int)) (c := c) w 57 hr)
      obtain ⟨g, hg⟩ : ∃ g, g = w.heap.size := ⟨_, rfl⟩
      obtain ⟨W0, hW0⟩ : ∃ W, W = w.alloc (.cells #[.int .i64 (n : Int), .slice A n c] 57) := ⟨_, rfl⟩
      rw [← hW0, ← hg] at hM0
      have b0 : Below w.heap.size w W0 := by rw [hW0]; exact below_alloc _ _
      obtain ⟨gp, hgp⟩ : ∃ g, g = W0.heap.size := ⟨_, rfl⟩
      obtain ⟨W1, hW1⟩ : ∃ W, W = W0.alloc (.cells #[.int .i64 a, .int .i64 b] 157) := ⟨_, rfl⟩
      have b1 : Below W0.heap.size W0 W1 := by rw [hW1]; exact below_alloc _ _
      have hM := Lib.hid (hM0.out.below b1)
      have kp := Lib.hid (show Blk W1 gp 157 [.int .i64 a, .int .i64 b] from by rw [hW1, hgp]; exact Blk.new _ _ _)
      have hb := Lib.hid (below_trans2 b0 b1)
      have m0 := hM.out.1.c0
      have m1 := hM.out.1.c1
      have p0 := kp.out.cell 0
      have p1 := kp.out.cell 1
      simp only [List.getElem?_cons_zero, List.getElem?_cons_succ] at p0 p1
      clear hM0 b0 b1 hr
      have c1 := Lib.hid (cH.out a r ha.out hr0.out W1 hM.out.2)
      rw [h1] at c1
      go_enter Tryz.func136, Tryz.ntmps136
      go_wp2_with (first | (rw [← hW0, ← hg]; clear hW0; replace hg := Lib.hid hg) | (rw [← hW1, ← hgp]; clear hW1; replace hgp := Lib.hid hgp))
      refine c1.out.mono ?_; rintro e w2 ⟨rfl, b2⟩
      have hb2 := Lib.hid (below_trans2 hb.out b2)
      have hM2 := Lib.hid (hM.out.below b2)
      have kp2 := Lib.hid (kp.out.below b2 kp.out.lt)
      have c2 := Lib.hid (cH.out a b ha.out hb0.out w2 hM2.out.2)
      rw [← hbo] at c2
      replace hbo := Lib.hid hbo
      clear b2 m0 m1 p0 p1 c1
      have m0 := hM2.out.1.c0
      have m1 := hM2.out.1.c1
      have p0 := kp2.out.cell 0
      have p1 := kp2.out.cell 1
      simp only [List.getElem?_cons_zero, List.getElem?_cons_succ] at p0 p1
      go_wp2_with fail
      refine c2.out.mono ?_; rintro e w3 ⟨rfl, b3⟩
      have hb3 := Lib.hid (below_trans2 hb2.out b3)
      clear b3 m0 m1 p0 p1 c2
      go_wp2_with fail
      go_ret
      exact ⟨by rw [hres.out]; rfl, hb3.out⟩
theorem row18 : (157 : TypeId) < Tryz.prog.types.size := of_decide_eq_true (by kernel_rfl)
theorem laid18 : laidOutB Tryz.prog = true := by kernel_rfl
theorem wide18 : (match Tryz.prog.underlying 157 with | some (.array _ _) | some (.struct _) => true | _ => false) = true := by kernel_rfl
set_option maxRecDepth 100000 in
theorem keyLaw18 : WideMaps.KeyLaw Tryz.prog 157 := deep_law_laid laid18 (m := 2) (by omega) row18 (by kernel_rfl) wide18
set_option maxRecDepth 100000 in
theorem law18 : Keyed Tryz.prog 157 := Keyed.of_law keyLaw18
theorem zeroB18 (w : World) : (zeroValue 4).run Tryz.prog w = .ok (.bool false) w := by kernel_rfl
set_option maxRecDepth 100000 in
theorem cells18 : Tryz.prog.cellsOf 157 = 2 := by kernel_rfl
theorem cells18i : Tryz.prog.cellsOf 3 = 1 := by kernel_rfl
theorem keyT18 : Tryz.prog.keyType 157 = true := by kernel_rfl
theorem types18 : ∃ m, Tryz.prog.types.size = m + 1 := ⟨Tryz.prog.types.size - 1, by kernel_rfl⟩
def keyP (a v : Int) : Lit := .string (keyBytes [.int .i64 a, .int .i64 v])
set_option maxRecDepth 100000 in
theorem key18 {a v : Int} (ha : In18 a) (hv : In18 v) : keyOf Tryz.prog 157 (.agg #[.int .i64 a, .int .i64 v]) = some (keyP a v) := by
  have hu := Tryz.underlying157
  have hi := Tryz.underlying3
  have wa : (Lit.int .i64 a).wf = true := WalkArith.wf_i64 (by unfold In18 at ha; omega)
  have wv : (Lit.int .i64 v).wf = true := WalkArith.wf_i64 (by unfold In18 at hv; omega)
  obtain ⟨m, hm⟩ := types18
  have hf : (Value.agg #[.int .i64 a, .int .i64 v]).formed Tryz.prog 157 = true := by simp [Value.formed, hu, cells18]
  unfold keyOf
  rw [hu]
  simp only [keyT18, hf, hm, Bool.and_self, if_true, Value.cells]
  unfold Program.keyLits
  simp [hu, hi, cells18, cells18i, Program.keyLits, wa, wv, keyP]
set_option maxRecDepth 100000 in
theorem keyP_ne {a v b u : Int} (ha : In18 a) (hv : In18 v) (hb : In18 b) (hu : In18 u) (h : ¬ (a = b ∧ v = u)) : keyP a v ≠ keyP b u := by
  intro e
  have h1 := key18 ha hv
  rw [e] at h1
  have h2 := keyLaw18.inj h1 (key18 hb hu)
  simp at h2
  exact h h2
theorem keyP_lit (a v : Int) : Go.WideAt.IsKeyLit (keyP a v) := trivial
/-- the map in block B has just the pairs of these conflicts -/
def FoundP (w : World) (B n : Nat) (acc : List Ed) : Prop := ∃ D : DataW Unit, w.ownsMap Tryz.prog 157 (plainElem Tryz.prog 4) B n D ∧ ∀ a v, In18 a → In18 v → D.atKey (keyP a v) (.lit (.bool false)) = .lit (.bool (decide ((a, v) ∈ edP acc)))
set_option maxRecDepth 100000 in
theorem FoundP.made (w : World) : FoundP (w.alloc (.map #[] 0)) w.heap.size 0 [] := ⟨_, World.ownsMap_made w _ _ _, fun a v _ _ => rfl⟩
theorem FoundP.kept {w w' : World} {B n : Nat} {acc : List Ed} {row : Option Nat} (h : FoundP w B n acc) (hg : w.grownBy w' row) (hne : row ≠ some B) : FoundP w' B n acc := by
  obtain ⟨D, hD, h1⟩ := h
  exact ⟨D, hD.kept hg (fun e => hne e.symm), h1⟩
theorem FoundP.below {w w' : World} {B n : Nat} {acc : List Ed} (h : FoundP w B n acc) (hb : Below w.heap.size w w') : FoundP w' B n acc := h.kept (row := none) ⟨hb.os, hb.tape, hb.output, hb.size, fun i hi _ => hb.block i hi⟩ (by simp)
set_option maxRecDepth 100000 in
theorem FoundP.look {w : World} {B n : Nat} {acc : List Ed} (h : FoundP w B n acc) {a v : Int} (ha : In18 a) (hv : In18 v) : (Instr.lookup 155 (.map (some B)) (.agg #[.int .i64 a, .int .i64 v]) false).run Tryz.prog w = .ok (.bool (decide ((a, v) ∈ edP acc))) w := by
  obtain ⟨D, hD, h1⟩ := h
  obtain ⟨u, ps, hrun, hu⟩ := hD.lookup law18 Tryz.underlying155 (zeroB18 w) (plainElem_bool Tryz.underlying4 false) (key18 ha hv)
  rw [h1 a v ha hv] at hu
  unfold plainElem at hu
  rw [Tryz.underlying4] at hu
  cases u <;> simp at hu
  rw [hrun, hu.1]
theorem info_edge18 : (Tryz.prog.info? 84).map (fun i => (i.zero, i.size, i.bytes)) = some (some (.agg #[.int .i64 0, .int .i64 0, .int .i64 0]), 3, 24) := by kernel_rfl
/-- what is known while a round's edges are sought: the map has the pairs of am, the row has ao -/
structure LkI (w : World) (base g2 g3 B : Nat) (r0 r1 r2 r3 r4 : Value) (n : Nat) (A : Option Addr) (c : Nat) (u : Value) (am ao : List Ed) (wr : World) : Prop where
  b : Below w.heap.size w wr
  k2 : Blk wr g2 142 [r0, r1, r2, r3, r4]
  k3 : Blk wr g3 57 [.int .i64 (n : Int), .slice A n c]
  fm : FoundP wr B am.length am
  o : wr.ownsRow base 84 3 u ao.length (encE.all ao)
  z : w.heap.size ≤ g2 ∧ g2 < base ∧ g3 < base ∧ w.heap.size ≤ B ∧ B < base ∧ base ≤ wr.heap.size ∧ g2 ≠ B ∧ g3 ≠ B ∧ w.heap.size ≤ g3
section
variable {w wr w' : World} {base g2 g3 B : Nat} {r0 r1 r2 r3 r4 : Value} {n : Nat} {A : Option Addr} {c : Nat} {u v' : Value} {am ao am' ao' : List Ed}
theorem LkI.later (h : LkI w base g2 g3 B r0 r1 r2 r3 r4 n A c u am ao wr) (hb : Below wr.heap.size wr w') : LkI w base g2 g3 B r0 r1 r2 r3 r4 n A c u am ao w' :=
  ⟨below_trans2 h.b hb, h.k2.below hb h.k2.lt, h.k3.below hb h.k3.lt, h.fm.below hb, own_below h.o hb, by have := h.z; have := hb.size; omega⟩
theorem LkI.upd (h : LkI w base g2 g3 B r0 r1 r2 r3 r4 n A c u am ao wr) (hg : wr.grownBy w' (some B)) (hf : FoundP w' B am'.length am') : LkI w base g2 g3 B r0 r1 r2 r3 r4 n A c u am' ao w' := by
  obtain ⟨z1, z2, z3, z4, z5, z6, z7, z8, z9⟩ := h.z
  refine ⟨⟨hg.os.trans h.b.os, hg.tape.trans h.b.tape, hg.output.trans h.b.output, Nat.le_trans h.b.size hg.size, fun k hk => (hg.block k (Nat.lt_of_lt_of_le hk h.b.size) (fun e => by injection e with e; omega)).trans (h.b.block k hk)⟩, h.k2.grown hg (fun e => z7 (by injection e)), h.k3.grown hg (fun e => z8 (by injection e)), hf, h.o.kept hg (.inr (fun e => by have := own_lt_block h.o B e; omega)), z1, z2, z3, z4, z5, Nat.le_trans z6 hg.size, z7, z8, z9⟩
theorem LkI.app (h : LkI w base g2 g3 B r0 r1 r2 r3 r4 n A c u am ao wr) (hb : Below base wr w') (hg : wr.grownBy w' u.ownBlock) (ho : w'.ownsRow base 84 3 v' ao'.length (encE.all ao')) : LkI w base g2 g3 B r0 r1 r2 r3 r4 n A c v' am ao' w' := by
  obtain ⟨z1, z2, z3, z4, z5, z6, z7, z8, z9⟩ := h.z
  exact ⟨h.b.trans (hb.mono (by omega)), h.k2.below hb z2, h.k3.below hb z3, h.fm.kept hg (fun e => by have := own_lt_block h.o B e; omega), ho, z1, z2, z3, z4, z5, Nat.le_trans z6 hg.size, z7, z8, z9⟩
end
/-- slices of the kept reads, variable by variable -/
def ReadsAt (w : World) (go n : Nat) (f : Fac) (kept : List Int) : Prop := ∀ k, k < n → ∃ A m c, w.cell? ⟨go, k, none⟩ = some (.slice A m c) ∧ LAt encI w A m (rdsV f kept (k : Int)) ∧ go < w.heap.size
theorem ReadsAt.of {B go n : Nat} {w : World} {vs : List Value} {f : Fac} {kept : List Int} (h : SlotsM encI 27 3 B go n w vs (rdsX f n kept)) : ReadsAt w go n f kept := fun k hk => by
  obtain ⟨A, m, c, l, h1, h2, h3, h4, -, -, -, -, -, h5⟩ := h.get hk
  rw [rdsX_at _ hk] at h2
  injection h2 with h2
  rw [← h2] at h5
  exact ⟨A, m, c, h4, h5, (h.o.lt go rfl).2⟩
set_option maxRecDepth 100000 in
set_option maxHeartbeats 4000000 in
theorem seen_lacks (v : FV) (f : Fac) (U : Option Addr) (nu cu go : Nat) (wsl kept : List Int) (A : Option Addr) (c : Nat) (X : List (List Nat)) (w : World) (hF : FactsAt w v f) (hx : SeenX v f) (hwh : WholeF f) (hvm : v.m ≤ 64)
    (hU : LAt encI w U nu wsl) (hR : ReadsAt w go v.n f kept) (hr : RowsAt w A v.m X) (hG : Good v.m X) (hnd : wsl.Nodup) (hws : ∀ z ∈ wsl, 0 ≤ z ∧ z < (v.m : Int) ∧ isW f z = true) (hk : ∀ z ∈ kept, 0 ≤ z ∧ z < (v.m : Int)) (hkl : kept.length ≤ v.m) (hnu : nu ≤ v.m)
    (hX : ∀ a y : Nat, Rel X a y → isW f (a : Int) = true → (a : Int) ∈ wsl) :
    Calls Tryz.prog 121 #[.agg #[.slice v.A v.n v.c, .slice v.B v.m v.d, .slice v.C v.k v.e, .slice U nu cu, .slice (some ⟨go, 0, none⟩) v.n v.n], .agg #[.int .i64 (v.m : Int), .slice A v.m c]] w (RetELF (newF f X kept) w) := by
  have hil := hF.is.len
  have hfl := Lib.hid (show v.k = v.m from by rw [← hil, ← hF.fs.len]; exact hwh.len)
  have hperm := Lib.hid (lkA_perm (X := X) (kept := kept) hx.fr hnd (by rw [hil]; exact hws) (by rw [hil]; exact hk) hX)
  have hsm := Lib.hid hG.small
  have hlkl : ∀ q, (lkA f X kept (wsl.take q)).length ≤ 4096 := fun q => by
    have h1 := lkA_len (f := f) (X := X) (kept := kept) (wsl.take q)
    have h2 : (wsl.take q).length ≤ 64 := by rw [List.length_take, hU.len]; omega
    have h3 : (wsl.take q).length * kept.length ≤ 64 * 64 := Nat.mul_le_mul h2 (by omega)
    omega
  replace hlkl := Lib.hid hlkl
  have cW := Lib.hid (fun (a b r : Int) (W : World) (hW : RowsAt W A v.m X) (ha : In18 a) (hb : In18 b) (hr : In18 r) => seen_wants A v.m c X a b r W hW (by omega) hsm.out ha hb hr)
  have hokE := Lib.hid (newF_okE (f := f) (X := X) (kept := kept) (by rw [hil]; exact hk) (by omega))
  have hflt := Lib.hid (show ∀ z ∈ f.frm, z < (v.m : Int) from by rw [← hil]; exact hwh.lt)
  have hfrom := Lib.hid (show ∀ z ∈ f.frm, -3 ≤ z from by
    rw [hx.fr]
    intro z hz
    obtain ⟨y, -, rfl⟩ := List.mem_map.1 hz
    exact (fromOne_range _ _).1)
  have hF0 := Lib.hid hF
  have hU0 := Lib.hid hU
  have hR0 := Lib.hid hR
  have hr0 := Lib.hid hr
  replace hx := Lib.hid hx
  replace hws := Lib.hid hws
  replace hk := Lib.hid hk
  replace hil := Lib.hid hil
  obtain ⟨i0', hi, hz0, hz1, hz2⟩ := info_parts info_edge18
  replace hi := Lib.hid hi
  replace hz0 := Lib.hid hz0
  replace hz1 := Lib.hid hz1
  replace hz2 := Lib.hid hz2
  have hmm := @run_makeMap Tryz.prog 155
  clear hF hU hR hr hwh hG hX hnd
  obtain ⟨g2, hg2⟩ : ∃ g, g = w.heap.size := ⟨_, rfl⟩
  obtain ⟨W0, hW0⟩ : ∃ W, W = w.alloc (.cells #[.slice v.A v.n v.c, .slice v.B v.m v.d, .slice v.C v.k v.e, .slice U nu cu, .slice (some ⟨go, 0, none⟩) v.n v.n] 142) := ⟨_, rfl⟩
  have b0 : Below w.heap.size w W0 := by rw [hW0]; exact below_alloc _ _
  have k0 : Blk W0 g2 142 [.slice v.A v.n v.c, .slice v.B v.m v.d, .slice v.C v.k v.e, .slice U nu cu, .slice (some ⟨go, 0, none⟩) v.n v.n] := by rw [hW0, hg2]; exact Blk.new _ _ _
  obtain ⟨g3, hg3⟩ : ∃ g, g = W0.heap.size := ⟨_, rfl⟩
  obtain ⟨W1, hW1⟩ : ∃ W, W = W0.alloc (.cells #[.int .i64 (v.m : Int), .slice A v.m c] 57) := ⟨_, rfl⟩
  have b1 : Below W0.heap.size W0 W1 := by rw [hW1]; exact below_alloc _ _
  have k1 : Blk W1 g3 57 [.int .i64 (v.m : Int), .slice A v.m c] := by rw [hW1, hg3]; exact Blk.new _ _ _
  obtain ⟨B, hBe⟩ : ∃ g, g = W1.heap.size := ⟨_, rfl⟩
  obtain ⟨W2, hW2⟩ : ∃ W, W = W1.alloc (.map #[] 0) := ⟨_, rfl⟩
  have b2 : Below W1.heap.size W1 W2 := by rw [hW2]; exact below_alloc _ _
  have hI2 := Lib.hid (show LkI w W2.heap.size g2 g3 B (.slice v.A v.n v.c) (.slice v.B v.m v.d) (.slice v.C v.k v.e) (.slice U nu cu) (.slice (some ⟨go, 0, none⟩) v.n v.n) v.m A c (.slice none 0 0) [] (lkA f X kept (wsl.take 0)) W2 from by
    have e0 := k0.lt
    have e1 := k1.lt
    have s0 : W1.heap.size = W0.heap.size + 1 := by rw [hW1]; simp
    have s1 : W2.heap.size = W1.heap.size + 1 := by rw [hW2]; simp
    have s2 : W0.heap.size = w.heap.size + 1 := by rw [hW0]; simp
    exact ⟨below_trans2 (below_trans2 b0 b1) b2, (k0.below b1 k0.lt).below b2 (k0.below b1 k0.lt).lt, k1.below b2 k1.lt, by rw [hW2, hBe]; exact FoundP.made W1, World.ownsRow_nil _ _ _ _, by omega⟩)
  have hI1 : Below w.heap.size w W1 := below_trans2 b0 b1
  clear b0 b1 b2 k0 k1
  go_enter Tryz.func121, Tryz.ntmps121
  go_wp2_with (first | (rw [← hW0, ← hg2]; clear hW0; replace hg2 := Lib.hid hg2) | (rw [← hW1, ← hg3]; clear hW1; replace hg3 := Lib.hid hg3) | (rw [← hW2, ← hBe]; clear hW2; replace hBe := Lib.hid hBe; have c3 := hI2.out.k2.cell 3; simp only [List.getElem?_cons_zero, List.getElem?_cons_succ] at c3))
  clear hmm hI1 c3
  obtain ⟨B2, hB2⟩ : ∃ n, n = W2.heap.size := ⟨_, rfl⟩
  rw [← hB2] at hI2
  replace hB2 := Lib.hid hB2
  have hUl := Lib.hid hU0.out.len
  go_loopw [5, 16] (fun u t wr => ∃ q : Nat, q ≤ nu ∧ t = .int .i64 (q : Int) ∧ Hid (LkI w B2 g2 g3 B (.slice v.A v.n v.c) (.slice v.B v.m v.d) (.slice v.C v.k v.e) (.slice U nu cu) (.slice (some ⟨go, 0, none⟩) v.n v.n) v.m A c u (lkA f X kept (wsl.take q)) (lkA f X kept (wsl.take q)) wr)) (fun _ t _ => nu - (intOf t).toNat)
  case atStart => exact ⟨0, Nat.zero_le _, rfl, hI2⟩
  case round =>
    clear hI2
    obtain ⟨q, hq, rfl, hI⟩ := hrel
    by_cases hlt : q < nu
    · have hlt' : (q : Int) < (nu : Int) := by omega
      have hq0 : 0 ≤ (q : Int) ∧ (q : Int) < (nu : Int) := ⟨by omega, hlt'⟩
      obtain ⟨ub, uo, z, rfl, hebl, hz, hzo, x0⟩ := (hU0.out.below hI.out.b).int hlt
      have hzz := hws.out z (List.mem_of_getElem? hz)
      obtain ⟨a, rfl⟩ := Int.eq_ofNat_of_zero_le hzz.1
      have ham : a < v.m := by omega
      have ham' : (a : Int) < (v.m : Int) := hzz.2.1
      have ha0 : (0 : Int) ≤ (a : Int) := hzz.1
      obtain ⟨ib, io, x, hxB, hib, hxi, -, i0, i1, i2, i3, i4⟩ := (hF0.out.below hI.out.b).is.item ham
      have hva : vaZ f (a : Int) = x.va := by unfold vaZ; rw [Int.toNat_natCast, hxi]
      have hvr := hx.out.va x (List.mem_of_getElem? hxi)
      obtain ⟨b, hb0⟩ := Int.eq_ofNat_of_zero_le hvr.1
      rw [hb0] at i3 hva hvr
      have hbn : b < v.n := by omega
      have hbn' : 0 ≤ (b : Int) ∧ (b : Int) < (v.n : Int) := hvr
      obtain ⟨Ar, mr, cr, r0, hRL, hgol⟩ := hR0.out b hbn
      have r0' := (hI.out.b.cell (p := ⟨go, b, none⟩) hgol).trans r0
      have hstep := lkA_take (f := f) (X := X) (kept := kept) hz
      rw [hva] at hstep
      obtain ⟨zs, hzs⟩ : ∃ l, l = rdsV f kept (b : Int) := ⟨_, rfl⟩
      rw [← hzs] at hRL hstep
      have hzl : mr ≤ 64 := by rw [← hRL.len, hzs]; exact Nat.le_trans (rdsV_len _) (by omega)
      have hzk : Hid (∀ z ∈ zs, (0 ≤ z ∧ z < (v.m : Int)) ∧ 0 ≤ fromZ f z) := Lib.hid (fun z hz => by
        rw [hzs] at hz
        unfold rdsV at hz
        obtain ⟨h1, h2⟩ := List.mem_filter.1 hz
        refine ⟨hk.out z h1, ?_⟩
        unfold rdsP at h2
        simp only [Bool.and_eq_true, decide_eq_true_eq] at h2
        exact h2.1)
      obtain ⟨acc0, hacc0⟩ : ∃ l, l = lkA f X kept (wsl.take q) := ⟨_, rfl⟩
      have hal0 : acc0.length ≤ 4096 := by rw [hacc0]; exact hlkl.out q
      rw [← hacc0] at hI hstep
      have j1 := hI.out.k2.cell 1
      have j4 := hI.out.k2.cell 4
      simp only [List.getElem?_cons_zero, List.getElem?_cons_succ] at j1 j4
      rw [hxB] at j1
      replace hRL := Lib.hid hRL
      replace hzs := Lib.hid hzs
      replace hacc0 := Lib.hid hacc0
      replace hxB := Lib.hid hxB
      replace hz := Lib.hid hz
      replace hxi := Lib.hid hxi
      replace hva := Lib.hid hva
      replace hstep := Lib.hid hstep
      clear hebl hib hzo hlt hzz i0 i1 i2 i4 hvr hb0 r0 hgol
      go_wp2_with fail
      clear x0
      refine wp_region_plan 13 [(true, 0), (true, 1), (true, 2), (true, 3), (true, 4), (true, 5), (true, 6), (true, 7), (true, 8), (true, 9), (true, 10), (true, 11), (true, 12)] (by kernel_rfl) (by kernel_rfl) (fun Z hZ => ?_)
      have hZ' : Below wr.heap.size wr Z := by rw [hZ.out]; exact (Below.refl _ _).drew
      replace hI := Lib.hid (hI.out.later hZ')
      replace j1 : Z.cell? ⟨g2, 1, none⟩ = some (.slice (some ⟨ib, io, none⟩) v.m v.d) := by rw [hZ.out]; exact j1
      replace j4 : Z.cell? ⟨g2, 4, none⟩ = some (.slice (some ⟨go, 0, none⟩) v.n v.n) := by rw [hZ.out]; exact j4
      replace i3 : Z.cell? ⟨ib, io + a * 5 + 3, none⟩ = some (.int .i64 (b : Int)) := by rw [hZ.out]; exact i3
      replace r0' : Z.cell? ⟨go, b, none⟩ = some (.slice Ar mr cr) := by rw [hZ.out]; exact r0'
      clear hZ hZ'
      simp only [List.drop_succ_cons, List.drop_nil]
      iterate 13
        refine wpPlan_float (v := ?_) rfl (by rfl) (fun w' hw' => ?_) (fun K hK => ?_)
        rotate_left
        · (go_simp; try with_reducible rfl)
        go_simp
        refine hK _ ?_
        clear hK K
      refine wpPlan_nil (NoPanic.normal ?_)
      clear j1 j4 i3 r0'
      go_wp2_with fail
      go_loopw [5, 32] (fun u t wr => ∃ j : Nat, j ≤ mr ∧ t = .int .i64 (j : Int) ∧ Hid (LkI w B2 g2 g3 B (.slice v.A v.n v.c) (.slice v.B v.m v.d) (.slice v.C v.k v.e) (.slice (some ⟨ub, uo, none⟩) nu cu) (.slice (some ⟨go, 0, none⟩) v.n v.n) v.m A c u (lkR f X acc0 (a : Int) (zs.take j)) (lkR f X acc0 (a : Int) (zs.take j)) wr)) (fun _ t _ => mr - (intOf t).toNat)
      case atStart => exact ⟨0, Nat.zero_le _, rfl, Lib.hid (by rw [List.take_zero, lkR_nil]; exact hI.out)⟩
      case round =>
        clear hI
        obtain ⟨j, hj, rfl, hI⟩ := hrel
        by_cases hlj : j < mr
        · have hlj' : (j : Int) < (mr : Int) := by omega
          have hj0 : 0 ≤ (j : Int) ∧ (j : Int) < (mr : Int) := ⟨by omega, hlj'⟩
          obtain ⟨eb, eo, z, rfl, hebl, hz, hzo, x0⟩ := (hRL.out.below hI.out.b).int hlj
          obtain ⟨hzz, hzp0⟩ := hzk.out z (List.mem_of_getElem? hz)
          obtain ⟨r, rfl⟩ := Int.eq_ofNat_of_zero_le hzz.1
          have hrm : r < v.m := by omega
          have hr0' : (0 : Int) ≤ (r : Int) := hzz.1
          have hrk' : (r : Int) < (v.k : Int) := by rw [hfl.out]; exact hzz.2
          obtain ⟨cb, co, zf, hxC, hcb, hzf, hzfo, y0⟩ := (hF0.out.below hI.out.b).fs.int (show r < v.k by rw [hfl.out]; exact hrm)
          have hfz : fromZ f (r : Int) = zf := by unfold fromZ; rw [Int.toNat_natCast, getD_at hzf]
          have hzfl := hflt.out zf (List.mem_of_getElem? hzf)
          rw [hfz] at hzp0
          have hst := lkR_take (f := f) (X := X) (acc := acc0) (a := (a : Int)) hz
          obtain ⟨acc, hacc⟩ : ∃ l, l = lkR f X acc0 (a : Int) (zs.take j) := ⟨_, rfl⟩
          have hal : acc.length ≤ 4160 := by rw [hacc]; exact Nat.le_trans (lkR_len _ _ _) (by rw [List.length_take]; omega)
          rw [← hacc] at hI hst
          have p2 := hI.out.k2.cell 2
          simp only [List.getElem?_cons_zero, List.getElem?_cons_succ] at p2
          rw [hxC] at p2
          have ia : In18 (a : Int) := ⟨by omega, by omega⟩
          have iz : In18 zf := ⟨by omega, by omega⟩
          have ir : In18 (r : Int) := ⟨by omega, by omega⟩
          obtain ⟨gp, hgp⟩ : ∃ g, g = wr.heap.size := ⟨_, rfl⟩
          obtain ⟨W3, hW3⟩ : ∃ W, W = wr.alloc (.cells #[.int .i64 (a : Int), .int .i64 zf] 157) := ⟨_, rfl⟩
          have b3 : Below wr.heap.size wr W3 := by rw [hW3]; exact below_alloc _ _
          have kp := Lib.hid (show Blk W3 gp 157 [.int .i64 (a : Int), .int .i64 zf] from by rw [hW3, hgp]; exact Blk.new _ _ _)
          have hgpB := Lib.hid (show gp ≠ B from by rw [hgp]; have := hI.out.z; omega)
          replace hI := Lib.hid (hI.out.later b3)
          have m0 := hI.out.k3.cell 0
          have m1 := hI.out.k3.cell 1
          have q0 := kp.out.cell 0
          have q1 := kp.out.cell 1
          simp only [List.getElem?_cons_zero, List.getElem?_cons_succ] at m0 m1 q0 q1
          obtain ⟨bo, hbo⟩ : ∃ x, x = (decide ((a : Int) ≠ zf) && hasM X (a : Int) (r : Int) && !hasM X (a : Int) zf) := ⟨_, rfl⟩
          have cWr := cW.out (a : Int) zf (r : Int) W3 (hr0.out.below hI.out.b) ia iz ir
          rw [← hbo] at cWr
          have hlk : Hid (lkW f X (a : Int) (r : Int) = bo) := Lib.hid (by unfold lkW; rw [hfz, hbo])
          replace cWr := Lib.hid cWr
          replace hbo := Lib.hid hbo
          replace hxC := Lib.hid hxC
          replace hz := Lib.hid hz
          replace hacc := Lib.hid hacc
          replace ia := Lib.hid ia
          replace iz := Lib.hid iz
          replace ir := Lib.hid ir
          have hfz' := Lib.hid hfz
          clear hebl hzo hcb hzf hzfo b3 hlj hfz hzz
          go_wp2_with (rw [← hW3, ← hgp]; clear hW3 x0 y0 p2; replace hgp := Lib.hid hgp)
          refine cWr.out.mono ?_; rintro e w4 ⟨rfl, b4⟩
          have hI4 := Lib.hid (hI.out.later b4)
          have kp4 := Lib.hid (kp.out.below b4 kp.out.lt)
          clear b4 m0 m1 q0 q1 hI kp cWr
          unfold lkO at hst
          rw [hlk.out] at hst
          cases bo with
          | false =>
            rw [if_neg (by simp)] at hst
            replace hst := Lib.hid hst
            go_wp2_with fail
            exact ⟨⟨j + 1, by omega, by go_num, Lib.hid (by rw [hst.out]; exact hI4.out)⟩, by simp [intOf]; omega⟩
          | true =>
            have q0 := kp4.out.cell 0
            have q1 := kp4.out.cell 1
            simp only [List.getElem?_cons_zero, List.getElem?_cons_succ] at q0 q1
            have hlook := hI4.out.fm.look ia.out iz.out
            by_cases hin : ((a : Int), zf) ∈ edP acc
            · rw [decide_eq_true hin] at hlook
              rw [if_neg (fun h => h.2 (by rw [hfz'.out]; exact hin))] at hst
              replace hst := Lib.hid hst
              replace hin := Lib.hid hin
              go_wp2_with fail
              exact ⟨⟨j + 1, by omega, by go_num, Lib.hid (by rw [hst.out]; exact hI4.out)⟩, by simp [intOf]; omega⟩
            · rw [decide_eq_false hin] at hlook
              rw [if_pos ⟨rfl, by rw [hfz'.out]; exact hin⟩, hfz'.out] at hst
              replace hst := Lib.hid hst
              obtain ⟨D, hD, hDa⟩ := hI4.out.fm
              have hkey := Lib.hid (key18 ia.out iz.out)
              have hIs := World.ownsMap.isMap hD
              have hput : Hid (∀ a' v', In18 a' → In18 v' → (D.put (keyP (a : Int) zf) (.lit (.bool true))).atKey (keyP a' v') (.lit (.bool false)) = .lit (.bool (decide ((a', v') ∈ edP (acc ++ [(⟨(a : Int), zf, (r : Int)⟩ : Ed)]))))) := Lib.hid (fun a' v' h1 h2 => by
                have he : ((a', v') ∈ edP (acc ++ [(⟨(a : Int), zf, (r : Int)⟩ : Ed)])) ↔ ((a', v') ∈ edP acc ∨ (a' = (a : Int) ∧ v' = zf)) := by
                  unfold edP; rw [List.map_append, List.mem_append]; simp
                by_cases hav : a' = (a : Int) ∧ v' = zf
                · rw [decide_eq_true (he.2 (.inr hav)), hav.1, hav.2, atKey_put_same hIs (keyP_lit _ _)]
                · rw [atKey_put_other (keyP_ne h1 h2 ia.out iz.out hav), hDa a' v' h1 h2]
                  congr 2
                  rw [Bool.eq_iff_iff, decide_eq_true_eq, decide_eq_true_eq, he]
                  constructor
                  · exact .inl
                  · rintro (h | h)
                    · exact h
                    · exact absurd h hav)
              have hokn : Hid (Ed.Ok ⟨(a : Int), zf, (r : Int)⟩) := Lib.hid ⟨by simp only; omega, by simp only; omega, by simp only; omega, by simp only; omega, by simp only; omega, by simp only; omega⟩
              obtain ⟨kl, hkl⟩ : ∃ k, k = keyP (a : Int) zf := ⟨_, rfl⟩
              rw [← hkl] at hkey hput
              obtain ⟨L, hLl⟩ : ∃ n, n = acc.length := ⟨_, rfl⟩
              have hLb : L ≤ 4160 := by omega
              rw [← hLl] at hD
              replace hLl := Lib.hid hLl
              replace hkl := Lib.hid hkl
              replace hD := Lib.hid hD
              replace hin := Lib.hid hin
              clear hDa hIs
              go_wp2_with (first
                | (at_mapUpdate
                   refine wpList_mapUpdate_own _ rfl _ _ _ 155 rfl 157 4 law18 Tryz.underlying155 _ B L D rfl hD.out (by unfold maxLen; omega) _ _ _ rfl rfl hkey.out _ [] (plainElem_bool Tryz.underlying4 true) ?_
                   intro w5 hD5 hg5
                   have hI5 := Lib.hid (hI4.out.upd (am' := acc ++ [(⟨(a : Int), zf, (r : Int)⟩ : Ed)]) hg5 ⟨_, by rw [List.length_append, ← hLl.out]; exact hD5, hput.out⟩)
                   have kp5 := kp4.out.grown hg5 (fun e => hgpB.out (by injection e))
                   clear q0 q1 hlook
                   have q0 := kp5.cell 0
                   have q1 := kp5.cell 1
                   simp only [List.getElem?_cons_zero, List.getElem?_cons_succ] at q0 q1
                   obtain ⟨gl, hgl⟩ : ∃ g, g = w5.heap.size := ⟨_, rfl⟩
                   obtain ⟨VL, hVL⟩ : ∃ W, W = World.alloc w5 (.cells #[.int .i64 (a : Int), .int .i64 zf, .int .i64 (r : Int)] 84) := ⟨_, rfl⟩
                   have bL : Below w5.heap.size w5 VL := by rw [hVL]; exact (Below.refl _ _).alloc (Nat.le_refl _) _
                   have hlit := Lib.hid (show LAt encE VL (some ⟨gl, 0, none⟩) 1 [⟨(a : Int), zf, (r : Int)⟩] from by rw [hVL, hgl]; exact LAt.lit1 (E := encE) w5 84 ⟨(a : Int), zf, (r : Int)⟩ hokn.out)
                   have hI6 := Lib.hid (hI5.out.later bL)
                   have hownL := Lib.hid (show VL.ownsRow B2 84 3 _ L (encE.all acc) from by rw [hLl.out]; exact hI6.out.o)
                   clear bL hD5 hg5 kp5 hI5)
                | (rw [← hVL, ← hgl]; clear hVL hgl q0 q1)
                | (at_builtin
                   refine wpList_append_L (E := encE) rfl (.tmp 56) (.tmp 63) _ rfl B2 84 i0' _ 24 Tryz.underlying79 hi.out hz0.out hz1.out hz2.out rfl _ L acc (by rfl) hownL.out _ 1 1 _ rfl hlit.out (by unfold maxLen; omega) (by omega) hI6.out.z.2.2.2.2.2.1 ?_
                   intro v' w7 hown' hb7 hg7 hob7
                   have hI7 := Lib.hid (hI6.out.app hb7 hg7 (ao' := acc ++ [(⟨(a : Int), zf, (r : Int)⟩ : Ed)]) (by rw [List.length_append, ← hLl.out]; exact hown'))
                   clear hown' hb7 hg7 hob7))
              exact ⟨⟨j + 1, by omega, by go_num, Lib.hid (by rw [hst.out]; exact hI7.out)⟩, by simp [intOf]; omega⟩
        · obtain rfl : j = mr := by omega
          have hlj' : ¬ (j : Int) < (j : Int) := by omega
          have hall : zs.take j = zs := List.take_of_length_le (by rw [hRL.out.len]; exact Nat.le_refl _)
          rw [hall] at hI
          clear hlj hall
          go_wp2_with fail
          exact ⟨⟨q + 1, by omega, by go_num, Lib.hid (by rw [hstep.out]; exact hI.out)⟩, by simp [intOf]; omega⟩
    · obtain rfl : q = nu := by omega
      have hlt' : ¬ (q : Int) < (q : Int) := by omega
      have hall : wsl.take q = wsl := List.take_of_length_le (by rw [hUl.out]; exact Nat.le_refl _)
      have hacl := hlkl.out q
      rw [hall] at hI hacl
      obtain ⟨acc, hacc⟩ : ∃ l, l = lkA f X kept wsl := ⟨_, rfl⟩
      rw [← hacc] at hI hacl hperm
      replace hacc := Lib.hid hacc
      have hokA : ∀ x ∈ acc, Ed.Ok x := fun x hx => hokE.out x (hperm.out.subset hx)
      obtain ⟨A5, c5, rfl, h51, h52, -⟩ := LAt.of_own (E := encE) hI.out.o hokA rfl
      obtain ⟨L, hL⟩ : ∃ n, n = acc.length := ⟨_, rfl⟩
      have hown := Lib.hid hI.out.o
      rw [← hL] at hown hacl h51 ⊢
      replace hL := Lib.hid hL
      rcases hown.out.2 with ⟨h1, h2⟩ | ⟨g, cap, cur, h1, h2, h3, -⟩
      · injection h1 with e1 e2 e3
        subst e1; subst e3
        have hnil : Hid (newF f X kept = []) := Lib.hid (by
          have h := hperm.out.length_eq
          rw [← hL.out, h2] at h
          exact List.eq_nil_of_length_eq_zero h.symm)
        subst h2
        have cS := AnyF.slices_SortFunc_none Tryz.sortEd none 0 (.func (.func 138) #[] #[]) wr
        change Calls Tryz.prog 137 _ _ _ at cS
        replace cS := Lib.hid cS
        clear hlt e2 hokA
        go_wp2_with fail
        refine cS.out.mono ?_; rintro e w6 ⟨rfl, rfl⟩
        go_wp2_with fail
        go_ret
        exact ⟨none, 0, 0, rfl, by rw [hnil.out]; exact LAt.nil _ _ _, Nat.le_refl _, by omega, hI.out.b, fun ad e => by cases e⟩
      · injection h1 with e1 e2 e3
        subst e1; subst e3
        have cS := Lib.hid (sort_edges B2 g L c5 acc wr hown.out hL.out.symm hokA (by omega))
        clear hlt e2 hokA h3
        go_wp2_with fail
        refine cS.out.mono ?_; rintro e w6 ⟨rfl, l', hp, hs, hL', hg⟩
        obtain rfl := lk_sorted hperm.out hp hs
        have hb6 := Lib.hid (show Below w.heap.size w w6 from by
          obtain ⟨z1, z2, z3, z4, z5, z6, z7, z8, z9⟩ := hI.out.z
          exact ⟨hg.os.trans hI.out.b.os, hg.tape.trans hI.out.b.tape, hg.output.trans hI.out.b.output, Nat.le_trans hI.out.b.size hg.size, fun k hk => (hg.block k (Nat.lt_of_lt_of_le hk hI.out.b.size) (fun e => by injection e with e; omega)).trans (hI.out.b.block k hk)⟩)
        have hfre := Lib.hid (show w.heap.size ≤ g from by have := hI.out.z; omega)
        replace hL' := Lib.hid hL'
        clear hp hs hg
        go_wp2_with fail
        go_ret
        exact ⟨some ⟨g, 0, none⟩, L, c5, rfl, hL'.out, h51, h52, hb6.out, fun ad e => by injection e with e; subst e; exact hfre.out⟩
end Go.Proofs.YtjhjojklfdjmdaaGreat

namespace Go.Proofs.YtjhjojklfdjmdaaGreat
open Go.RowKit
set_option linter.unusedVariables false

def andR (a b : List Nat) : List Nat := (List.range a.length).map fun j => a.getD j 0 &&& b.getD j 0
def andK (N : Nat) (a b : List Nat) (k : Nat) : List Nat := (List.range N).map fun j => if j < k then a.getD j 0 &&& b.getD j 0 else 0
theorem andR_len (a b : List Nat) : (andR a b).length = a.length := by simp [andR]
theorem andK_len (N : Nat) (a b : List Nat) (k : Nat) : (andK N a b k).length = N := by simp [andK]
theorem andK_zero (N : Nat) (a b : List Nat) : andK N a b 0 = List.replicate N 0 := by
  unfold andK; apply List.ext_getElem (by simp); intro i _ _; simp
theorem andK_get (N : Nat) (a b : List Nat) (k : Nat) (h : k < N) : (andK N a b k)[k]? = some 0 := by
  unfold andK; rw [List.getElem?_map, List.getElem?_range h]; simp
theorem andK_set (N : Nat) (a b : List Nat) (k : Nat) : (andK N a b k).set k (a.getD k 0 &&& b.getD k 0) = andK N a b (k + 1) := by
  apply List.ext_getElem?
  intro j
  rw [List.getElem?_set, andK_len]
  by_cases hj : j < N
  · unfold andK
    rw [List.getElem?_map, List.getElem?_map, List.getElem?_range hj, Option.map_some, Option.map_some]
    by_cases hk : k = j
    · subst hk
      rw [if_pos rfl, if_pos hj, if_pos (by omega)]
    · rw [if_neg hk]
      by_cases h1 : j < k
      · rw [if_pos h1, if_pos (by omega)]
      · rw [if_neg h1, if_neg (by omega)]
  · rw [List.getElem?_eq_none (l := andK N a b (k + 1)) (by rw [andK_len]; omega), List.getElem?_eq_none (l := andK N a b k) (by rw [andK_len]; omega)]
    split
    · rename_i h
      rw [if_neg (by omega)]
    · rfl
theorem andK_all (a b : List Nat) : andK a.length a b a.length = andR a b := by
  unfold andK andR
  apply List.map_congr_left
  intro j hj
  rw [if_pos (List.mem_range.1 hj)]
theorem andR_w64 {a b : List Nat} (ha : W64 a) : W64 (andR a b) := by
  intro x hx
  obtain ⟨j, _, rfl⟩ := List.mem_map.1 hx
  exact Nat.lt_of_le_of_lt Nat.and_le_left (getD_w64 ha j)
theorem hasR_andR {a b : List Nat} (j : Nat) : hasR (andR a b) (j : Int) = (hasR a (j : Int) && hasR b (j : Int)) := by
  rw [hasR_nat, hasR_nat, hasR_nat]
  by_cases hk : j / 64 < a.length
  · have h1 : (andR a b)[j / 64]? = some (a.getD (j / 64) 0 &&& b.getD (j / 64) 0) := by
      unfold andR; rw [List.getElem?_map, List.getElem?_range hk]; rfl
    rw [getD_at h1, Nat.testBit_and]
  · rw [getD_out a _ (by omega), getD_out (andR a b) _ (by rw [andR_len]; omega), Nat.zero_testBit, Bool.false_and]

/-- a row of n bits that has those of l -/
def ChosenR (n N : Nat) (l : List Int) (xs : List Nat) : Prop := xs.length = N ∧ W64 xs ∧ ∀ j : Nat, hasR xs (j : Int) = (decide (j < n) && decide ((j : Int) ∈ l))
theorem ChosenR.start (n N : Nat) : ChosenR n N [] (List.replicate N 0) := ⟨by simp, fun x hx => by rw [(List.mem_replicate.1 hx).2]; omega, fun j => by rw [hasR_zeros]; simp⟩
theorem ChosenR.skip {n N : Nat} {l : List Int} {xs : List Nat} (h : ChosenR n N l xs) {x : Int} (hx : belowZ x n = false) : ChosenR n N (l ++ [x]) xs := ⟨h.1, h.2.1, fun j => by
  rw [h.2.2 j]
  by_cases hj : j < n
  · have hne : ¬ (j : Int) = x := by
      intro e
      rw [← e, belowZ_yes (by omega) (by omega)] at hx; cases hx
    simp [hj, hne]
  · simp [hj]⟩
theorem ChosenR.put {n N : Nat} {l : List Int} {xs : List Nat} (h : ChosenR n N l xs) {p : Nat} (hp : p < n) (hn : n ≤ 64 * N) : ChosenR n N (l ++ [(p : Int)]) (setR xs (p : Int)) := ⟨by rw [setR_len]; exact h.1, setR_w64 h.2.1 p, fun j => by
  rw [hasR_setR xs p j (by rw [h.1]; omega), h.2.2 j]
  by_cases hj : j = p
  · subst hj
    simp [hp]
  · have : ¬ (j : Int) = (p : Int) := by omega
    simp [hj, this]⟩
def RetChosen (n N : Nat) (l : List Int) (w : World) (e : Ending) (w' : World) : Prop := ∃ g xs, e = .returned (.slice (some ⟨g, 0, none⟩) N N) ∧ Row w' (some ⟨g, 0, none⟩) N xs ∧ ChosenR n N l xs ∧ g < w'.heap.size ∧ Below w.heap.size w w'
set_option maxRecDepth 100000 in
set_option maxHeartbeats 2000000 in
theorem hull_chosen (L : Option Addr) (m d n : Nat) (zs : List Int) (w : World) (hz : Ints w L m zs) (hm : m ≤ 1073741824) (hn : n ≤ 4096) :
    Calls Tryz.prog 134 #[.slice L m d, .int .i64 (n : Int)] w (RetChosen n (wordsN (n : Int)) zs w) := by
  have hw := Lib.hid (wordsZ_N (n : Int))
  obtain ⟨N, hN⟩ : ∃ N, N = wordsN (n : Int) := ⟨_, rfl⟩
  have hN64 : N ≤ 64 := by rw [hN]; exact words_le hn
  have hnN : n ≤ 64 * N := by
    rcases Nat.eq_zero_or_pos n with h0 | h0
    · omega
    · rw [hN]; exact (words_pos h0).2
  rw [← hN] at hw ⊢
  have hmk := mk_u64 .i64 .i64 N N (Nat.le_refl _) (by omega)
  have hlen := Lib.hid hz.len
  obtain ⟨W1, hW1⟩ : ∃ W1, W1 = w.alloc (.cells (zeros N (.int .u64 0)) 89) := ⟨_, rfl⟩
  have hb1 := Lib.hid (show Below w.heap.size w W1 by rw [hW1]; exact below_alloc _ _)
  have hown := Lib.hid (show W1.ownsRow w.heap.size 89 1 (.slice (some ⟨w.heap.size, 0, none⟩) N N) N ((List.replicate N 0).map u64v) by
    rw [hW1]; simpa [u64v] using own_zeros w N (.int .u64 0) 89 (by unfold maxLen; omega))
  replace hz := Lib.hid hz
  replace hN := Lib.hid hN
  go_enter Tryz.func134, Tryz.ntmps134
  go_wp2_with fail
  refine (row_Words _ (by omega) (by omega) _).mono ?_; rintro e w' ⟨rfl, rfl⟩
  rw [hw.out]
  go_wp2_with fail
  rw [← hW1]
  clear hW1 hmk
  go_loopw [15] (fun t wr => ∃ (q : Nat) (xs : List Nat), q ≤ m ∧ t = .int .i64 q ∧ Hid (wr.ownsRow w.heap.size 89 1 (.slice (some ⟨w.heap.size, 0, none⟩) N N) N (xs.map u64v)) ∧ Hid (ChosenR n N (zs.take q) xs) ∧ Hid (Below w.heap.size w wr)) (fun t _ => m - (intOf t).toNat)
  case atStart => exact ⟨0, _, Nat.zero_le _, rfl, hown, Lib.hid (ChosenR.start n N), hb1⟩
  case round =>
    clear hown hb1
    obtain ⟨q, xs, hq, rfl, hown, hC, hbel⟩ := hrel
    by_cases hlt : q < m
    · obtain ⟨b, off, x, rfl, hbl, hx, hx64, hc⟩ := (hz.out.below hbel.out).at_ hlt
      have htake : zs.take (q + 1) = zs.take q ++ [x] := by
        rw [List.take_succ_eq_append_getElem (List.getElem?_eq_some_iff.1 hx).1, (List.getElem?_eq_some_iff.1 hx).2]
      have hB := Lib.hid (hull_below x (n : Int) hx64.1 hx64.2 (by omega) (by omega) wr)
      have hq0 : (0 : Int) ≤ (q : Int) := by omega
      have hqm : (q : Int) < (m : Int) := by omega
      clear hx
      cases hbz : belowZ x (n : Int) with
      | false =>
        have hC2 := Lib.hid (hC.out.skip hbz)
        rw [← htake] at hC2
        clear htake
        go_wp2_with fail
        refine hB.out.mono ?_; rintro e w' ⟨rfl, rfl⟩
        rw [hbz]
        clear hbz
        go_wp2_with fail
        go_roundw
        case rel => exact ⟨q + 1, xs, by omega, by go_num, hown, hC2, hbel⟩
        case measure => simp [intOf]; omega
      | true =>
        have hbz' := hbz
        unfold belowZ at hbz'
        simp only [Bool.and_eq_true, decide_eq_true_eq] at hbz'
        obtain ⟨p, rfl⟩ := Int.eq_ofNat_of_zero_le hbz'.1
        have hpn : p < n := by omega
        have hC2 := hC.out.put hpn hnN
        rw [← htake] at hC2
        have hxl : xs.length = N := hC.out.1
        obtain ⟨y, hy⟩ : ∃ y, xs[p / 64]? = some y := ⟨_, List.getElem?_eq_getElem (by omega)⟩
        have hy64 : y < 18446744073709551616 := hC.out.2.1 y (List.mem_of_getElem? hy)
        rw [setR_in (by omega) hy] at hC2
        have hP := Lib.hid (hull_place p (by omega) wr)
        have hE := Lib.hid (u64_or_nat y (p2 (p % 64)) hy64 (by have := p2_lt (p % 64) (by omega); omega))
        have hcy : wr.cell? ⟨w.heap.size, p / 64, none⟩ = some (.int .u64 (y : Int)) := by
          rw [hown.out.cellAt _ (by omega), List.getElem?_map, hy]; rfl
        have hfy := hown.out.frozenAt (p / 64)
        have hpp0 : (0 : Int) ≤ ((p / 64 : Nat) : Int) := by omega
        have hppm : ((p / 64 : Nat) : Int) < (N : Int) := by omega
        have hpp1 : (((p / 64 : Nat) : Int)).toNat = p / 64 := by omega
        replace hC2 := Lib.hid hC2
        clear htake hbz' hy hxl hy64
        go_wp2_with fail
        refine hB.out.mono ?_; rintro e w' ⟨rfl, rfl⟩
        rw [hbz]
        clear hbz
        go_wp2_with fail
        refine hP.out.mono ?_; rintro e w' ⟨rfl, rfl⟩
        go_wp2_with fail
        rw [hE.out]
        go_roundw
        case rel =>
          refine ⟨q + 1, _, by omega, by go_num, Lib.hid ?_, hC2, Lib.hid (hbel.out.setCell (by simp) _)⟩
          rw [List.map_set]
          exact (hown.out.stored _ _).1
        case measure => simp [intOf]; omega
    · obtain rfl : q = m := by omega
      rw [List.take_of_length_le (by rw [hlen.out]; exact Nat.le_refl _)] at hC
      go_wp2_with fail
      go_ret
      exact ⟨_, xs, rfl, Row.of_own hown.out hC.out.2.1, hC.out, (hown.out.lt _ rfl).2, hbel.out⟩
set_option maxRecDepth 100000 in
set_option maxHeartbeats 2000000 in
theorem hull_keep (g base n c d e' : Nat) (B M : Option Addr) (ys zs : List Nat) (w : World) (hown : w.ownsRow base 89 1 (.slice (some ⟨g, 0, none⟩) n c) n ((List.replicate n 0).map u64v)) (hs : Row w B n ys) (hz : Row w M n zs)
    (h1 : ∀ ad, B = some ad → ad.block ≠ g) (h2 : ∀ ad, M = some ad → ad.block ≠ g) (hn : n ≤ 1073741824) :
    Calls Tryz.prog 135 #[.slice (some ⟨g, 0, none⟩) n c, .slice B n d, .slice M n e'] w (RetJoinIn g base n c (andR ys zs) w) := by
  have hl := hs.len
  have hall : andK n ys zs n = andR ys zs := by rw [← hl]; exact andK_all ys zs
  replace hall := Lib.hid hall
  replace hl := Lib.hid hl
  have hrow := Lib.hid (fun W (ho : OnlyAt g w W) => hs.only ho h1)
  have hmask := Lib.hid (fun W (ho : OnlyAt g w W) => hz.only ho h2)
  replace hown := Lib.hid hown
  clear hs hz h1 h2
  go_enter Tryz.func135, Tryz.ntmps135
  go_wp2_with fail
  go_loopw [10] (fun i wr => ∃ k : Nat, k ≤ n ∧ i = .int .i64 k ∧ Hid (wr.ownsRow base 89 1 (.slice (some ⟨g, 0, none⟩) n c) n ((andK n ys zs k).map u64v)) ∧ Hid (OnlyAt g w wr)) (fun i _ => n - (intOf i).toNat)
  case atStart => exact ⟨0, Nat.zero_le _, rfl, Lib.hid (by rw [andK_zero]; exact hown.out), Lib.hid (OnlyAt.refl _ _)⟩
  case round =>
    obtain ⟨k, hk, rfl, hownr, hor⟩ := hrel
    clear hown
    by_cases hlt : k < n
    · obtain ⟨b, off, y, rfl, hbk, hy, hy64, hc⟩ := (hrow.out wr hor.out).at_ hlt
      obtain ⟨b2, off2, z, rfl, hbk2, hz, hz64, hc2⟩ := (hmask.out wr hor.out).at_ hlt
      have hcg : wr.cell? ⟨g, k, none⟩ = some (.int .u64 0) := by
        rw [hownr.out.cellAt _ (by omega), List.getElem?_map, andK_get n ys zs k hlt]; rfl
      have hand : y &&& z < 18446744073709551616 := Nat.lt_of_le_of_lt Nat.and_le_left hy64
      have hE := u64_and_nat y z hy64 hz64
      have hE2 := u64_or_nat 0 (y &&& z) (by omega) hand
      rw [Nat.zero_or] at hE2
      replace hE := Lib.hid hE
      replace hE2 := Lib.hid hE2
      have hst := andK_set n ys zs k
      rw [Row.get hy, Row.get hz] at hst
      replace hst := Lib.hid hst
      have hk0 : (0 : Int) ≤ (k : Int) := by omega
      have hkn : (k : Int) < (n : Int) := by omega
      clear hy hz hand
      go_wp2_with fail
      refine wp_region_plan 12 [(true, 0), (true, 1), (true, 2), (true, 3), (true, 4), (true, 5), (true, 6), (true, 7), (true, 8), (true, 9), (true, 10), (true, 11)] (by kernel_rfl) (by kernel_rfl) (fun W hW => ?_)
      have hownW := Lib.hid (show W.ownsRow base 89 1 (.slice (some ⟨g, 0, none⟩) n c) n ((andK n ys zs k).map u64v) by rw [hW.out]; exact hownr.out.drew)
      have hoW := Lib.hid (show OnlyAt g w W by rw [hW.out]; exact hor.out.drewN 1)
      replace hcg : W.cell? ⟨g, k, none⟩ = some (.int .u64 0) := by rw [hW.out]; exact hcg
      replace hc2 : W.cell? ⟨b2, off2 + k, none⟩ = some (.int .u64 (z : Int)) := by rw [hW.out]; exact hc2
      have hf := hownW.out.frozenAt k
      clear hW hownr hor hc
      simp only [List.drop_succ_cons, List.drop_zero]
      iterate 12
        refine wpPlan_float (v := ?_) rfl (by rfl) (fun w' hw' => ?_) (fun K hK => ?_)
        rotate_left
        · (go_simp; try with_reducible rfl)
        go_simp
        refine hK _ ?_
        clear hK K
      rw [hE.out]
      refine wpPlan_nil ?_
      go_wp2_with fail
      refine NoPanic.normal ?_
      go_wp2_with fail
      go_roundw
      case rel =>
        refine ⟨k + 1, by omega, by go_num, Lib.hid ?_, Lib.hid (hoW.out.set k _)⟩
        rw [← hst.out, List.map_set]
        have h := hE2.out
        rw [show ((0 : Nat) : Int) = 0 from rfl] at h
        rw [h]
        exact (hownW.out.stored _ _).1
      case measure => simp [intOf]; omega
    · obtain rfl : k = n := by omega
      go_wp2_with fail
      go_end0
      exact ⟨rfl, by rw [← hall.out]; exact hownr.out, hor.out⟩

def withRow (inn : List Nat) (i : Nat) (r : List Nat) : List Nat := if hasR inn (i : Int) = true then andR r inn else List.replicate r.length 0
def withPre (a : List (List Nat)) (inn : List Nat) (k : Nat) : List (List Nat) := (List.range k).map fun i => withRow inn i (a.getD i [])
theorem withPre_len (a : List (List Nat)) (inn : List Nat) (k : Nat) : (withPre a inn k).length = k := by simp [withPre]
theorem withPre_succ {a : List (List Nat)} {inn : List Nat} {k : Nat} {r : List Nat} (h : a[k]? = some r) : withPre a inn (k + 1) = withPre a inn k ++ [withRow inn k r] := by
  unfold withPre; rw [List.range_succ, List.map_append, List.map_singleton, getD_at h]
theorem withPre_get {a : List (List Nat)} {inn : List Nat} {k i : Nat} {r : List Nat} (h : a[i]? = some r) (hi : i < k) : (withPre a inn k)[i]? = some (withRow inn i r) := by
  unfold withPre; rw [List.getElem?_map, List.getElem?_range hi, Option.map_some, getD_at h]
theorem withRow_facts {n : Nat} {a : List (List Nat)} (hG : Good n a) {N : Nat} {l : List Int} {inn : List Nat} (hC : ChosenR n N l inn) {i : Nat} {r : List Nat} (hr : a[i]? = some r) :
    W64 (withRow inn i r) ∧ (withRow inn i r).length = r.length ∧ ∀ y : Nat, hasR (withRow inn i r) (y : Int) = (hasR r (y : Int) && (decide (i < n) && decide ((i : Int) ∈ l)) && (decide (y < n) && decide ((y : Int) ∈ l))) := by
  have h1 := hG.row r (List.mem_of_getElem? hr)
  unfold withRow
  rw [hC.2.2 i]
  cases h : decide (i < n) && decide ((i : Int) ∈ l) with
  | true =>
    rw [if_pos rfl]
    exact ⟨andR_w64 h1.1, andR_len _ _, fun y => by rw [hasR_andR, hC.2.2 y, Bool.and_true]⟩
  | false =>
    rw [if_neg (by simp)]
    exact ⟨fun x hx => by rw [(List.mem_replicate.1 hx).2]; omega, by simp, fun y => by rw [hasR_zeros]; simp⟩
theorem withPre_all {n : Nat} {a : List (List Nat)} (hG : Good n a) {N : Nat} {l : List Int} {inn : List Nat} (hC : ChosenR n N l inn) : withPre a inn n = withinM n a l := by
  have hw := within_facts hG l
  have hg : Good n (withPre a inn n) := by
    refine ⟨hG.le, withPre_len _ _ _, fun r hr => ?_⟩
    obtain ⟨i, hi⟩ := List.getElem?_of_mem hr
    have hin : i < n := by have := (List.getElem?_eq_some_iff.1 hi).1; rwa [withPre_len] at this
    obtain ⟨s, hs, _, _⟩ := hG.at_ hin
    rw [withPre_get hs hin] at hi
    injection hi with hi
    subst hi
    obtain ⟨h1, h2, h3⟩ := withRow_facts hG hC hs
    have h0 := hG.row s (List.mem_of_getElem? hs)
    exact ⟨h1, by rw [h2]; exact h0.2.1, by rw [h2]; exact h0.2.2.1, fun y hy => by rw [h3 y, h0.2.2.2 y hy]; simp⟩
  refine rel_ext hg hw.1 (fun x y => ?_)
  rw [hw.2]
  by_cases hx : x < n
  · obtain ⟨s, hs, _, _⟩ := hG.at_ hx
    obtain ⟨_, _, h3⟩ := withRow_facts hG hC hs
    unfold Rel
    rw [hasM_in (withPre_get hs hx), h3 y, hasM_in hs]
    simp only [Bool.and_eq_true, decide_eq_true_eq]
    constructor
    · rintro ⟨⟨h1, _, h2⟩, _, h4⟩
      exact ⟨h1, h2, h4⟩
    · rintro ⟨h1, h2, h4⟩
      have hr : Rel a x y := by unfold Rel; rw [hasM_in hs]; exact h1
      exact ⟨⟨h1, hx, h2⟩, (hG.has_lt hr).2, h4⟩
  · constructor
    · intro h; exact absurd (hg.has_lt h).1 hx
    · rintro ⟨h, _⟩; exact absurd (hG.has_lt h).1 hx
/-- what is known at each round of Within -/
structure WithI (w : World) (n : Nat) (A : Option Addr) (c G gi N : Nat) (inn : List Nat) (vs : List Value) (xss : List (List Nat)) (wr : World) : Prop where
  own : wr.ownsRow G 88 1 (.slice (some ⟨G, 0, none⟩) n n) n (filled vs n)
  rows : OwnRows 89 wr (G + 1) vs xss
  mat : MatB wr w.heap.size 57 n A n c
  res : MatB wr (w.heap.size + 1) 57 0 none 0 0
  inr : Row wr (some ⟨gi, 0, none⟩) N inn
  bel : Below w.heap.size w wr
  big : w.heap.size + 1 < G ∧ G + 1 ≤ wr.heap.size ∧ gi < G
set_option maxRecDepth 100000 in
set_option maxHeartbeats 4000000 in
theorem hull_Within (A L : Option Addr) (n c m d : Nat) (a : List (List Nat)) (zs : List Int) (w : World) (hr : RowsAt w A n a) (hG : Good n a) (hz : Ints w L m zs) (hm : m ≤ 1073741824) :
    Calls Tryz.prog 119 #[.agg #[.int .i64 (n : Int), .slice A n c], .slice L m d] w (RetMat1 (n : Int) (withinM n a zs) w) := by
  have hnn : n ≤ 4096 := hG.le
  have hal := Lib.hid hG.len
  have hmk := mk_rows .i64 .i64 n n (Nat.le_refl _) (by omega)
  obtain ⟨N, hN⟩ : ∃ N, N = wordsN (n : Int) := ⟨_, rfl⟩
  have hN64 : N ≤ 64 := by rw [hN]; exact words_le hnn
  have hrl : ∀ r ∈ a, r.length = N := fun r hr => by rw [(hG.row r hr).2.2.1, hN]; rfl
  have hNp : 0 < n → 0 < N := fun h0 => by rw [hN]; exact (words_pos h0).1
  obtain ⟨W0, hW0⟩ : ∃ W0, W0 = (w.alloc (.cells #[.int .i64 n, .slice A n c] 57)).alloc (.cells #[.int .i64 0, .slice none 0 0] 57) := ⟨_, rfl⟩
  have bb := show Below w.heap.size w W0 by rw [hW0]; exact ((Below.refl _ _).alloc (Nat.le_refl _) _).alloc (by simp) _
  have m1 := show MatB W0 w.heap.size 57 n A n c by rw [hW0]; exact (MatB.new w _).below_ (below_alloc _ _)
  have m2 := show MatB W0 (w.heap.size + 1) 57 0 none 0 0 by rw [hW0]; exact MatB.new1 w _ _
  have cC := hull_chosen L m d n zs W0 (hz.below bb) hm hnn
  rw [← hN] at cC
  have q0 := m1.c0
  have q1 := m1.c1
  replace cC := Lib.hid cC
  replace bb := Lib.hid bb
  replace m1 := Lib.hid m1
  replace m2 := Lib.hid m2
  replace hG := Lib.hid hG
  replace hr := Lib.hid hr
  replace hrl := Lib.hid hrl
  replace hNp := Lib.hid hNp
  replace hN := Lib.hid hN
  clear hz
  go_enter Tryz.func119, Tryz.ntmps119
  go_wp2_with fail
  rw [← hW0]
  clear hW0
  go_wp2_with fail
  refine cC.out.mono ?_; rintro e w1 ⟨gi, inn, rfl, hin, hCh, hgi, b⟩
  replace m1 := Lib.hid (m1.out.below b)
  replace m2 := Lib.hid (m2.out.below b)
  replace bb := Lib.hid (below_trans2 bb.out b)
  have hlt2 := m2.out.lt
  obtain ⟨W2, hW2⟩ : ∃ W, W = w1.alloc (.cells (zeros n (.slice none 0 0)) 88) := ⟨_, rfl⟩
  obtain ⟨G, hGG⟩ : ∃ G, G = w1.heap.size := ⟨_, rfl⟩
  have ba : Below w1.heap.size w1 W2 := by rw [hW2]; exact below_alloc _ _
  have hI : Hid (WithI w n A c G gi N inn [] [] W2) := Lib.hid
    { own := by
        have h := own_zeros w1 n (.slice none 0 0) 88 (by unfold maxLen; omega)
        rw [← hW2, ← hGG] at h
        rw [filled_nil]; exact h
      rows := OwnRows.nil _ _ _
      mat := m1.out.below ba
      res := m2.out.below ba
      inr := hin.below ba
      bel := below_trans2 bb.out ba
      big := ⟨by omega, by rw [hW2, hGG]; simp, by omega⟩ }
  have q0 := m1.out.c0
  have q1 := m1.out.c1
  have r1 := (m1.out.below ba).c1
  rw [hW2] at r1
  replace hCh := Lib.hid hCh
  clear hin b cC hgi hlt2 ba m1 m2 bb
  go_wp2_with fail
  rw [← hW2, ← hGG]
  clear hmk q0 q1 r1 hW2 hGG
  go_loopw [19] (fun t wr => ∃ vs : List Value, vs.length ≤ n ∧ t = .int .i64 vs.length ∧ Hid (WithI w n A c G gi N inn vs (withPre a inn vs.length) wr)) (fun t _ => n - (intOf t).toNat)
  case atStart => exact ⟨[], Nat.zero_le _, rfl, hI⟩
  case round =>
    clear hI
    obtain ⟨vs, hk, rfl, hI⟩ := hrel
    obtain ⟨k, hke⟩ : ∃ k, k = vs.length := ⟨_, rfl⟩
    rw [← hke] at hk
    rw [← hke]
    rw [← hke] at hI
    by_cases hlt : k < n
    · have hke' := Lib.hid hke
      clear hke
      obtain ⟨b, off, B', m', d', r, rfl, hbl, hx, hc, hrr⟩ := hr.out.at_ hlt
      have hm' : m' = N := by have := hrr.len; have := hrl.out r (List.mem_of_getElem? hx); omega
      subst hm'
      have hN0 := hNp.out (by omega)
      have hcc : wr.cell? ⟨b, off + k, none⟩ = some (.slice B' m' d') := (hI.out.bel.cell (p := ⟨b, off + k, none⟩) hbl).trans hc
      obtain ⟨b5, o5, _, rfl, hb5, _, _, _⟩ := hrr.at_ hN0
      have hmk := mk_u64 .i64 .i64 m' m' (Nat.le_refl _) (by omega) wr
      obtain ⟨W3, hW3⟩ : ∃ W, W = wr.alloc (.cells (zeros m' (.int .u64 0)) 89) := ⟨_, rfl⟩
      obtain ⟨g, hgg⟩ : ∃ g, g = wr.heap.size := ⟨_, rfl⟩
      have b3 : Below wr.heap.size wr W3 := by rw [hW3]; exact below_alloc _ _
      have hown0 : W3.ownsRow wr.heap.size 89 1 (.slice (some ⟨g, 0, none⟩) m' m') m' ((List.replicate m' 0).map u64v) := by
        rw [hW3, hgg]; simpa [u64v] using own_zeros wr m' (.int .u64 0) 89 (by unfold maxLen; omega)
      have hget := filled_get (vs := vs) (n := n) (by rw [← hke'.out]; exact hlt)
      have hown3 := own_below hI.out.own b3
      have hcg := hown3.cellAt k (by omega)
      rw [hke'.out, hget, ← hke'.out] at hcg
      have hfg := hown3.frozenAt k
      have hrows3 := hI.out.rows.snoc b3 hown0 (xs := List.replicate m' 0) (fun x hx => by rw [(List.mem_replicate.1 hx).2]; omega) hI.out.big.2.1
      have hgG : G < g := by have := hI.out.big.2.1; omega
      obtain ⟨W4, hW4⟩ : ∃ W, W = W3.setCell ⟨G, k, none⟩ (.slice (some ⟨g, 0, none⟩) m' m') := ⟨_, rfl⟩
      have hI4 : Hid (WithI w n (some ⟨b, off, none⟩) c G gi m' inn (vs ++ [.slice (some ⟨g, 0, none⟩) m' m']) (withPre a inn k ++ [List.replicate m' 0]) W4) := Lib.hid
        { own := by
            rw [hW4, ← filled_set (by rw [← hke'.out]; exact hlt), ← hke'.out]
            exact (hown3.stored k _).1
          rows := by rw [hW4]; exact hrows3.far (p := ⟨G, k, none⟩) (by simp) _
          mat := by rw [hW4]; exact Blk.far (hI.out.mat.below b3) (by have := hI.out.big; simp; omega) _
          res := by rw [hW4]; exact Blk.far (hI.out.res.below b3) (by have := hI.out.big; simp; omega) _
          inr := by rw [hW4]; exact (hI.out.inr.below b3).setCell (p := ⟨G, k, none⟩) (fun ad e => by
            injection e with e
            subst e
            have := hI.out.big
            simp; omega) _
          bel := by rw [hW4]; exact (below_trans2 hI.out.bel b3).setCell (by have := hI.out.big; simp; omega) _
          big := ⟨hI.out.big.1, by rw [hW4, hW3]; have := hI.out.big.2.1; simp; omega, hI.out.big.2.2⟩ }
      have hown4 : Hid (W4.ownsRow (G + 1) 89 1 (.slice (some ⟨g, 0, none⟩) m' m') m' ((List.replicate m' 0).map u64v)) := Lib.hid (by
        rw [hW4]
        exact own_base (own_far hown0 (p := ⟨G, k, none⟩) (by simp [Value.ownBlock]; omega) _) hI.out.big.2.1)
      have hrow4 : Hid (Row W4 (some ⟨b5, o5, none⟩) m' r) := Lib.hid (hrr.below hI4.out.bel)
      have hH := Lib.hid (row_Has (some ⟨gi, 0, none⟩) m' m' inn (k : Int) W4 hI4.out.inr (by omega) (by omega) (by omega))
      have hgb : w.heap.size < g := by have := hI.out.big; omega
      have hgi : gi < g := by have := hI.out.big; omega
      have hstep : Hid (withPre a inn (k + 1) = withPre a inn k ++ [withRow inn k r]) := Lib.hid (withPre_succ hx)
      have hrl' : r.length = m' := hrr.len
      have hr64 := Lib.hid (hrr.2)
      have hk0 : (0 : Int) ≤ (k : Int) := by omega
      have hkn : (k : Int) < (n : Int) := by omega
      have hw4c : Hid (W4.cell? ⟨G, k, none⟩ = some (.slice (some ⟨g, 0, none⟩) m' m')) := Lib.hid (by
        rw [hI4.out.own.cellAt k (by omega)]
        unfold filled
        rw [List.getElem?_append_left (by simp; have := hke'.out; omega), List.getElem?_append_right (by have := hke'.out; omega), show k - vs.length = 0 from by have := hke'.out; omega]; rfl)
      replace hrl' := Lib.hid hrl'
      rw [hW3] at hcg hfg
      replace hrr := Lib.hid hrr
      clear hI hget hown3 hrows3 hown0 b3 hx hc
      go_wp2_with fail
      rw [← hW3, ← hgg, ← hW4]
      clear hW3 hgg hW4 hcg hfg hmk hcc
      refine hH.out.mono ?_; rintro e w' ⟨rfl, rfl⟩
      cases hh : hasR inn (k : Int) with
      | false =>
        have hfin : Hid (WithI w n (some ⟨b, off, none⟩) c G gi m' inn (vs ++ [.slice (some ⟨g, 0, none⟩) m' m']) (withPre a inn (k + 1)) W4) := Lib.hid (by
          rw [hstep.out]
          unfold withRow
          rw [hh, hrl'.out]
          exact hI4.out)
        clear hI4 hown4 hw4c hh
        go_wp2_with fail
        go_roundw
        case rel => exact ⟨vs ++ [.slice (some ⟨g, 0, none⟩) m' m'], by have := hke'.out; simp; omega, by rw [List.length_append, ← hke'.out]; simp; try omega, by rw [List.length_append, List.length_singleton, ← hke'.out]; exact hfin⟩
        case measure => simp [intOf]; omega
      | true =>
        have hC := Lib.hid (hull_keep g (G + 1) m' m' d' m' (some ⟨b5, o5, none⟩) (some ⟨gi, 0, none⟩) r inn W4 hown4.out hrow4.out hI4.out.inr (fun ad e => by injection e with e; subst e; simp; omega) (fun ad e => by injection e with e; subst e; simp; omega) (by omega))
        have hc4 := hw4c.out
        have hand := Lib.hid (andR_w64 (b := inn) hr64.out)
        have hst2 : Hid ((withPre a inn k ++ [List.replicate m' 0]).set k (andR r inn) = withPre a inn (k + 1)) := Lib.hid (by
          rw [hstep.out, List.set_append_right _ _ (by rw [withPre_len]; exact Nat.le_refl _), withPre_len, Nat.sub_self]
          unfold withRow
          rw [hh]; rfl)
        clear hh
        go_wp2_with fail
        refine hC.out.mono ?_; rintro e w5 ⟨rfl, hy, ho⟩
        have hfin : Hid (WithI w n (some ⟨b, off, none⟩) c G gi m' inn (vs ++ [.slice (some ⟨g, 0, none⟩) m' m']) (withPre a inn (k + 1)) w5) := Lib.hid
          { own := own_only hI4.out.own ho (by simp [Value.ownBlock]; omega)
            rows := by
              rw [← hst2.out]
              exact hI4.out.rows.joined (by rw [List.getElem?_append_right (by have := hke'.out; omega), show k - vs.length = 0 from by have := hke'.out; omega]; rfl) ho hy hand.out
            mat := Blk.only hI4.out.mat ho (by omega)
            res := Blk.only hI4.out.res ho (by have := hI4.out.big; omega)
            inr := hI4.out.inr.only ho (fun ad e => by injection e with e; subst e; simp; omega)
            bel := below_only hI4.out.bel ho (by omega)
            big := ⟨hI4.out.big.1, by rw [ho.size]; exact hI4.out.big.2.1, hI4.out.big.2.2⟩ }
        clear hI4 hown4 hw4c hc4 hy ho hC
        go_wp2_with fail
        go_roundw
        case rel => exact ⟨vs ++ [.slice (some ⟨g, 0, none⟩) m' m'], by have := hke'.out; simp; omega, by rw [List.length_append, ← hke'.out]; simp; try omega, by rw [List.length_append, List.length_singleton, ← hke'.out]; exact hfin⟩
        case measure => simp [intOf]; omega
    · obtain rfl : n = k := by omega
      have hvn := Lib.hid hke.symm
      clear hlt hke
      have l0 := hI.out.mat.c0
      have f0 := hI.out.res.c0
      have f1 := hI.out.res.c1
      have g0 := hI.out.res.frozen 0
      have g1 := hI.out.res.frozen 1
      go_wp2_with fail
      have hcc := hI.out.res.two (.int .i64 n) (.slice (some ⟨G, 0, none⟩) n n)
      have hc1 := hcc.1
      have hc2 := hcc.2
      clear hcc f0 f1 g0 g1 l0
      refine bodyPost_ret (v := .agg #[.int .i64 n, .slice (some ⟨G, 0, none⟩) n n]) (by simp [results, Tryz.results119, go_sem, hc1, hc2]) rfl ⟨_, _, _, rfl, ⟨vs, ?_, ?_⟩, Nat.le_refl _, ?_⟩
      · have h := hI.out.own
        rw [filled_all hvn.out] at h
        exact Rd.of_own' (own_far (own_far h (p := ⟨w.heap.size + 1, 0, none⟩) (by have := hI.out.big; simp [Value.ownBlock]; omega) _) (p := ⟨w.heap.size + 1, 1, none⟩) (by have := hI.out.big; simp [Value.ownBlock]; omega) _)
      · rw [← withPre_all hG.out hCh.out]
        exact ((hI.out.rows.far (p := ⟨w.heap.size + 1, 0, none⟩) (by have := hI.out.big; simp; omega) _).far (p := ⟨w.heap.size + 1, 1, none⟩) (by have := hI.out.big; simp; omega) _).rows
      · exact (hI.out.bel.setCell (by simp) _).setCell (by simp) _

end Go.Proofs.YtjhjojklfdjmdaaGreat
