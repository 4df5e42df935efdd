/- The code's own contracts of layer 12: known, first, fill, Ahead, Past, Po. Layer 12's example, and its law SessionTells, walked (where what comes in is of no more than 2^40 operations). Arguments opened: a history (a slice of slices of operations), and what the bound of an '..Upto' statement says of it. -/
import Derived.Test.YtjmkpoignnbcpaaSessionTellsPk4
import Derived.Test.YtjmkpoignnbcpaaSessionTellsPk2
import Derived.Test.YtjmkpoignnbcpaaSessionTellsPk3
import Derived.Test.YtjmkpoignnbcpaaSessionTellsPk1
import Derived.Test.YtjmkpoignnbcpaaRows
import Derived.Deep.Slices
import Derived.OpenShut
import Derived.ChangeArms
import Derived.WalkKit
import Derived.ProofKit
namespace Go.Proofs.Ytjmkpoignnbcpaa
open Go.RowKit
set_option linter.unusedVariables false
theorem session_known (B : Option Addr) (m d : Nat) (i : Int) (w : World) :
    Calls Try.prog 32 #[.slice B m d, .int .i64 i] w fun e w' => e = .returned (.bool (decide (0 ≤ i) && decide (i < (m : Int)))) ∧ w = w' := by
  by_cases hi : 0 ≤ i
  · have d1 : decide (0 ≤ i) = true := decide_eq_true hi
    rw [d1, Bool.true_and]
    go_enter Try.func32, Try.ntmps32
    go_wp2
    go_ret
    exact ⟨rfl, rfl⟩
  · have d1 : decide (0 ≤ i) = false := decide_eq_false hi
    rw [d1, Bool.false_and]
    go_enter Try.func32, Try.ntmps32
    go_wp2
    go_ret
    exact ⟨rfl, rfl⟩
set_option maxRecDepth 100000 in
set_option maxHeartbeats 1000000 in
theorem session_first (B : Option Addr) (m d : Nat) (is : List It) (o : Nat) (w : World) (hI : LAt encT w B m is) (ho : o < m) (hm : m ≤ 1048576) :
    Calls Try.prog 28 #[.slice B m d, .int .i64 (o : Int)] w fun e w' => ∃ b : Nat, e = .returned (.int .i64 (b : Int)) ∧ FirstIs is o b ∧ Below w.heap.size w w' := by
  have hil := Lib.hid hI.len
  obtain ⟨jb, jo, y, rfl, hjb, hy, hyo, -⟩ := hI.item ho
  replace hI := Lib.hid hI
  replace hyo := Lib.hid hyo
  replace hy := Lib.hid hy
  obtain ⟨oz, hoz⟩ : ∃ z : Int, z = (o : Int) := ⟨_, rfl⟩
  rw [← hoz]
  have bo : 0 ≤ oz ∧ oz < (m : Int) := by omega
  go_enter Try.func28, Try.ntmps28
  go_wp2
  go_loopw [5] (fun t wr => ∃ k : Nat, k ≤ o ∧ t = .int .i64 k ∧ Hid (∀ (i : Nat) (x : It), k ≤ i → i ≤ o → is[i]? = some x → x.se = y.se) ∧ Hid (Below w.heap.size w wr)) (fun t _ => (intOf t).toNat)
  case atStart =>
    refine ⟨o, Nat.le_refl _, by rw [hoz], Lib.hid (fun i x h1 h2 hx => ?_), Lib.hid (Below.refl _ _)⟩
    have e : i = o := by omega
    rw [e, hy.out] at hx
    injection hx with hx
    rw [hx]
  case round =>
    obtain ⟨k, hk, ht, hall, hb⟩ := hrel
    have hIr := Lib.hid (hI.out.below hb.out)
    obtain ⟨jb', jo', y', hjB, hjb', hy', -, j0, -⟩ := hIr.out.item ho
    injection hjB with hjB
    injection hjB with e1 e2
    subst e1; subst e2
    rw [hy.out] at hy'; injection hy' with hy'; subst hy'
    rw [show o = oz.toNat by omega] at j0
    obtain ⟨kz, hkz⟩ : ∃ z : Int, z = (k : Int) := ⟨_, rfl⟩
    rw [← hkz] at ht
    subst ht
    by_cases hk0 : k = 0
    · have d1 : decide (0 < kz) = false := decide_eq_false (by omega)
      have hF : Hid (FirstIs is o k) := Lib.hid ⟨hk, fun i x z h1 h2 hx hz => by
        rw [hy.out] at hz; injection hz with hz; subst hz; exact hall.out i x h1 h2 hx, fun h => absurd h (by omega)⟩
      replace hkz := Lib.hid hkz
      replace hoz := Lib.hid hoz
      clear hall hIr hI
      go_wp2_with fail
      go_quiet (fail)
      go_wp2_with fail
      go_ret
      exact ⟨k, by rw [hkz.out]; rfl, hF.out, below_drewN hb.out _⟩
    · have d1 : decide (0 < kz) = true := decide_eq_true (by omega)
      obtain ⟨pz, hpz⟩ : ∃ z : Int, z = ((k - 1 : Nat) : Int) := ⟨_, rfl⟩
      have hw1 : IntKind.i64.wrap (kz - 1) = pz := by rw [IntKind.wrap_i64]; omega
      have hw2 : wrap64 (kz - 1) = pz := by unfold wrap64; omega
      obtain ⟨ib, io, x, hiB, hib, hx, -, i0, -⟩ := hIr.out.item (show k - 1 < m by omega)
      injection hiB with hiB
      injection hiB with e1 e2
      subst e1; subst e2
      rw [show k - 1 = pz.toNat by omega] at i0
      have bp : 0 ≤ pz ∧ pz < (m : Int) := by omega
      by_cases hse : x.se = y.se
      · have e1 : (x.se == y.se) = true := by simp [hse]
        have hall' : Hid (∀ (i : Nat) (x : It), k - 1 ≤ i → i ≤ o → is[i]? = some x → x.se = y.se) := Lib.hid (fun i z h1 h2 hz => by
          rcases Nat.lt_or_ge i k with h | h
          · rw [show i = k - 1 by omega, hx] at hz; injection hz with hz; subst hz; exact hse
          · exact hall.out i z h h2 hz)
        replace hkz := Lib.hid hkz
        replace hoz := Lib.hid hoz
        replace hpz := Lib.hid hpz
        replace hse := Lib.hid hse
        clear hall hIr hI hx
        go_wp2_with fail
        go_quiet (fail)
        go_wp2_with fail
        exact ⟨⟨k - 1, by omega, by rw [← hpz.out], hall', Lib.hid (below_drewN hb.out _)⟩, by have := hkz.out; have := hpz.out; simp [intOf]; omega⟩
      · have e1 : (x.se == y.se) = false := by simpa using hse
        have hF : Hid (FirstIs is o k) := Lib.hid ⟨hk, fun i x z h1 h2 hx hz => by
          rw [hy.out] at hz; injection hz with hz; subst hz; exact hall.out i x h1 h2 hx, fun _ u z hu hz => by
          rw [hy.out] at hz; injection hz with hz; subst hz
          rw [hx] at hu; injection hu with hu; subst hu; exact hse⟩
        replace hkz := Lib.hid hkz
        replace hoz := Lib.hid hoz
        replace hpz := Lib.hid hpz
        replace hse := Lib.hid hse
        clear hall hIr hI hx
        go_wp2_with fail
        go_quiet (fail)
        go_wp2_with fail
        go_ret
        exact ⟨k, by rw [hkz.out]; rfl, hF.out, below_drewN hb.out _⟩
theorem both_no {i : Int} {m : Nat} (h : ¬ (0 ≤ i ∧ i < (m : Int))) : (decide (0 ≤ i) && decide (i < (m : Int))) = false := by
  rw [Bool.eq_false_iff]; simpa using h
theorem cut_ahead {Goal F : Nat → Nat → World → Prop} {R : Prop} (h1 : (∀ a b c, F a b c → Goal a b c) → R) (h2 : ∀ a b c, F a b c → Goal a b c) : R := h1 h2
set_option maxRecDepth 100000 in
set_option maxHeartbeats 2000000 in
theorem session_Ahead (v : FV) (f : Fac) (i j : Int) (w : World) (hF : FactsAt w v f) :
    Calls Try.prog 13 #[.agg #[.slice v.A v.n v.c, .slice v.B v.m v.d, .slice v.C v.k v.e], .int .i64 i, .int .i64 j] w (RetBool (aheadF f.items i j) w) := by
  have hil := hF.is.len
  have ck1 := Lib.hid (fun W => session_known v.B v.m v.d i W)
  have ck2 := Lib.hid (fun W => session_known v.B v.m v.d j W)
  -- a call with facts v: they are boxed at g, the world is W0 then
  have hB0 := Lib.hid (FBox.new hF)
  obtain ⟨g, hg⟩ : ∃ g, g = w.heap.size := ⟨_, rfl⟩
  obtain ⟨W0, hW0⟩ : ∃ W, W = w.alloc (.cells #[.slice v.A v.n v.c, .slice v.B v.m v.d, .slice v.C v.k v.e] 30) := ⟨_, rfl⟩
  rw [← hW0, ← hg] at hB0
  clear hF
  have p0 := hB0.out.c0
  have p1 := hB0.out.c1
  have p2 := hB0.out.c2
  by_cases hi : 0 ≤ i ∧ i < (v.m : Int)
  · rw [decide_eq_true hi.1, decide_eq_true hi.2] at ck1
    by_cases hj : 0 ≤ j ∧ j < (v.m : Int)
    · rw [decide_eq_true hj.1, decide_eq_true hj.2] at ck2
      obtain ⟨ib, io, x, hxB, hib, hx, hxo, i0, i1, i2, i3, i4⟩ := hB0.out.f.is.item (show i.toNat < v.m by omega)
      obtain ⟨jb, jo, y, hyB, hjb, hy, hyo, j0, j1, j2, j3, j4⟩ := hB0.out.f.is.item (show j.toNat < v.m by omega)
      rw [hxB] at hyB
      injection hyB with hyB
      injection hyB with h1 h2
      subst h1; subst h2
      have hres := aheadF_at hi.1 hj.1 hx hy
      rw [hxB] at p1 ck1 ck2
      replace ck1 := Lib.hid ck1
      replace ck2 := Lib.hid ck2
      have bi : 0 ≤ i ∧ i < (v.m : Int) := hi
      have bj : 0 ≤ j ∧ j < (v.m : Int) := hj
      replace hx := Lib.hid hx
      replace hy := Lib.hid hy
      replace hres := Lib.hid hres
      clear hxB hi hj hil hxo hyo
      go_enter Try.func13, Try.ntmps13
      go_wp2_with (rw [← hW0, ← hg]; clear hW0 hg)
      refine (ck1.out _).mono ?_; rintro e w' ⟨rfl, rfl⟩
      go_wp2_with fail
      refine (ck2.out _).mono ?_; rintro e w' ⟨rfl, rfl⟩
      go_wp2_with fail
      refine wp_region_tree (.flt 0 (.flt 1 (.flt 2 (.flt 3 (.flt 4 (.flt 5 (.flt 6 (.flt 7 (.flt 8 (.flt 9 (.two 10 11 (.one 11 (.one 12 (.one 13 .done))) (.one 10 (.one 12 (.one 13 .done)))))))))))))) (by kernel_rfl) (by kernel_rfl) (fun U hU => ?_)
      have hBU := Lib.hid (show FBox w g v f U from by rw [hU.out]; exact hB0.out.later (Below.refl _ _).drew)
      have hcs := Lib.hid (show (U.cell? ⟨g, 1, none⟩ = some (.slice (some ⟨ib, io, none⟩) v.m v.d)) ∧ (U.cell? ⟨ib, io + i.toNat * 5, none⟩ = some (.int .i64 x.se) ∧ U.cell? ⟨ib, io + i.toNat * 5 + 1, none⟩ = some (.int .i64 x.pl) ∧ U.cell? ⟨ib, io + i.toNat * 5 + 2, none⟩ = some (.bool x.wr) ∧ U.cell? ⟨ib, io + i.toNat * 5 + 3, none⟩ = some (.int .i64 x.va) ∧ U.cell? ⟨ib, io + i.toNat * 5 + 4, none⟩ = some (.int .i64 x.vl)) ∧ (U.cell? ⟨ib, io + j.toNat * 5, none⟩ = some (.int .i64 y.se) ∧ U.cell? ⟨ib, io + j.toNat * 5 + 1, none⟩ = some (.int .i64 y.pl) ∧ U.cell? ⟨ib, io + j.toNat * 5 + 2, none⟩ = some (.bool y.wr) ∧ U.cell? ⟨ib, io + j.toNat * 5 + 3, none⟩ = some (.int .i64 y.va) ∧ U.cell? ⟨ib, io + j.toNat * 5 + 4, none⟩ = some (.int .i64 y.vl)) from by
        rw [hU.out]; exact ⟨p1, ⟨i0, i1, i2, i3, i4⟩, ⟨j0, j1, j2, j3, j4⟩⟩)
      clear hU hB0 p0 p1 p2 i0 i1 i2 i3 i4 j0 j1 j2 j3 j4 ck1 ck2
      have bW : Below U.heap.size U U := Below.refl _ _
      apply cut_ahead (F := fun (m1 m2 : Nat) (w9 : World) => Blk w9 m1 51 x.cells ∧ Blk w9 m2 51 y.cells ∧ Below U.heap.size U w9)
      · intro key
        obtain ⟨p1, ⟨i0, i1, i2, i3, i4⟩, ⟨j0, j1, j2, j3, j4⟩⟩ := hcs.out
        iterate 10
          refine wpPT_float (v := ?_) rfl (by rfl) (fun w' hw' => ?_) (fun K hK => ?_)
          rotate_left
          · (go_simp; try with_reducible rfl)
          go_simp
          refine hK _ ?_
          clear hK K
        clear p1 i0 i1 i2 i3 i4 j0 j1 j2 j3 j4
        refine wpPT_two rfl (by rfl) rfl (by rfl) (fun K hK => ?_) (fun K hK => ?_)
        · skip
          go_simp
          obtain ⟨m1, hM⟩ : ∃ M, M = (World.heap U).size := ⟨_, rfl⟩
          obtain ⟨w1, hw'⟩ : ∃ X : World, X = World.alloc U (.cells #[.int .i64 0, .int .i64 0, .bool false, .int .i64 0, .int .i64 0] 51) := ⟨_, rfl⟩
          rw [← hw', ← hM]
          have b : Below (World.heap U).size U w1 := by rw [hw']; exact (Below.refl _ _).alloc (Nat.le_refl _) _
          have hm1 := Lib.hid (show U.heap.size ≤ m1 by rw [hM]; exact bW.size)
          replace bW := below_trans2 bW b
          refine hK _ _ bW ?_
          clear hK K
          have km1 := Lib.hid (show Blk w1 m1 51 itZ.cells from by rw [hw', hM]; exact Blk.new _ _ _)
          clear hM hw' b
          refine wpPT_one rfl (by rfl) (fun K hK => ?_)
          go_simp
          obtain ⟨m2, hM⟩ : ∃ M, M = (World.heap w1).size := ⟨_, rfl⟩
          obtain ⟨w2, hw'⟩ : ∃ X : World, X = World.alloc w1 (.cells #[.int .i64 0, .int .i64 0, .bool false, .int .i64 0, .int .i64 0] 51) := ⟨_, rfl⟩
          rw [← hw', ← hM]
          have b : Below (World.heap w1).size w1 w2 := by rw [hw']; exact (Below.refl _ _).alloc (Nat.le_refl _) _
          have hm2 := Lib.hid (show U.heap.size ≤ m2 by rw [hM]; exact bW.size)
          replace bW := below_trans2 bW b
          refine hK _ _ bW ?_
          clear hK K
          have km2 := Lib.hid (show Blk w2 m2 51 itZ.cells from by rw [hw', hM]; exact Blk.new _ _ _)
          have hne := Lib.hid (show m1 ≠ m2 from by have := km1.out.lt; omega)
          replace km1 := Lib.hid (Blk.below km1.out b km1.out.lt)
          clear hM
          clear hw' b
          -- the item x is stored into the variable m1; the world w2, then w3; the other one's variable m2
          refine wpPT_one rfl (by rfl) (fun K hK => ?_)
          have s0 := km1.out.cell 0
          have s1 := km1.out.cell 1
          have s2 := km1.out.cell 2
          have s3 := km1.out.cell 3
          have s4 := km1.out.cell 4
          have t0 := km1.out.frozen 0
          have t1 := km1.out.frozen 1
          have t2 := km1.out.frozen 2
          have t3 := km1.out.frozen 3
          have t4 := km1.out.frozen 4
          simp only [It.cells, List.getElem?_cons_zero, List.getElem?_cons_succ] at s0 s1 s2 s3 s4
          go_simp
          obtain ⟨w3, hwz⟩ : ∃ X : World, X = ((((World.setCell w2 ⟨m1, 0, none⟩ (.int .i64 (It.se x))).setCell ⟨m1, 1, none⟩ (.int .i64 (It.pl x))).setCell ⟨m1, 2, none⟩ (.bool (It.wr x))).setCell ⟨m1, 3, none⟩ (.int .i64 (It.va x))).setCell ⟨m1, 4, none⟩ (.int .i64 (It.vl x)) := ⟨_, rfl⟩
          rw [← hwz]
          replace hwz : w3 = putIt w2 m1 x := hwz
          have bV : Below U.heap.size U w3 := by rw [hwz]; exact putIt_below bW hm1.out x
          refine hK _ _ bV ?_
          replace km1 := Lib.hid (show Blk w3 m1 51 (It.cells x) from by rw [hwz]; exact putIt_blk (j := itZ) km1.out x)
          replace km2 := Lib.hid (show Blk w3 m2 51 (It.cells itZ) from by rw [hwz]; exact putIt_far (k := m2) km2.out (show m2 ≠ m1 from by have := hne.out; omega) x)
          clear hK K s0 s1 s2 s3 s4 t0 t1 t2 t3 t4 hwz bW
          have bW := bV
          clear bV
          -- the item y is stored into the variable m2; the world w3, then w4; the other one's variable m1
          refine wpPT_one rfl (by rfl) (fun K hK => ?_)
          have s0 := km2.out.cell 0
          have s1 := km2.out.cell 1
          have s2 := km2.out.cell 2
          have s3 := km2.out.cell 3
          have s4 := km2.out.cell 4
          have t0 := km2.out.frozen 0
          have t1 := km2.out.frozen 1
          have t2 := km2.out.frozen 2
          have t3 := km2.out.frozen 3
          have t4 := km2.out.frozen 4
          simp only [It.cells, List.getElem?_cons_zero, List.getElem?_cons_succ] at s0 s1 s2 s3 s4
          go_simp
          obtain ⟨w4, hwz⟩ : ∃ X : World, X = ((((World.setCell w3 ⟨m2, 0, none⟩ (.int .i64 (It.se y))).setCell ⟨m2, 1, none⟩ (.int .i64 (It.pl y))).setCell ⟨m2, 2, none⟩ (.bool (It.wr y))).setCell ⟨m2, 3, none⟩ (.int .i64 (It.va y))).setCell ⟨m2, 4, none⟩ (.int .i64 (It.vl y)) := ⟨_, rfl⟩
          rw [← hwz]
          replace hwz : w4 = putIt w3 m2 y := hwz
          have bV : Below U.heap.size U w4 := by rw [hwz]; exact putIt_below bW hm2.out y
          refine hK _ _ bV ?_
          replace km2 := Lib.hid (show Blk w4 m2 51 (It.cells y) from by rw [hwz]; exact putIt_blk (j := itZ) km2.out y)
          replace km1 := Lib.hid (show Blk w4 m1 51 (It.cells x) from by rw [hwz]; exact putIt_far (k := m1) km1.out (show m1 ≠ m2 from by have := hne.out; omega) y)
          clear hK K s0 s1 s2 s3 s4 t0 t1 t2 t3 t4 hwz bW
          have bW := bV
          clear bV
          refine wpPT_done (NoPanic.normal ?_)
          exact key m1 m2 w4 ⟨km1.out, km2.out, bW⟩
        · skip
          go_simp
          obtain ⟨m2, hM⟩ : ∃ M, M = (World.heap U).size := ⟨_, rfl⟩
          obtain ⟨w5, hw'⟩ : ∃ X : World, X = World.alloc U (.cells #[.int .i64 0, .int .i64 0, .bool false, .int .i64 0, .int .i64 0] 51) := ⟨_, rfl⟩
          rw [← hw', ← hM]
          have b : Below (World.heap U).size U w5 := by rw [hw']; exact (Below.refl _ _).alloc (Nat.le_refl _) _
          have hm2 := Lib.hid (show U.heap.size ≤ m2 by rw [hM]; exact bW.size)
          replace bW := below_trans2 bW b
          refine hK _ _ bW ?_
          clear hK K
          have km2 := Lib.hid (show Blk w5 m2 51 itZ.cells from by rw [hw', hM]; exact Blk.new _ _ _)
          clear hM hw' b
          refine wpPT_one rfl (by rfl) (fun K hK => ?_)
          go_simp
          obtain ⟨m1, hM⟩ : ∃ M, M = (World.heap w5).size := ⟨_, rfl⟩
          obtain ⟨w6, hw'⟩ : ∃ X : World, X = World.alloc w5 (.cells #[.int .i64 0, .int .i64 0, .bool false, .int .i64 0, .int .i64 0] 51) := ⟨_, rfl⟩
          rw [← hw', ← hM]
          have b : Below (World.heap w5).size w5 w6 := by rw [hw']; exact (Below.refl _ _).alloc (Nat.le_refl _) _
          have hm1 := Lib.hid (show U.heap.size ≤ m1 by rw [hM]; exact bW.size)
          replace bW := below_trans2 bW b
          refine hK _ _ bW ?_
          clear hK K
          have km1 := Lib.hid (show Blk w6 m1 51 itZ.cells from by rw [hw', hM]; exact Blk.new _ _ _)
          have hne := Lib.hid (show m1 ≠ m2 from by have := km2.out.lt; omega)
          replace km2 := Lib.hid (Blk.below km2.out b km2.out.lt)
          clear hM
          clear hw' b
          -- the item x is stored into the variable m1; the world w6, then w7; the other one's variable m2
          refine wpPT_one rfl (by rfl) (fun K hK => ?_)
          have s0 := km1.out.cell 0
          have s1 := km1.out.cell 1
          have s2 := km1.out.cell 2
          have s3 := km1.out.cell 3
          have s4 := km1.out.cell 4
          have t0 := km1.out.frozen 0
          have t1 := km1.out.frozen 1
          have t2 := km1.out.frozen 2
          have t3 := km1.out.frozen 3
          have t4 := km1.out.frozen 4
          simp only [It.cells, List.getElem?_cons_zero, List.getElem?_cons_succ] at s0 s1 s2 s3 s4
          go_simp
          obtain ⟨w7, hwz⟩ : ∃ X : World, X = ((((World.setCell w6 ⟨m1, 0, none⟩ (.int .i64 (It.se x))).setCell ⟨m1, 1, none⟩ (.int .i64 (It.pl x))).setCell ⟨m1, 2, none⟩ (.bool (It.wr x))).setCell ⟨m1, 3, none⟩ (.int .i64 (It.va x))).setCell ⟨m1, 4, none⟩ (.int .i64 (It.vl x)) := ⟨_, rfl⟩
          rw [← hwz]
          replace hwz : w7 = putIt w6 m1 x := hwz
          have bV : Below U.heap.size U w7 := by rw [hwz]; exact putIt_below bW hm1.out x
          refine hK _ _ bV ?_
          replace km1 := Lib.hid (show Blk w7 m1 51 (It.cells x) from by rw [hwz]; exact putIt_blk (j := itZ) km1.out x)
          replace km2 := Lib.hid (show Blk w7 m2 51 (It.cells itZ) from by rw [hwz]; exact putIt_far (k := m2) km2.out (show m2 ≠ m1 from by have := hne.out; omega) x)
          clear hK K s0 s1 s2 s3 s4 t0 t1 t2 t3 t4 hwz bW
          have bW := bV
          clear bV
          -- the item y is stored into the variable m2; the world w7, then w8; the other one's variable m1
          refine wpPT_one rfl (by rfl) (fun K hK => ?_)
          have s0 := km2.out.cell 0
          have s1 := km2.out.cell 1
          have s2 := km2.out.cell 2
          have s3 := km2.out.cell 3
          have s4 := km2.out.cell 4
          have t0 := km2.out.frozen 0
          have t1 := km2.out.frozen 1
          have t2 := km2.out.frozen 2
          have t3 := km2.out.frozen 3
          have t4 := km2.out.frozen 4
          simp only [It.cells, List.getElem?_cons_zero, List.getElem?_cons_succ] at s0 s1 s2 s3 s4
          go_simp
          obtain ⟨w8, hwz⟩ : ∃ X : World, X = ((((World.setCell w7 ⟨m2, 0, none⟩ (.int .i64 (It.se y))).setCell ⟨m2, 1, none⟩ (.int .i64 (It.pl y))).setCell ⟨m2, 2, none⟩ (.bool (It.wr y))).setCell ⟨m2, 3, none⟩ (.int .i64 (It.va y))).setCell ⟨m2, 4, none⟩ (.int .i64 (It.vl y)) := ⟨_, rfl⟩
          rw [← hwz]
          replace hwz : w8 = putIt w7 m2 y := hwz
          have bV : Below U.heap.size U w8 := by rw [hwz]; exact putIt_below bW hm2.out y
          refine hK _ _ bV ?_
          replace km2 := Lib.hid (show Blk w8 m2 51 (It.cells y) from by rw [hwz]; exact putIt_blk (j := itZ) km2.out y)
          replace km1 := Lib.hid (show Blk w8 m1 51 (It.cells x) from by rw [hwz]; exact putIt_far (k := m1) km1.out (show m1 ≠ m2 from by have := hne.out; omega) y)
          clear hK K s0 s1 s2 s3 s4 t0 t1 t2 t3 t4 hwz bW
          have bW := bV
          clear bV
          refine wpPT_done (NoPanic.normal ?_)
          exact key m1 m2 w8 ⟨km1.out, km2.out, bW⟩
      · intro m1 m2 w9 h9
        obtain ⟨k1, k2, b9⟩ := h9
        have hbw := Lib.hid (below_trans2 hBU.out.o b9)
        have s0 := k1.cell 0
        have s1 := k1.cell 1
        have t0 := k2.cell 0
        have t1 := k2.cell 1
        simp only [It.cells, List.getElem?_cons_zero, List.getElem?_cons_succ] at s0 s1 t0 t1
        clear k1 k2 b9 bW hcs hBU
        by_cases hse : x.se = y.se
        · have e1 : (x.se == y.se) = true := by simp [hse]
          have hr2 := hres.out
          rw [decide_eq_true hse, Bool.true_and] at hr2
          replace hr2 := Lib.hid hr2
          replace hse := Lib.hid hse
          go_wp2_with fail
          go_ret
          rw [hr2.out]
          exact ⟨rfl, hbw.out⟩
        · have e1 : (x.se == y.se) = false := by simpa using hse
          have hr2 := hres.out
          rw [decide_eq_false hse, Bool.false_and] at hr2
          replace hr2 := Lib.hid hr2
          replace hse := Lib.hid hse
          go_wp2_with fail
          go_ret
          rw [hr2.out]
          exact ⟨rfl, hbw.out⟩
    · rw [show (decide (0 ≤ j) && decide (j < (v.m : Int))) = false from both_no hj] at ck2
      have hres := Lib.hid (aheadF_out (is := f.items) (i := i) (j := j) (by omega))
      replace ck1 := Lib.hid ck1
      replace ck2 := Lib.hid ck2
      clear hi hj hil
      go_enter Try.func13, Try.ntmps13
      go_wp2_with (rw [← hW0, ← hg]; clear hW0 hg)
      refine (ck1.out _).mono ?_; rintro e w' ⟨rfl, rfl⟩
      go_wp2_with fail
      refine (ck2.out _).mono ?_; rintro e w' ⟨rfl, rfl⟩
      go_wp2_with fail
      go_ret
      rw [hres.out]
      exact ⟨rfl, hB0.out.o⟩
  · rw [show (decide (0 ≤ i) && decide (i < (v.m : Int))) = false from both_no hi] at ck1
    have hres := Lib.hid (aheadF_out (is := f.items) (i := i) (j := j) (by omega))
    replace ck1 := Lib.hid ck1
    clear hi hil ck2
    go_enter Try.func13, Try.ntmps13
    go_wp2_with (rw [← hW0, ← hg]; clear hW0 hg)
    refine (ck1.out _).mono ?_; rintro e w' ⟨rfl, rfl⟩
    go_wp2_with fail
    go_ret
    rw [hres.out]
    exact ⟨rfl, hB0.out.o⟩
theorem info_int12 : (Try.prog.info? 3).map (fun i => (i.zero, i.size, i.bytes)) = some (some (.int .i64 0), 1, 8) := by kernel_rfl
set_option maxRecDepth 100000 in
set_option maxHeartbeats 1000000 in
theorem session_Past (v : FV) (f : Fac) (o : Int) (w : World) (hF : FactsAt w v f) (hm : v.m ≤ 1048576) (hN : Nbr f.items) :
    Calls Try.prog 16 #[.agg #[.slice v.A v.n v.c, .slice v.B v.m v.d, .slice v.C v.k v.e], .int .i64 o] w (RetIL (pastF f.items o f.items.length) w) := by
  have hil := hF.is.len
  have ck := Lib.hid (fun W => session_known v.B v.m v.d o W)
  obtain ⟨i0, hi, hz0, hz1, hz2⟩ := info_parts info_int12
  replace hi := Lib.hid hi
  replace hz0 := Lib.hid hz0
  replace hz1 := Lib.hid hz1
  replace hz2 := Lib.hid hz2
  -- a call with facts v: they are boxed at g, the world is W0 then
  have hB0 := Lib.hid (FBox.new hF)
  obtain ⟨g, hg⟩ : ∃ g, g = w.heap.size := ⟨_, rfl⟩
  obtain ⟨W0, hW0⟩ : ∃ W, W = w.alloc (.cells #[.slice v.A v.n v.c, .slice v.B v.m v.d, .slice v.C v.k v.e] 30) := ⟨_, rfl⟩
  rw [← hW0, ← hg] at hB0
  clear hF
  have p0 := hB0.out.c0
  have p1 := hB0.out.c1
  have p2 := hB0.out.c2
  by_cases ho : 0 ≤ o ∧ o < (v.m : Int)
  · rw [decide_eq_true ho.1, decide_eq_true ho.2] at ck
    obtain ⟨oN, hoe⟩ := Int.eq_ofNat_of_zero_le ho.1
    have hoN : oN < v.m := by omega
    have cF := session_first v.B v.m v.d f.items oN W0 hB0.out.f.is hoN hm
    have hpast := Lib.hid (fun b (h : FirstIs f.items oN b) => h.past hN (by omega))
    rw [← hoe] at cF hpast
    have hom : o < 1048576 := by omega
    replace hoe := Lib.hid hoe
    replace cF := Lib.hid cF
    replace ck := Lib.hid ck
    replace hil := Lib.hid hil
    clear ho hN
    go_enter Try.func16, Try.ntmps16
    go_wp2_with (rw [← hW0, ← hg]; clear hW0 hg)
    refine (ck.out _).mono ?_; rintro e w' ⟨rfl, rfl⟩
    go_wp2_with fail
    refine cF.out.mono ?_; rintro e w2 ⟨b, rfl, hfi, b2⟩
    have hpl := Lib.hid (hpast.out b hfi)
    have hbo := hfi.le
    have hBW := Lib.hid (below_trans2 hB0.out.o b2)
    clear hB0 p0 p1 p2 hpast hfi b2 cF ck
    go_wp2_with fail
    go_loopw [5, 6] (fun u t wr => ∃ k : Nat, k ≤ oN + 1 - b ∧ t = .int .i64 ((b + k : Nat) : Int) ∧ Hid (Below w2.heap.size w2 wr) ∧ Hid (wr.ownsRow w2.heap.size 3 1 u k (encI.all (spanI b k)))) (fun _ t _ => oN + 1 - (intOf t).toNat)
    case atStart => exact ⟨0, Nat.zero_le _, rfl, Lib.hid (Below.refl _ _), Lib.hid (World.ownsRow_nil _ _ _ _)⟩
    case round =>
      obtain ⟨k, hk, ht, hb, hown⟩ := hrel
      obtain ⟨iz, hiz⟩ : ∃ z : Int, z = ((b + k : Nat) : Int) := ⟨_, rfl⟩
      rw [← hiz] at ht
      subst ht
      have hss := spanI_succ b k
      rw [← hiz] at hss
      have hoe' := hoe.out
      have i64 : -9223372036854775808 ≤ iz ∧ iz < 9223372036854775808 := by omega
      by_cases hlt : iz ≤ o
      · have d1 : decide (iz ≤ o) = true := decide_eq_true hlt
        have hw : wrap64 (iz + 1) = iz + 1 := by unfold wrap64; omega
        have hwh := Lib.hid hw
        obtain ⟨gl, hgl⟩ : ∃ g, g = wr.heap.size := ⟨_, rfl⟩
        obtain ⟨VL, hVL⟩ : ∃ W, W = World.alloc wr (.cells #[.int .i64 iz] 3) := ⟨_, rfl⟩
        have bL : Below wr.heap.size wr VL := by rw [hVL]; exact (Below.refl _ _).alloc (Nat.le_refl _) _
        have hlit := Lib.hid (show LAt encI VL (some ⟨gl, 0, none⟩) 1 [iz] from by rw [hVL, hgl]; exact LAt.lit1 (E := encI) wr 3 iz i64)
        have hownL := Lib.hid (own_below hown.out bL)
        have bWL := Lib.hid (below_trans2 hb.out bL)
        have hbase := Lib.hid bWL.out.size
        have hk1 : k + 1 ≤ oN + 1 - b := by omega
        have hmea : oN + 1 - ((iz + 1).toNat) < oN + 1 - iz.toNat := by omega
        replace hmea := Lib.hid hmea
        replace hiz := Lib.hid hiz
        replace hss := Lib.hid hss
        clear bL hoe' i64 hlt
        go_wp2_with (first
          | (rw [← hVL, ← hgl]; clear hVL hgl)
          | (at_builtin; refine wpList_append_L (E := encI) rfl (.tmp 21) (.tmp 23) _ rfl w2.heap.size 3 i0 _ 8 Try.underlying28 hi.out hz0.out hz1.out hz2.out rfl _ k (spanI b k) (by rfl) hownL.out _ 1 1 _ rfl hlit.out (by unfold maxLen; omega) (by omega) hbase.out ?_; intro v' w7 hown' hb7 _ _))
        refine ⟨⟨k + 1, hk1, ?_, Lib.hid (bWL.out.trans hb7), Lib.hid (by rw [hss.out]; exact hown')⟩, ?_⟩
        · have := hiz.out; congr 1; omega
        · have := hmea.out; simpa [intOf, show wrap64 (iz + 1) = iz + 1 from hwh.out] using this
      · have d1 : decide (iz ≤ o) = false := decide_eq_false hlt
        have hkk : k = oN + 1 - b := by omega
        rw [← hkk] at hpl
        obtain ⟨A, c, rfl, hnc, hcm, hLA⟩ := LAt.of_own hown.out (fun z hz => by
          have := spanI_ok b k z hz
          exact ⟨by omega, by omega⟩) (spanI_len b k)
        replace hkk := Lib.hid hkk
        replace hiz := Lib.hid hiz
        replace hss := Lib.hid hss
        replace hLA := Lib.hid hLA
        replace hoe := Lib.hid hoe'
        clear hlt hoe' i64
        go_wp2_with fail
        go_ret
        rw [hpl.out]
        exact ⟨A, k, c, rfl, hLA.out, hnc, hcm, below_trans2 hBW.out hb.out⟩
  · rw [both_no ho] at ck
    have hpl := Lib.hid (past_none (is := f.items) (o := o) (by omega))
    replace ck := Lib.hid ck
    clear ho hN
    go_enter Try.func16, Try.ntmps16
    go_wp2_with (rw [← hW0, ← hg]; clear hW0 hg)
    refine (ck.out _).mono ?_; rintro e w' ⟨rfl, rfl⟩
    go_wp2_with fail
    go_ret
    rw [hpl.out]
    exact ⟨none, 0, 0, rfl, LAt.nil _ _ _, Nat.le_refl _, by omega, hB0.out.o⟩
theorem Row.setBlk {w : World} {A : Option Addr} {n G i : Nat} {t : TypeId} {xs : List Nat} {cs : List Value} (h : Row w A n xs) (k : Blk w G t cs) (hcs : ∀ x ∈ cs, ∃ A n c, x = .slice A n c) (u : Value) : Row (w.setCell ⟨G, i, none⟩ u) A n xs := by
  rcases Nat.eq_zero_or_pos n with h0 | h0
  · subst h0
    have hx : xs = [] := List.eq_nil_of_length_eq_zero h.len
    subst hx
    exact Row.nil _ _
  · obtain ⟨b, off, x, hA, hb, hx, hx64, hc⟩ := h.at_ h0
    refine h.setCell (fun ad e => ?_) u
    rw [hA] at e
    injection e with e
    subst e
    intro hbG
    have hbG : b = G := hbG
    subst hbG
    rw [Nat.add_zero, k.cell] at hc
    obtain ⟨_, _, _, e⟩ := hcs _ (List.mem_of_getElem? hc)
    cases e
theorem RowsC.setBlk {w : World} {G i : Nat} {t : TypeId} {vs cs : List Value} {xss : List (List Nat)} (h : RowsC w vs xss) (k : Blk w G t cs) (hcs : ∀ x ∈ cs, ∃ A n c, x = .slice A n c) (u : Value) : RowsC (w.setCell ⟨G, i, none⟩ u) vs xss :=
  ⟨h.1, fun j v xs h1 h2 => by
    obtain ⟨A, n, c, e, hr⟩ := h.2 j v xs h1 h2
    exact ⟨A, n, c, e, hr.setBlk k hcs u⟩⟩
theorem RowsC.slices {w : World} {vs : List Value} {xss : List (List Nat)} (h : RowsC w vs xss) : ∀ x ∈ vs, ∃ A n c, x = .slice A n c := fun x hx => by
  obtain ⟨i, hi⟩ := List.getElem?_of_mem hx
  have hl : i < xss.length := by rw [← h.1]; exact (List.getElem?_eq_some_iff.1 hi).1
  obtain ⟨A, n, c, e, -⟩ := h.2 i x _ hi (List.getElem?_eq_getElem hl)
  exact ⟨A, n, c, e⟩
theorem belowB_set {w w' : World} {g : Nat} (h : BelowB g w w') (o : Nat) (u : Value) : BelowB g w (w'.setCell ⟨g, o, none⟩ u) :=
  ⟨h.os, h.tape, h.output, by simpa using h.size, fun k hk hg => (Below.heap_setCell w' ⟨g, o, none⟩ u k (by simpa using hg)).trans (h.block k hk hg)⟩
/-- the rows' block G, of which the last ones, from e on, are laid -/
structure PartAt (t : TypeId) (w : World) (G n e : Nat) (is : List It) (vs : List Value) : Prop where
  k : Blk w G t vs
  r : RowsC w vs (partM is e)
  l : vs.length = n
theorem PartAt.below {t : TypeId} {w w' : World} {G n e : Nat} {is : List It} {vs : List Value} (h : PartAt t w G n e is vs) (hb : Below w.heap.size w w') : PartAt t w' G n e is vs := ⟨h.k.below hb h.k.lt, h.r.below hb, h.l⟩
theorem PartAt.put {t : TypeId} {w : World} {G n e : Nat} {is : List It} {vs : List Value} (h : PartAt t w G n (e + 1) is vs) (he : e < is.length) {A : Option Addr} {m c : Nat} (hr : Row w A m ((poM is).getD e [])) : PartAt t (w.setCell ⟨G, e, none⟩ (.slice A m c)) G n e is (vs.set e (.slice A m c)) := by
  refine ⟨h.k.set_ e _, ?_, by rw [List.length_set]; exact h.l⟩
  rw [← partM_set he]
  exact (h.r.setBlk h.k h.r.slices _).set ⟨A, m, c, rfl, hr.setBlk h.k h.r.slices _⟩ e
theorem PartAt.row {t : TypeId} {w : World} {G n e i : Nat} {is : List It} {vs : List Value} (h : PartAt t w G n e is vs) (h1 : e ≤ i) (h2 : i < is.length) : ∃ A m c, vs[i]? = some (.slice A m c) ∧ Row w A m ((poM is).getD i []) := by
  have hl : i < vs.length := by rw [h.r.1, partM_len]; exact h2
  obtain ⟨A, m, c, e, hr⟩ := h.r.2 i _ _ (List.getElem?_eq_getElem hl) (partM_get h1 h2)
  exact ⟨A, m, c, by rw [List.getElem?_eq_getElem hl, e], hr⟩
theorem PartAt.any {t : TypeId} {w : World} {G n e i : Nat} {is : List It} {vs : List Value} (h : PartAt t w G n e is vs) (h2 : i < n) : ∃ A m c, vs[i]? = some (.slice A m c) := by
  have hl : i < vs.length := by rw [h.l]; exact h2
  obtain ⟨A, m, c, e⟩ := h.r.slices _ (List.getElem_mem hl)
  exact ⟨A, m, c, by rw [List.getElem?_eq_getElem hl, e]⟩
set_option maxRecDepth 100000 in
set_option maxHeartbeats 1000000 in
theorem session_fill (G n c : Nat) (is : List It) (s e : Nat) (vs : List Value) (w : World) (hP : PartAt 61 w G n e is vs) (hn : n ≤ 4096) (hil : is.length = n) (hS : Seg is s e) :
    Calls Try.prog 29 #[.slice (some ⟨G, 0, none⟩) n c, .int .i64 (s : Int), .int .i64 (e : Int)] w fun en w' => en = .returned (.tuple #[]) ∧ (∃ vs', PartAt 61 w' G n s is vs') ∧ BelowB G w w' := by
  have hlt := hS.lt
  have hle := hS.le
  rw [hil] at hle
  obtain ⟨l, hl⟩ : ∃ l, e = l + 1 := ⟨e - 1, by omega⟩
  subst hl
  have hlast := hS.last (by omega)
  rw [hil, Nat.add_sub_cancel] at hlast
  have hNew := Lib.hid (fun W => row_NewO (n : Int) (by omega) (by omega) W)
  have hstep := Lib.hid (fun i h1 h2 => hS.step (i := i) (by omega) h1 h2)
  have hrw := Lib.hid (fun i (hi : i < is.length) => poM_row (is := is) (by omega) hi)
  obtain ⟨ez, hez⟩ : ∃ z : Int, z = ((l + 1 : Nat) : Int) := ⟨_, rfl⟩
  rw [← hez]
  have hw : wrap64 (ez - 1) = (l : Int) := by unfold wrap64; omega
  have hln : l < n := by omega
  replace hlast := Lib.hid hlast
  replace hil := Lib.hid hil
  replace hP := Lib.hid hP
  replace hS := Lib.hid hS
  replace hez := Lib.hid hez
  go_enter Try.func29, Try.ntmps29
  go_wp2_with fail
  rw [hw]
  refine (hNew.out _).mono ?_; rintro en w1 ⟨C, p, q, rfl, ho, hx64, hb1⟩
  have hP1 := hP.out.below hb1
  have hrow : Row w1 C p ((poM is).getD l []) := by rw [hlast.out]; exact Row.of_own ho hx64
  obtain ⟨A1, m1, c1, hv1⟩ := hP1.any hln
  have hc1 := hP1.k.cell l
  rw [hv1] at hc1
  have hf1 := hP1.k.frozen l
  have hP2 := Lib.hid (hP1.put (c := q) (by rw [hil.out]; exact hln) hrow)
  have hb2 := Lib.hid (belowB_set (BelowB.of (g := G) hb1) l (.slice C p q))
  clear ho hx64 hrow hv1 hP1 hb1 hNew hw
  go_wp2_with fail
  go_loopw [7] (fun t wr => ∃ (i : Nat) (vs' : List Value), s ≤ i ∧ i ≤ l ∧ t = .int .i64 (i : Int) ∧ Hid (PartAt 61 wr G n i is vs') ∧ Hid (BelowB G w wr)) (fun t _ => (intOf t).toNat)
  case atStart => exact ⟨l, _, by omega, Nat.le_refl _, rfl, hP2, hb2⟩
  case round =>
    clear hP2 hb2 hc1 hf1
    obtain ⟨i, vs', hsi, hil', ht, hPi, hbi⟩ := hrel
    obtain ⟨iz, hiz⟩ : ∃ z : Int, z = (i : Int) := ⟨_, rfl⟩
    rw [← hiz] at ht
    subst ht
    by_cases hgt : s < i
    · have d1 : decide ((s : Int) < iz) = true := decide_eq_true (by omega)
      obtain ⟨k, hk⟩ : ∃ k, i = k + 1 := ⟨i - 1, by omega⟩
      subst hk
      have hw1 : wrap64 (iz - 1) = (k : Int) := by unfold wrap64; omega
      have hkn : k < n := by omega
      have hsk : s ≤ k := by omega
      have bi : 0 ≤ iz ∧ iz < (n : Int) := by omega
      have hst := Lib.hid (hstep.out k (by omega) (by omega))
      obtain ⟨A2, m2, c2, hv2, hr2⟩ := hPi.out.row (i := k + 1) (Nat.le_refl _) (by rw [hil.out]; omega)
      have hc2 := hPi.out.k.cell iz.toNat
      rw [show iz.toNat = k + 1 by omega, hv2, ← show iz.toNat = k + 1 by omega] at hc2
      have hm2 : m2 ≤ 64 := by
        have h1 := hr2.len
        have h2 := (hrw.out (k + 1) (by rw [hil.out]; omega)).1
        have h3 := words_le hn
        rw [hil.out] at h2
        omega
      have cS := Lib.hid (fun W hW => row_Set A2 m2 c2 ((poM is).getD (k + 1) []) iz W hW (by omega) (by omega) (by omega))
      have hset := Lib.hid (show setR ((poM is).getD (k + 1) []) iz = (poM is).getD k [] from by rw [hiz]; exact hst.out)
      replace hr2 := Lib.hid hr2
      replace hiz := Lib.hid hiz
      clear hst hv2 hgt
      go_wp2_with fail
      refine (cS.out wr hr2.out).mono ?_; rintro en w3 ⟨C3, p3, q3, rfl, hr3, hb3⟩
      rw [hset.out] at hr3
      have hP3 := hPi.out.below hb3
      obtain ⟨A4, m4, c4, hv4⟩ := hP3.any hkn
      have hc4 := hP3.k.cell k
      rw [hv4] at hc4
      have hf4 := hP3.k.frozen k
      have ek : iz.toNat - 1 = k := by have := hiz.out; omega
      have bp : 1 ≤ iz ∧ iz - 1 < (n : Int) := by have := hiz.out; omega
      have hP4 := Lib.hid (show PartAt 61 (w3.setCell ⟨G, iz.toNat - 1, none⟩ (.slice C3 p3 q3)) G n k is (vs'.set k (.slice C3 p3 q3)) from by rw [ek]; exact hP3.put (c := q3) (by rw [hil.out]; exact hkn) hr3)
      have hb4 := Lib.hid (show BelowB G w (w3.setCell ⟨G, iz.toNat - 1, none⟩ (.slice C3 p3 q3)) from belowB_set (hbi.out.trans (BelowB.of hb3)) _ (.slice C3 p3 q3))
      rw [← ek] at hc4 hf4
      clear hr3 hv4 hP3 hb3 cS hset hr2 hc2 hw1 ek
      go_wp2_with fail
      exact ⟨⟨k, _, by omega, by omega, by have := hiz.out; congr 1; omega, hP4, hb4⟩, by have := hiz.out; simp [intOf]; omega⟩
    · have d1 : decide ((s : Int) < iz) = false := decide_eq_false (by omega)
      have his : i = s := by omega
      subst his
      replace hiz := Lib.hid hiz
      clear hgt
      go_wp2_with fail
      go_end0
      exact ⟨rfl, ⟨_, hPi.out⟩, hbi.out⟩
theorem PartAt.start {t : TypeId} {w : World} {G : Nat} {is : List It} (h : Blk w G t (List.replicate is.length (.slice none 0 0))) : PartAt t w G is.length is.length is (List.replicate is.length (.slice none 0 0)) := by
  refine ⟨h, ⟨by rw [partM_len, List.length_replicate], fun i v xs h1 h2 => ?_⟩, List.length_replicate⟩
  rw [partM_none] at h2
  have e1 := (List.mem_replicate.1 (List.mem_of_getElem? h1)).2
  have e2 := (List.mem_replicate.1 (List.mem_of_getElem? h2)).2
  subst e1; subst e2
  exact ⟨none, 0, 0, rfl, Row.nil _ _⟩
set_option maxRecDepth 100000 in
set_option maxHeartbeats 2000000 in
theorem session_PoF (v : FV) (f : Fac) (w : World) (hF : FactsAt w v f) (hm : v.m ≤ 4096) (hN : Nbr f.items) :
    Calls Try.prog 11 #[.agg #[.slice v.A v.n v.c, .slice v.B v.m v.d, .slice v.C v.k v.e]] w (RetMat1F (v.m : Int) (poM f.items) w) := by
  have hil := hF.is.len
  have hmk := mk_rows .i64 .i64 v.m v.m (Nat.le_refl _) (by omega)
  -- a call with facts v: they are boxed at g, the world is W0 then
  have hB0 := Lib.hid (FBox.new hF)
  obtain ⟨g, hg⟩ : ∃ g, g = w.heap.size := ⟨_, rfl⟩
  obtain ⟨W0, hW0⟩ : ∃ W, W = w.alloc (.cells #[.slice v.A v.n v.c, .slice v.B v.m v.d, .slice v.C v.k v.e] 30) := ⟨_, rfl⟩
  rw [← hW0, ← hg] at hB0
  clear hF
  obtain ⟨gr, hgr⟩ : ∃ g, g = W0.heap.size := ⟨_, rfl⟩
  obtain ⟨W1, hW1⟩ : ∃ W, W = W0.alloc (.cells #[.int .i64 0, .slice none 0 0] 37) := ⟨_, rfl⟩
  have b1 : Below W0.heap.size W0 W1 := by rw [hW1]; exact (Below.refl _ _).alloc (Nat.le_refl _) _
  have kR : MatB W1 gr 37 0 none 0 0 := by rw [hW1, hgr]; exact MatB.new W0 _
  have hB1 := Lib.hid (hB0.out.later b1)
  have hgw : w.heap.size ≤ gr := by rw [hgr]; exact hB0.out.o.size
  obtain ⟨G, hG⟩ : ∃ g, g = W1.heap.size := ⟨_, rfl⟩
  obtain ⟨W2, hW2⟩ : ∃ W, W = W1.alloc (.cells (zeros v.m (.slice none 0 0)) 61) := ⟨_, rfl⟩
  have b2 : Below W1.heap.size W1 W2 := by rw [hW2]; exact (Below.refl _ _).alloc (Nat.le_refl _) _
  have hP0 := Lib.hid (show ∃ vs, PartAt 61 W2 G v.m v.m f.items vs from ⟨_, by
    rw [← hil]; refine PartAt.start ?_; rw [hW2, hG, hil]; exact Blk.new W1 _ _⟩)
  have hgG := Lib.hid (show gr < G from by rw [hG]; exact kR.lt)
  have hF1 := Lib.hid (fun o wr (h : Below W1.heap.size W1 wr) (ho : o < v.m) => session_first v.B v.m v.d f.items o wr (hB1.out.later h).f.is ho (by omega))
  have hfill := Lib.hid (fun s e vs wr (hP : PartAt 61 wr G v.m e f.items vs) (hS : Seg f.items s e) => session_fill G v.m v.m f.items s e vs wr hP hm hil hS)
  have hEnd := Lib.hid (show EndAt f.items v.m from by rw [← hil]; exact EndAt.all _)
  have b2h := Lib.hid b2
  replace hil := Lib.hid hil
  replace hN := Lib.hid hN
  have p0 := hB1.out.c0
  have p1 := hB1.out.c1
  have p2 := hB1.out.c2
  clear b1 b2
  replace kR := Lib.hid kR
  go_enter Try.func11, Try.ntmps11
  go_wp2_with (first | (rw [← hW0, ← hg]; clear hW0 hg) | (rw [← hW1, ← hgr]; clear hW1; replace hgr := Lib.hid hgr) | (rw [← hW2, ← hG]; clear hW2; replace hG := Lib.hid hG))
  go_loopw [5] (fun t wr => ∃ e : Nat, e ≤ v.m ∧ t = .int .i64 (e : Int) ∧ Hid (∃ vs, PartAt 61 wr G v.m e f.items vs) ∧ Hid (EndAt f.items e) ∧ Hid (Below W1.heap.size W1 wr)) (fun t _ => (intOf t).toNat)
  case atStart => exact ⟨v.m, Nat.le_refl _, rfl, hP0, hEnd, b2h⟩
  case round =>
    clear hP0 hEnd b2h p0 p1 p2
    obtain ⟨e, hem, ht, hP, hE, hb⟩ := hrel
    have hBr := Lib.hid (hB1.out.later hb.out)
    obtain ⟨ez, hez⟩ : ∃ z : Int, z = (e : Int) := ⟨_, rfl⟩
    rw [← hez] at ht
    subst ht
    by_cases he0 : 0 < e
    · have d1 : decide (0 < ez) = true := decide_eq_true (by omega)
      obtain ⟨l, hl⟩ : ∃ l, e = l + 1 := ⟨e - 1, by omega⟩
      subst hl
      have hw1 : wrap64 (ez - 1) = ez - 1 := by unfold wrap64; omega
      have cF := hF1.out l wr hb.out (by omega)
      rw [show (l : Int) = ez - 1 by omega] at cF
      replace cF := Lib.hid cF
      replace hez := Lib.hid hez
      have p0 := hBr.out.c0
      have p1 := hBr.out.c1
      have p2 := hBr.out.c2
      go_wp2_with fail
      refine cF.out.mono ?_; rintro en w3 ⟨s, rfl, hfi, b3⟩
      obtain ⟨vs, hPv⟩ := hP.out
      obtain ⟨hSeg, hEs⟩ := hfi.seg (e := l + 1) hN.out (by omega) (by rw [hil.out]; exact hem) hE.out
      have hsl := hSeg.lt
      have cL := hfill.out s (l + 1) vs w3 (hPv.below b3) hSeg
      rw [← hez.out] at cL
      replace cL := Lib.hid cL
      replace hEs := Lib.hid hEs
      have hb3 := Lib.hid (hb.out.trans (b3.mono hb.out.size))
      clear p0 p1 p2 cF hSeg hfi hPv b3
      go_wp2_with fail
      refine cL.out.mono ?_; rintro en w4 ⟨rfl, hP4, b4⟩
      replace hP4 := Lib.hid hP4
      have hb4 := Lib.hid (hb3.out.trans (b4.below hb3.out.size (by rw [hG.out]; exact Nat.le_refl _)))
      clear b4 cL
      go_wp2_with fail
      exact ⟨⟨s, by omega, rfl, hP4, hEs, hb4⟩, by have := hez.out; simp [intOf]; omega⟩
    · have d1 : decide (0 < ez) = false := decide_eq_false (by omega)
      have h0 : e = 0 := by omega
      subst h0
      replace hez := Lib.hid hez
      obtain ⟨vs, hPv⟩ := hP.out
      have hrows : RowsAt wr (some ⟨G, 0, none⟩) v.m (poM f.items) := ⟨vs, by have := hPv.k.rd; rwa [hPv.l] at this, by rw [← partM_all]; exact hPv.r⟩
      have kR3 := kR.out.below_ (show Below W1.heap.size W1 wr from hb.out)
      have f0 := kR3.c0
      have f1 := kR3.c1
      have g0 := kR3.frozen 0
      have g1 := kR3.frozen 1
      have hcc := kR3.two (.int .i64 (v.m : Int)) (.slice (some ⟨G, 0, none⟩) v.m v.m)
      have hc1 := Lib.hid hcc.1
      have hc2 := Lib.hid hcc.2
      have hrf := Lib.hid (hrows.putB kR3 (fun _ ad e => by injection e with e; subst e; have := hgG.out; show G ≠ gr; omega) (.int .i64 (v.m : Int)) (.slice (some ⟨G, 0, none⟩) v.m v.m))
      have hbf := Lib.hid (((below_trans2 hB1.out.o hb.out).setCell (p := ⟨gr, 0, none⟩) hgw (.int .i64 (v.m : Int))).setCell (p := ⟨gr, 1, none⟩) hgw (.slice (some ⟨G, 0, none⟩) v.m v.m))
      clear hcc hrows kR3 hPv hP
      go_wp2_with fail
      exact bodyPost_ret (v := .agg #[.int .i64 (v.m : Int), .slice (some ⟨G, 0, none⟩) v.m v.m]) (by simp [results, Try.results11, go_sem, hc1.out, hc2.out]) rfl ⟨some ⟨G, 0, none⟩, v.m, v.m, rfl, hrf.out, Nat.le_refl _, hbf.out, fun ad e => by injection e with e; subst e; have := hgG.out; show w.heap.size ≤ G; omega⟩
theorem session_Po (v : FV) (f : Fac) (w : World) (hF : FactsAt w v f) (hm : v.m ≤ 4096) (hN : Nbr f.items) :
    Calls Try.prog 11 #[.agg #[.slice v.A v.n v.c, .slice v.B v.m v.d, .slice v.C v.k v.e]] w (RetMat1 (v.m : Int) (poM f.items) w) :=
  (session_PoF v f w hF hm hN).mono fun _ _ ⟨A, n, c, he, hr, hc, hb, _⟩ => ⟨A, n, c, he, hr, hc, hb⟩
end Go.Proofs.Ytjmkpoignnbcpaa

namespace Go.Proofs.Ytjmkpoignnbcpaa
open Go.RowKit
set_option linter.unusedVariables false
def ex12A : List OpT := [(false, ⟨#[120]⟩, 0), (false, ⟨#[120]⟩, 0)]
def ex12B : List OpT := [(false, ⟨#[120]⟩, 0)]
theorem ok12A : OkO ex12A := fun o ho => by
  simp only [ex12A, List.mem_cons, List.not_mem_nil, or_false] at ho
  rcases ho with rfl | rfl <;> exact ⟨⟨by decide, by decide⟩, by decide⟩
theorem ok12B : OkO ex12B := fun o ho => by
  simp only [ex12B, List.mem_cons, List.not_mem_nil, or_false] at ho
  subst ho; exact ⟨⟨by decide, by decide⟩, by decide⟩
def fx12 : Fac := ⟨[⟨#[120]⟩], [⟨0, 0, false, 0, 0⟩, ⟨0, 1, false, 0, 0⟩, ⟨1, 0, false, 0, 0⟩], []⟩
theorem ex12_facts : rightL [ex12A, ex12B] = true ∧ facO [ex12A, ex12B] = fx12 := by decide
theorem nbr12 : Nbr fx12.items := by rw [← ex12_facts.2]; exact nbr_hist [ex12A, ex12B]
theorem ex12_mat : poM fx12.items = [[2], [0], [0]] := by decide
theorem ex12_past : pastF fx12.items 1 3 = [0, 1] := by decide
set_option maxRecDepth 100000 in
set_option maxHeartbeats 2000000 in
theorem law12_awake (w : World) : Calls Try.prog 8 #[] w (RetBool true w) := by
  obtain ⟨Z1, hZ1⟩ : ∃ W, W = w.alloc (.cells #[.bool false, .string ⟨#[120]⟩, .int .i64 0, .bool false, .string ⟨#[120]⟩, .int .i64 0] 56) := ⟨_, rfl⟩
  obtain ⟨a1, ha1⟩ : ∃ g, g = w.heap.size := ⟨_, rfl⟩
  obtain ⟨Z2, hZ2⟩ : ∃ W, W = Z1.alloc (.cells #[.bool false, .string ⟨#[120]⟩, .int .i64 0] 56) := ⟨_, rfl⟩
  obtain ⟨a2, ha2⟩ : ∃ g, g = Z1.heap.size := ⟨_, rfl⟩
  obtain ⟨Z3, hZ3⟩ : ∃ W, W = Z2.alloc (.cells #[.slice (some ⟨a1, 0, none⟩) 2 2, .slice (some ⟨a2, 0, none⟩) 1 1] 46) := ⟨_, rfl⟩
  obtain ⟨a3, ha3⟩ : ∃ g, g = Z2.heap.size := ⟨_, rfl⟩
  have b1 : Below w.heap.size w Z1 := by rw [hZ1]; exact (Below.refl _ w).alloc (Nat.le_refl _) _
  have b2 : Below Z1.heap.size Z1 Z2 := by rw [hZ2]; exact (Below.refl _ _).alloc (Nat.le_refl _) _
  have b3 : Below Z2.heap.size Z2 Z3 := by rw [hZ3]; exact (Below.refl _ _).alloc (Nat.le_refl _) _
  have hH : HistAt Z3 (some ⟨a3, 0, none⟩) 2 [ex12A, ex12B] := by
    have h1 : Blk Z1 a1 56 (cellsO ex12A) := by rw [hZ1, ha1]; exact Blk.new w _ _
    have h2 : Blk Z2 a2 56 (cellsO ex12B) := by rw [hZ2, ha2]; exact Blk.new Z1 _ _
    have h3 : Blk Z3 a3 46 [.slice (some ⟨a1, 0, none⟩) 2 2, .slice (some ⟨a2, 0, none⟩) 1 1] := by rw [hZ3, ha3]; exact Blk.new Z2 _ _
    have h1' := (h1.below b2 h1.lt).below b3 (h1.below b2 h1.lt).lt
    exact HistAt.two h3 (OpsAt.of_blk h1' ok12A rfl) (OpsAt.of_blk (h2.below b3 h2.lt) ok12B rfl) (by omega) (by omega) (by omega) (by omega)
  have c1 := ref9_Of _ 2 2 [ex12A, ex12B] Z3 hH (by omega) (by decide)
  rw [ex12_facts.1, if_pos rfl, if_pos rfl, ex12_facts.2] at c1
  replace c1 := Lib.hid c1
  have bW := Lib.hid (below_trans2 (below_trans2 b1 b2) b3)
  clear hH b1 b2 b3
  go_enter Try.func8, Try.ntmps8
  go_wp2_with (first | (rw [← hZ1, ← ha1]; clear hZ1; replace ha1 := Lib.hid ha1) | (rw [← hZ2, ← ha2]; clear hZ2; replace ha2 := Lib.hid ha2) | (rw [← hZ3, ← ha3]; clear hZ3; replace ha3 := Lib.hid ha3))
  refine c1.out.mono ?_; rintro e w3 ⟨x, rfl, hG, b3⟩
  have hB := Lib.hid ((FBox.new hG).from_ (below_trans2 bW.out b3))
  have hxm : x.m = 3 := by rw [← hG.is.len]; rfl
  obtain ⟨V, hV⟩ : ∃ W, W = w3.alloc (.cells #[.slice x.A x.n x.c, .slice x.B x.m x.d, .slice x.C x.k x.e] 30) := ⟨_, rfl⟩
  obtain ⟨g, hg⟩ : ∃ g, g = w3.heap.size := ⟨_, rfl⟩
  rw [← hV, ← hg] at hB
  replace hxm := Lib.hid hxm
  clear b3 c1 hG bW
  have p0 := hB.out.c0
  have p1 := hB.out.c1
  have p2 := hB.out.c2
  have cP := session_Po x fx12 V hB.out.f (by rw [hxm.out]; decide) nbr12
  rw [ex12_mat, show ((x.m : Nat) : Int) = 3 from by rw [hxm.out]; rfl] at cP
  replace cP := Lib.hid cP
  go_wp2_with (rw [← hV, ← hg]; clear hV; replace hg := Lib.hid hg)
  refine cP.out.mono ?_; rintro e w4 ⟨A, n, c, rfl, hR, hnc, b4⟩
  have hn3 : n = 3 := by rw [← hR.len]; rfl
  subst hn3
  replace hB := Lib.hid (hB.out.later b4)
  obtain ⟨M, hM⟩ : ∃ G, G = w4.heap.size := ⟨_, rfl⟩
  obtain ⟨W, hW⟩ : ∃ W, W = w4.alloc (.cells #[.int .i64 3, .slice A 3 c] 37) := ⟨_, rfl⟩
  have bM : Below w4.heap.size w4 W := by rw [hW]; exact (Below.refl _ _).alloc (Nat.le_refl _) _
  have kM := Lib.hid (show MatB W M 37 3 A 3 c from by rw [hW, hM]; exact MatB.new w4 _)
  replace hR := Lib.hid (hR.below bM)
  replace hB := Lib.hid (hB.out.later bM)
  have hlen : ∀ (k : Nat) (xs : List Nat), ([[2], [0], [0]] : List (List Nat))[k]? = some xs → xs.length ≤ 1024 := fun k xs hx => by
    have := List.mem_of_getElem? hx
    simp only [List.mem_cons, List.not_mem_nil, or_false] at this
    rcases this with rfl | rfl | rfl <;> decide
  have cH1 := fun W' hW' => ref3_Has A 3 c [[2], [0], [0]] 0 1 W' hW' (by decide) hlen
  have cH2 := fun W' hW' => ref3_Has A 3 c [[2], [0], [0]] 1 2 W' hW' (by decide) hlen
  rw [show (inM ((3 : Nat) : Int) 0 1 && hasM [[2], [0], [0]] 0 1) = true from by decide] at cH1
  rw [show (inM ((3 : Nat) : Int) 1 2 && hasM [[2], [0], [0]] 1 2) = false from by decide] at cH2
  replace cH1 := Lib.hid cH1
  replace cH2 := Lib.hid cH2
  have m0 := kM.out.c0
  have m1 := kM.out.c1
  clear hlen b4 bM p0 p1 p2 cP
  go_wp2_with (rw [← hW, ← hM]; clear hW; replace hM := Lib.hid hM)
  refine (cH1.out W hR.out).mono ?_; rintro e w5 ⟨rfl, b⟩
  replace hR := Lib.hid (hR.out.below b)
  replace hB := Lib.hid (hB.out.later b)
  replace kM := Lib.hid (kM.out.below_ b)
  clear m0 m1 b
  have m0 := kM.out.c0
  have m1 := kM.out.c1
  go_wp2_with fail
  refine (cH2.out w5 hR.out).mono ?_; rintro e w6 ⟨rfl, b⟩
  replace hB := Lib.hid (hB.out.later b)
  clear m0 m1 b
  have p0 := hB.out.c0
  have p1 := hB.out.c1
  have p2 := hB.out.c2
  have cA := session_Ahead x fx12 0 1 w6 hB.out.f
  rw [show aheadF fx12.items 0 1 = true from by decide] at cA
  replace cA := Lib.hid cA
  go_wp2_with fail
  refine cA.out.mono ?_; rintro e w7 ⟨rfl, b⟩
  replace hB := Lib.hid (hB.out.later b)
  clear p0 p1 p2 b cA
  have p0 := hB.out.c0
  have p1 := hB.out.c1
  have p2 := hB.out.c2
  have cQ := session_Past x fx12 1 w7 hB.out.f (by rw [hxm.out]; decide) nbr12
  rw [show fx12.items.length = 3 from rfl, ex12_past] at cQ
  replace cQ := Lib.hid cQ
  go_wp2_with fail
  refine cQ.out.mono ?_; rintro e w8 ⟨D, n, d, rfl, hL, hnd, hdm, b⟩
  replace hB := Lib.hid (hB.out.later b)
  clear p0 p1 p2 b cQ
  -- a literal of numbers [0,1] (cells .int .i64 0, .int .i64 1) in the world w8: the world L2, the slice at gm
  obtain ⟨L2, hL2⟩ : ∃ W, W = World.alloc w8 (.cells #[.int .i64 0, .int .i64 1] 3) := ⟨_, rfl⟩
  obtain ⟨gm, hgm⟩ : ∃ g, g = (World.heap w8).size := ⟨_, rfl⟩
  have bL2 : Below (World.heap w8).size w8 L2 := by rw [hL2]; exact (Below.refl _ _).alloc (Nat.le_refl _) _
  have lL2 := Lib.hid (show LAt encI L2 (some ⟨gm, 0, none⟩) 2 [0,1] from by rw [hL2, hgm]; exact LAt.of_blk (t := 3) (Blk.new w8 _ (encI.all [0,1])) (fun x hx => by simp only [List.mem_cons, List.not_mem_nil, or_false] at hx; rcases hx with rfl | rfl <;> exact ⟨by decide, by decide⟩) rfl)
  replace hB := Lib.hid (hB.out.later bL2)
  have cI := ref2_IntsL D (some ⟨gm, 0, none⟩) n d 2 2 [0, 1] [0, 1] L2 (hL.below bL2) lL2.out (by omega) (by omega)
  rw [decide_eq_true rfl] at cI
  replace cI := Lib.hid cI
  replace hL := Lib.hid hL
  go_wp2_with (rw [← hL2, ← hgm]; clear hL2; replace hgm := Lib.hid hgm)
  refine cI.out.mono ?_; rintro e w9 ⟨rfl, q, rfl⟩
  go_wp2_with fail
  go_ret
  exact ⟨rfl, (hB.out.drewN q).o⟩
set_option maxRecDepth 100000 in
set_option maxHeartbeats 2000000 in
theorem law12_SessionTells (A : Option Addr) (n c : Nat) (i j : Int) (hs : List (List OpT)) (w : World) (hX : HistAt w A n hs) (hnc : n ≤ c) (hc : c ≤ 1099511627776) (hF : (allO hs).length ≤ 1099511627776) :
    Calls Try.prog 3 #[.slice A n c, .int .i64 i, .int .i64 j] w (RetBool true w) := by
  -- a law of one history hs (at A n c) that guards itself by Small 40 and Right: walked to the call of Of in the world w2; hX : HistAt w2 .., b12 : Below w.heap.size w w2, hri' : rightL hs = true
  have hXl := Lib.hid hX.len
  have cS := Lib.hid (ref6_Small A n c 40 hs w hX (by omega) (by omega))
  replace hX := Lib.hid hX
  cases hsa : smallL hs 40 with
  | false =>
    rw [hsa] at cS
    clear hsa
    go_enter Try.func3, Try.ntmps3
    go_wp2_with fail
    refine cS.out.mono ?_; rintro e w1 ⟨rfl, b1⟩
    go_wp2_with fail
    refine (law12_awake w1).mono ?_; rintro e w9 ⟨rfl, b9⟩
    go_wp2_with fail
    go_ret
    exact ⟨rfl, below_trans2 b1 b9⟩
  | true =>
    rw [hsa] at cS
    obtain ⟨hnx, hFx, hnm8⟩ := smallL_says hsa
    rw [hXl.out] at hnx
    replace hnm8 := Lib.hid hnm8
    clear hsa
    go_enter Try.func3, Try.ntmps3
    go_wp2_with fail
    refine cS.out.mono ?_; rintro e w1 ⟨rfl, b1⟩
    replace hX := Lib.hid (hX.out.below b1)
    have cR := Lib.hid (ref6_Right A n c hs w1 hX.out (by omega) (by omega))
    cases hri : rightL hs with
    | false =>
      rw [hri] at cR
      clear hri
      go_wp2_with fail
      refine cR.out.mono ?_; rintro e w2 ⟨rfl, b2⟩
      go_wp2_with fail
      refine (law12_awake w2).mono ?_; rintro e w9 ⟨rfl, b9⟩
      go_wp2_with fail
      go_ret
      exact ⟨rfl, below_trans2 (below_trans2 b1 b2) b9⟩
    | true =>
      rw [hri] at cR
      have hri' := Lib.hid hri
      clear hri
      go_wp2_with fail
      refine cR.out.mono ?_; rintro e w2 ⟨rfl, b2⟩
      replace hX := Lib.hid (hX.out.below b2)
      have b12 := Lib.hid (below_trans2 b1 b2)
      clear b1 b2 cS cR
      -- behind HEAD9: the document's facts f of the history, in a variable g, in the world V; hB : FBox w g x f V; hX carried over
      obtain ⟨f, hf⟩ : ∃ f : Fac, f = facO hs := ⟨_, rfl⟩
      have c1 := ref9_Of A n c hs w2 hX.out (by omega) hF
      rw [hri'.out, if_pos rfl, if_pos rfl, ← hf] at c1
      replace c1 := Lib.hid c1
      replace hf := Lib.hid hf
      go_wp2_with fail
      refine c1.out.mono ?_; rintro e w3 ⟨x, rfl, hG, b3⟩
      replace hX := Lib.hid (hX.out.below b3)
      have hB := Lib.hid ((FBox.new hG).from_ (below_trans2 b12.out b3))
      obtain ⟨V, hV⟩ : ∃ W, W = w3.alloc (.cells #[.slice x.A x.n x.c, .slice x.B x.m x.d, .slice x.C x.k x.e] 30) := ⟨_, rfl⟩
      obtain ⟨g, hg⟩ : ∃ g, g = w3.heap.size := ⟨_, rfl⟩
      replace hX := Lib.hid (show HistAt V A n hs from by rw [hV]; exact hX.out.below ((Below.refl _ _).alloc (Nat.le_refl _) _))
      rw [← hV, ← hg] at hB
      clear b3 c1 hG b12
      have him : x.m ≤ 40 := by rw [← hB.out.f.is.len, hf.out]; show (hisF hs).2.length ≤ 40; rw [hisF_len]; omega
      clear hX
      go_wp2_with (rw [← hV, ← hg]; clear hV; replace hg := Lib.hid hg)
      refine wp_region_plan 29 [(false, 0), (true, 1), (true, 2), (true, 4), (false, 3), (false, 5), (false, 6), (true, 7), (true, 8), (true, 9), (true, 10), (true, 11), (true, 13), (true, 14), (true, 15), (false, 12), (false, 16), (true, 17), (true, 18), (true, 19), (true, 20), (true, 21), (true, 23), (true, 24), (false, 22), (false, 25), (false, 26), (true, 27), (true, 28)] (by kernel_rfl) (by kernel_rfl) (fun U hU => ?_)
      replace hB := Lib.hid (show FBox w g x f U from by rw [hU.out]; exact hB.out.later (Below.refl _ _).drew)
      clear hU
      obtain ⟨pm, hpm⟩ : ∃ pm, pm = poM f.items := ⟨_, rfl⟩
      have hpd : Hid (pm.length = x.m ∧ ∀ (k : Nat) (xs : List Nat), pm[k]? = some xs → xs.length ≤ 1073741824) := Lib.hid (by
        have h1 := hB.out.f.is.len
        refine ⟨by rw [hpm]; unfold poM; rw [h1]; exact (DimM.fold x.m _).1, fun k xs hx => ?_⟩
        have := poM_len (n := f.items.length) (by omega) (uptoPo f.items f.items.length f.items.length) xs (by rw [hpm] at hx; exact List.mem_of_getElem? hx)
        omega)
      have hNb := Lib.hid (show Nbr f.items from by rw [hf.out]; exact nbr_hist hs)
      have cP := fun W hW => session_Po x f W hW (by omega) hNb.out
      have cP2 := fun W hW => ref12_Po x f W hW (by omega)
      rw [← hpm] at cP cP2
      obtain ⟨oa, hoa⟩ : ∃ b, b = aheadF f.items i j := ⟨_, rfl⟩
      have cA := fun W hW => session_Ahead x f i j W hW
      have cA2 := fun W hW => ref12_Ahead x f i j W hW
      rw [← hoa] at cA cA2
      obtain ⟨pl, hpl⟩ : ∃ l, l = pastF f.items i f.items.length := ⟨_, rfl⟩
      have cQ := fun W hW => session_Past x f i W hW (by omega) hNb.out
      have cQ2 := fun W hW => ref12_Past x f i W hW (by omega)
      rw [← hpl] at cQ cQ2
      replace hpm := Lib.hid hpm
      replace hoa := Lib.hid hoa
      replace hpl := Lib.hid hpl
      replace cP := Lib.hid cP
      replace cP2 := Lib.hid cP2
      replace cA := Lib.hid cA
      replace cA2 := Lib.hid cA2
      replace cQ := Lib.hid cQ
      replace cQ2 := Lib.hid cQ2
      simp only [List.drop_succ_cons, List.drop_nil]
      refine wpPlan_only rfl (by rfl) (fun K hK => ?_)
      go_simp
      refine (law12_awake U).mono ?_
      rintro e x1 ⟨rfl, b⟩
      refine hK _ _ b ?_
      clear hK K
      replace hB := Lib.hid (hB.out.later b)
      clear b
      have p0 := hB.out.c0
      have p1 := hB.out.c1
      have p2 := hB.out.c2
      iterate 3
        refine wpPlan_float (v := ?_) rfl (by rfl) (fun w' hw' => ?_) (fun K hK => ?_)
        rotate_left
        · (go_simp; try with_reducible rfl)
        go_simp
        refine hK _ ?_
        clear hK K
      clear p0 p1 p2
      refine wpPlan_only rfl (by rfl) (fun K hK => ?_)
      go_simp
      refine (cP.out x1 hB.out.f).mono ?_
      rintro e x2 ⟨A1, n1, c1, rfl, hR1, hn1, b⟩
      refine hK _ _ b ?_
      clear hK K
      replace hB := Lib.hid (hB.out.later b)
      clear b
      refine wpPlan_only rfl (by rfl) (fun K hK => ?_)
      go_simp
      refine (cP2.out x2 hB.out.f).mono ?_
      rintro e x3 ⟨A2, n2, c2, rfl, hR2, hn2, b, -⟩
      refine hK _ _ b ?_
      clear hK K
      replace hB := Lib.hid (hB.out.later b)
      have hl1 := hR1.len
      have hl2 := hR2.len
      have cE := ref3_Equal (x.m : Int) (x.m : Int) A1 A2 n1 n2 c1 c2 pm pm x3 (hR1.below b) hR2 (by have := hpd.out.1; omega) (by have := hpd.out.1; omega) hpd.out.2 hpd.out.2
      rw [show equalM (x.m : Int) (x.m : Int) pm pm = true from by simp [equalM, sameM]] at cE
      replace cE := Lib.hid cE
      clear b hR1 hR2 hl1 hl2
      refine wpPlan_only rfl (by rfl) (fun K hK => ?_)
      go_simp
      refine cE.out.mono ?_
      rintro e x4 ⟨rfl, b⟩
      refine hK _ _ b ?_
      clear hK K
      replace hB := Lib.hid (hB.out.later b)
      clear b cE
      have p0 := hB.out.c0
      have p1 := hB.out.c1
      have p2 := hB.out.c2
      iterate 8
        refine wpPlan_float (v := ?_) rfl (by rfl) (fun w' hw' => ?_) (fun K hK => ?_)
        rotate_left
        · (go_simp; try with_reducible rfl)
        go_simp
        refine hK _ ?_
        clear hK K
      clear p0 p1 p2
      refine wpPlan_only rfl (by rfl) (fun K hK => ?_)
      go_simp
      refine (cA.out x4 hB.out.f).mono ?_
      rintro e x5 ⟨rfl, b⟩
      refine hK _ _ b ?_
      clear hK K
      replace hB := Lib.hid (hB.out.later b)
      clear b
      refine wpPlan_only rfl (by rfl) (fun K hK => ?_)
      go_simp
      refine (cA2.out x5 hB.out.f).mono ?_
      rintro e x6 ⟨rfl, b⟩
      refine hK _ _ b ?_
      clear hK K
      replace hB := Lib.hid (hB.out.later b)
      clear b
      refine wpPlan_float (v := .bool true) rfl (by rfl) (fun w' hw' => ?_) (fun K hK => ?_)
      · go_simp
      go_simp
      refine hK _ ?_
      clear hK K
      have p0 := hB.out.c0
      have p1 := hB.out.c1
      have p2 := hB.out.c2
      iterate 6
        refine wpPlan_float (v := ?_) rfl (by rfl) (fun w' hw' => ?_) (fun K hK => ?_)
        rotate_left
        · (go_simp; try with_reducible rfl)
        go_simp
        refine hK _ ?_
        clear hK K
      clear p0 p1 p2
      refine wpPlan_only rfl (by rfl) (fun K hK => ?_)
      go_simp
      refine (cQ.out x6 hB.out.f).mono ?_
      rintro e x7 ⟨A3, n3, c3, rfl, hL3, hn3, hm3, b⟩
      refine hK _ _ b ?_
      clear hK K
      replace hB := Lib.hid (hB.out.later b)
      clear b
      refine wpPlan_only rfl (by rfl) (fun K hK => ?_)
      go_simp
      refine (cQ2.out x7 hB.out.f).mono ?_
      rintro e x8 ⟨A4, n4, c4, rfl, hL4, hn4, hm4, b⟩
      refine hK _ _ b ?_
      clear hK K
      replace hB := Lib.hid (hB.out.later b)
      have cI := ref2_IntsL A3 A4 n3 c3 n4 c4 pl pl x8 (hL3.below b) hL4 (by omega) (by omega)
      rw [decide_eq_true rfl] at cI
      replace cI := Lib.hid cI
      clear b hL3 hL4
      refine wpPlan_only rfl (by rfl) (fun K hK => ?_)
      go_simp
      refine cI.out.mono ?_
      rintro e x9 ⟨rfl, q, rfl⟩
      refine hK _ _ (below_drewN (Below.refl _ _) q) ?_
      clear hK K
      iterate 2
        refine wpPlan_float (v := ?_) rfl (by rfl) (fun w' hw' => ?_) (fun K hK => ?_)
        rotate_left
        · (go_simp; try with_reducible rfl)
        go_simp
        refine hK _ ?_
        clear hK K
      refine wpPlan_nil (NoPanic.normal ?_)
      go_wp2_with fail
      go_ret
      exact ⟨rfl, (hB.out.drewN q).o⟩
end Go.Proofs.Ytjmkpoignnbcpaa

namespace Go.Proofs.Ytjmkpoignnbcpaa
open Go.RowKit Go.ChangeShapes Go.WideShapes Go.Deep
set_option linter.unusedVariables false

theorem bulk_append {H : Type} (l r : List (DataW H)) : Rows.uptoBulkAll (l ++ r) = Rows.uptoBulkAll l + Rows.uptoBulkAll r := by
  induction l with
  | nil => simp [Rows.uptoBulkAll]
  | cons x l ih => rw [List.cons_append, Rows.uptoBulkAll, Rows.uptoBulkAll, ih]; omega
theorem bulk_pos {H : Type} (d : DataW H) : 1 ≤ Rows.uptoBulk d := by
  cases d with
  | lit l => cases l <;> simp [Rows.uptoBulk]
  | nil => simp [Rows.uptoBulk]
  | ptr d => simp [Rows.uptoBulk]
  | slice elems spare => simp [Rows.uptoBulk]
  | agg parts => simp [Rows.uptoBulk]
  | iface t d => simp [Rows.uptoBulk]
  | map entries => simp [Rows.uptoBulk]
  | held h => simp [Rows.uptoBulk]
theorem bulk_len {H : Type} (l : List (DataW H)) : l.length ≤ Rows.uptoBulkAll l := by
  induction l with
  | nil => simp
  | cons x r ih => have := bulk_pos x; rw [Rows.uptoBulkAll, List.length_cons]; omega
theorem bulk_slice {H : Type} (a b : List (DataW H)) : Rows.uptoBulk (.slice a b) = Rows.uptoBulkAll a + Rows.uptoBulkAll b + 1 := by rw [Rows.uptoBulk]
theorem bulk_agg {H : Type} (a : List (DataW H)) : Rows.uptoBulk (.agg a) = Rows.uptoBulkAll a + 1 := by rw [Rows.uptoBulk]
theorem addr_plus (b off j : Nat) : (⟨b, off, none⟩ : Addr).add j = ⟨b, off + j, none⟩ := by unfold Addr.add; split <;> simp_all

section
variable {H : Type} {enc : TypeId × Value → H} {P : Program} {w : World} {base : Nat} {held : Bool}
theorem open_ops {t e : TypeId} {f0 f1 f2 : Field} {fuel : Nat} {A : Option Addr} {len cap : Nat} {x : DataW H × List MemPlace} (ht : P.underlying t = some (.slice e)) (he : P.underlying e = some (.struct #[f0, f1, f2])) (ce : P.cellsOf e = 3)
    (o0 : f0.offset = 0) (o1 : f1.offset = 1) (o2 : f2.offset = 2) (k0 : P.cellsOf f0.type = 1) (k1 : P.cellsOf f1.type = 1) (k2 : P.cellsOf f2.type = 1)
    (u0 : P.underlying f0.type = some .bool) (u1 : P.underlying f1.type = some .string) (u2 : P.underlying f2.type = some (.int .i64))
    (h : DataW.trod enc P w base (fun _ => true) held fuel t [.slice A len cap] = some x) : ∃ os, OpsAt w A len os ∧ len ≤ cap ∧ cap ≤ 9223372036854775807 ∧ cap ≤ Rows.uptoBulk x.1 := by
  rcases open_slice ht h with ⟨hcs, hx⟩ | ⟨⟨b, off, spot⟩, l, c, m, n, D, Pl, hcs, hb, hl, hm, hmm, hx, hel⟩
  · injection hcs with hcs
    injection hcs with h1 h2 h3
    subst h1 h2 h3
    exact ⟨[], OpsAt.nil _ _, by omega, by omega, by omega⟩
  · injection hcs with hcs
    injection hcs with h1 h2 h3
    subst h1 h2 h3
    rw [if_pos rfl] at hmm
    subst hmm
    have hbulk : m ≤ Rows.uptoBulk x.1 := by
      rw [hx, bulk_slice]
      have := bulk_len ((List.range len).map D)
      have := bulk_len ((List.range (m - len)).map fun j => D (len + j))
      simp only [List.length_map, List.length_range] at *
      omega
    have hmm : m ≤ 9223372036854775807 := by unfold maxLen at hm; omega
    have hat : ∀ k, k < len → ∃ o : OpT, ((-9223372036854775808 ≤ o.2.2 ∧ o.2.2 < 9223372036854775808) ∧ o.2.1.size ≤ 9223372036854775807) ∧
        w.cell? ((⟨b, off, spot⟩ : Addr).add (k * 3)) = some (.bool o.1) ∧ w.cell? (((⟨b, off, spot⟩ : Addr).add (k * 3)).add 1) = some (.string o.2.1) ∧ w.cell? (((⟨b, off, spot⟩ : Addr).add (k * 3)).add 2) = some (.int .i64 o.2.2) := by
      intro k hk
      obtain ⟨cs', hc, ht'⟩ := hel k (by omega)
      rw [ce] at hc
      obtain ⟨_, hcl, hcat⟩ := World.cells?_some hc
      obtain ⟨xs, m', _, _, _, hxl, hf⟩ := DataW.trod_struct he ht'
      match cs', hcl with
      | [p, q, r], _ =>
        match xs, hxl with
        | [y0, y1, y2], _ =>
          have f0' := hf 0 f0 rfl
          have f1' := hf 1 f1 rfl
          have f2' := hf 2 f2 rfl
          rw [o0, k0] at f0'
          rw [o1, k1] at f1'
          rw [o2, k2] at f2'
          simp at f0' f1' f2'
          obtain ⟨bv, e0, _⟩ := DataW.trod_bool u0 f0'
          obtain ⟨sv, e1, _, ws⟩ := DataW.trod_string u1 f1'
          obtain ⟨iv, e2, _, wi⟩ := DataW.trod_int u2 f2'
          injection e0 with e0
          injection e1 with e1
          injection e2 with e2
          subst e0; subst e1; subst e2
          have c0 := hcat 0 (by omega)
          have c1 := hcat 1 (by omega)
          have c2 := hcat 2 (by omega)
          have hz : ∀ a : Addr, a.add 0 = a := fun a => by obtain ⟨b, o, s⟩ := a; unfold Addr.add; split <;> simp_all
          rw [hz] at c0
          have hb := bounds_i64 wi
          exact ⟨(bv, sv, iv), ⟨⟨hb.1, by have := hb.2; show iv < _; omega⟩, by unfold maxLen at ws; exact ws⟩, by simpa using c0, by simpa using c1, by simpa using c2⟩
    by_cases h0 : len = 0
    · subst h0
      exact ⟨[], OpsAt.nil _ _, by omega, hmm, hbulk⟩
    · obtain ⟨_, _, hc0, _, _⟩ := hat 0 (by omega)
      have hspot : spot = none := by
        have h := World.cell?_spot hc0
        cases spot with
        | none => rfl
        | some s => unfold Addr.add at h; simp at h
      subst hspot
      have hblt : b < w.heap.size := by
        have := World.block_lt_of_cell? w _ hc0
        rwa [addr_plus] at this
      have hall : ∀ k, k ≤ len → ∃ os : List OpT, os.length = k ∧ OkO os ∧ ∀ (j : Nat) (u : Value), (cellsO os)[j]? = some u → w.cell? ⟨b, off + j, none⟩ = some u := by
        intro k
        induction k with
        | zero => exact fun _ => ⟨[], rfl, fun o h => by simp at h, fun j u h => by simp [cellsO] at h⟩
        | succ k ih =>
          intro hk
          obtain ⟨os, p1, p2, p3⟩ := ih (by omega)
          obtain ⟨o, hok, c0, c1, c2⟩ := hat k (by omega)
          rw [addr_plus] at c0 c1 c2
          rw [addr_plus] at c1 c2
          refine ⟨os ++ [o], by simp [p1], okO_append p2 (fun o' h => by rw [List.mem_singleton.1 h]; exact hok), fun j u hj => ?_⟩
          rw [cellsO_append] at hj
          rcases Nat.lt_or_ge j (cellsO os).length with hlt | hge
          · rw [List.getElem?_append_left hlt] at hj; exact p3 j u hj
          · rw [List.getElem?_append_right hge] at hj
            have hlk : (cellsO os).length = k * 3 := by rw [cellsO_len, p1]
            obtain ⟨r, rfl⟩ : ∃ r, j = k * 3 + r := ⟨j - k * 3, by omega⟩
            rw [hlk, Nat.add_sub_cancel_left] at hj
            match r, hj with
            | 0, hj =>
              have : u = .bool o.1 := by simpa [cellsO] using hj.symm
              rw [this]; exact c0
            | 1, hj =>
              have : u = .string o.2.1 := by simpa [cellsO] using hj.symm
              rw [this, ← Nat.add_assoc]; exact c1
            | 2, hj =>
              have : u = .int .i64 o.2.2 := by simpa [cellsO] using hj.symm
              rw [this, ← Nat.add_assoc]; exact c2
            | r + 3, hj => simp [cellsO] at hj
      obtain ⟨os, p1, p2, p3⟩ := hall len (Nat.le_refl _)
      exact ⟨os, ⟨p1, p2, fun _ => ⟨b, off, rfl, hblt, p3⟩⟩, hl, hmm, hbulk⟩
theorem open_hist {th t e : TypeId} {f0 f1 f2 : Field} {fuel : Nat} {v : Value} {x : DataW H × List MemPlace} (hth : P.underlying th = some (.slice t)) (ct : P.cellsOf t = 1) (ht : P.underlying t = some (.slice e)) (he : P.underlying e = some (.struct #[f0, f1, f2])) (ce : P.cellsOf e = 3)
    (o0 : f0.offset = 0) (o1 : f1.offset = 1) (o2 : f2.offset = 2) (k0 : P.cellsOf f0.type = 1) (k1 : P.cellsOf f1.type = 1) (k2 : P.cellsOf f2.type = 1)
    (u0 : P.underlying f0.type = some .bool) (u1 : P.underlying f1.type = some .string) (u2 : P.underlying f2.type = some (.int .i64))
    (h : DataW.trod enc P w base (fun _ => true) held fuel th [v] = some x) : ∃ A len cap hs, v = .slice A len cap ∧ HistAt w A len hs ∧ len ≤ cap ∧ cap ≤ 9223372036854775807 ∧ cap ≤ Rows.uptoBulk x.1 ∧ (allO hs).length ≤ Rows.uptoBulk x.1 := by
  rcases open_slice1 hth ct h with ⟨hcs, hx⟩ | ⟨⟨b, off, spot⟩, len, cap, m, n, V, D, Pl, hcs, hb, hl, hm, hmm, hx, hel⟩
  · injection hcs with hcs
    exact ⟨none, 0, 0, [], hcs, HistAt.nil _ _, by omega, by omega, by omega, by simp [allO]⟩
  · injection hcs with hcs
    rw [if_pos rfl] at hmm
    subst hmm
    have hmm : m ≤ 9223372036854775807 := by unfold maxLen at hm; omega
    have hbulk : m ≤ Rows.uptoBulk x.1 ∧ Rows.uptoBulkAll ((List.range len).map D) ≤ Rows.uptoBulk x.1 := by
      rw [hx, bulk_slice]
      have := bulk_len ((List.range len).map D)
      have := bulk_len ((List.range (m - len)).map fun j => D (len + j))
      simp only [List.length_map, List.length_range] at *
      omega
    have hat : ∀ k, k < len → ∃ os, SessV w (V k) os ∧ os.length ≤ Rows.uptoBulk (D k) := by
      intro k hk
      obtain ⟨_, hk2⟩ := hel k (by omega)
      obtain ⟨A', n', c', e'⟩ : ∃ A' n' c', V k = .slice A' n' c' := by
        rcases open_slice ht hk2 with ⟨hcs, _⟩ | ⟨a, l, c, m, n, D, Pl, hcs, _⟩
        · injection hcs with hcs; exact ⟨_, _, _, hcs⟩
        · injection hcs with hcs; exact ⟨_, _, _, hcs⟩
      rw [e'] at hk2
      obtain ⟨os, h1, h2, h3, h4⟩ := open_ops ht he ce o0 o1 o2 k0 k1 k2 u0 u1 u2 hk2
      exact ⟨os, ⟨A', n', c', e', h2, by omega, h1⟩, by rw [h1.len]; exact Nat.le_trans h2 h4⟩
    by_cases h0 : len = 0
    · subst h0
      exact ⟨_, 0, m, [], hcs, HistAt.nil _ _, by omega, hmm, hbulk.1, by simp [allO]⟩
    · have hc0 := (hel 0 (by omega)).1
      have hspot : spot = none := by
        have h := World.cell?_spot hc0
        cases spot with
        | none => rfl
        | some s => unfold Addr.add at h; simp at h
      subst hspot
      have hblt : b < w.heap.size := by
        have := World.block_lt_of_cell? w _ hc0
        rwa [addr_plus] at this
      have hall : ∀ k, k ≤ len → ∃ hs : List (List OpT), hs.length = k ∧ (∀ (i : Nat) (v : Value) (os : List OpT), ((List.range k).map V)[i]? = some v → hs[i]? = some os → SessV w v os) ∧ (allO hs).length ≤ Rows.uptoBulkAll ((List.range k).map D) := by
        intro k
        induction k with
        | zero => exact fun _ => ⟨[], rfl, fun i v os h => by simp at h, by simp [allO]⟩
        | succ k ih =>
          intro hk
          obtain ⟨hs, p1, p2, p3⟩ := ih (by omega)
          obtain ⟨os, q1, q2⟩ := hat k (by omega)
          refine ⟨hs ++ [os], by simp [p1], fun i v o hv ho => ?_, ?_⟩
          · rw [List.range_succ, List.map_append] at hv
            rcases Nat.lt_or_ge i k with hlt | hge
            · rw [List.getElem?_append_left (by simpa using hlt)] at hv
              rw [List.getElem?_append_left (by omega)] at ho
              exact p2 i v o hv ho
            · rw [List.getElem?_append_right (by simpa using hge)] at hv
              rw [List.getElem?_append_right (by omega)] at ho
              have hv' := List.mem_of_getElem? hv
              have ho' := List.mem_of_getElem? ho
              simp at hv' ho'
              subst hv'; subst ho'
              exact q1
          · rw [allO_append, List.range_succ, List.map_append, bulk_append, List.length_append]
            have e1 : (allO [os]).length = os.length := by simp [allO]
            have e2 : Rows.uptoBulkAll (List.map D [k]) = Rows.uptoBulk (D k) := by simp [Rows.uptoBulkAll]
            omega
      obtain ⟨hs, p1, p2, p3⟩ := hall len (Nat.le_refl _)
      refine ⟨_, len, m, hs, hcs, ⟨(List.range len).map V, ⟨by simp, fun _ => ⟨b, off, rfl, hblt, fun j u hu => ?_⟩⟩, by simp [p1], p2⟩, hl, hmm, hbulk.1, by omega⟩
      have hj : j < len := by have := (List.getElem?_eq_some_iff.1 hu).1; simpa using this
      rw [List.getElem?_map, List.getElem?_range hj, Option.map_some] at hu
      have h1 := (hel j (by omega)).1
      rw [addr_plus] at h1
      rw [h1]; exact hu
/-- a struct of three one-cell fields and a struct of two cells -/
theorem open_askH {r : Reach} {b0 : Nat} {t : TypeId} {f0 f1 f2 f3 : Field} {v : Value} {d : DataW H} {p : List MemPlace} (hs : P.underlying t = some (.struct #[f0, f1, f2, f3])) (hC : P.cellsOf t = 5)
    (o0 : f0.offset = 0) (o1 : f1.offset = 1) (o2 : f2.offset = 2) (o3 : f3.offset = 3) (k0 : P.cellsOf f0.type = 1) (k1 : P.cellsOf f1.type = 1) (k2 : P.cellsOf f2.type = 1) (k3 : P.cellsOf f3.type = 2)
    (hv : Value.okWide P w r b0 t v) (h : DataW.Trod enc P w base (fun _ => true) held t v d p) :
    ∃ (v0 v1 v2 v3 v4 : Value) (y0 y1 y2 y3 : DataW H × List MemPlace) (n : Nat), v = .agg #[v0, v1, v2, v3, v4] ∧ d = .agg [y0.1, y1.1, y2.1, y3.1] ∧
      DataW.trod enc P w base (fun _ => true) held n f0.type [v0] = some y0 ∧ DataW.trod enc P w base (fun _ => true) held n f1.type [v1] = some y1 ∧ DataW.trod enc P w base (fun _ => true) held n f2.type [v2] = some y2 ∧ DataW.trod enc P w base (fun _ => true) held n f3.type [v3, v4] = some y3 := by
  obtain ⟨cs, rfl, hsz⟩ := okWide_struct hs hv
  obtain ⟨l⟩ := cs
  match l, hsz.trans hC with
  | [c0, c1, c2, c3, c4], _ =>
    obtain ⟨fuel, hf⟩ := h
    obtain ⟨xs, n, _, hx, _, hlen, hg⟩ := DataW.trod_struct hs hf
    match xs, hlen with
    | [y0, y1, y2, y3], _ =>
      injection hx with hx1 hx2
      exact ⟨c0, c1, c2, c3, c4, y0, y1, y2, y3, n, rfl, hx1, by simpa [Value.cells, o0, k0] using hg 0 f0 rfl, by simpa [Value.cells, o1, k1] using hg 1 f1 rfl, by simpa [Value.cells, o2, k2] using hg 2 f2 rfl, by simpa [Value.cells, o3, k3] using hg 3 f3 rfl⟩
/-- a struct of two numbers -/
theorem open_two {t : TypeId} {f0 f1 : Field} {fuel : Nat} {c0 c1 : Value} {x : DataW H × List MemPlace} (hs : P.underlying t = some (.struct #[f0, f1])) (o0 : f0.offset = 0) (o1 : f1.offset = 1) (k0 : P.cellsOf f0.type = 1) (k1 : P.cellsOf f1.type = 1)
    (u0 : P.underlying f0.type = some (.int .i64)) (u1 : P.underlying f1.type = some (.int .i64)) (h : DataW.trod enc P w base (fun _ => true) held fuel t [c0, c1] = some x) :
    ∃ a b : Int, c0 = .int .i64 a ∧ c1 = .int .i64 b ∧ (-9223372036854775808 ≤ a ∧ a < 9223372036854775808) ∧ (-9223372036854775808 ≤ b ∧ b < 9223372036854775808) := by
  obtain ⟨xs, n, _, hx, _, hlen, hg⟩ := DataW.trod_struct hs h
  match xs, hlen with
  | [y0, y1], _ =>
    have h0 := hg 0 f0 rfl
    have h1 := hg 1 f1 rfl
    rw [o0, k0] at h0
    rw [o1, k1] at h1
    simp at h0 h1
    obtain ⟨a, e0, _, w0⟩ := DataW.trod_int u0 h0
    obtain ⟨b, e1, _, w1⟩ := DataW.trod_int u1 h1
    injection e0 with e0
    injection e1 with e1
    have b0 := bounds_i64 w0
    have b1 := bounds_i64 w1
    exact ⟨a, b, e0, e1, ⟨b0.1, by omega⟩, ⟨b1.1, by omega⟩⟩
/-- an operation, by value -/
theorem open_opV {r : Reach} {b0 : Nat} {t : TypeId} {f0 f1 f2 : Field} {v : Value} {d : DataW H} {p : List MemPlace} (hs : P.underlying t = some (.struct #[f0, f1, f2])) (hC : P.cellsOf t = 3)
    (o0 : f0.offset = 0) (o1 : f1.offset = 1) (o2 : f2.offset = 2) (k0 : P.cellsOf f0.type = 1) (k1 : P.cellsOf f1.type = 1) (k2 : P.cellsOf f2.type = 1)
    (u0 : P.underlying f0.type = some .bool) (u1 : P.underlying f1.type = some .string) (u2 : P.underlying f2.type = some (.int .i64))
    (hv : Value.okWide P w r b0 t v) (h : DataW.Trod enc P w base (fun _ => true) held t v d p) :
    ∃ (x : Bool) (y : ByteArray) (z : Int), v = .agg #[.bool x, .string y, .int .i64 z] ∧ (-9223372036854775808 ≤ z ∧ z < 9223372036854775808) ∧ y.size ≤ 9223372036854775807 := by
  obtain ⟨cs, rfl, hsz⟩ := okWide_struct hs hv
  obtain ⟨l⟩ := cs
  match l, hsz.trans hC with
  | [c0, c1, c2], _ =>
    obtain ⟨fuel, hf⟩ := h
    obtain ⟨xs, n, _, hx, _, hlen, hg⟩ := DataW.trod_struct hs hf
    match xs, hlen with
    | [y0, y1, y2], _ =>
      have h0 : DataW.trod enc P w base (fun _ => true) held n f0.type [c0] = some y0 := by simpa [Value.cells, o0, k0] using hg 0 f0 rfl
      have h1 : DataW.trod enc P w base (fun _ => true) held n f1.type [c1] = some y1 := by simpa [Value.cells, o1, k1] using hg 1 f1 rfl
      have h2 : DataW.trod enc P w base (fun _ => true) held n f2.type [c2] = some y2 := by simpa [Value.cells, o2, k2] using hg 2 f2 rfl
      obtain ⟨bv, e0, _⟩ := DataW.trod_bool u0 h0
      obtain ⟨sv, e1, _, ws⟩ := DataW.trod_string u1 h1
      obtain ⟨iv, e2, _, wi⟩ := DataW.trod_int u2 h2
      injection e0 with e0
      injection e1 with e1
      injection e2 with e2
      subst e0; subst e1; subst e2
      have hb := bounds_i64 wi
      exact ⟨bv, sv, iv, rfl, ⟨hb.1, by omega⟩, by unfold maxLen at ws; exact ws⟩
end
end Go.Proofs.Ytjmkpoignnbcpaa
