/- The contracts of the document's own answers of layer 11: From, Fill, Whole, Readers. The contracts of the document's own answers of layer 12: Ahead, Past, Po. Contracts of package hull: place, below, Closed, Loop. Contracts of the document's own answers of layer 4: Closed, Loop. The contracts of the document's own answers of layer 16: Of, With, Writes, Kept. The contracts of the document's own answers of layer 17: Edges. -/
import Derived.Test.YtbeigdbljepfkaaGreatSeenLeastPk5
import Derived.Test.YtbeigdbljepfkaaGreatSeenLeastPk6
import Derived.Test.YtbeigdbljepfkaaGreatSeenLeastPk4
import Derived.Test.YtbeigdbljepfkaaGreatSeenLeastPk3
import Derived.BigQuiet
namespace Go.Proofs.YtbeigdbljepfkaaGreat
open Go.RowKit
set_option linter.unusedVariables false
/-- a call's answer: numbers -/
def RetIL (xs : List Int) (w : World) (e : Ending) (w' : World) : Prop := ∃ A n c, e = .returned (.slice A n c) ∧ LAt encI w' A n xs ∧ n ≤ c ∧ c ≤ 9223372036854775807 ∧ Below w.heap.size w w'
theorem info_int1 : (Tryz.prog.info? 3).map (fun i => (i.zero, i.size, i.bytes)) = some (some (.int .i64 0), 1, 8) := by kernel_rfl
set_option maxRecDepth 100000 in
set_option maxHeartbeats 1000000 in
theorem ref11_From (v : FV) (f : Fac) (w : World) (hF : FactsAt w v f) (hm : v.m ≤ 1048576) :
    Calls Tryz.prog 49 #[.agg #[.slice v.A v.n v.c, .slice v.B v.m v.d, .slice v.C v.k v.e]] w (RetIL (fromF f.items) w) := by
  have hil := hF.is.len
  obtain ⟨i0, hi, hz0, hz1, hz2⟩ := info_parts info_int1
  replace hi := Lib.hid hi
  replace hz0 := Lib.hid hz0
  replace hz1 := Lib.hid hz1
  replace hz2 := Lib.hid hz2
  -- a call with facts v: they are boxed at g, the world is W0 then
  have hB0 := Lib.hid (FBox.new hF)
  obtain ⟨g, hg⟩ : ∃ g, g = w.heap.size := ⟨_, rfl⟩
  obtain ⟨W0, hW0⟩ : ∃ W, W = w.alloc (.cells #[.slice v.A v.n v.c, .slice v.B v.m v.d, .slice v.C v.k v.e] 29) := ⟨_, rfl⟩
  rw [← hW0, ← hg] at hB0
  clear hF
  have hgW : g < W0.heap.size := hB0.out.k.lt
  have p0 := hB0.out.c0
  have p1 := hB0.out.c1
  have p2 := hB0.out.c2
  go_enter Tryz.func49, Tryz.ntmps49
  go_wp2_with (rw [← hW0, ← hg]; clear hW0 hg)
  clear p0 p1 p2
  go_loopw [3, 4] (fun u t wr => ∃ k : Nat, k ≤ v.m ∧ t = .int .i64 k ∧ Hid (Below W0.heap.size W0 wr) ∧ Hid (wr.ownsRow W0.heap.size 3 1 u k (encI.all ((fromF f.items).take k)))) (fun _ t _ => v.m - (intOf t).toNat)
  case atStart => exact ⟨0, Nat.zero_le _, rfl, Lib.hid (Below.refl _ _), Lib.hid (World.ownsRow_nil _ _ _ _)⟩
  case round =>
    obtain ⟨k, hk, rfl, hb, hown⟩ := hrel
    have hB := Lib.hid (hB0.out.later hb.out)
    have p0 := hB.out.c0
    have p1 := hB.out.c1
    have p2 := hB.out.c2
    by_cases hlt : k < v.m
    · have hlt' : (k : Int) < (v.m : Int) := by omega
      obtain ⟨ib, io, x, hxB, hib, hx, hxo, i0', i1, i2, i3, i4⟩ := hB.out.f.is.item hlt
      rw [hxB] at p1
      have htk := Lib.hid (fromF_take hx)
      have hone : fromOne f.items x = if x.wr = true then -3 else if x.vl = 0 then -1 else match writeF f.items x.va x.vl with | some w => (w : Int) | none => -2 := rfl
      have hrg := fromOne_range f.items x
      obtain ⟨z, hz⟩ : ∃ z, z = fromOne f.items x := ⟨_, rfl⟩
      rw [← hz] at htk hone hrg
      obtain ⟨xs, xp, xw, xa, xl⟩ := x
      simp only at i0' i1 i2 i3 i4 hone
      obtain ⟨V, hV⟩ : ∃ W, W = wr.alloc (.cells #[.int .i64 xs, .int .i64 xp, .bool xw, .int .i64 xa, .int .i64 xl] 49) := ⟨_, rfl⟩
      obtain ⟨gx, hgx⟩ : ∃ g, g = wr.heap.size := ⟨_, rfl⟩
      have bV : Below wr.heap.size wr V := by rw [hV]; exact (Below.refl _ _).alloc (Nat.le_refl _) _
      have kIt : Blk V gx 49 [.int .i64 xs, .int .i64 xp, .bool xw, .int .i64 xa, .int .i64 xl] := by rw [hV, hgx]; exact Blk.new wr _ _
      have hBV := Lib.hid (hB.out.later bV)
      have j3 := kIt.cell 3
      have j4 := kIt.cell 4
      simp only [List.getElem?_cons_zero, List.getElem?_cons_succ] at j3 j4
      have w0 := hBV.out.c0
      have w1 := hBV.out.c1
      have w2 := hBV.out.c2
      have cW := ref10_Write v f xa xl V hBV.out.f
      unfold RetWrite at cW
      obtain ⟨o, ho⟩ : ∃ o, o = writeF f.items xa xl := ⟨_, rfl⟩
      rw [← ho] at cW hone
      obtain ⟨r1, hr1⟩ : ∃ r : Int, r = ((o.getD 0 : Nat) : Int) := ⟨_, rfl⟩
      obtain ⟨r2, hr2⟩ : ∃ r, r = o.isSome := ⟨_, rfl⟩
      rw [← hr1, ← hr2] at cW
      have hzz : z = if xw = true then -3 else if xl = 0 then -1 else if r2 = true then r1 else -2 := by
        rw [hone, hr1, hr2]
        cases o <;> rfl
      replace cW := Lib.hid cW
      replace ho := Lib.hid ho
      replace hr1 := Lib.hid hr1
      replace hr2 := Lib.hid hr2
      replace kIt := Lib.hid kIt
      have bW := Lib.hid (below_trans2 hb.out bV)
      have hownV := Lib.hid (own_below hown.out bV)
      clear hone hx hxo hxB hlt hz bV hb hown hB
      go_wp2_with (rw [← hV, ← hgx]; clear hV; replace hgx := Lib.hid hgx)
      refine cW.out.mono ?_; rintro e w3 ⟨rfl, b3⟩
      replace kIt := Lib.hid (kIt.out.below b3 kIt.out.lt)
      replace bW := Lib.hid (below_trans2 bW.out b3)
      replace hownV := Lib.hid (own_below hownV.out b3)
      clear w0 w1 w2 p0 p1 p2 j3 j4 i0' i1 i2 i3 i4 b3 cW hBV
      have j2 := kIt.out.cell 2
      have j4 := kIt.out.cell 4
      simp only [List.getElem?_cons_zero, List.getElem?_cons_succ] at j2 j4
      obtain ⟨gl, hgl⟩ : ∃ g, g = w3.heap.size := ⟨_, rfl⟩
      cases xw with
      | true =>
        -- what item k reads from is -3: it is appended
        have hzv : z = -3 := by rw [hzz]; rfl
        rw [hzv] at htk hrg
        obtain ⟨VL, hVL⟩ : ∃ W, W = w3.alloc (.cells #[.int .i64 (-3)] 3) := ⟨_, rfl⟩
        have bL : Below w3.heap.size w3 VL := by rw [hVL]; exact (Below.refl _ _).alloc (Nat.le_refl _) _
        have hlit := Lib.hid (show LAt encI VL (some ⟨gl, 0, none⟩) 1 [(-3 : Int)] from by rw [hVL, hgl]; exact LAt.lit1 (E := encI) w3 3 (-3) ⟨by omega, by omega⟩)
        have hownL := Lib.hid (own_below hownV.out bL)
        have bWL := Lib.hid (below_trans2 bW.out bL)
        have hbase := Lib.hid bWL.out.size
        clear hzv hzz bL hownV bW
        go_wp2_with (first
          | (rw [← hVL, ← hgl]; clear hVL hgl)
          | (at_builtin; refine wpList_append_L (E := encI) rfl (.tmp 37) (.tmp 39) _ rfl W0.heap.size 3 i0 _ 8 Tryz.underlying27 hi.out hz0.out hz1.out hz2.out rfl _ k ((fromF f.items).take k) (by rfl) hownL.out _ 1 1 _ rfl hlit.out (by unfold maxLen; omega) (by omega) hbase.out ?_; intro v' w7 hown' hb7 _ _))
        refine ⟨⟨k + 1, by omega, by go_num, Lib.hid (bWL.out.trans hb7), Lib.hid (by rw [htk.out]; exact hown')⟩, by simp [intOf]; omega⟩
      | false =>
        by_cases h0 : xl = 0
        · have e0 : (xl == 0) = true := by simp [h0]
          replace h0 := Lib.hid h0
          -- what item k reads from is -1: it is appended
          have hzv : z = -1 := by rw [hzz]; (rw [if_neg (by simp), if_pos h0.out])
          rw [hzv] at htk hrg
          obtain ⟨VL, hVL⟩ : ∃ W, W = w3.alloc (.cells #[.int .i64 (-1)] 3) := ⟨_, rfl⟩
          have bL : Below w3.heap.size w3 VL := by rw [hVL]; exact (Below.refl _ _).alloc (Nat.le_refl _) _
          have hlit := Lib.hid (show LAt encI VL (some ⟨gl, 0, none⟩) 1 [(-1 : Int)] from by rw [hVL, hgl]; exact LAt.lit1 (E := encI) w3 3 (-1) ⟨by omega, by omega⟩)
          have hownL := Lib.hid (own_below hownV.out bL)
          have bWL := Lib.hid (below_trans2 bW.out bL)
          have hbase := Lib.hid bWL.out.size
          clear hzv hzz bL hownV bW
          go_wp2_with (first
            | (rw [← hVL, ← hgl]; clear hVL hgl)
            | (at_builtin; refine wpList_append_L (E := encI) rfl (.tmp 37) (.tmp 39) _ rfl W0.heap.size 3 i0 _ 8 Tryz.underlying27 hi.out hz0.out hz1.out hz2.out rfl _ k ((fromF f.items).take k) (by rfl) hownL.out _ 1 1 _ rfl hlit.out (by unfold maxLen; omega) (by omega) hbase.out ?_; intro v' w7 hown' hb7 _ _))
          refine ⟨⟨k + 1, by omega, by go_num, Lib.hid (bWL.out.trans hb7), Lib.hid (by rw [htk.out]; exact hown')⟩, by simp [intOf]; omega⟩
        · have e0 : (xl == 0) = false := by simp [h0]
          replace h0 := Lib.hid h0
          cases r2 with
          | true =>
            -- what item k reads from is r1: it is appended
            have hzv : z = r1 := by rw [hzz]; (rw [if_neg (by simp), if_neg h0.out]; rfl)
            rw [hzv] at htk hrg
            obtain ⟨VL, hVL⟩ : ∃ W, W = w3.alloc (.cells #[.int .i64 (r1)] 3) := ⟨_, rfl⟩
            have bL : Below w3.heap.size w3 VL := by rw [hVL]; exact (Below.refl _ _).alloc (Nat.le_refl _) _
            have hlit := Lib.hid (show LAt encI VL (some ⟨gl, 0, none⟩) 1 [(r1 : Int)] from by rw [hVL, hgl]; exact LAt.lit1 (E := encI) w3 3 (r1) ⟨by omega, by omega⟩)
            have hownL := Lib.hid (own_below hownV.out bL)
            have bWL := Lib.hid (below_trans2 bW.out bL)
            have hbase := Lib.hid bWL.out.size
            clear hzv hzz bL hownV bW
            go_wp2_with (first
              | (rw [← hVL, ← hgl]; clear hVL hgl)
              | (at_builtin; refine wpList_append_L (E := encI) rfl (.tmp 37) (.tmp 39) _ rfl W0.heap.size 3 i0 _ 8 Tryz.underlying27 hi.out hz0.out hz1.out hz2.out rfl _ k ((fromF f.items).take k) (by rfl) hownL.out _ 1 1 _ rfl hlit.out (by unfold maxLen; omega) (by omega) hbase.out ?_; intro v' w7 hown' hb7 _ _))
            refine ⟨⟨k + 1, by omega, by go_num, Lib.hid (bWL.out.trans hb7), Lib.hid (by rw [htk.out]; exact hown')⟩, by simp [intOf]; omega⟩
          | false =>
            -- what item k reads from is -2: it is appended
            have hzv : z = -2 := by rw [hzz]; (rw [if_neg (by simp), if_neg h0.out]; rfl)
            rw [hzv] at htk hrg
            obtain ⟨VL, hVL⟩ : ∃ W, W = w3.alloc (.cells #[.int .i64 (-2)] 3) := ⟨_, rfl⟩
            have bL : Below w3.heap.size w3 VL := by rw [hVL]; exact (Below.refl _ _).alloc (Nat.le_refl _) _
            have hlit := Lib.hid (show LAt encI VL (some ⟨gl, 0, none⟩) 1 [(-2 : Int)] from by rw [hVL, hgl]; exact LAt.lit1 (E := encI) w3 3 (-2) ⟨by omega, by omega⟩)
            have hownL := Lib.hid (own_below hownV.out bL)
            have bWL := Lib.hid (below_trans2 bW.out bL)
            have hbase := Lib.hid bWL.out.size
            clear hzv hzz bL hownV bW
            go_wp2_with (first
              | (rw [← hVL, ← hgl]; clear hVL hgl)
              | (at_builtin; refine wpList_append_L (E := encI) rfl (.tmp 37) (.tmp 39) _ rfl W0.heap.size 3 i0 _ 8 Tryz.underlying27 hi.out hz0.out hz1.out hz2.out rfl _ k ((fromF f.items).take k) (by rfl) hownL.out _ 1 1 _ rfl hlit.out (by unfold maxLen; omega) (by omega) hbase.out ?_; intro v' w7 hown' hb7 _ _))
            refine ⟨⟨k + 1, by omega, by go_num, Lib.hid (bWL.out.trans hb7), Lib.hid (by rw [htk.out]; exact hown')⟩, by simp [intOf]; omega⟩
    · have hlt' : ¬ (k : Int) < (v.m : Int) := by omega
      have hkm : k = v.m := by omega
      subst hkm
      rw [List.take_of_length_le (by rw [fromF_len, hil]; exact Nat.le_refl _)] at hown
      obtain ⟨A, c, rfl, hnc, hcm, hL⟩ := LAt.of_own hown.out (fun z hz => by
        obtain ⟨x, _, rfl⟩ := List.mem_map.1 hz
        have := fromOne_range f.items x
        exact ⟨by omega, by omega⟩) (by rw [fromF_len, hil])
      clear hlt
      go_wp2_with fail
      go_ret
      exact ⟨A, _, c, rfl, hL, hnc, hcm, hB.out.o⟩
set_option maxRecDepth 100000 in
set_option maxHeartbeats 1000000 in
theorem ref11_Fill (v : FV) (f : Fac) (w : World) (hF : FactsAt w v f) (hm : v.m ≤ 1048576) :
    Calls Tryz.prog 28 #[.agg #[.slice v.A v.n v.c, .slice v.B v.m v.d, .slice v.C v.k v.e]] w (RetFacts (fillF f) w) := by
  -- a call with facts v: they are boxed at g, the world is W0 then
  have hB0 := Lib.hid (FBox.new hF)
  obtain ⟨g, hg⟩ : ∃ g, g = w.heap.size := ⟨_, rfl⟩
  obtain ⟨W0, hW0⟩ : ∃ W, W = w.alloc (.cells #[.slice v.A v.n v.c, .slice v.B v.m v.d, .slice v.C v.k v.e] 29) := ⟨_, rfl⟩
  rw [← hW0, ← hg] at hB0
  clear hF
  obtain ⟨gr, hgr⟩ : ∃ g, g = W0.heap.size := ⟨_, rfl⟩
  obtain ⟨W1, hW1⟩ : ∃ W, W = W0.alloc (.cells #[.slice none 0 0, .slice none 0 0, .slice none 0 0] 29) := ⟨_, rfl⟩
  have b1 : Below W0.heap.size W0 W1 := by rw [hW1]; exact (Below.refl _ _).alloc (Nat.le_refl _) _
  have kR : Blk W1 gr 29 [.slice none 0 0, .slice none 0 0, .slice none 0 0] := by rw [hW1, hgr]; exact Blk.new W0 _ _
  have hB1 := Lib.hid (hB0.out.later b1)
  have hgw : w.heap.size ≤ gr := by rw [hgr]; exact hB0.out.o.size
  clear hB0 b1
  go_enter Tryz.func28, Tryz.ntmps28
  go_wp2_with (first | (rw [← hW0, ← hg]; clear hW0 hg) | (rw [← hW1, ← hgr]; clear hW1; replace hgr := Lib.hid hgr))
  refine wp_region_plan 7 [(true, 0), (true, 1), (true, 2), (true, 3), (true, 4), (false, 5), (true, 6)] (by kernel_rfl) (by kernel_rfl) (fun V hV => ?_)
  have hB := Lib.hid (show FBox w g v f V from by rw [hV.out]; exact hB1.out.later (Below.refl _ _).drew)
  replace kR := Lib.hid (show Blk V gr 29 [.slice none 0 0, .slice none 0 0, .slice none 0 0] from by rw [hV.out]; exact kR)
  clear hV hB1
  have p0 := hB.out.c0
  have p1 := hB.out.c1
  have p2 := hB.out.c2
  have cF := Lib.hid (ref11_From v f V hB.out.f hm)
  simp only [List.drop_succ_cons, List.drop_zero]
  iterate 5
    refine wpPlan_float (v := ?_) rfl (by rfl) (fun w' hw' => ?_) (fun K hK => ?_)
    rotate_left
    · (go_simp; try with_reducible rfl)
    go_simp
    refine hK _ ?_
    clear hK K
  refine wpPlan_only rfl (by rfl) (fun K hK => ?_)
  go_simp
  refine cF.out.mono ?_
  rintro e w3 ⟨C, k, ce, rfl, hL, hke, hem, b3⟩
  refine hK _ _ b3 ?_
  clear hK K
  replace hB := Lib.hid (hB.out.later b3)
  replace kR := kR.out.below b3 kR.out.lt
  iterate 1
    refine wpPlan_float (v := ?_) rfl (by rfl) (fun w' hw' => ?_) (fun K hK => ?_)
    rotate_left
    · (go_simp; try with_reducible rfl)
    go_simp
    refine hK _ ?_
    clear hK K
  refine wpPlan_nil ?_
  have hY := (⟨hB.out.f.vs, hB.out.f.vc, hB.out.f.vm, hB.out.f.is, hB.out.f.ic, hB.out.f.im, hL, hke, hem⟩ : FactsAt w3 ⟨v.A, v.n, v.c, v.B, v.m, v.d, C, k, ce⟩ (fillF f))
  have hY3 := Lib.hid (hY.put kR (fun u hu => by simp only [List.mem_cons, List.not_mem_nil, or_false] at hu; rcases hu with rfl | rfl | rfl <;> exact ⟨_, _, _, rfl⟩))
  have k4 := ((kR.set_ 0 (.slice v.A v.n v.c)).set_ 1 (.slice v.B v.m v.d)).set_ 2 (.slice C k ce)
  have e0 := k4.cell 0
  have e1 := k4.cell 1
  have e2 := k4.cell 2
  have c0 := kR.cell 0
  have c1 := kR.cell 1
  have c2 := kR.cell 2
  have f0 := kR.frozen 0
  have f1 := kR.frozen 1
  have f2 := kR.frozen 2
  have hb3 := Lib.hid (((hB.out.o.setCell (p := ⟨gr, 0, none⟩) hgw (.slice v.A v.n v.c)).setCell (p := ⟨gr, 1, none⟩) hgw (.slice v.B v.m v.d)).setCell (p := ⟨gr, 2, none⟩) hgw (.slice C k ce))
  clear k4 kR hY hL b3 p0 p1 p2
  go_wp2_with fail
  refine NoPanic.normal ?_
  go_wp2_with fail
  exact bodyPost_ret (v := .agg #[.slice v.A v.n v.c, .slice v.B v.m v.d, .slice C k ce]) (by simp [results, Tryz.results28, go_sem, e0, e1, e2]) rfl ⟨⟨v.A, v.n, v.c, v.B, v.m, v.d, C, k, ce⟩, rfl, hY3.out, hb3.out⟩
end Go.Proofs.YtbeigdbljepfkaaGreat

namespace Go.Proofs.YtbeigdbljepfkaaGreat
open Go.RowKit
set_option linter.unusedVariables false
set_option maxRecDepth 100000 in
set_option maxHeartbeats 2000000 in
theorem ref12_Ahead (v : FV) (f : Fac) (i j : Int) (w : World) (hF : FactsAt w v f) :
    Calls Tryz.prog 71 #[.agg #[.slice v.A v.n v.c, .slice v.B v.m v.d, .slice v.C v.k v.e], .int .i64 i, .int .i64 j] w (RetBool (aheadF f.items i j) w) := by
  have hil := hF.is.len
  -- a call with facts v: they are boxed at g, the world is W0 then
  have hB0 := Lib.hid (FBox.new hF)
  obtain ⟨g, hg⟩ : ∃ g, g = w.heap.size := ⟨_, rfl⟩
  obtain ⟨W0, hW0⟩ : ∃ W, W = w.alloc (.cells #[.slice v.A v.n v.c, .slice v.B v.m v.d, .slice v.C v.k v.e] 29) := ⟨_, rfl⟩
  rw [← hW0, ← hg] at hB0
  clear hF
  have p0 := hB0.out.c0
  have p1 := hB0.out.c1
  have p2 := hB0.out.c2
  by_cases hi : 0 ≤ i
  · have d1 : decide (0 ≤ i) = true := decide_eq_true hi
    by_cases hj : 0 ≤ j
    · have d2 : decide (0 ≤ j) = true := decide_eq_true hj
      by_cases him : i < (v.m : Int)
      · have d3 : decide (i < (v.m : Int)) = true := decide_eq_true him
        by_cases hjm : j < (v.m : Int)
        · have d4 : decide (j < (v.m : Int)) = true := decide_eq_true hjm
          obtain ⟨ib, io, x, hxB, hib, hx, hxo, i0, i1, -, -, -⟩ := hB0.out.f.is.item (show i.toNat < v.m by omega)
          obtain ⟨jb, jo, y, hyB, hjb, hy, hyo, j0, j1, -, -, -⟩ := hB0.out.f.is.item (show j.toNat < v.m by omega)
          rw [hxB] at p1 hyB
          injection hyB with hyB
          injection hyB with h1 h2
          subst h1; subst h2
          have hres := aheadF_at hi hj hx hy
          have bi : 0 ≤ i ∧ i < (v.m : Int) := ⟨hi, him⟩
          have bj : 0 ≤ j ∧ j < (v.m : Int) := ⟨hj, hjm⟩
          by_cases hse : x.se = y.se
          · have e1 : (x.se == y.se) = true := by simp [hse]
            rw [decide_eq_true hse, Bool.true_and] at hres
            replace hres := Lib.hid hres
            replace hse := Lib.hid hse
            clear hxB hx hy hxo hyo hib hjb
            clear hil
            go_enter Tryz.func71, Tryz.ntmps71
            go_wp2_with (rw [← hW0, ← hg]; clear hW0 hg)
            go_quiet (fail)
            go_wp2_with fail
            go_ret
            rw [hres.out]
            exact ⟨rfl, below_drewN hB0.out.o _⟩
          · have e1 : (x.se == y.se) = false := by simpa using hse
            rw [decide_eq_false hse, Bool.false_and] at hres
            replace hres := Lib.hid hres
            replace hse := Lib.hid hse
            clear hxB hx hy hxo hyo hib hjb
            clear hil
            go_enter Tryz.func71, Tryz.ntmps71
            go_wp2_with (rw [← hW0, ← hg]; clear hW0 hg)
            go_quiet (fail)
            go_wp2_with fail
            go_ret
            rw [hres.out]
            exact ⟨rfl, below_drewN hB0.out.o _⟩
        · have d4 : decide (j < (v.m : Int)) = false := decide_eq_false hjm
          have hres := Lib.hid (aheadF_out (is := f.items) (i := i) (j := j) (by omega))
          clear hil
          go_enter Tryz.func71, Tryz.ntmps71
          go_wp2_with (rw [← hW0, ← hg]; clear hW0 hg)
          go_quiet (fail)
          go_wp2_with fail
          go_ret
          rw [hres.out]
          exact ⟨rfl, below_drewN hB0.out.o _⟩
      · have d3 : decide (i < (v.m : Int)) = false := decide_eq_false him
        have hres := Lib.hid (aheadF_out (is := f.items) (i := i) (j := j) (by omega))
        clear hil
        go_enter Tryz.func71, Tryz.ntmps71
        go_wp2_with (rw [← hW0, ← hg]; clear hW0 hg)
        go_quiet (fail)
        go_wp2_with fail
        go_ret
        rw [hres.out]
        exact ⟨rfl, below_drewN hB0.out.o _⟩
    · have d2 : decide (0 ≤ j) = false := decide_eq_false hj
      have hres := Lib.hid (aheadF_out (is := f.items) (i := i) (j := j) (by omega))
      clear hil
      go_enter Tryz.func71, Tryz.ntmps71
      go_wp2_with (rw [← hW0, ← hg]; clear hW0 hg)
      go_quiet (fail)
      go_wp2_with fail
      go_ret
      rw [hres.out]
      exact ⟨rfl, below_drewN hB0.out.o _⟩
  · have d1 : decide (0 ≤ i) = false := decide_eq_false hi
    have hres := Lib.hid (aheadF_out (is := f.items) (i := i) (j := j) (by omega))
    clear hil
    go_enter Tryz.func71, Tryz.ntmps71
    go_wp2_with (rw [← hW0, ← hg]; clear hW0 hg)
    go_quiet (fail)
    go_wp2_with fail
    go_ret
    rw [hres.out]
    exact ⟨rfl, below_drewN hB0.out.o _⟩
theorem info_int3 : (Tryz.prog.info? 3).map (fun i => (i.zero, i.size, i.bytes)) = some (some (.int .i64 0), 1, 8) := by kernel_rfl
set_option maxRecDepth 100000 in
set_option maxHeartbeats 1000000 in
theorem ref12_Past (v : FV) (f : Fac) (o : Int) (w : World) (hF : FactsAt w v f) (hm : v.m ≤ 1048576) :
    Calls Tryz.prog 42 #[.agg #[.slice v.A v.n v.c, .slice v.B v.m v.d, .slice v.C v.k v.e], .int .i64 o] w (RetIL (pastF f.items o f.items.length) w) := by
  have hil := hF.is.len
  rw [hil]
  obtain ⟨i0, hi, hz0, hz1, hz2⟩ := info_parts info_int3
  replace hi := Lib.hid hi
  replace hz0 := Lib.hid hz0
  replace hz1 := Lib.hid hz1
  replace hz2 := Lib.hid hz2
  replace hil := Lib.hid hil
  -- a call with facts v: they are boxed at g, the world is W0 then
  have hB0 := Lib.hid (FBox.new hF)
  obtain ⟨g, hg⟩ : ∃ g, g = w.heap.size := ⟨_, rfl⟩
  obtain ⟨W0, hW0⟩ : ∃ W, W = w.alloc (.cells #[.slice v.A v.n v.c, .slice v.B v.m v.d, .slice v.C v.k v.e] 29) := ⟨_, rfl⟩
  rw [← hW0, ← hg] at hB0
  clear hF
  go_enter Tryz.func42, Tryz.ntmps42
  go_wp2_with (rw [← hW0, ← hg]; clear hW0 hg)
  go_loopw [5, 6] (fun u t wr => ∃ k : Nat, k ≤ v.m ∧ t = .int .i64 k ∧ Hid (Below W0.heap.size W0 wr) ∧ Hid (wr.ownsRow W0.heap.size 3 1 u (pastF f.items o k).length (encI.all (pastF f.items o k)))) (fun _ t _ => v.m - (intOf t).toNat)
  case atStart => exact ⟨0, Nat.zero_le _, rfl, Lib.hid (Below.refl _ _), Lib.hid (World.ownsRow_nil _ _ _ _)⟩
  case round =>
    obtain ⟨k, hkm, rfl, hb, hown⟩ := hrel
    have hB := Lib.hid (hB0.out.later hb.out)
    have p0 := hB.out.c0
    have p1 := hB.out.c1
    have p2 := hB.out.c2
    have hrl := pastF_len f.items o k
    have hrs := pastF_succ f.items o k
    obtain ⟨L, hL⟩ : ∃ L, L = (pastF f.items o k).length := ⟨_, rfl⟩
    rw [← hL] at hown hrl
    replace hL := Lib.hid hL
    by_cases hlt : k < v.m
    · have hlt' : (k : Int) < (v.m : Int) := by omega
      by_cases hko : (k : Int) = o
      · rw [if_pos (by simp [hko])] at hrs
        have e0 : ((k : Int) == o) = true := by simp [hko]
        replace hrs := Lib.hid hrs
        replace hko := Lib.hid hko
        clear hlt
        obtain ⟨gl, hgl⟩ : ∃ g, g = (wr).heap.size := ⟨_, rfl⟩
        obtain ⟨VL, hVL⟩ : ∃ W, W = World.alloc (wr) (.cells #[.int .i64 (k : Int)] 3) := ⟨_, rfl⟩
        have bL : Below (wr).heap.size (wr) VL := by rw [hVL]; exact (Below.refl _ _).alloc (Nat.le_refl _) _
        have hlit := Lib.hid (show LAt encI VL (some ⟨gl, 0, none⟩) 1 [(k : Int)] from by rw [hVL, hgl]; exact LAt.lit1 (E := encI) (wr) 3 (k : Int) ⟨by omega, by omega⟩)
        have hownL := Lib.hid (own_below hown.out bL)
        have bWL := Lib.hid (below_trans2 hb.out bL)
        have hbase := Lib.hid bWL.out.size
        clear bL
        go_wp2_with (first
          | (rw [← hVL, ← hgl]; clear hVL hgl)
          | (at_builtin; refine wpList_append_L (E := encI) rfl (.tmp 23) (.tmp 25) _ rfl W0.heap.size 3 i0 _ 8 Tryz.underlying27 hi.out hz0.out hz1.out hz2.out rfl _ L (pastF f.items o k) (by rfl) hownL.out _ 1 1 _ rfl hlit.out (by unfold maxLen; omega) (by omega) hbase.out ?_; intro v' w7 hown' hb7 _ _))
        refine ⟨⟨k + 1, by omega, by go_num, Lib.hid (bWL.out.trans hb7), Lib.hid (by rw [hrs.out, List.length_append, ← hL.out]; exact hown')⟩, by simp [intOf]; omega⟩
      · have e0 : ((k : Int) == o) = false := by simpa using hko
        rw [decide_eq_false hko, Bool.false_or] at hrs
        have cA := ref12_Ahead v f k o wr hB.out.f
        replace hko := Lib.hid hko
        cases ha : aheadF f.items k o with
        | true =>
          rw [ha] at cA
          rw [ha, if_pos rfl] at hrs
          replace hrs := Lib.hid hrs
          replace cA := Lib.hid cA
          clear hlt ha
          go_wp2_with fail
          refine cA.out.mono ?_; rintro e w3 ⟨rfl, b3⟩
          have hown3 := Lib.hid (own_below hown.out b3)
          have hb3 := Lib.hid (below_trans2 hb.out b3)
          clear b3 cA p0 p1 p2
          obtain ⟨gl, hgl⟩ : ∃ g, g = (w3).heap.size := ⟨_, rfl⟩
          obtain ⟨VL, hVL⟩ : ∃ W, W = World.alloc (w3) (.cells #[.int .i64 (k : Int)] 3) := ⟨_, rfl⟩
          have bL : Below (w3).heap.size (w3) VL := by rw [hVL]; exact (Below.refl _ _).alloc (Nat.le_refl _) _
          have hlit := Lib.hid (show LAt encI VL (some ⟨gl, 0, none⟩) 1 [(k : Int)] from by rw [hVL, hgl]; exact LAt.lit1 (E := encI) (w3) 3 (k : Int) ⟨by omega, by omega⟩)
          have hownL := Lib.hid (own_below hown3.out bL)
          have bWL := Lib.hid (below_trans2 hb3.out bL)
          have hbase := Lib.hid bWL.out.size
          clear bL
          go_wp2_with (first
            | (rw [← hVL, ← hgl]; clear hVL hgl)
            | (at_builtin; refine wpList_append_L (E := encI) rfl (.tmp 23) (.tmp 25) _ rfl W0.heap.size 3 i0 _ 8 Tryz.underlying27 hi.out hz0.out hz1.out hz2.out rfl _ L (pastF f.items o k) (by rfl) hownL.out _ 1 1 _ rfl hlit.out (by unfold maxLen; omega) (by omega) hbase.out ?_; intro v' w7 hown' hb7 _ _))
          refine ⟨⟨k + 1, by omega, by go_num, Lib.hid (bWL.out.trans hb7), Lib.hid (by rw [hrs.out, List.length_append, ← hL.out]; exact hown')⟩, by simp [intOf]; omega⟩
        | false =>
          rw [ha] at cA
          rw [ha, if_neg (by simp)] at hrs
          replace hrs := Lib.hid hrs
          replace cA := Lib.hid cA
          clear hlt ha
          go_wp2_with fail
          refine cA.out.mono ?_; rintro e w3 ⟨rfl, b3⟩
          have hown3 := Lib.hid (own_below hown.out b3)
          have hb3 := Lib.hid (below_trans2 hb.out b3)
          clear b3 cA p0 p1 p2
          go_wp2_with fail
          exact ⟨⟨k + 1, by omega, by go_num, hb3, Lib.hid (by rw [hrs.out, ← hL.out]; exact hown3.out)⟩, by simp [intOf]; omega⟩
    · have hlt' : ¬ (k : Int) < (v.m : Int) := by omega
      have hkm : k = v.m := by omega
      subst hkm
      obtain ⟨A, c, rfl, hnc, hcm, hLA⟩ := LAt.of_own hown.out (fun z hz => by
        have := pastF_ok f.items o v.m z hz
        exact ⟨by omega, by omega⟩) hL.out.symm
      clear hlt
      go_wp2_with fail
      go_ret
      exact ⟨A, L, c, rfl, hLA, hnc, hcm, hB.out.o⟩
/-- a variable at M that holds a matrix of n rows; its rows lie apart from it -/
structure MV (wr : World) (M n : Nat) (A : Option Addr) (c : Nat) (xss : List (List Nat)) : Prop where
  loc : MatB wr M 34 (n : Int) A n c
  rows : RowsAt wr A n xss
  cap : n ≤ c
  far : 0 < n → ∀ ad, A = some ad → ad.block ≠ M
theorem MV.later {wr w' : World} {M n c : Nat} {A : Option Addr} {xss : List (List Nat)} (h : MV wr M n A c xss) (hb : Below wr.heap.size wr w') : MV w' M n A c xss := ⟨h.loc.below_ hb, h.rows.below hb, h.cap, h.far⟩
/-- another matrix, of a call's own, is laid into it -/
theorem MV.put {wr w' : World} {M n c : Nat} {A : Option Addr} {xss : List (List Nat)} (h : MV wr M n A c xss) (hb : Below wr.heap.size wr w') {C : Option Addr} {d : Nat} {yss : List (List Nat)} (hr : RowsAt w' C n yss) (hd : n ≤ d) (hf : ∀ ad, C = some ad → wr.heap.size ≤ ad.block) :
    MV ((w'.setCell ⟨M, 0, none⟩ (.int .i64 (n : Int))).setCell ⟨M, 1, none⟩ (.slice C n d)) M n C d yss := by
  have hM := h.loc.lt
  refine ⟨(h.loc.below_ hb).put _ _ _ _, hr.putB (h.loc.below_ hb) (fun _ ad e => by have := hf ad e; omega) _ _, hd, fun _ ad e => by have := hf ad e; omega⟩
theorem poM_len {n : Nat} (hn : n ≤ 4096) (ps : List (Int × Int)) : ∀ xs ∈ foldP n ps, xs.length ≤ 1024 := fun xs hxs => by
  obtain ⟨i, hi⟩ := List.getElem?_of_mem hxs
  have := (DimM.fold n ps).2 i xs hi
  have := words_le hn
  omega
/-- a call's answer: a matrix, whose outer cells are new -/
def RetMat1F (N : Int) (xss : List (List Nat)) (w : World) (e : Ending) (w' : World) : Prop :=
  ∃ A n c, e = .returned (.agg #[.int .i64 N, .slice A n c]) ∧ RowsAt w' A n xss ∧ n ≤ c ∧ Below w.heap.size w w' ∧ ∀ ad, A = some ad → w.heap.size ≤ ad.block
set_option maxRecDepth 100000 in
set_option maxHeartbeats 2000000 in
theorem ref12_Po (v : FV) (f : Fac) (w : World) (hF : FactsAt w v f) (hm : v.m ≤ 4096) :
    Calls Tryz.prog 51 #[.agg #[.slice v.A v.n v.c, .slice v.B v.m v.d, .slice v.C v.k v.e]] w (RetMat1F (v.m : Int) (poM f.items) w) := by
  have hil := hF.is.len
  unfold poM
  rw [hil]
  have cN := Lib.hid (ref3_NewF v.m hm)
  replace hil := Lib.hid hil
  -- a call with facts v: they are boxed at g, the world is W0 then
  have hB0 := Lib.hid (FBox.new hF)
  obtain ⟨g, hg⟩ : ∃ g, g = w.heap.size := ⟨_, rfl⟩
  obtain ⟨W0, hW0⟩ : ∃ W, W = w.alloc (.cells #[.slice v.A v.n v.c, .slice v.B v.m v.d, .slice v.C v.k v.e] 29) := ⟨_, rfl⟩
  rw [← hW0, ← hg] at hB0
  clear hF
  obtain ⟨gr, hgr⟩ : ∃ g, g = W0.heap.size := ⟨_, rfl⟩
  obtain ⟨W1, hW1⟩ : ∃ W, W = W0.alloc (.cells #[.int .i64 0, .slice none 0 0] 34) := ⟨_, rfl⟩
  have b1 : Below W0.heap.size W0 W1 := by rw [hW1]; exact (Below.refl _ _).alloc (Nat.le_refl _) _
  have kR : MatB W1 gr 34 0 none 0 0 := by rw [hW1, hgr]; exact MatB.new W0 _
  have hB1 := Lib.hid (hB0.out.later b1)
  have p0 := hB1.out.c0
  have p1 := hB1.out.c1
  have p2 := hB1.out.c2
  go_enter Tryz.func51, Tryz.ntmps51
  go_wp2_with (first | (rw [← hW0, ← hg]; clear hW0 hg) | (rw [← hW1, ← hgr]; clear hW1))
  refine (cN.out _).mono ?_; rintro e w2 ⟨C, p, q, rfl, hrows, hcap, b2, hfar⟩
  have hpn : p = v.m := by rw [← hrows.len]; exact (DimM.new v.m).1
  subst hpn
  obtain ⟨M, hM⟩ : ∃ M, M = w2.heap.size := ⟨_, rfl⟩
  obtain ⟨W2, hW2⟩ : ∃ W2, W2 = w2.alloc (.cells #[.int .i64 v.m, .slice C v.m q] 34) := ⟨_, rfl⟩
  have b3 : Below w2.heap.size w2 W2 := by rw [hW2]; exact (Below.refl _ _).alloc (Nat.le_refl _) _
  have hbb := Lib.hid (below_trans2 (below_trans2 b1 b2) b3)
  have hMV := Lib.hid (show MV W2 M v.m C q (foldP v.m (uptoPo f.items v.m 0)) from ⟨by rw [hW2, hM]; exact MatB.new w2 _, by rw [show uptoPo f.items v.m 0 = [] from rfl, foldP_nil]; exact hrows.below b3, hcap, fun h0 ad e => by have := hrows.block_lt h0 ad e; omega⟩)
  have hgrM : gr < M := by have := kR.lt; have := b2.size; omega
  have kR2 := Lib.hid ((kR.below_ b2).below_ b3)
  have hgW : W0.heap.size ≤ gr := by omega
  have hAf := Lib.hid (show ∀ ad, C = some ad → gr < ad.block from fun ad e => by have := hfar ad e; have := kR.lt; omega)
  replace hgr := Lib.hid hgr
  clear hrows hcap b2 b3 hfar kR b1 hB1 p0 p1 p2 cN
  go_wp2_with (rw [← hW2, ← hM]; clear hW2; replace hM := Lib.hid hM)
  go_loopw [5] (fun t wr => ∃ (i : Nat) (A : Option Addr) (c : Nat), i ≤ v.m ∧ t = .int .i64 i ∧ Hid (Below W0.heap.size W0 wr) ∧ Hid (MatB wr gr 34 0 none 0 0) ∧ Hid (MV wr M v.m A c (foldP v.m (uptoPo f.items v.m i))) ∧ Hid (∀ ad, A = some ad → gr < ad.block)) (fun t _ => v.m - (intOf t).toNat)
  case atStart => exact ⟨0, _, _, Nat.zero_le _, rfl, hbb, kR2, hMV, hAf⟩
  case round =>
    clear hbb kR2 hMV hAf
    obtain ⟨i, A, c, hi, rfl, hbb, kR, hMV, hAf⟩ := hrel
    have hB := Lib.hid (hB0.out.later hbb.out)
    by_cases hlt : i < v.m
    · have hlt' : (i : Int) < (v.m : Int) := by omega
      have p1 := hB.out.c1
      go_wp2_with fail
      clear p1 hB
      obtain ⟨Wo, rfl⟩ : ∃ Wo, Wo = wr := ⟨_, rfl⟩
      go_loopw [6] (fun t wr => ∃ (j : Nat) (A : Option Addr) (c : Nat), j ≤ v.m ∧ t = .int .i64 j ∧ Hid (Below W0.heap.size W0 wr) ∧ Hid (MatB wr gr 34 0 none 0 0) ∧ Hid (MV wr M v.m A c (foldP v.m (uptoPo f.items v.m i ++ rowPo f.items i j))) ∧ Hid (∀ ad, A = some ad → gr < ad.block)) (fun t _ => v.m - (intOf t).toNat)
      case atStart => exact ⟨0, _, _, Nat.zero_le _, rfl, hbb, kR, Lib.hid (by rw [show rowPo f.items i 0 = [] from rfl, List.append_nil]; exact hMV.out), hAf⟩
      case round =>
        clear hbb kR hMV hAf
        obtain ⟨j, A, c, hj, rfl, hbb, kR, hMV, hAf⟩ := hrel
        have hB := Lib.hid (hB0.out.later hbb.out)
        have p0 := hB.out.c0
        have p1 := hB.out.c1
        have p2 := hB.out.c2
        by_cases hlj : j < v.m
        · have hlj' : (j : Int) < (v.m : Int) := by omega
          have cA := ref12_Ahead v f i j wr hB.out.f
          have hrs := rowPo_succ f.items i j
          cases ha : aheadF f.items i j with
          | false =>
            rw [ha] at cA
            rw [ha, if_neg (by simp)] at hrs
            replace cA := Lib.hid cA
            replace hrs := Lib.hid hrs
            clear ha hlj
            go_wp2_with fail
            refine cA.out.mono ?_; rintro e w3 ⟨rfl, b3⟩
            have hbb3 := Lib.hid (below_trans2 hbb.out b3)
            have kR3 := Lib.hid (kR.out.below_ b3)
            have hMV3 := Lib.hid (hMV.out.later b3)
            clear p0 p1 p2 b3 cA
            go_wp2_with fail
            exact ⟨⟨j + 1, A, c, by omega, by go_num, hbb3, kR3, Lib.hid (by rw [hrs.out]; exact hMV3.out), hAf⟩, by simp [intOf]; omega⟩
          | true =>
            rw [ha] at cA
            rw [ha, if_pos rfl] at hrs
            replace cA := Lib.hid cA
            replace hrs := Lib.hid hrs
            clear ha
            go_wp2_with fail
            refine cA.out.mono ?_; rintro e w3 ⟨rfl, b3⟩
            have hbb3 := Lib.hid (below_trans2 hbb.out b3)
            have kR3 := Lib.hid (kR.out.below_ b3)
            have hMV3 := Lib.hid (hMV.out.later b3)
            clear p0 p1 p2 b3 cA
            have cS := Lib.hid (ref3_SetF (v.m : Int) A v.m c _ (i : Int) (j : Int) w3 hMV3.out.rows rfl hm (poM_len hm _) (by unfold inM; simp; omega))
            have m0 := hMV3.out.loc.c0
            have m1 := hMV3.out.loc.c1
            go_wp2_with fail
            refine cS.out.mono ?_; rintro e w4 ⟨C2, n2, c2, rfl, hrows2, hcap2, b4, hfar2⟩
            have hn2 : n2 = v.m := by
              have h1 := hrows2.len
              rw [← foldP_last v.m (uptoPo f.items v.m i ++ rowPo f.items i j) ((i : Int), (j : Int))] at h1
              rw [← h1]; exact (DimM.fold v.m _).1
            subst hn2
            have hMV4 := Lib.hid (hMV3.out.put b4 hrows2 hcap2 hfar2)
            have hAf4 := Lib.hid (show ∀ ad, C2 = some ad → gr < ad.block from fun ad e => by have := hfar2 ad e; have := kR3.out.lt; omega)
            have kM := hMV3.out.loc.below_ b4
            have hbb4 := Lib.hid (((below_trans2 hbb3.out b4).setCell (p := ⟨M, 0, none⟩) (by show W0.heap.size ≤ M; omega) (.int .i64 (v.m : Int))).setCell (p := ⟨M, 1, none⟩) (by show W0.heap.size ≤ M; omega) (.slice C2 v.m c2))
            have kR4 := Lib.hid (((kR3.out.below_ b4).farB (p := ⟨M, 0, none⟩) (by show gr ≠ M; omega) (.int .i64 (v.m : Int))).farB (p := ⟨M, 1, none⟩) (by show gr ≠ M; omega) (.slice C2 v.m c2))
            clear m0 m1 cS hrows2 hfar2 b4 hlj
            have m0 := kM.c0
            have m1 := kM.c1
            have g0 := kM.frozen 0
            have g1 := kM.frozen 1
            clear kM
            go_wp2_with fail
            exact ⟨⟨j + 1, C2, c2, by omega, by go_num, hbb4, kR4, Lib.hid (by rw [hrs.out, ← List.append_assoc, foldP_last]; exact hMV4.out), hAf4⟩, by simp [intOf]; omega⟩
        · have hlj' : ¬ (j : Int) < (v.m : Int) := by omega
          have hjm : j = v.m := by omega
          have hus := uptoPo_succ f.items v.m i
          rw [hjm] at hMV
          clear hlj
          replace hus := Lib.hid hus
          replace hjm := Lib.hid hjm
          go_wp2_with fail
          exact ⟨⟨i + 1, A, c, by omega, by go_num, hbb, kR, Lib.hid (by rw [hus.out]; exact hMV.out), hAf⟩, by simp [intOf]; omega⟩
    · have hlt' : ¬ (i : Int) < (v.m : Int) := by omega
      have him : i = v.m := by omega
      rw [him] at hMV
      replace him := Lib.hid him
      have p1 := hB.out.c1
      have m0 := hMV.out.loc.c0
      have m1 := hMV.out.loc.c1
      have f0 := kR.out.c0
      have f1 := kR.out.c1
      have g0 := kR.out.frozen 0
      have g1 := kR.out.frozen 1
      have hcc := kR.out.two (.int .i64 (v.m : Int)) (.slice A v.m c)
      have hc1 := Lib.hid hcc.1
      have hc2 := Lib.hid hcc.2
      have hrf := Lib.hid (show RowsAt ((wr.setCell ⟨gr, 0, none⟩ (.int .i64 (v.m : Int))).setCell ⟨gr, 1, none⟩ (.slice A v.m c)) A v.m (foldP v.m (uptoPo f.items v.m v.m)) from hMV.out.rows.putB kR.out (fun h0 ad e hb => by have := hAf.out ad e; omega) _ _)
      have hbf := Lib.hid (((below_trans2 hB0.out.o hbb.out).setCell (p := ⟨gr, 0, none⟩) (by have := hB0.out.o.size; show w.heap.size ≤ gr; omega) (.int .i64 (v.m : Int))).setCell (p := ⟨gr, 1, none⟩) (by have := hB0.out.o.size; show w.heap.size ≤ gr; omega) (.slice A v.m c))
      clear hcc hlt
      go_wp2_with fail
      exact bodyPost_ret (v := .agg #[.int .i64 (v.m : Int), .slice A v.m c]) (by simp [results, Tryz.results51, go_sem, hc1.out, hc2.out]) rfl ⟨A, v.m, c, rfl, hrf.out, hMV.out.cap, hbf.out, fun ad e => by have := hAf.out ad e; have := hB0.out.o.size; omega⟩
end Go.Proofs.YtbeigdbljepfkaaGreat

namespace Go.Proofs.YtbeigdbljepfkaaGreat
open Go.RowKit
set_option linter.unusedVariables false

set_option maxHeartbeats 400000 in
theorem hull_place (m : Nat) (hm : m ≤ 1073741824) (w : World) :
    Calls Tryz.prog 84 #[.int .i64 (m : Int)] w fun e w' => e = .returned (.tuple #[.int .i64 ((m / 64 : Nat) : Int), .int .u64 ((p2 (m % 64) : Nat) : Int)]) ∧ w = w' := by
  have hA := Lib.hid (i64_and_63 m (by omega))
  have hB := Lib.hid (word_BitN (m % 64) (by omega) w)
  go_enter Tryz.func84, Tryz.ntmps84
  go_wp2_with fail
  rw [hA.out]
  refine hB.out.mono ?_; rintro e w' ⟨rfl, rfl⟩
  go_wp2_with fail
  exact bodyPost_ret (v := .tuple #[.int .i64 ((m / 64 : Nat) : Int), .int .u64 ((p2 (m % 64) : Nat) : Int)]) (by simp [results, Tryz.results84, go_sem]) rfl ⟨rfl, rfl⟩
theorem below_u64 (i n : Int) (h1 : -9223372036854775808 ≤ i) (h2 : i < 9223372036854775808) (h0 : 0 ≤ n) (hn : n ≤ 4611686018427387904) : decide (IntKind.u64.wrap i < n) = belowZ i n := by
  by_cases h : 0 ≤ i
  · have e1 : IntKind.u64.wrap i = i := by rw [IntKind.wrap_u64]; omega
    rw [e1]
    unfold belowZ
    rw [decide_eq_true h, Bool.true_and]
  · rw [belowZ_no (.inl (by omega))]
    refine decide_eq_false ?_
    rw [IntKind.wrap_u64]; omega
set_option maxHeartbeats 400000 in
theorem hull_below (i n : Int) (h1 : -9223372036854775808 ≤ i) (h2 : i < 9223372036854775808) (h0 : 0 ≤ n) (hn : n ≤ 4611686018427387904) (w : World) :
    Calls Tryz.prog 83 #[.int .i64 i, .int .i64 n] w fun e w' => e = .returned (.bool (belowZ i n)) ∧ w = w' := by
  have H := Lib.hid (below_u64 i n h1 h2 h0 hn)
  go_enter Tryz.func83, Tryz.ntmps83
  go_wp2
  go_ret
  rw [← H.out]; exact ⟨rfl, rfl⟩

end Go.Proofs.YtbeigdbljepfkaaGreat

namespace Go.Proofs.YtbeigdbljepfkaaGreat
open Go.RowKit
set_option linter.unusedVariables false

theorem ref3_HasG (A : Option Addr) (n c : Nat) (a : List (List Nat)) (hG : Good n a) (i j : Int) (w : World) (hr : RowsAt w A n a) :
    Calls Tryz.prog 25 #[.agg #[.int .i64 (n : Int), .slice A n c], .int .i64 i, .int .i64 j] w (RetB (hasM a i j) w) := by
  have h := ref3_Has A n c a i j w hr hG.le (fun k xs hx => by have := hG.small xs (List.mem_of_getElem? hx); omega)
  rwa [hG.in_has] at h
set_option maxRecDepth 100000 in
set_option maxHeartbeats 2000000 in
theorem ref4_Closed (A : Option Addr) (n c : Nat) (a : List (List Nat)) (w : World) (hr : RowsAt w A n a) (hG : Good n a) :
    Calls Tryz.prog 17 #[.agg #[.int .i64 (n : Int), .slice A n c]] w (RetB (closedB a) w) := by
  obtain ⟨W0, hW0⟩ : ∃ W0, W0 = w.alloc (.cells #[.int .i64 n, .slice A n c] 34) := ⟨_, rfl⟩
  have ha : Below w.heap.size w W0 := by rw [hW0]; exact below_alloc _ _
  have hB : MatB W0 w.heap.size 34 n A n c := by rw [hW0]; exact MatB.new w _
  have l0 := hB.c0
  have l1 := hB.c1
  have hnn : n ≤ 4096 := hG.le
  have hr' := Lib.hid (hr.below ha)
  have hH := Lib.hid (fun (i j : Nat) W (hW : RowsAt W A n a) => ref3_HasG A n c a hG (i : Int) (j : Int) W hW)
  have hyes : Hid ((∀ i, i < n → ∀ j, j < n → ∀ k, k < n → Rel a i j → Rel a j k → Rel a i k) → closedB a = true) := Lib.hid (fun h => (closedB_iff hG).2 (fun i j k h1 h2 => h i (hG.has_lt h1).1 j (hG.has_lt h1).2 k (hG.has_lt h2).2 h1 h2))
  have hno : Hid (∀ i j k : Nat, hasM a (i : Int) (j : Int) = true → hasM a (j : Int) (k : Int) = true → hasM a (i : Int) (k : Int) = false → closedB a = false) := Lib.hid (fun i j k h1 h2 h3 => by
    cases hc : closedB a with
    | false => rfl
    | true =>
      have := (closedB_iff hG).1 hc i j k h1 h2
      unfold Rel at this
      rw [h3] at this; cases this)
  replace ha := Lib.hid ha
  replace hB := Lib.hid hB
  clear hr hG
  go_enter Tryz.func17, Tryz.ntmps17
  go_wp2_with fail
  rw [← hW0]
  clear hW0
  go_wp2_with fail
  clear l0 l1
  go_loopw [3] (fun i wr => ∃ i0 : Nat, i0 ≤ n ∧ i = .int .i64 i0 ∧ Hid (∀ i, i < i0 → ∀ j, j < n → ∀ k, k < n → Rel a i j → Rel a j k → Rel a i k) ∧ Hid (Below W0.heap.size W0 wr)) (fun i _ => n - (intOf i).toNat)
  case atStart => exact ⟨0, Nat.zero_le _, rfl, Lib.hid (fun i hi => absurd hi (by omega)), Lib.hid (Below.refl _ _)⟩
  case round =>
    obtain ⟨i, hi, rfl, halli, hbr⟩ := hrel
    have l0 := (hB.out.below_ hbr.out).c0
    have l1 := (hB.out.below_ hbr.out).c1
    by_cases hlt : i < n
    · go_wp2_with fail
      clear l0 l1
      go_loopw [4] (fun t wr => ∃ j0 : Nat, j0 ≤ n ∧ t = .int .i64 j0 ∧ Hid (∀ j, j < j0 → ∀ k, k < n → Rel a i j → Rel a j k → Rel a i k) ∧ Hid (Below W0.heap.size W0 wr)) (fun t _ => n - (intOf t).toNat)
      case atStart => exact ⟨0, Nat.zero_le _, rfl, Lib.hid (fun j hj => absurd hj (by omega)), hbr⟩
      case round =>
        clear hbr
        obtain ⟨j, hj, rfl, hallj, hbr⟩ := hrel
        have l0 := (hB.out.below_ hbr.out).c0
        have l1 := (hB.out.below_ hbr.out).c1
        by_cases hltj : j < n
        · go_wp2_with fail
          clear l0 l1
          go_loopw [5] (fun t wr => ∃ k0 : Nat, k0 ≤ n ∧ t = .int .i64 k0 ∧ Hid (∀ k, k < k0 → Rel a i j → Rel a j k → Rel a i k) ∧ Hid (Below W0.heap.size W0 wr)) (fun t _ => n - (intOf t).toNat)
          case atStart => exact ⟨0, Nat.zero_le _, rfl, Lib.hid (fun k hk => absurd hk (by omega)), hbr⟩
          case round =>
            clear hbr
            obtain ⟨k, hk, rfl, hallk, hbr⟩ := hrel
            have l0 := (hB.out.below_ hbr.out).c0
            have l1 := (hB.out.below_ hbr.out).c1
            have hnextj : Hid ((∀ k, k < n → Rel a i j → Rel a j k → Rel a i k) → ∀ j', j' < j + 1 → ∀ k, k < n → Rel a i j' → Rel a j' k → Rel a i k) := Lib.hid (fun h j' hj' => by
              rcases Nat.lt_succ_iff_lt_or_eq.1 hj' with h1 | h1
              · exact hallj.out j' h1
              · subst h1; exact h)
            by_cases hltk : k < n
            · have hHij := Lib.hid (hH.out i j wr (hr'.out.below hbr.out))
              cases h1 : hasM a (i : Int) (j : Int) with
              | false =>
                have hres := Lib.hid (hnextj.out (fun k hk h => by unfold Rel at h; rw [h1] at h; cases h))
                go_wp2_with fail
                refine hHij.out.mono ?_; rintro e w1 ⟨rfl, hb1⟩
                rw [h1]
                have hb01 := Lib.hid (below_trans2 hbr.out hb1)
                clear hb1 hHij h1 hnextj
                go_wp2_with fail
                go_roundw
                case rel => exact ⟨j + 1, by omega, by go_num, hres, hb01⟩
                case measure => simp [intOf]; omega
              | true =>
                go_wp2_with fail
                refine hHij.out.mono ?_; rintro e w1 ⟨rfl, hb1⟩
                rw [h1]
                have hb01 := Lib.hid (below_trans2 hbr.out hb1)
                have l0 := (hB.out.below_ hb01.out).c0
                have l1 := (hB.out.below_ hb01.out).c1
                have hHjk := Lib.hid (hH.out j k w1 (hr'.out.below hb01.out))
                clear hb1 hHij hbr
                cases h2 : hasM a (j : Int) (k : Int) with
                | false =>
                  have hres : Hid (∀ k', k' < k + 1 → Rel a i j → Rel a j k' → Rel a i k') := Lib.hid (fun k' hk' h3 h4 => by
                    rcases Nat.lt_succ_iff_lt_or_eq.1 hk' with h5 | h5
                    · exact hallk.out k' h5 h3 h4
                    · subst h5
                      unfold Rel at h4
                      rw [h2] at h4; cases h4)
                  replace h1 := Lib.hid h1
                  go_wp2_with fail
                  refine hHjk.out.mono ?_; rintro e w2 ⟨rfl, hb2⟩
                  rw [h2]
                  have hb02 := Lib.hid (below_trans2 hb01.out hb2)
                  clear hb2 hHjk h2
                  go_wp2_with fail
                  go_roundw
                  case rel => exact ⟨k + 1, by omega, by go_num, hres, hb02⟩
                  case measure => simp [intOf]; omega
                | true =>
                  go_wp2_with fail
                  refine hHjk.out.mono ?_; rintro e w2 ⟨rfl, hb2⟩
                  rw [h2]
                  have hb02 := Lib.hid (below_trans2 hb01.out hb2)
                  have l0 := (hB.out.below_ hb02.out).c0
                  have l1 := (hB.out.below_ hb02.out).c1
                  have hHik := Lib.hid (hH.out i k w2 (hr'.out.below hb02.out))
                  clear hb2 hHjk hb01
                  cases h3 : hasM a (i : Int) (k : Int) with
                  | false =>
                    have hres := Lib.hid (hno.out i j k h1 h2 h3)
                    go_wp2_with fail
                    refine hHik.out.mono ?_; rintro e w3 ⟨rfl, hb3⟩
                    rw [h3]
                    have hb03 := Lib.hid (below_trans2 ha.out (below_trans2 hb02.out hb3))
                    clear hb3 hHik h3 h2 h1
                    go_wp2_with fail
                    go_ret
                    rw [hres.out]; exact ⟨rfl, hb03.out⟩
                  | true =>
                    have hres : Hid (∀ k', k' < k + 1 → Rel a i j → Rel a j k' → Rel a i k') := Lib.hid (fun k' hk' h4 h5 => by
                      rcases Nat.lt_succ_iff_lt_or_eq.1 hk' with h6 | h6
                      · exact hallk.out k' h6 h4 h5
                      · subst h6; exact h3)
                    go_wp2_with fail
                    refine hHik.out.mono ?_; rintro e w3 ⟨rfl, hb3⟩
                    rw [h3]
                    have hb03 := Lib.hid (below_trans2 hb02.out hb3)
                    clear hb3 hHik h3 h2 h1
                    go_wp2_with fail
                    go_roundw
                    case rel => exact ⟨k + 1, by omega, by go_num, hres, hb03⟩
                    case measure => simp [intOf]; omega
            · have hres := Lib.hid (hnextj.out (fun k' hk' => hallk.out k' (by omega)))
              clear hnextj
              go_wp2_with fail
              go_roundw
              case rel => exact ⟨j + 1, by omega, by go_num, hres, hbr⟩
              case measure => simp [intOf]; omega
        · have hres : Hid (∀ i', i' < i + 1 → ∀ j, j < n → ∀ k, k < n → Rel a i' j → Rel a j k → Rel a i' k) := Lib.hid (fun i' hi' j' hj' => by
            rcases Nat.lt_succ_iff_lt_or_eq.1 hi' with h1 | h1
            · exact halli.out i' h1 j' hj'
            · subst h1; exact hallj.out j' (by omega))
          go_wp2_with fail
          go_roundw
          case rel => exact ⟨i + 1, by omega, by go_num, hres, hbr⟩
          case measure => simp [intOf]; omega
    · have hres := Lib.hid (hyes.out (fun i' hi' => halli.out i' (by omega)))
      go_wp2_with fail
      go_ret
      rw [hres.out]; exact ⟨rfl, below_trans2 ha.out hbr.out⟩

end Go.Proofs.YtbeigdbljepfkaaGreat

namespace Go.Proofs.YtbeigdbljepfkaaGreat
open Go.RowKit
set_option linter.unusedVariables false
theorem info_int16 : (Tryz.prog.info? 3).map (fun i => (i.zero, i.size, i.bytes)) = some (some (.int .i64 0), 1, 8) := by kernel_rfl
set_option maxRecDepth 100000 in
set_option maxHeartbeats 2000000 in
theorem ref16_With (A : Option Addr) (n c : Nat) (a : List (List Nat)) (o : Int) (w : World) (hr : RowsAt w A n a) (hG : Good n a) :
    Calls Tryz.prog 14 #[.agg #[.int .i64 (n : Int), .slice A n c], .int .i64 o] w (RetIL (wihO a o n) w) := by
  have hnn := hG.le
  obtain ⟨i0, hi, hz0, hz1, hz2⟩ := info_parts info_int16
  replace hi := Lib.hid hi
  replace hz0 := Lib.hid hz0
  replace hz1 := Lib.hid hz1
  replace hz2 := Lib.hid hz2
  -- a call with the matrix (A n c a): it is boxed at g, the world is W0 then
  have hM0 := Lib.hid (MatK.new (N := (n : Int)) (c := c) w 34 hr)
  obtain ⟨g, hg⟩ : ∃ g, g = w.heap.size := ⟨_, rfl⟩
  obtain ⟨W0, hW0⟩ : ∃ W, W = w.alloc (.cells #[.int .i64 (n : Int), .slice A n c] 34) := ⟨_, rfl⟩
  rw [← hW0, ← hg] at hM0
  have hbo := Lib.hid (show Below w.heap.size w W0 from by rw [hW0]; exact below_alloc _ _)
  by_cases hin : 0 ≤ o ∧ o < (n : Int)
  · obtain ⟨h0, h1⟩ := hin
    have hwo : Hid (wihO a o n = wihF a o n) := Lib.hid (if_pos ⟨h0, h1⟩)
    have d2 : decide (0 ≤ o) = true := decide_eq_true h0
    have d3 : decide (o < (n : Int)) = true := decide_eq_true h1
    go_enter Tryz.func14, Tryz.ntmps14
    go_wp2_with (rw [← hW0, ← hg]; clear hW0 hg)
    go_loopw [5, 6] (fun u t wr => ∃ k : Nat, k ≤ n ∧ t = .int .i64 k ∧ Hid (Below W0.heap.size W0 wr) ∧ Hid (wr.ownsRow W0.heap.size 3 1 u (wihF a o k).length (encI.all (wihF a o k)))) (fun _ t _ => n - (intOf t).toNat)
    case atStart => exact ⟨0, Nat.zero_le _, rfl, Lib.hid (Below.refl _ _), Lib.hid (World.ownsRow_nil _ _ _ _)⟩
    case round =>
      obtain ⟨k, hk, rfl, hb, hown⟩ := hrel
      have hM := Lib.hid (hM0.out.below hb.out)
      have m0 := hM.out.1.c0
      have m1 := hM.out.1.c1
      have hrl := wihF_len a o k
      have hrs := wihF_succ a o k
      obtain ⟨L, hL⟩ : ∃ L, L = (wihF a o k).length := ⟨_, rfl⟩
      rw [← hL] at hown hrl
      replace hL := Lib.hid hL
      by_cases hlt : k < n
      · have hlt' : (k : Int) < (n : Int) := by omega
        have d1 : decide ((k : Int) < (n : Int)) = true := decide_eq_true hlt'
        by_cases hko : (k : Int) = o
        · rw [if_pos (by simp [hko])] at hrs
          have e0 : ((k : Int) == o) = true := by simp [hko]
          replace hrs := Lib.hid hrs
          replace hko := Lib.hid hko
          clear hlt
          -- 'append(out, (k : Int))' (temps 32 34) in the world wr: hown : the row (wihF a o k) of length L (hL), hb : Below W0 .. wr; behind it: hown', hb7
          obtain ⟨gl, hgl⟩ : ∃ g, g = (wr).heap.size := ⟨_, rfl⟩
          obtain ⟨VL, hVL⟩ : ∃ W, W = World.alloc (wr) (.cells #[.int .i64 (k : Int)] 3) := ⟨_, rfl⟩
          have bL : Below (wr).heap.size (wr) VL := by rw [hVL]; exact (Below.refl _ _).alloc (Nat.le_refl _) _
          have hlit := Lib.hid (show LAt encI VL (some ⟨gl, 0, none⟩) 1 [(k : Int)] from by rw [hVL, hgl]; exact LAt.lit1 (E := encI) (wr) 3 (k : Int) ⟨by omega, by omega⟩)
          have hownL := Lib.hid (own_below hown.out bL)
          have bWL := Lib.hid (below_trans2 hb.out bL)
          have hbase := Lib.hid bWL.out.size
          clear bL
          go_wp2_with (first
            | (rw [← hVL, ← hgl]; clear hVL hgl)
            | (at_builtin; refine wpList_append_L (E := encI) rfl (.tmp 32) (.tmp 34) _ rfl W0.heap.size 3 i0 _ 8 Tryz.underlying27 hi.out hz0.out hz1.out hz2.out rfl _ L (wihF a o k) (by rfl) hownL.out _ 1 1 _ rfl hlit.out (by unfold maxLen; omega) (by omega) hbase.out ?_; intro v' w7 hown' hb7 _ _))
          exact ⟨⟨k + 1, by omega, by go_num, Lib.hid (bWL.out.trans hb7), Lib.hid (by rw [hrs.out, List.length_append, ← hL.out]; exact hown')⟩, by simp [intOf]; omega⟩
        · have e0 : ((k : Int) == o) = false := by simpa using hko
          rw [decide_eq_false hko, Bool.false_or] at hrs
          have cH := ref3_HasG A n c a hG (k : Int) o wr hM.out.2
          replace hko := Lib.hid hko
          cases ha : hasM a (k : Int) o with
          | true =>
            rw [ha] at cH
            rw [if_pos ha] at hrs
            replace hrs := Lib.hid hrs
            replace cH := Lib.hid cH
            clear hlt ha
            go_wp2_with fail
            refine cH.out.mono ?_; rintro e w3 ⟨rfl, b3⟩
            have hown3 := Lib.hid (own_below hown.out b3)
            have hb3 := Lib.hid (below_trans2 hb.out b3)
            clear b3 cH m0 m1
            -- 'append(out, (k : Int))' (temps 32 34) in the world w3: hown : the row (wihF a o k) of length L (hL), hb : Below W0 .. w3; behind it: hown', hb7
            obtain ⟨gl, hgl⟩ : ∃ g, g = (w3).heap.size := ⟨_, rfl⟩
            obtain ⟨VL, hVL⟩ : ∃ W, W = World.alloc (w3) (.cells #[.int .i64 (k : Int)] 3) := ⟨_, rfl⟩
            have bL : Below (w3).heap.size (w3) VL := by rw [hVL]; exact (Below.refl _ _).alloc (Nat.le_refl _) _
            have hlit := Lib.hid (show LAt encI VL (some ⟨gl, 0, none⟩) 1 [(k : Int)] from by rw [hVL, hgl]; exact LAt.lit1 (E := encI) (w3) 3 (k : Int) ⟨by omega, by omega⟩)
            have hownL := Lib.hid (own_below hown3.out bL)
            have bWL := Lib.hid (below_trans2 hb3.out bL)
            have hbase := Lib.hid bWL.out.size
            clear bL
            go_wp2_with (first
              | (rw [← hVL, ← hgl]; clear hVL hgl)
              | (at_builtin; refine wpList_append_L (E := encI) rfl (.tmp 32) (.tmp 34) _ rfl W0.heap.size 3 i0 _ 8 Tryz.underlying27 hi.out hz0.out hz1.out hz2.out rfl _ L (wihF a o k) (by rfl) hownL.out _ 1 1 _ rfl hlit.out (by unfold maxLen; omega) (by omega) hbase.out ?_; intro v' w7 hown' hb7 _ _))
            exact ⟨⟨k + 1, by omega, by go_num, Lib.hid (bWL.out.trans hb7), Lib.hid (by rw [hrs.out, List.length_append, ← hL.out]; exact hown')⟩, by simp [intOf]; omega⟩
          | false =>
            rw [ha] at cH
            rw [if_neg (by simp [ha])] at hrs
            replace hrs := Lib.hid hrs
            replace cH := Lib.hid cH
            clear hlt ha
            go_wp2_with fail
            refine cH.out.mono ?_; rintro e w3 ⟨rfl, b3⟩
            have hown3 := Lib.hid (own_below hown.out b3)
            have hb3 := Lib.hid (below_trans2 hb.out b3)
            clear b3 cH m0 m1
            go_wp2_with fail
            exact ⟨⟨k + 1, by omega, by go_num, hb3, Lib.hid (by rw [hrs.out, ← hL.out]; exact hown3.out)⟩, by simp [intOf]; omega⟩
      · have hlt' : ¬ (k : Int) < (n : Int) := by omega
        have d1 : decide ((k : Int) < (n : Int)) = false := decide_eq_false hlt'
        obtain rfl : k = n := by omega
        obtain ⟨A2, c2, rfl, hnc, hcm, hLA⟩ := LAt.of_own hown.out (fun z hz => by
          have := wihF_ok a o k z hz
          exact ⟨by omega, by omega⟩) hL.out.symm
        clear hlt
        go_wp2_with fail
        go_ret
        exact ⟨A2, L, c2, rfl, by rw [hwo.out]; exact hLA, hnc, hcm, below_trans2 hbo.out hb.out⟩
  · have hwo : Hid (wihO a o n = []) := Lib.hid (if_neg hin)
    have hM := hM0
    have m0 := hM0.out.1.c0
    rcases Nat.eq_zero_or_pos n with hn0 | hn0
    · have d1 : decide (0 < n) = false := decide_eq_false (by omega)
      have d1' : decide ((0 : Int) < (n : Int)) = false := decide_eq_false (by omega)
      replace hn0 := Lib.hid hn0
      go_enter Tryz.func14, Tryz.ntmps14
      go_wp2_with (rw [← hW0, ← hg]; clear hW0 hg)
      go_loopw [5, 6] (fun u t wr => u = .slice none 0 0 ∧ t = .int .i64 0 ∧ wr = W0) (fun _ _ _ => 0)
      case atStart => exact ⟨rfl, rfl, rfl⟩
      case round =>
        obtain ⟨rfl, rfl, rfl⟩ := hrel
        go_wp2_with fail
        go_ret
        exact ⟨none, 0, 0, rfl, by rw [hwo.out]; exact LAt.nil _ _ _, Nat.le_refl _, by omega, hbo.out⟩
    · have d1 : decide (0 < n) = true := decide_eq_true hn0
      have d1' : decide ((0 : Int) < (n : Int)) = true := decide_eq_true (by omega)
      by_cases h0 : 0 ≤ o
      · have h1 : ¬ o < (n : Int) := by omega
        have d2 : decide (0 ≤ o) = true := decide_eq_true h0
        have d3 : decide (o < (n : Int)) = false := decide_eq_false h1
        go_enter Tryz.func14, Tryz.ntmps14
        go_wp2_with (rw [← hW0, ← hg]; clear hW0 hg)
        go_loopw [5, 6] (fun u t wr => u = .slice none 0 0 ∧ t = .int .i64 0 ∧ wr = W0) (fun _ _ _ => 0)
        case atStart => exact ⟨rfl, rfl, rfl⟩
        case round =>
          obtain ⟨rfl, rfl, rfl⟩ := hrel
          go_wp2_with fail
          go_ret
          exact ⟨none, 0, 0, rfl, by rw [hwo.out]; exact LAt.nil _ _ _, Nat.le_refl _, by omega, hbo.out⟩
      · have d2 : decide (0 ≤ o) = false := decide_eq_false h0
        go_enter Tryz.func14, Tryz.ntmps14
        go_wp2_with (rw [← hW0, ← hg]; clear hW0 hg)
        go_loopw [5, 6] (fun u t wr => u = .slice none 0 0 ∧ t = .int .i64 0 ∧ wr = W0) (fun _ _ _ => 0)
        case atStart => exact ⟨rfl, rfl, rfl⟩
        case round =>
          obtain ⟨rfl, rfl, rfl⟩ := hrel
          go_wp2_with fail
          go_ret
          exact ⟨none, 0, 0, rfl, by rw [hwo.out]; exact LAt.nil _ _ _, Nat.le_refl _, by omega, hbo.out⟩
/-- a list in a block of the call's own -/
def RetILF (xs : List Int) (w : World) (e : Ending) (w' : World) : Prop := ∃ A n c, e = .returned (.slice A n c) ∧ LAt encI w' A n xs ∧ n ≤ c ∧ c ≤ 9223372036854775807 ∧ Below w.heap.size w w' ∧ ∀ ad, A = some ad → w.heap.size ≤ ad.block
set_option maxRecDepth 100000 in
set_option maxHeartbeats 2000000 in
theorem ref16_KeptF (v : FV) (f : Fac) (o : Int) (w : World) (hF : FactsAt w v f) (hvm : v.m ≤ 1048576) :
    Calls Tryz.prog 18 #[.agg #[.slice v.A v.n v.c, .slice v.B v.m v.d, .slice v.C v.k v.e], .int .i64 o] w (RetILF (keptF f.items (pastF f.items o f.items.length)) w) := by
  have hil := hF.is.len
  obtain ⟨i0, hi, hz0, hz1, hz2⟩ := info_parts info_int16
  replace hi := Lib.hid hi
  replace hz0 := Lib.hid hz0
  replace hz1 := Lib.hid hz1
  replace hz2 := Lib.hid hz2
  -- a call with facts v: they are boxed at g, the world is W0 then
  have hB0 := Lib.hid (FBox.new hF)
  obtain ⟨g, hg⟩ : ∃ g, g = w.heap.size := ⟨_, rfl⟩
  obtain ⟨W0, hW0⟩ : ∃ W, W = w.alloc (.cells #[.slice v.A v.n v.c, .slice v.B v.m v.d, .slice v.C v.k v.e] 29) := ⟨_, rfl⟩
  rw [← hW0, ← hg] at hB0
  clear hF
  obtain ⟨l, hl⟩ : ∃ l, l = pastF f.items o f.items.length := ⟨_, rfl⟩
  have cP := ref12_Past v f o W0 hB0.out.f hvm
  rw [← hl] at cP ⊢
  have hlr : Hid (∀ z ∈ l, 0 ≤ z ∧ z < (v.m : Int)) := Lib.hid (by rw [hl, ← hil]; exact pastF_ok _ _ _)
  have hlm : l.length ≤ v.m := by rw [hl, ← hil]; exact pastF_len _ _ _
  replace cP := Lib.hid cP
  replace hil := Lib.hid hil
  clear hl
  have p0 := hB0.out.c0
  have p1 := hB0.out.c1
  have p2 := hB0.out.c2
  go_enter Tryz.func18, Tryz.ntmps18
  go_wp2_with (rw [← hW0, ← hg]; clear hW0 hg)
  refine cP.out.mono ?_; rintro e w1 ⟨D, m, d, rfl, hL, hmd, hdm, b1⟩
  have hml : m ≤ v.m := by rw [← hL.len]; exact hlm
  have hB1 := Lib.hid (hB0.out.later b1)
  replace hL := Lib.hid hL
  clear b1 cP hlm p0 p1 p2
  go_wp2_with fail
  go_loopw [5, 7] (fun u t wr => ∃ k : Nat, k ≤ m ∧ t = .int .i64 k ∧ Hid (Below w1.heap.size w1 wr) ∧ Hid (wr.ownsRow w1.heap.size 3 1 u (keptF f.items (l.take k)).length (encI.all (keptF f.items (l.take k))))) (fun _ t _ => m - (intOf t).toNat)
  case atStart => exact ⟨0, Nat.zero_le _, rfl, Lib.hid (Below.refl _ _), Lib.hid (World.ownsRow_nil _ _ _ _)⟩
  case round =>
    obtain ⟨k, hk, rfl, hb, hown⟩ := hrel
    obtain ⟨W0, hW0⟩ : ∃ W0, W0 = w1 := ⟨_, rfl⟩
    rw [← hW0] at hb hown
    have hB := Lib.hid (hB1.out.later (by rw [← hW0]; exact hb.out))
    have hLr := hL.out.below (by rw [← hW0]; exact hb.out)
    replace hW0 := Lib.hid hW0
    have p0 := hB.out.c0
    have p1 := hB.out.c1
    have p2 := hB.out.c2
    have hrl : (keptF f.items (l.take k)).length ≤ k := Nat.le_trans (List.length_filter_le _ _) (List.length_take_le _ _)
    obtain ⟨L, hLl⟩ : ∃ L, L = (keptF f.items (l.take k)).length := ⟨_, rfl⟩
    rw [← hLl] at hown hrl
    replace hLl := Lib.hid hLl
    by_cases hlt : k < m
    · have hlt' : (k : Int) < (m : Int) := by omega
      have k0 : 0 ≤ (k : Int) ∧ (k : Int) < (m : Int) := ⟨by omega, hlt'⟩
      obtain ⟨lb, lo, z, rfl, hlb, hz, ⟨z0, z1⟩, j0⟩ := hLr.int hlt
      have hrs : keptF f.items (l.take (k + 1)) = if rdOK f.items z = true then keptF f.items (l.take k) ++ [z] else keptF f.items (l.take k) := filter_take hz
      have hzb := hlr.out z (List.mem_of_getElem? hz)
      obtain ⟨ib, io, it, hxB, hib, hq, -, i0, i1, i2, i3, i4⟩ := hB.out.f.is.item (show z.toNat < v.m by omega)
      rw [hxB] at p1
      rw [rdOK_at hq] at hrs
      obtain ⟨s1, t1, w1', a1, l1⟩ := it
      simp only at i2 hrs
      clear i0 i1 i3 i4 hxB hq hib hz hlb
      go_wp2_with fail
      refine wp_region_plan 10 [(true, 0), (true, 1), (true, 2), (true, 3), (true, 4), (true, 5), (true, 6), (true, 7), (true, 8), (true, 9)] (by kernel_rfl) (by kernel_rfl) (fun Wq hWq => ?_)
      have hown3 := Lib.hid (show Wq.ownsRow W0.heap.size 3 1 _ L (encI.all (keptF f.items (l.take k))) from by rw [hWq.out]; exact hown.out.drew)
      have hb3 := Lib.hid (show Below W0.heap.size W0 Wq from by rw [hWq.out]; exact hb.out.drew)
      have j0' : Wq.cell? ⟨lb, lo + k, none⟩ = some (.int .i64 z) := by rw [hWq.out]; exact j0
      have q1 : Wq.cell? ⟨g, 1, none⟩ = some (.slice (some ⟨ib, io, none⟩) v.m v.d) := by rw [hWq.out]; exact p1
      have q2 : Wq.cell? ⟨ib, io + z.toNat * 5 + 2, none⟩ = some (.bool w1') := by rw [hWq.out]; exact i2
      clear hWq j0 p0 p1 p2 i2
      simp only [List.drop_succ_cons, List.drop_nil]
      iterate 10
        refine wpPlan_float (v := ?_) rfl (by rfl) (fun w' hw' => ?_) (fun K hK => ?_)
        rotate_left
        · (go_simp; try with_reducible rfl)
        go_simp
        refine hK _ ?_
        clear hK K
      refine wpPlan_nil (NoPanic.normal ?_)
      cases w1' with
      | true =>
        rw [if_neg (by simp)] at hrs
        replace hrs := Lib.hid hrs
        replace hlt := Lib.hid hlt
        go_wp2_with fail
        exact ⟨⟨k + 1, by omega, by go_num, Lib.hid (by have := hb3.out; rw [hW0.out] at this; exact this), Lib.hid (by rw [hrs.out, ← hLl.out, ← hW0.out]; exact hown3.out)⟩, by simp [intOf]; omega⟩
      | false =>
        rw [if_pos (by simp)] at hrs
        replace hrs := Lib.hid hrs
        replace hlt := Lib.hid hlt
        -- 'append(out, z)' (temps 27 32) in the world Wq: hown : the row (keptF f.items (l.take k)) of length L (hL), hb : Below W0 .. Wq; behind it: hown', hb7
        obtain ⟨gl, hgl⟩ : ∃ g, g = (Wq).heap.size := ⟨_, rfl⟩
        obtain ⟨VL, hVL⟩ : ∃ W, W = World.alloc (Wq) (.cells #[.int .i64 z] 3) := ⟨_, rfl⟩
        have bL : Below (Wq).heap.size (Wq) VL := by rw [hVL]; exact (Below.refl _ _).alloc (Nat.le_refl _) _
        have hlit := Lib.hid (show LAt encI VL (some ⟨gl, 0, none⟩) 1 [z] from by rw [hVL, hgl]; exact LAt.lit1 (E := encI) (Wq) 3 z ⟨by omega, by omega⟩)
        have hownL := Lib.hid (own_below hown3.out bL)
        have bWL := Lib.hid (below_trans2 hb3.out bL)
        have hbase := Lib.hid bWL.out.size
        clear bL
        go_wp2_with (first
          | (rw [← hVL, ← hgl]; clear hVL hgl)
          | (at_builtin; refine wpList_append_L (E := encI) rfl (.tmp 27) (.tmp 32) _ rfl W0.heap.size 3 i0 _ 8 Tryz.underlying27 hi.out hz0.out hz1.out hz2.out rfl _ L (keptF f.items (l.take k)) (by rfl) hownL.out _ 1 1 _ rfl hlit.out (by unfold maxLen; omega) (by omega) hbase.out ?_; intro v' w7 hown' hb7 _ _))
        exact ⟨⟨k + 1, by omega, by go_num, Lib.hid (by have := bWL.out.trans hb7; rw [hW0.out] at this; exact this), Lib.hid (by rw [hrs.out, List.length_append, ← hLl.out, ← hW0.out]; exact hown')⟩, by simp [intOf]; omega⟩
    · have hlt' : ¬ (k : Int) < (m : Int) := by omega
      obtain rfl : k = m := by omega
      have hta : l.take k = l := List.take_of_length_le (by rw [hL.out.len]; omega)
      rw [hta] at hown hLl
      have hfr := Lib.hid (own_lt_block hown.out)
      obtain ⟨A2, c2, rfl, hnc, hcm, hLA⟩ := LAt.of_own hown.out (fun z hz => hL.out.okAll z (List.mem_filter.1 hz).1) hLl.out.symm
      clear hlt hta hLr
      go_wp2_with fail
      go_ret
      exact ⟨A2, L, c2, rfl, hLA, hnc, hcm, hB.out.o, fun ad e => by subst e; have h1 := hfr.out _ rfl; have h2 := hB1.out.o.size; rw [hW0.out] at h1; exact Nat.le_trans h2 h1⟩
theorem ref16_Kept (v : FV) (f : Fac) (o : Int) (w : World) (hF : FactsAt w v f) (hvm : v.m ≤ 1048576) :
    Calls Tryz.prog 18 #[.agg #[.slice v.A v.n v.c, .slice v.B v.m v.d, .slice v.C v.k v.e], .int .i64 o] w (RetIL (keptF f.items (pastF f.items o f.items.length)) w) :=
  (ref16_KeptF v f o w hF hvm).mono fun _ _ ⟨A', n', c', h1, h2, h3, h4, h5, _⟩ => ⟨A', n', c', h1, h2, h3, h4, h5⟩
end Go.Proofs.YtbeigdbljepfkaaGreat

namespace Go.Proofs.YtbeigdbljepfkaaGreat
open Go.RowKit
set_option linter.unusedVariables false
theorem info_edge : (Tryz.prog.info? 55).map (fun i => (i.zero, i.size, i.bytes)) = some (some (.agg #[.int .i64 0, .int .i64 0, .int .i64 0]), 3, 24) := by kernel_rfl
end Go.Proofs.YtbeigdbljepfkaaGreat
