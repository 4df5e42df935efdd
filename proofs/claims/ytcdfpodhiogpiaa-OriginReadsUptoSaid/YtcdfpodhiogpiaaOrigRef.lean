/- The contracts of the document's own answers of layer 11: From, Fill, Whole, Readers. -/
import Derived.Test.YtcdfpodhiogpiaaOrigMath
import Derived.Test.YtcdfpodhiogpiaaDiffRef
import Derived.Test.YtcdfpodhiogpiaaInternRefC
import Derived.Test.YtcdfpodhiogpiaaPlan
namespace Go.Proofs.Ytcdfpodhiogpiaa
open Go.RowKit
set_option linter.unusedVariables false
/-- a call's answer: numbers -/
def RetIL (xs : List Int) (w : World) (e : Ending) (w' : World) : Prop := ∃ A n c, e = .returned (.slice A n c) ∧ LAt encI w' A n xs ∧ n ≤ c ∧ c ≤ 9223372036854775807 ∧ Below w.heap.size w w'
theorem info_int1 : (Try.prog.info? 3).map (fun i => (i.zero, i.size, i.bytes)) = some (some (.int .i64 0), 1, 8) := by kernel_rfl
set_option maxRecDepth 100000 in
set_option maxHeartbeats 1000000 in
theorem ref11_From (v : FV) (f : Fac) (w : World) (hF : FactsAt w v f) (hm : v.m ≤ 1048576) :
    Calls Try.prog 23 #[.agg #[.slice v.A v.n v.c, .slice v.B v.m v.d, .slice v.C v.k v.e]] w (RetIL (fromF f.items) w) := by
  have hil := hF.is.len
  obtain ⟨i0, hi, hz0, hz1, hz2⟩ := info_parts info_int1
  replace hi := Lib.hid hi
  replace hz0 := Lib.hid hz0
  replace hz1 := Lib.hid hz1
  replace hz2 := Lib.hid hz2
  -- a call with facts v: they are boxed at g, the world is W0 then
  have hB0 := Lib.hid (FBox.new hF)
  obtain ⟨g, hg⟩ : ∃ g, g = w.heap.size := ⟨_, rfl⟩
  obtain ⟨W0, hW0⟩ : ∃ W, W = w.alloc (.cells #[.slice v.A v.n v.c, .slice v.B v.m v.d, .slice v.C v.k v.e] 27) := ⟨_, rfl⟩
  rw [← hW0, ← hg] at hB0
  clear hF
  have hgW : g < W0.heap.size := hB0.out.k.lt
  have p0 := hB0.out.c0
  have p1 := hB0.out.c1
  have p2 := hB0.out.c2
  go_enter Try.func23, Try.ntmps23
  go_wp2_with (rw [← hW0, ← hg]; clear hW0 hg)
  clear p0 p1 p2
  go_loopw [3, 4] (fun u t wr => ∃ k : Nat, k ≤ v.m ∧ t = .int .i64 k ∧ Hid (Below W0.heap.size W0 wr) ∧ Hid (wr.ownsRow W0.heap.size 3 1 u k (encI.all ((fromF f.items).take k)))) (fun _ t _ => v.m - (intOf t).toNat)
  case atStart => exact ⟨0, Nat.zero_le _, rfl, Lib.hid (Below.refl _ _), Lib.hid (World.ownsRow_nil _ _ _ _)⟩
  case round =>
    obtain ⟨k, hk, rfl, hb, hown⟩ := hrel
    have hB := Lib.hid (hB0.out.later hb.out)
    have p0 := hB.out.c0
    have p1 := hB.out.c1
    have p2 := hB.out.c2
    by_cases hlt : k < v.m
    · have hlt' : (k : Int) < (v.m : Int) := by omega
      obtain ⟨ib, io, x, hxB, hib, hx, hxo, i0', i1, i2, i3, i4⟩ := hB.out.f.is.item hlt
      rw [hxB] at p1
      have htk := Lib.hid (fromF_take hx)
      have hone : fromOne f.items x = if x.wr = true then -3 else if x.vl = 0 then -1 else match writeF f.items x.va x.vl with | some w => (w : Int) | none => -2 := rfl
      have hrg := fromOne_range f.items x
      obtain ⟨z, hz⟩ : ∃ z, z = fromOne f.items x := ⟨_, rfl⟩
      rw [← hz] at htk hone hrg
      obtain ⟨xs, xp, xw, xa, xl⟩ := x
      simp only at i0' i1 i2 i3 i4 hone
      obtain ⟨V, hV⟩ : ∃ W, W = wr.alloc (.cells #[.int .i64 xs, .int .i64 xp, .bool xw, .int .i64 xa, .int .i64 xl] 38) := ⟨_, rfl⟩
      obtain ⟨gx, hgx⟩ : ∃ g, g = wr.heap.size := ⟨_, rfl⟩
      have bV : Below wr.heap.size wr V := by rw [hV]; exact (Below.refl _ _).alloc (Nat.le_refl _) _
      have kIt : Blk V gx 38 [.int .i64 xs, .int .i64 xp, .bool xw, .int .i64 xa, .int .i64 xl] := by rw [hV, hgx]; exact Blk.new wr _ _
      have hBV := Lib.hid (hB.out.later bV)
      have j3 := kIt.cell 3
      have j4 := kIt.cell 4
      simp only [List.getElem?_cons_zero, List.getElem?_cons_succ] at j3 j4
      have w0 := hBV.out.c0
      have w1 := hBV.out.c1
      have w2 := hBV.out.c2
      have cW := ref10_Write v f xa xl V hBV.out.f
      unfold RetWrite at cW
      obtain ⟨o, ho⟩ : ∃ o, o = writeF f.items xa xl := ⟨_, rfl⟩
      rw [← ho] at cW hone
      obtain ⟨r1, hr1⟩ : ∃ r : Int, r = ((o.getD 0 : Nat) : Int) := ⟨_, rfl⟩
      obtain ⟨r2, hr2⟩ : ∃ r, r = o.isSome := ⟨_, rfl⟩
      rw [← hr1, ← hr2] at cW
      have hzz : z = if xw = true then -3 else if xl = 0 then -1 else if r2 = true then r1 else -2 := by
        rw [hone, hr1, hr2]
        cases o <;> rfl
      replace cW := Lib.hid cW
      replace ho := Lib.hid ho
      replace hr1 := Lib.hid hr1
      replace hr2 := Lib.hid hr2
      replace kIt := Lib.hid kIt
      have bW := Lib.hid (below_trans2 hb.out bV)
      have hownV := Lib.hid (own_below hown.out bV)
      clear hone hx hxo hxB hlt hz bV hb hown hB
      go_wp2_with (rw [← hV, ← hgx]; clear hV; replace hgx := Lib.hid hgx)
      refine cW.out.mono ?_; rintro e w3 ⟨rfl, b3⟩
      replace kIt := Lib.hid (kIt.out.below b3 kIt.out.lt)
      replace bW := Lib.hid (below_trans2 bW.out b3)
      replace hownV := Lib.hid (own_below hownV.out b3)
      clear w0 w1 w2 p0 p1 p2 j3 j4 i0' i1 i2 i3 i4 b3 cW hBV
      have j2 := kIt.out.cell 2
      have j4 := kIt.out.cell 4
      simp only [List.getElem?_cons_zero, List.getElem?_cons_succ] at j2 j4
      obtain ⟨gl, hgl⟩ : ∃ g, g = w3.heap.size := ⟨_, rfl⟩
      cases xw with
      | true =>
        -- what item k reads from is -3: it is appended
        have hzv : z = -3 := by rw [hzz]; rfl
        rw [hzv] at htk hrg
        obtain ⟨VL, hVL⟩ : ∃ W, W = w3.alloc (.cells #[.int .i64 (-3)] 3) := ⟨_, rfl⟩
        have bL : Below w3.heap.size w3 VL := by rw [hVL]; exact (Below.refl _ _).alloc (Nat.le_refl _) _
        have hlit := Lib.hid (show LAt encI VL (some ⟨gl, 0, none⟩) 1 [(-3 : Int)] from by rw [hVL, hgl]; exact LAt.lit1 (E := encI) w3 3 (-3) ⟨by omega, by omega⟩)
        have hownL := Lib.hid (own_below hownV.out bL)
        have bWL := Lib.hid (below_trans2 bW.out bL)
        have hbase := Lib.hid bWL.out.size
        clear hzv hzz bL hownV bW
        go_wp2_with (first
          | (rw [← hVL, ← hgl]; clear hVL hgl)
          | (at_builtin; refine wpList_append_L (E := encI) rfl (.tmp 37) (.tmp 39) _ rfl W0.heap.size 3 i0 _ 8 Try.underlying23 hi.out hz0.out hz1.out hz2.out rfl _ k ((fromF f.items).take k) (by rfl) hownL.out _ 1 1 _ rfl hlit.out (by unfold maxLen; omega) (by omega) hbase.out ?_; intro v' w7 hown' hb7 _ _))
        refine ⟨⟨k + 1, by omega, by go_num, Lib.hid (bWL.out.trans hb7), Lib.hid (by rw [htk.out]; exact hown')⟩, by simp [intOf]; omega⟩
      | false =>
        by_cases h0 : xl = 0
        · have e0 : (xl == 0) = true := by simp [h0]
          replace h0 := Lib.hid h0
          -- what item k reads from is -1: it is appended
          have hzv : z = -1 := by rw [hzz]; (rw [if_neg (by simp), if_pos h0.out])
          rw [hzv] at htk hrg
          obtain ⟨VL, hVL⟩ : ∃ W, W = w3.alloc (.cells #[.int .i64 (-1)] 3) := ⟨_, rfl⟩
          have bL : Below w3.heap.size w3 VL := by rw [hVL]; exact (Below.refl _ _).alloc (Nat.le_refl _) _
          have hlit := Lib.hid (show LAt encI VL (some ⟨gl, 0, none⟩) 1 [(-1 : Int)] from by rw [hVL, hgl]; exact LAt.lit1 (E := encI) w3 3 (-1) ⟨by omega, by omega⟩)
          have hownL := Lib.hid (own_below hownV.out bL)
          have bWL := Lib.hid (below_trans2 bW.out bL)
          have hbase := Lib.hid bWL.out.size
          clear hzv hzz bL hownV bW
          go_wp2_with (first
            | (rw [← hVL, ← hgl]; clear hVL hgl)
            | (at_builtin; refine wpList_append_L (E := encI) rfl (.tmp 37) (.tmp 39) _ rfl W0.heap.size 3 i0 _ 8 Try.underlying23 hi.out hz0.out hz1.out hz2.out rfl _ k ((fromF f.items).take k) (by rfl) hownL.out _ 1 1 _ rfl hlit.out (by unfold maxLen; omega) (by omega) hbase.out ?_; intro v' w7 hown' hb7 _ _))
          refine ⟨⟨k + 1, by omega, by go_num, Lib.hid (bWL.out.trans hb7), Lib.hid (by rw [htk.out]; exact hown')⟩, by simp [intOf]; omega⟩
        · have e0 : (xl == 0) = false := by simp [h0]
          replace h0 := Lib.hid h0
          cases r2 with
          | true =>
            -- what item k reads from is r1: it is appended
            have hzv : z = r1 := by rw [hzz]; (rw [if_neg (by simp), if_neg h0.out]; rfl)
            rw [hzv] at htk hrg
            obtain ⟨VL, hVL⟩ : ∃ W, W = w3.alloc (.cells #[.int .i64 (r1)] 3) := ⟨_, rfl⟩
            have bL : Below w3.heap.size w3 VL := by rw [hVL]; exact (Below.refl _ _).alloc (Nat.le_refl _) _
            have hlit := Lib.hid (show LAt encI VL (some ⟨gl, 0, none⟩) 1 [(r1 : Int)] from by rw [hVL, hgl]; exact LAt.lit1 (E := encI) w3 3 (r1) ⟨by omega, by omega⟩)
            have hownL := Lib.hid (own_below hownV.out bL)
            have bWL := Lib.hid (below_trans2 bW.out bL)
            have hbase := Lib.hid bWL.out.size
            clear hzv hzz bL hownV bW
            go_wp2_with (first
              | (rw [← hVL, ← hgl]; clear hVL hgl)
              | (at_builtin; refine wpList_append_L (E := encI) rfl (.tmp 37) (.tmp 39) _ rfl W0.heap.size 3 i0 _ 8 Try.underlying23 hi.out hz0.out hz1.out hz2.out rfl _ k ((fromF f.items).take k) (by rfl) hownL.out _ 1 1 _ rfl hlit.out (by unfold maxLen; omega) (by omega) hbase.out ?_; intro v' w7 hown' hb7 _ _))
            refine ⟨⟨k + 1, by omega, by go_num, Lib.hid (bWL.out.trans hb7), Lib.hid (by rw [htk.out]; exact hown')⟩, by simp [intOf]; omega⟩
          | false =>
            -- what item k reads from is -2: it is appended
            have hzv : z = -2 := by rw [hzz]; (rw [if_neg (by simp), if_neg h0.out]; rfl)
            rw [hzv] at htk hrg
            obtain ⟨VL, hVL⟩ : ∃ W, W = w3.alloc (.cells #[.int .i64 (-2)] 3) := ⟨_, rfl⟩
            have bL : Below w3.heap.size w3 VL := by rw [hVL]; exact (Below.refl _ _).alloc (Nat.le_refl _) _
            have hlit := Lib.hid (show LAt encI VL (some ⟨gl, 0, none⟩) 1 [(-2 : Int)] from by rw [hVL, hgl]; exact LAt.lit1 (E := encI) w3 3 (-2) ⟨by omega, by omega⟩)
            have hownL := Lib.hid (own_below hownV.out bL)
            have bWL := Lib.hid (below_trans2 bW.out bL)
            have hbase := Lib.hid bWL.out.size
            clear hzv hzz bL hownV bW
            go_wp2_with (first
              | (rw [← hVL, ← hgl]; clear hVL hgl)
              | (at_builtin; refine wpList_append_L (E := encI) rfl (.tmp 37) (.tmp 39) _ rfl W0.heap.size 3 i0 _ 8 Try.underlying23 hi.out hz0.out hz1.out hz2.out rfl _ k ((fromF f.items).take k) (by rfl) hownL.out _ 1 1 _ rfl hlit.out (by unfold maxLen; omega) (by omega) hbase.out ?_; intro v' w7 hown' hb7 _ _))
            refine ⟨⟨k + 1, by omega, by go_num, Lib.hid (bWL.out.trans hb7), Lib.hid (by rw [htk.out]; exact hown')⟩, by simp [intOf]; omega⟩
    · have hlt' : ¬ (k : Int) < (v.m : Int) := by omega
      have hkm : k = v.m := by omega
      subst hkm
      rw [List.take_of_length_le (by rw [fromF_len, hil]; exact Nat.le_refl _)] at hown
      obtain ⟨A, c, rfl, hnc, hcm, hL⟩ := LAt.of_own hown.out (fun z hz => by
        obtain ⟨x, _, rfl⟩ := List.mem_map.1 hz
        have := fromOne_range f.items x
        exact ⟨by omega, by omega⟩) (by rw [fromF_len, hil])
      clear hlt
      go_wp2_with fail
      go_ret
      exact ⟨A, _, c, rfl, hL, hnc, hcm, hB.out.o⟩
set_option maxRecDepth 100000 in
set_option maxHeartbeats 1000000 in
theorem ref11_Fill (v : FV) (f : Fac) (w : World) (hF : FactsAt w v f) (hm : v.m ≤ 1048576) :
    Calls Try.prog 9 #[.agg #[.slice v.A v.n v.c, .slice v.B v.m v.d, .slice v.C v.k v.e]] w (RetFacts (fillF f) w) := by
  -- a call with facts v: they are boxed at g, the world is W0 then
  have hB0 := Lib.hid (FBox.new hF)
  obtain ⟨g, hg⟩ : ∃ g, g = w.heap.size := ⟨_, rfl⟩
  obtain ⟨W0, hW0⟩ : ∃ W, W = w.alloc (.cells #[.slice v.A v.n v.c, .slice v.B v.m v.d, .slice v.C v.k v.e] 27) := ⟨_, rfl⟩
  rw [← hW0, ← hg] at hB0
  clear hF
  obtain ⟨gr, hgr⟩ : ∃ g, g = W0.heap.size := ⟨_, rfl⟩
  obtain ⟨W1, hW1⟩ : ∃ W, W = W0.alloc (.cells #[.slice none 0 0, .slice none 0 0, .slice none 0 0] 27) := ⟨_, rfl⟩
  have b1 : Below W0.heap.size W0 W1 := by rw [hW1]; exact (Below.refl _ _).alloc (Nat.le_refl _) _
  have kR : Blk W1 gr 27 [.slice none 0 0, .slice none 0 0, .slice none 0 0] := by rw [hW1, hgr]; exact Blk.new W0 _ _
  have hB1 := Lib.hid (hB0.out.later b1)
  have hgw : w.heap.size ≤ gr := by rw [hgr]; exact hB0.out.o.size
  clear hB0 b1
  go_enter Try.func9, Try.ntmps9
  go_wp2_with (first | (rw [← hW0, ← hg]; clear hW0 hg) | (rw [← hW1, ← hgr]; clear hW1; replace hgr := Lib.hid hgr))
  refine wp_region_plan 7 [(true, 0), (true, 1), (true, 2), (true, 3), (true, 4), (false, 5), (true, 6)] (by kernel_rfl) (by kernel_rfl) (fun V hV => ?_)
  have hB := Lib.hid (show FBox w g v f V from by rw [hV.out]; exact hB1.out.later (Below.refl _ _).drew)
  replace kR := Lib.hid (show Blk V gr 27 [.slice none 0 0, .slice none 0 0, .slice none 0 0] from by rw [hV.out]; exact kR)
  clear hV hB1
  have p0 := hB.out.c0
  have p1 := hB.out.c1
  have p2 := hB.out.c2
  have cF := Lib.hid (ref11_From v f V hB.out.f hm)
  simp only [List.drop_succ_cons, List.drop_zero]
  iterate 5
    refine wpPlan_float (v := ?_) rfl (by rfl) (fun w' hw' => ?_) (fun K hK => ?_)
    rotate_left
    · (go_simp; try with_reducible rfl)
    go_simp
    refine hK _ ?_
    clear hK K
  refine wpPlan_only rfl (by rfl) (fun K hK => ?_)
  go_simp
  refine cF.out.mono ?_
  rintro e w3 ⟨C, k, ce, rfl, hL, hke, hem, b3⟩
  refine hK _ _ b3 ?_
  clear hK K
  replace hB := Lib.hid (hB.out.later b3)
  replace kR := kR.out.below b3 kR.out.lt
  iterate 1
    refine wpPlan_float (v := ?_) rfl (by rfl) (fun w' hw' => ?_) (fun K hK => ?_)
    rotate_left
    · (go_simp; try with_reducible rfl)
    go_simp
    refine hK _ ?_
    clear hK K
  refine wpPlan_nil ?_
  have hY := (⟨hB.out.f.vs, hB.out.f.vc, hB.out.f.vm, hB.out.f.is, hB.out.f.ic, hB.out.f.im, hL, hke, hem⟩ : FactsAt w3 ⟨v.A, v.n, v.c, v.B, v.m, v.d, C, k, ce⟩ (fillF f))
  have hY3 := Lib.hid (hY.put kR (fun u hu => by simp only [List.mem_cons, List.not_mem_nil, or_false] at hu; rcases hu with rfl | rfl | rfl <;> exact ⟨_, _, _, rfl⟩))
  have k4 := ((kR.set_ 0 (.slice v.A v.n v.c)).set_ 1 (.slice v.B v.m v.d)).set_ 2 (.slice C k ce)
  have e0 := k4.cell 0
  have e1 := k4.cell 1
  have e2 := k4.cell 2
  have c0 := kR.cell 0
  have c1 := kR.cell 1
  have c2 := kR.cell 2
  have f0 := kR.frozen 0
  have f1 := kR.frozen 1
  have f2 := kR.frozen 2
  have hb3 := Lib.hid (((hB.out.o.setCell (p := ⟨gr, 0, none⟩) hgw (.slice v.A v.n v.c)).setCell (p := ⟨gr, 1, none⟩) hgw (.slice v.B v.m v.d)).setCell (p := ⟨gr, 2, none⟩) hgw (.slice C k ce))
  clear k4 kR hY hL b3 p0 p1 p2
  go_wp2_with fail
  refine NoPanic.normal ?_
  go_wp2_with fail
  exact bodyPost_ret (v := .agg #[.slice v.A v.n v.c, .slice v.B v.m v.d, .slice C k ce]) (by simp [results, Try.results9, go_sem, e0, e1, e2]) rfl ⟨⟨v.A, v.n, v.c, v.B, v.m, v.d, C, k, ce⟩, rfl, hY3.out, hb3.out⟩
set_option maxRecDepth 100000 in
set_option maxHeartbeats 1000000 in
theorem ref11_Whole (v : FV) (f : Fac) (w : World) (hF : FactsAt w v f) (hm : v.m ≤ 1048576) :
    Calls Try.prog 12 #[.agg #[.slice v.A v.n v.c, .slice v.B v.m v.d, .slice v.C v.k v.e]] w (RetBool (decide (f.frm = fromF f.items)) w) := by
  -- a call with facts v: they are boxed at g, the world is W0 then
  have hB0 := Lib.hid (FBox.new hF)
  obtain ⟨g, hg⟩ : ∃ g, g = w.heap.size := ⟨_, rfl⟩
  obtain ⟨W0, hW0⟩ : ∃ W, W = w.alloc (.cells #[.slice v.A v.n v.c, .slice v.B v.m v.d, .slice v.C v.k v.e] 27) := ⟨_, rfl⟩
  rw [← hW0, ← hg] at hB0
  clear hF
  go_enter Try.func12, Try.ntmps12
  go_wp2_with (rw [← hW0, ← hg]; clear hW0 hg)
  refine wp_region_plan 6 [(true, 0), (true, 1), (true, 2), (false, 3), (false, 4), (true, 5)] (by kernel_rfl) (by kernel_rfl) (fun V hV => ?_)
  have hB := Lib.hid (show FBox w g v f V from by rw [hV.out]; exact hB0.out.later (Below.refl _ _).drew)
  clear hV hB0
  have p0 := hB.out.c0
  have p1 := hB.out.c1
  have p2 := hB.out.c2
  have cF := Lib.hid (ref11_From v f V hB.out.f hm)
  have hke : v.k ≤ 9223372036854775807 := by have := hB.out.f.fc; have := hB.out.f.fm; omega
  simp only [List.drop_succ_cons, List.drop_nil]
  iterate 3
    refine wpPlan_float (v := ?_) rfl (by rfl) (fun w' hw' => ?_) (fun K hK => ?_)
    rotate_left
    · (go_simp; try with_reducible rfl)
    go_simp
    refine hK _ ?_
    clear hK K
  refine wpPlan_only rfl (by rfl) (fun K hK => ?_)
  go_simp
  refine cF.out.mono ?_
  rintro e w3 ⟨C, k, ce, rfl, hL, hke, hem, b3⟩
  refine hK _ _ b3 ?_
  clear hK K
  replace hB := Lib.hid (hB.out.later b3)
  have cI := Lib.hid (ref2_IntsL v.C C v.k v.e k ce f.frm (fromF f.items) w3 hB.out.f.fs hL (by omega) (by omega))
  refine wpPlan_only rfl (by rfl) (fun K hK => ?_)
  go_simp
  refine cI.out.mono ?_
  rintro e w4 ⟨rfl, z, rfl⟩
  refine hK _ _ (below_drewN (Below.refl _ _) z) ?_
  clear hK K
  iterate 1
    refine wpPlan_float (v := ?_) rfl (by rfl) (fun w' hw' => ?_) (fun K hK => ?_)
    rotate_left
    · (go_simp; try with_reducible rfl)
    go_simp
    refine hK _ ?_
    clear hK K
  refine wpPlan_nil (NoPanic.normal ?_)
  go_wp2_with fail
  go_ret
  exact ⟨rfl, below_drewN hB.out.o z⟩
theorem info_int2 : (Try.prog.info? 3).map (fun i => (i.zero, i.size, i.bytes)) = some (some (.int .i64 0), 1, 8) := by kernel_rfl
set_option maxRecDepth 100000 in
set_option maxHeartbeats 1000000 in
theorem ref11_Readers (v : FV) (f : Fac) (x : Int) (w : World) (hF : FactsAt w v f) (hm : v.m ≤ 1048576) (hk : v.k = v.m) :
    Calls Try.prog 15 #[.agg #[.slice v.A v.n v.c, .slice v.B v.m v.d, .slice v.C v.k v.e], .int .i64 x] w (RetIL (readF f.frm x f.items.length) w) := by
  have hil := hF.is.len
  have hfl := hF.fs.len
  rw [hil]
  obtain ⟨i0, hi, hz0, hz1, hz2⟩ := info_parts info_int2
  have hkv := Lib.hid hk
  replace hi := Lib.hid hi
  replace hz0 := Lib.hid hz0
  replace hz1 := Lib.hid hz1
  replace hz2 := Lib.hid hz2
  clear hk
  replace hil := Lib.hid hil
  replace hfl := Lib.hid hfl
  -- a call with facts v: they are boxed at g, the world is W0 then
  have hB0 := Lib.hid (FBox.new hF)
  obtain ⟨g, hg⟩ : ∃ g, g = w.heap.size := ⟨_, rfl⟩
  obtain ⟨W0, hW0⟩ : ∃ W, W = w.alloc (.cells #[.slice v.A v.n v.c, .slice v.B v.m v.d, .slice v.C v.k v.e] 27) := ⟨_, rfl⟩
  rw [← hW0, ← hg] at hB0
  clear hF
  have hgW : g < W0.heap.size := hB0.out.k.lt
  go_enter Try.func15, Try.ntmps15
  go_wp2_with (rw [← hW0, ← hg]; clear hW0 hg)
  go_loopw [5, 6] (fun u t wr => ∃ k : Nat, k ≤ v.m ∧ t = .int .i64 k ∧ Hid (Below W0.heap.size W0 wr) ∧ Hid (wr.ownsRow W0.heap.size 3 1 u (readF f.frm x k).length (encI.all (readF f.frm x k)))) (fun _ t _ => v.m - (intOf t).toNat)
  case atStart => exact ⟨0, Nat.zero_le _, rfl, Lib.hid (Below.refl _ _), Lib.hid (World.ownsRow_nil _ _ _ _)⟩
  case round =>
    obtain ⟨k, hkm, rfl, hb, hown⟩ := hrel
    have hB := Lib.hid (hB0.out.later hb.out)
    have p0 := hB.out.c0
    have p1 := hB.out.c1
    have p2 := hB.out.c2
    have hrl := readF_len f.frm x k
    have hrs := readF_succ f.frm x k
    obtain ⟨L, hL⟩ : ∃ L, L = (readF f.frm x k).length := ⟨_, rfl⟩
    rw [← hL] at hown hrl
    by_cases hlt : k < v.m
    · have hlt' : (k : Int) < (v.m : Int) := by omega
      have hltk : (k : Int) < (v.k : Int) := by have := hkv.out; omega
      by_cases hx0 : 0 ≤ x
      · obtain ⟨ib, io, z, hzC, hib, hz, hzo, j0⟩ := hB.out.f.fs.int (show k < v.k by have := hkv.out; omega)
        rw [hzC] at p2
        have hgd : f.frm.getD k 0 = z := by rw [List.getD_eq_getElem?_getD, hz]; rfl
        rw [hgd] at hrs
        by_cases hzx : z = x
        · rw [if_pos (by simp [hx0, hzx])] at hrs
          have e1 : (z == x) = true := by simp [hzx]
          have e0 : decide (0 ≤ x) = true := decide_eq_true hx0
          obtain ⟨gl, hgl⟩ : ∃ g, g = wr.heap.size := ⟨_, rfl⟩
          obtain ⟨VL, hVL⟩ : ∃ W, W = wr.alloc (.cells #[.int .i64 (k : Int)] 3) := ⟨_, rfl⟩
          have bL : Below wr.heap.size wr VL := by rw [hVL]; exact (Below.refl _ _).alloc (Nat.le_refl _) _
          have hlit := Lib.hid (show LAt encI VL (some ⟨gl, 0, none⟩) 1 [(k : Int)] from by rw [hVL, hgl]; exact LAt.lit1 (E := encI) wr 3 (k : Int) ⟨by omega, by omega⟩)
          have hownL := Lib.hid (own_below hown.out bL)
          have bWL := Lib.hid (below_trans2 hb.out bL)
          have hbase := Lib.hid bWL.out.size
          replace hzx := Lib.hid hzx
          replace hrs := Lib.hid hrs
          replace hL := Lib.hid hL
          replace hgd := Lib.hid hgd
          clear hzC hz hzo bL hown hlt
          go_wp2_with (first
            | (rw [← hVL, ← hgl]; clear hVL hgl)
            | (at_builtin; refine wpList_append_L (E := encI) rfl (.tmp 25) (.tmp 27) _ rfl W0.heap.size 3 i0 _ 8 Try.underlying23 hi.out hz0.out hz1.out hz2.out rfl _ L (readF f.frm x k) (by rfl) hownL.out _ 1 1 _ rfl hlit.out (by unfold maxLen; omega) (by omega) hbase.out ?_; intro v' w7 hown' hb7 _ _))
          refine ⟨⟨k + 1, by omega, by go_num, Lib.hid (bWL.out.trans hb7), Lib.hid (by rw [hrs.out, List.length_append, ← hL.out]; exact hown')⟩, by simp [intOf]; omega⟩
        · rw [if_neg (by simp [hzx])] at hrs
          have e1 : (z == x) = false := by simp [hzx]
          have e0 : decide (0 ≤ x) = true := decide_eq_true hx0
          replace hzx := Lib.hid hzx
          replace hrs := Lib.hid hrs
          replace hL := Lib.hid hL
          replace hgd := Lib.hid hgd
          clear hzC hz hzo hlt
          go_wp2_with fail
          exact ⟨⟨k + 1, by omega, by go_num, hb, Lib.hid (by rw [hrs.out, ← hL.out]; exact hown.out)⟩, by simp [intOf]; omega⟩
      · rw [if_neg (by simp [hx0])] at hrs
        have e0 : decide (0 ≤ x) = false := decide_eq_false hx0
        replace hrs := Lib.hid hrs
        replace hL := Lib.hid hL
        clear hlt hx0
        go_wp2_with fail
        exact ⟨⟨k + 1, by omega, by go_num, hb, Lib.hid (by rw [hrs.out, ← hL.out]; exact hown.out)⟩, by simp [intOf]; omega⟩
    · have hlt' : ¬ (k : Int) < (v.m : Int) := by omega
      have hkm : k = v.m := by omega
      subst hkm
      obtain ⟨A, c, rfl, hnc, hcm, hLA⟩ := LAt.of_own hown.out (fun z hz => by
        have := readF_ok f.frm x v.m z hz
        exact ⟨by omega, by omega⟩) hL.symm
      clear hlt
      replace hL := Lib.hid hL
      go_wp2_with fail
      go_ret
      exact ⟨A, _, c, rfl, hLA, hnc, hcm, hB.out.o⟩
end Go.Proofs.Ytcdfpodhiogpiaa
