/- The contracts of the document's own answers of layer 16: Of, With, Writes, Kept. The contracts of the document's own answers of layer 17: Edges. A region that draws its order, walked by a tree of orders: what only reads (in every world that meets S) is taken as soon as it may come up; what changes memory, and stays in S, comes up alone, or as one of two: then both ways are walked. S is the prover's: as a rule 'the blocks that were there at the region's start are as they were': so an alloc beside calls, and stores into what the region made, are steps too. No function of the program is named here. The contracts of the document's own answers of layer 13: Rf, Edges, Co. The contracts of the document's own answers of layer 13: Edges, Co. The contracts of the document's own answers of layer 17: Same, Cf. The contracts of the document's own answers of layer 19: None, thin, round. -/
import Derived.Test.YtjhjojklfdjmdaaGreatBadTellsPk4
import Derived.Test.YtjhjojklfdjmdaaGreatBadTellsPk5
import Derived.Test.YtjhjojklfdjmdaaGreatBadTellsPk3
namespace Go.Proofs.YtjhjojklfdjmdaaGreat
set_option maxRecDepth 100000
set_option maxHeartbeats 8000000
open Go.RowKit
set_option linter.unusedVariables false
theorem info_int16 : (Tryz.prog.info? 3).map (fun i => (i.zero, i.size, i.bytes)) = some (some (.int .i64 0), 1, 8) := by kernel_rfl
theorem ref16_Of (A : Option Addr) (n c : Nat) (a : List (List Nat)) (o : Int) (w : World) (hr : RowsAt w A n a) (hG : Good n a) :
  Calls Tryz.prog 69 #[.agg #[.int .i64 (n : Int), .slice A n c], .int .i64 o] w (RetIL (colF a o n) w) := by
 have hnn := hG.le;obtain ⟨i0, hi, hz0, hz1, hz2⟩ := info_parts info_int16;replace hi := Hd hi;replace hz0 := Hd hz0;replace hz1 := Hd hz1;replace hz2 := Hd hz2;have hM0 := Hd (MatK.new (N := (n : Int)) (c := c) w 57 hr);obtain ⟨g, hg⟩ : ∃ g, g = w.heap.size := ⟨_, rfl⟩;obtain ⟨W0, hW0⟩ : ∃ W, W = w.alloc (.cells #[.int .i64 (n : Int), .slice A n c] 57) := ⟨_, rfl⟩;rw [← hW0, ← hg] at hM0;have hbo := Hd (show Below w.heap.size w W0 from by rw [hW0]; exact bAl _ _)
 go_enter Tryz.func69, Tryz.ntmps69
 go_wp2_with (rw [← hW0, ← hg]; clear hW0 hg)
 go_loopw [5, 6] (fun u t wr => ∃ k : Nat, k ≤ n ∧ t = .int .i64 k ∧ Hid (Below W0.heap.size W0 wr) ∧ Hid (wr.ownsRow W0.heap.size 3 1 u (colF a o k).length (encI.all (colF a o k)))) (fun _ t _ => n - (intOf t).toNat)
 case atStart => exact ⟨0, Nat.zero_le _, rfl, Hd (Below.refl _ _), Hd (World.ownsRow_nil _ _ _ _)⟩
 case round =>
  obtain ⟨k, hk, rfl, hb, hown⟩ := hrel;have hM := Hd (hM0.out.below hb.out);have m0 := hM.out.1.c0;have m1 := hM.out.1.c1;have hrl := colF_len a o k;have hrs := colF_succ a o k;obtain ⟨L, hL⟩ : ∃ L, L = (colF a o k).length := ⟨_, rfl⟩;rw [← hL] at hown hrl;replace hL := Hd hL;by_cases hlt : k < n
  ·have hlt' : (k : Int) < (n : Int) := by omega
   have cH := ref3_HasG A n c a hG (k : Int) o wr hM.out.2
   cases ha : hasM a (k : Int) o with
   | true =>
    rw [ha] at cH;rw [if_pos ha] at hrs;replace hrs := Hd hrs;replace cH := Hd cH;clear hlt ha;go_wp2_with fail;refine cH.out.mono ?_; rintro e w3 ⟨rfl, b3⟩;have hown3 := Hd (oBl hown.out b3);have hb3 := Hd (bT2 hb.out b3);clear b3 cH m0 m1;obtain ⟨gl, hgl⟩ : ∃ g, g = (w3).heap.size := ⟨_, rfl⟩;obtain ⟨VL, hVL⟩ : ∃ W, W = World.alloc (w3) (.cells #[.int .i64 (k : Int)] 3) := ⟨_, rfl⟩;have bL : Below (w3).heap.size (w3) VL := by rw [hVL]; exact (Below.refl _ _).alloc (Nat.le_refl _) _
    have hlit := Hd (show LAt encI VL (some ⟨gl, 0, none⟩) 1 [(k : Int)] from by rw [hVL, hgl]; exact LAt.lit1 (E := encI) (w3) 3 (k : Int) ⟨by omega, by omega⟩);have hownL := Hd (oBl hown3.out bL);have bWL := Hd (bT2 hb3.out bL);have hbase := Hd bWL.out.size;clear bL;go_wp2_with (first
     | (rw [← hVL, ← hgl]; clear hVL hgl)
     | (at_builtin; refine wpAL (E := encI) rfl (.tmp 17) (.tmp 19) _ rfl W0.heap.size 3 i0 _ 8 Tryz.underlying27 hi.out hz0.out hz1.out hz2.out rfl _ L (colF a o k) (by rfl) hownL.out _ 1 1 _ rfl hlit.out (by unfold maxLen; omega) (by omega) hbase.out ?_; intro v' w7 hown' hb7 _ _))
    exact ⟨⟨k + 1, by omega, by go_num, Hd (bWL.out.trans hb7), Hd (by rw [hrs.out, List.length_append, ← hL.out]; exact hown')⟩, by simp [intOf]; omega⟩
   | false =>
    rw [ha] at cH;rw [if_neg (by simp [ha])] at hrs;replace hrs := Hd hrs;replace cH := Hd cH;clear hlt ha;go_wp2_with fail;refine cH.out.mono ?_; rintro e w3 ⟨rfl, b3⟩;have hown3 := Hd (oBl hown.out b3);have hb3 := Hd (bT2 hb.out b3);clear b3 cH m0 m1;go_wp2_with fail;exact ⟨⟨k + 1, by omega, by go_num, hb3, Hd (by rw [hrs.out, ← hL.out]; exact hown3.out)⟩, by simp [intOf]; omega⟩
  ·have hlt' : ¬ (k : Int) < (n : Int) := by omega
   obtain rfl : k = n := by omega
   obtain ⟨A2, c2, rfl, hnc, hcm, hLA⟩ := LAt.of_own hown.out (fun z hz => by
    have := colF_ok a o k z hz;exact ⟨by omega, by omega⟩) hL.out.symm
   clear hlt;go_wp2_with fail;go_ret;exact ⟨A2, L, c2, rfl, hLA, hnc, hcm, bT2 hbo.out hb.out⟩
theorem ref16_With (A : Option Addr) (n c : Nat) (a : List (List Nat)) (o : Int) (w : World) (hr : RowsAt w A n a) (hG : Good n a) :
  Calls Tryz.prog 102 #[.agg #[.int .i64 (n : Int), .slice A n c], .int .i64 o] w (RetIL (wihO a o n) w) := by
 have hnn := hG.le;obtain ⟨i0, hi, hz0, hz1, hz2⟩ := info_parts info_int16;replace hi := Hd hi;replace hz0 := Hd hz0;replace hz1 := Hd hz1;replace hz2 := Hd hz2;have hM0 := Hd (MatK.new (N := (n : Int)) (c := c) w 57 hr);obtain ⟨g, hg⟩ : ∃ g, g = w.heap.size := ⟨_, rfl⟩;obtain ⟨W0, hW0⟩ : ∃ W, W = w.alloc (.cells #[.int .i64 (n : Int), .slice A n c] 57) := ⟨_, rfl⟩;rw [← hW0, ← hg] at hM0;have hbo := Hd (show Below w.heap.size w W0 from by rw [hW0]; exact bAl _ _);by_cases hin : 0 ≤ o ∧ o < (n : Int)
 ·obtain ⟨h0, h1⟩ := hin
  have hwo : Hid (wihO a o n = wihF a o n) := Hd (if_pos ⟨h0, h1⟩);have d2 : decide (0 ≤ o) = true := decide_eq_true h0;have d3 : decide (o < (n : Int)) = true := decide_eq_true h1
  go_enter Tryz.func102, Tryz.ntmps102
  go_wp2_with (rw [← hW0, ← hg]; clear hW0 hg)
  go_loopw [5, 6] (fun u t wr => ∃ k : Nat, k ≤ n ∧ t = .int .i64 k ∧ Hid (Below W0.heap.size W0 wr) ∧ Hid (wr.ownsRow W0.heap.size 3 1 u (wihF a o k).length (encI.all (wihF a o k)))) (fun _ t _ => n - (intOf t).toNat)
  case atStart => exact ⟨0, Nat.zero_le _, rfl, Hd (Below.refl _ _), Hd (World.ownsRow_nil _ _ _ _)⟩
  case round =>
   obtain ⟨k, hk, rfl, hb, hown⟩ := hrel;have hM := Hd (hM0.out.below hb.out);have m0 := hM.out.1.c0;have m1 := hM.out.1.c1;have hrl := wihF_len a o k;have hrs := wihF_succ a o k;obtain ⟨L, hL⟩ : ∃ L, L = (wihF a o k).length := ⟨_, rfl⟩;rw [← hL] at hown hrl;replace hL := Hd hL;by_cases hlt : k < n
   ·have hlt' : (k : Int) < (n : Int) := by omega
    have d1 : decide ((k : Int) < (n : Int)) = true := decide_eq_true hlt';by_cases hko : (k : Int) = o
    ·rw [if_pos (by simp [hko])] at hrs
     have e0 : ((k : Int) == o) = true := by simp [hko]
     replace hrs := Hd hrs;replace hko := Hd hko;clear hlt;obtain ⟨gl, hgl⟩ : ∃ g, g = (wr).heap.size := ⟨_, rfl⟩;obtain ⟨VL, hVL⟩ : ∃ W, W = World.alloc (wr) (.cells #[.int .i64 (k : Int)] 3) := ⟨_, rfl⟩;have bL : Below (wr).heap.size (wr) VL := by rw [hVL]; exact (Below.refl _ _).alloc (Nat.le_refl _) _
     have hlit := Hd (show LAt encI VL (some ⟨gl, 0, none⟩) 1 [(k : Int)] from by rw [hVL, hgl]; exact LAt.lit1 (E := encI) (wr) 3 (k : Int) ⟨by omega, by omega⟩);have hownL := Hd (oBl hown.out bL);have bWL := Hd (bT2 hb.out bL);have hbase := Hd bWL.out.size;clear bL;go_wp2_with (first
      | (rw [← hVL, ← hgl]; clear hVL hgl)
      | (at_builtin; refine wpAL (E := encI) rfl (.tmp 32) (.tmp 34) _ rfl W0.heap.size 3 i0 _ 8 Tryz.underlying27 hi.out hz0.out hz1.out hz2.out rfl _ L (wihF a o k) (by rfl) hownL.out _ 1 1 _ rfl hlit.out (by unfold maxLen; omega) (by omega) hbase.out ?_; intro v' w7 hown' hb7 _ _))
     exact ⟨⟨k + 1, by omega, by go_num, Hd (bWL.out.trans hb7), Hd (by rw [hrs.out, List.length_append, ← hL.out]; exact hown')⟩, by simp [intOf]; omega⟩
    ·have e0 : ((k : Int) == o) = false := by simpa using hko
     rw [decide_eq_false hko, Bool.false_or] at hrs;have cH := ref3_HasG A n c a hG (k : Int) o wr hM.out.2;replace hko := Hd hko
     cases ha : hasM a (k : Int) o with
     | true =>
      rw [ha] at cH;rw [if_pos ha] at hrs;replace hrs := Hd hrs;replace cH := Hd cH;clear hlt ha;go_wp2_with fail;refine cH.out.mono ?_; rintro e w3 ⟨rfl, b3⟩;have hown3 := Hd (oBl hown.out b3);have hb3 := Hd (bT2 hb.out b3);clear b3 cH m0 m1;obtain ⟨gl, hgl⟩ : ∃ g, g = (w3).heap.size := ⟨_, rfl⟩;obtain ⟨VL, hVL⟩ : ∃ W, W = World.alloc (w3) (.cells #[.int .i64 (k : Int)] 3) := ⟨_, rfl⟩;have bL : Below (w3).heap.size (w3) VL := by rw [hVL]; exact (Below.refl _ _).alloc (Nat.le_refl _) _
      have hlit := Hd (show LAt encI VL (some ⟨gl, 0, none⟩) 1 [(k : Int)] from by rw [hVL, hgl]; exact LAt.lit1 (E := encI) (w3) 3 (k : Int) ⟨by omega, by omega⟩);have hownL := Hd (oBl hown3.out bL);have bWL := Hd (bT2 hb3.out bL);have hbase := Hd bWL.out.size;clear bL;go_wp2_with (first
       | (rw [← hVL, ← hgl]; clear hVL hgl)
       | (at_builtin; refine wpAL (E := encI) rfl (.tmp 32) (.tmp 34) _ rfl W0.heap.size 3 i0 _ 8 Tryz.underlying27 hi.out hz0.out hz1.out hz2.out rfl _ L (wihF a o k) (by rfl) hownL.out _ 1 1 _ rfl hlit.out (by unfold maxLen; omega) (by omega) hbase.out ?_; intro v' w7 hown' hb7 _ _))
      exact ⟨⟨k + 1, by omega, by go_num, Hd (bWL.out.trans hb7), Hd (by rw [hrs.out, List.length_append, ← hL.out]; exact hown')⟩, by simp [intOf]; omega⟩
     | false =>
      rw [ha] at cH;rw [if_neg (by simp [ha])] at hrs;replace hrs := Hd hrs;replace cH := Hd cH;clear hlt ha;go_wp2_with fail;refine cH.out.mono ?_; rintro e w3 ⟨rfl, b3⟩;have hown3 := Hd (oBl hown.out b3);have hb3 := Hd (bT2 hb.out b3);clear b3 cH m0 m1;go_wp2_with fail;exact ⟨⟨k + 1, by omega, by go_num, hb3, Hd (by rw [hrs.out, ← hL.out]; exact hown3.out)⟩, by simp [intOf]; omega⟩
   ·have hlt' : ¬ (k : Int) < (n : Int) := by omega
    have d1 : decide ((k : Int) < (n : Int)) = false := decide_eq_false hlt';obtain rfl : k = n := by omega
    obtain ⟨A2, c2, rfl, hnc, hcm, hLA⟩ := LAt.of_own hown.out (fun z hz => by
     have := wihF_ok a o k z hz;exact ⟨by omega, by omega⟩) hL.out.symm
    clear hlt;go_wp2_with fail;go_ret;exact ⟨A2, L, c2, rfl, by rw [hwo.out]; exact hLA, hnc, hcm, bT2 hbo.out hb.out⟩
 ·have hwo : Hid (wihO a o n = []) := Hd (if_neg hin)
  have hM := hM0;have m0 := hM0.out.1.c0;rcases Nat.eq_zero_or_pos n with hn0 | hn0
  ·have d1 : decide (0 < n) = false := decide_eq_false (by omega)
   have d1' : decide ((0 : Int) < (n : Int)) = false := decide_eq_false (by omega);replace hn0 := Hd hn0
   go_enter Tryz.func102, Tryz.ntmps102
   go_wp2_with (rw [← hW0, ← hg]; clear hW0 hg)
   go_loopw [5, 6] (fun u t wr => u = .slice none 0 0 ∧ t = .int .i64 0 ∧ wr = W0) (fun _ _ _ => 0)
   case atStart => exact ⟨rfl, rfl, rfl⟩
   case round =>
    obtain ⟨rfl, rfl, rfl⟩ := hrel;go_wp2_with fail;go_ret;exact ⟨none, 0, 0, rfl, by rw [hwo.out]; exact LAt.nil _ _ _, Nat.le_refl _, by omega, hbo.out⟩
  ·have d1 : decide (0 < n) = true := decide_eq_true hn0
   have d1' : decide ((0 : Int) < (n : Int)) = true := decide_eq_true (by omega);by_cases h0 : 0 ≤ o
   ·have h1 : ¬ o < (n : Int) := by omega
    have d2 : decide (0 ≤ o) = true := decide_eq_true h0;have d3 : decide (o < (n : Int)) = false := decide_eq_false h1
    go_enter Tryz.func102, Tryz.ntmps102
    go_wp2_with (rw [← hW0, ← hg]; clear hW0 hg)
    go_loopw [5, 6] (fun u t wr => u = .slice none 0 0 ∧ t = .int .i64 0 ∧ wr = W0) (fun _ _ _ => 0)
    case atStart => exact ⟨rfl, rfl, rfl⟩
    case round =>
     obtain ⟨rfl, rfl, rfl⟩ := hrel;go_wp2_with fail;go_ret;exact ⟨none, 0, 0, rfl, by rw [hwo.out]; exact LAt.nil _ _ _, Nat.le_refl _, by omega, hbo.out⟩
   ·have d2 : decide (0 ≤ o) = false := decide_eq_false h0
    go_enter Tryz.func102, Tryz.ntmps102
    go_wp2_with (rw [← hW0, ← hg]; clear hW0 hg)
    go_loopw [5, 6] (fun u t wr => u = .slice none 0 0 ∧ t = .int .i64 0 ∧ wr = W0) (fun _ _ _ => 0)
    case atStart => exact ⟨rfl, rfl, rfl⟩
    case round =>
     obtain ⟨rfl, rfl, rfl⟩ := hrel;go_wp2_with fail;go_ret;exact ⟨none, 0, 0, rfl, by rw [hwo.out]; exact LAt.nil _ _ _, Nat.le_refl _, by omega, hbo.out⟩
def RetILF (xs : List Int) (w : World) (e : Ending) (w' : World) : Prop := ∃ A n c, e = .returned (.slice A n c) ∧ LAt encI w' A n xs ∧ n ≤ c ∧ c ≤ 9223372036854775807 ∧ Below w.heap.size w w' ∧ ∀ ad, A = some ad → w.heap.size ≤ ad.block
theorem ref16_WritesF (v : FV) (f : Fac) (B : Option Addr) (m d : Nat) (l : List Int) (vr : Int) (w : World) (hF : FactsAt w v f) (hL : LAt encI w B m l) (hm : m ≤ 1048576) (hvm : v.m ≤ 1048576) :
  Calls Tryz.prog 68 #[.agg #[.slice v.A v.n v.c, .slice v.B v.m v.d, .slice v.C v.k v.e], .slice B m d, .int .i64 vr] w (RetILF (wrsF f.items vr l) w) := by
 have hil := hF.is.len;obtain ⟨i0, hi, hz0, hz1, hz2⟩ := info_parts info_int16;replace hi := Hd hi;replace hz0 := Hd hz0;replace hz1 := Hd hz1;replace hz2 := Hd hz2;replace hil := Hd hil;replace hL := Hd hL;have hB0 := Hd (FBox.new hF);obtain ⟨g, hg⟩ : ∃ g, g = w.heap.size := ⟨_, rfl⟩;obtain ⟨W0, hW0⟩ : ∃ W, W = w.alloc (.cells #[.slice v.A v.n v.c, .slice v.B v.m v.d, .slice v.C v.k v.e] 29) := ⟨_, rfl⟩;rw [← hW0, ← hg] at hB0;clear hF
 go_enter Tryz.func68, Tryz.ntmps68
 go_wp2_with (rw [← hW0, ← hg]; clear hW0 hg)
 go_loopw [7, 8] (fun u t wr => ∃ k : Nat, k ≤ m ∧ t = .int .i64 k ∧ Hid (Below W0.heap.size W0 wr) ∧ Hid (wr.ownsRow W0.heap.size 3 1 u (wrsF f.items vr (l.take k)).length (encI.all (wrsF f.items vr (l.take k))))) (fun _ t _ => m - (intOf t).toNat)
 case atStart => exact ⟨0, Nat.zero_le _, rfl, Hd (Below.refl _ _), Hd (World.ownsRow_nil _ _ _ _)⟩
 case round =>
  obtain ⟨k, hk, rfl, hb, hown⟩ := hrel;have hB := Hd (hB0.out.later hb.out);have hLr := (hL.out.below hB0.out.o).below hb.out;have p0 := hB.out.c0;have p1 := hB.out.c1;have p2 := hB.out.c2;have hrl : (wrsF f.items vr (l.take k)).length ≤ k := Nat.le_trans (List.length_filter_le _ _) (List.length_take_le _ _);obtain ⟨L, hLl⟩ : ∃ L, L = (wrsF f.items vr (l.take k)).length := ⟨_, rfl⟩;rw [← hLl] at hown hrl;replace hLl := Hd hLl;by_cases hlt : k < m
  ·have hlt' : (k : Int) < (m : Int) := by omega
   obtain ⟨lb, lo, z, rfl, hlb, hz, ⟨z0, z1⟩, j0⟩ := hLr.int hlt;have hrs : wrsF f.items vr (l.take (k + 1)) = if wrOK f.items vr z = true then wrsF f.items vr (l.take k) ++ [z] else wrsF f.items vr (l.take k) := filter_take hz;by_cases hzn : 0 ≤ z
   ·have d1 : decide (0 ≤ z) = true := decide_eq_true hzn
    by_cases hzm : z < (v.m : Int)
    ·have d2 : decide (z < (v.m : Int)) = true := decide_eq_true hzm
     have hzb : 0 ≤ z ∧ z < (v.m : Int) := ⟨hzn, hzm⟩;obtain ⟨ib, io, it, hxB, hib, hq, -, i0, i1, i2, i3, i4⟩ := hB.out.f.is.item (show z.toNat < v.m by omega);rw [hxB] at p1;rw [wrOK_at hzn hq] at hrs;obtain ⟨s1, t1, w1, a1, l1⟩ := it
     simp only at i2 i3 hrs
     clear i0 i1 i4 hxB hq hib
     cases w1 with
     | false =>
      rw [if_neg (by simp)] at hrs;replace hrs := Hd hrs;clear hz hlb;clear hlt;go_wp2_with fail
      go_quiet (fail)
      go_wp2_with fail;exact ⟨⟨k + 1, by omega, by go_num, Hd (bDN hb.out _), Hd (by rw [hrs.out, ← hLl.out]; exact oBl hown.out (bDN (Below.refl _ _) _))⟩, by simp [intOf]; omega⟩
     | true =>
      by_cases ha : a1 = vr
      ·rw [if_pos (by simp [ha])] at hrs
       have g1 : (a1 == vr) = true := by simp [ha]
       replace hrs := Hd hrs;replace ha := Hd ha;have k0 : 0 ≤ (k : Int) ∧ (k : Int) < (m : Int) := ⟨by omega, hlt'⟩;clear hlt;go_wp2_with fail
       go_quiet (fail)
       obtain ⟨Wq, hWq⟩ : ∃ W, W = wr.drewN nq := ⟨_, rfl⟩;have hown3 := Hd (show Wq.ownsRow W0.heap.size 3 1 _ L (encI.all (wrsF f.items vr (l.take k))) from by rw [hWq]; exact oBl hown.out (bDN (Below.refl _ _) _));have hb3 := Hd (show Below W0.heap.size W0 Wq from by rw [hWq]; exact bDN hb.out _);have j0' : Wq.cell? ⟨lb, lo + k, none⟩ = some (.int .i64 z) := by rw [hWq]; exact j0
       rw [← hWq];clear hWq j0 p0 p1 p2 hz hlb i2 i3;obtain ⟨gl, hgl⟩ : ∃ g, g = (Wq).heap.size := ⟨_, rfl⟩;obtain ⟨VL, hVL⟩ : ∃ W, W = World.alloc (Wq) (.cells #[.int .i64 z] 3) := ⟨_, rfl⟩;have bL : Below (Wq).heap.size (Wq) VL := by rw [hVL]; exact (Below.refl _ _).alloc (Nat.le_refl _) _
       have hlit := Hd (show LAt encI VL (some ⟨gl, 0, none⟩) 1 [z] from by rw [hVL, hgl]; exact LAt.lit1 (E := encI) (Wq) 3 z ⟨by omega, by omega⟩);have hownL := Hd (oBl hown3.out bL);have bWL := Hd (bT2 hb3.out bL);have hbase := Hd bWL.out.size;clear bL;go_wp2_with (first
        | (rw [← hVL, ← hgl]; clear hVL hgl)
        | (at_builtin; refine wpAL (E := encI) rfl (.tmp 54) (.tmp 59) _ rfl W0.heap.size 3 i0 _ 8 Tryz.underlying27 hi.out hz0.out hz1.out hz2.out rfl _ L (wrsF f.items vr (l.take k)) (by rfl) hownL.out _ 1 1 _ rfl hlit.out (by unfold maxLen; omega) (by omega) hbase.out ?_; intro v' w7 hown' hb7 _ _))
       exact ⟨⟨k + 1, by omega, by go_num, Hd (bWL.out.trans hb7), Hd (by rw [hrs.out, List.length_append, ← hLl.out]; exact hown')⟩, by simp [intOf]; omega⟩
      ·rw [if_neg (by simp [ha])] at hrs
       have g1 : (a1 == vr) = false := by simpa using ha
       replace hrs := Hd hrs;replace ha := Hd ha;clear hz hlb;clear hlt;go_wp2_with fail
       go_quiet (fail)
       go_wp2_with fail;exact ⟨⟨k + 1, by omega, by go_num, Hd (bDN hb.out _), Hd (by rw [hrs.out, ← hLl.out]; exact oBl hown.out (bDN (Below.refl _ _) _))⟩, by simp [intOf]; omega⟩
    ·have d2 : decide (z < (v.m : Int)) = false := decide_eq_false hzm
     rw [if_neg (by rw [wrOK_out (.inr (by rw [hil.out]; omega))]; simp)] at hrs;replace hrs := Hd hrs;clear hz hlb;clear hlt;go_wp2_with fail
     go_quiet (fail)
     go_wp2_with fail;exact ⟨⟨k + 1, by omega, by go_num, Hd (bDN hb.out _), Hd (by rw [hrs.out, ← hLl.out]; exact oBl hown.out (bDN (Below.refl _ _) _))⟩, by simp [intOf]; omega⟩
   ·have d1 : decide (0 ≤ z) = false := decide_eq_false hzn
    rw [if_neg (by rw [wrOK_out (.inl (by omega))]; simp)] at hrs;replace hrs := Hd hrs;clear hz hlb;clear hlt;go_wp2_with fail
    go_quiet (fail)
    go_wp2_with fail;exact ⟨⟨k + 1, by omega, by go_num, Hd (bDN hb.out _), Hd (by rw [hrs.out, ← hLl.out]; exact oBl hown.out (bDN (Below.refl _ _) _))⟩, by simp [intOf]; omega⟩
  ·have hlt' : ¬ (k : Int) < (m : Int) := by omega
   obtain rfl : k = m := by omega
   have hta : l.take k = l := List.take_of_length_le (by rw [hL.out.len]; omega);rw [hta] at hown hLl;have hfr := Hd (oLb hown.out);obtain ⟨A2, c2, rfl, hnc, hcm, hLA⟩ := LAt.of_own hown.out (fun z hz => hL.out.okAll z (List.mem_filter.1 hz).1) hLl.out.symm;clear hlt hta hLr;go_wp2_with fail;go_ret;exact ⟨A2, L, c2, rfl, hLA, hnc, hcm, bT2 hB0.out.o hb.out, fun ad e => by subst e; exact Nat.le_trans hB0.out.o.size (hfr.out _ rfl)⟩
theorem ref16_KeptF (v : FV) (f : Fac) (o : Int) (w : World) (hF : FactsAt w v f) (hvm : v.m ≤ 1048576) :
  Calls Tryz.prog 76 #[.agg #[.slice v.A v.n v.c, .slice v.B v.m v.d, .slice v.C v.k v.e], .int .i64 o] w (RetILF (keptF f.items (pastF f.items o f.items.length)) w) := by
 have hil := hF.is.len;obtain ⟨i0, hi, hz0, hz1, hz2⟩ := info_parts info_int16;replace hi := Hd hi;replace hz0 := Hd hz0;replace hz1 := Hd hz1;replace hz2 := Hd hz2;have hB0 := Hd (FBox.new hF);obtain ⟨g, hg⟩ : ∃ g, g = w.heap.size := ⟨_, rfl⟩;obtain ⟨W0, hW0⟩ : ∃ W, W = w.alloc (.cells #[.slice v.A v.n v.c, .slice v.B v.m v.d, .slice v.C v.k v.e] 29) := ⟨_, rfl⟩;rw [← hW0, ← hg] at hB0;clear hF;obtain ⟨l, hl⟩ : ∃ l, l = pastF f.items o f.items.length := ⟨_, rfl⟩;have cP := ref12_Past v f o W0 hB0.out.f hvm;rw [← hl] at cP ⊢;have hlr : Hid (∀ z ∈ l, 0 ≤ z ∧ z < (v.m : Int)) := Hd (by rw [hl, ← hil]; exact pastF_ok _ _ _);have hlm : l.length ≤ v.m := by rw [hl, ← hil]; exact pastF_len _ _ _
 replace cP := Hd cP;replace hil := Hd hil;clear hl;have p0 := hB0.out.c0;have p1 := hB0.out.c1;have p2 := hB0.out.c2
 go_enter Tryz.func76, Tryz.ntmps76
 go_wp2_with (rw [← hW0, ← hg]; clear hW0 hg);refine cP.out.mono ?_; rintro e w1 ⟨D, m, d, rfl, hL, hmd, hdm, b1⟩;have hml : m ≤ v.m := by rw [← hL.len]; exact hlm
 have hB1 := Hd (hB0.out.later b1);replace hL := Hd hL;clear b1 cP hlm p0 p1 p2;go_wp2_with fail
 go_loopw [5, 7] (fun u t wr => ∃ k : Nat, k ≤ m ∧ t = .int .i64 k ∧ Hid (Below w1.heap.size w1 wr) ∧ Hid (wr.ownsRow w1.heap.size 3 1 u (keptF f.items (l.take k)).length (encI.all (keptF f.items (l.take k))))) (fun _ t _ => m - (intOf t).toNat)
 case atStart => exact ⟨0, Nat.zero_le _, rfl, Hd (Below.refl _ _), Hd (World.ownsRow_nil _ _ _ _)⟩
 case round =>
  obtain ⟨k, hk, rfl, hb, hown⟩ := hrel;obtain ⟨W0, hW0⟩ : ∃ W0, W0 = w1 := ⟨_, rfl⟩;rw [← hW0] at hb hown;have hB := Hd (hB1.out.later (by rw [← hW0]; exact hb.out));have hLr := hL.out.below (by rw [← hW0]; exact hb.out);replace hW0 := Hd hW0;have p0 := hB.out.c0;have p1 := hB.out.c1;have p2 := hB.out.c2;have hrl : (keptF f.items (l.take k)).length ≤ k := Nat.le_trans (List.length_filter_le _ _) (List.length_take_le _ _);obtain ⟨L, hLl⟩ : ∃ L, L = (keptF f.items (l.take k)).length := ⟨_, rfl⟩;rw [← hLl] at hown hrl;replace hLl := Hd hLl;by_cases hlt : k < m
  ·have hlt' : (k : Int) < (m : Int) := by omega
   have k0 : 0 ≤ (k : Int) ∧ (k : Int) < (m : Int) := ⟨by omega, hlt'⟩;obtain ⟨lb, lo, z, rfl, hlb, hz, ⟨z0, z1⟩, j0⟩ := hLr.int hlt;have hrs : keptF f.items (l.take (k + 1)) = if rdOK f.items z = true then keptF f.items (l.take k) ++ [z] else keptF f.items (l.take k) := filter_take hz;have hzb := hlr.out z (List.mem_of_getElem? hz);obtain ⟨ib, io, it, hxB, hib, hq, -, i0, i1, i2, i3, i4⟩ := hB.out.f.is.item (show z.toNat < v.m by omega);rw [hxB] at p1;rw [rdOK_at hq] at hrs;obtain ⟨s1, t1, w1', a1, l1⟩ := it
   simp only at i2 hrs
   clear i0 i1 i3 i4 hxB hq hib hz hlb;go_wp2_with fail;refine wpRp 10 [(true, 0), (true, 1), (true, 2), (true, 3), (true, 4), (true, 5), (true, 6), (true, 7), (true, 8), (true, 9)] (by kernel_rfl) (by kernel_rfl) (fun Wq hWq => ?_);have hown3 := Hd (show Wq.ownsRow W0.heap.size 3 1 _ L (encI.all (keptF f.items (l.take k))) from by rw [hWq.out]; exact hown.out.drew);have hb3 := Hd (show Below W0.heap.size W0 Wq from by rw [hWq.out]; exact hb.out.drew);have j0' : Wq.cell? ⟨lb, lo + k, none⟩ = some (.int .i64 z) := by rw [hWq.out]; exact j0
   have q1 : Wq.cell? ⟨g, 1, none⟩ = some (.slice (some ⟨ib, io, none⟩) v.m v.d) := by rw [hWq.out]; exact p1
   have q2 : Wq.cell? ⟨ib, io + z.toNat * 5 + 2, none⟩ = some (.bool w1') := by rw [hWq.out]; exact i2
   clear hWq j0 p0 p1 p2 i2;simp only [List.drop_succ_cons, List.drop_nil]
   iterate 10
    refine wpPf (v := ?_) rfl (by rfl) (fun w' hw' => ?_) (fun K hK => ?_);rotate_left
    ·(go_simp; try with_reducible rfl)
    go_simp;refine hK _ ?_;clear hK K
   refine wpPn (NoPanic.normal ?_)
   cases w1' with
   | true =>
    rw [if_neg (by simp)] at hrs;replace hrs := Hd hrs;replace hlt := Hd hlt;go_wp2_with fail;exact ⟨⟨k + 1, by omega, by go_num, Hd (by have := hb3.out; rw [hW0.out] at this; exact this), Hd (by rw [hrs.out, ← hLl.out, ← hW0.out]; exact hown3.out)⟩, by simp [intOf]; omega⟩
   | false =>
    rw [if_pos (by simp)] at hrs;replace hrs := Hd hrs;replace hlt := Hd hlt;obtain ⟨gl, hgl⟩ : ∃ g, g = (Wq).heap.size := ⟨_, rfl⟩;obtain ⟨VL, hVL⟩ : ∃ W, W = World.alloc (Wq) (.cells #[.int .i64 z] 3) := ⟨_, rfl⟩;have bL : Below (Wq).heap.size (Wq) VL := by rw [hVL]; exact (Below.refl _ _).alloc (Nat.le_refl _) _
    have hlit := Hd (show LAt encI VL (some ⟨gl, 0, none⟩) 1 [z] from by rw [hVL, hgl]; exact LAt.lit1 (E := encI) (Wq) 3 z ⟨by omega, by omega⟩);have hownL := Hd (oBl hown3.out bL);have bWL := Hd (bT2 hb3.out bL);have hbase := Hd bWL.out.size;clear bL;go_wp2_with (first
     | (rw [← hVL, ← hgl]; clear hVL hgl)
     | (at_builtin; refine wpAL (E := encI) rfl (.tmp 27) (.tmp 32) _ rfl W0.heap.size 3 i0 _ 8 Tryz.underlying27 hi.out hz0.out hz1.out hz2.out rfl _ L (keptF f.items (l.take k)) (by rfl) hownL.out _ 1 1 _ rfl hlit.out (by unfold maxLen; omega) (by omega) hbase.out ?_; intro v' w7 hown' hb7 _ _))
    exact ⟨⟨k + 1, by omega, by go_num, Hd (by have := bWL.out.trans hb7; rw [hW0.out] at this; exact this), Hd (by rw [hrs.out, List.length_append, ← hLl.out, ← hW0.out]; exact hown')⟩, by simp [intOf]; omega⟩
  ·have hlt' : ¬ (k : Int) < (m : Int) := by omega
   obtain rfl : k = m := by omega
   have hta : l.take k = l := List.take_of_length_le (by rw [hL.out.len]; omega);rw [hta] at hown hLl;have hfr := Hd (oLb hown.out);obtain ⟨A2, c2, rfl, hnc, hcm, hLA⟩ := LAt.of_own hown.out (fun z hz => hL.out.okAll z (List.mem_filter.1 hz).1) hLl.out.symm;clear hlt hta hLr;go_wp2_with fail;go_ret;exact ⟨A2, L, c2, rfl, hLA, hnc, hcm, hB.out.o, fun ad e => by subst e; have h1 := hfr.out _ rfl; have h2 := hB1.out.o.size; rw [hW0.out] at h1; exact Nat.le_trans h2 h1⟩
theorem ref16_Kept (v : FV) (f : Fac) (o : Int) (w : World) (hF : FactsAt w v f) (hvm : v.m ≤ 1048576) :
  Calls Tryz.prog 76 #[.agg #[.slice v.A v.n v.c, .slice v.B v.m v.d, .slice v.C v.k v.e], .int .i64 o] w (RetIL (keptF f.items (pastF f.items o f.items.length)) w) :=
 (ref16_KeptF v f o w hF hvm).mono fun _ _ ⟨A', n', c', h1, h2, h3, h4, h5, _⟩ => ⟨A', n', c', h1, h2, h3, h4, h5⟩
theorem info_edge : (Tryz.prog.info? 84).map (fun i => (i.zero, i.size, i.bytes)) = some (some (.agg #[.int .i64 0, .int .i64 0, .int .i64 0]), 3, 24) := by kernel_rfl
theorem ref17_Edges (v : FV) (f : Fac) (A : Option Addr) (c : Nat) (a : List (List Nat)) (w : World) (hF : FactsAt w v f) (hr : RowsAt w A v.m a) (hG : Good v.m a) (hm : v.m ≤ 64) (hw : WholeF f) :
  Calls Tryz.prog 42 #[.agg #[.slice v.A v.n v.c, .slice v.B v.m v.d, .slice v.C v.k v.e], .agg #[.int .i64 (v.m : Int), .slice A v.m c]] w (RetEL (edgesF f a) w) := by
 have hil := hF.is.len;have hkm := Hd (show v.k = v.m from by rw [← hil, ← hF.fs.len]; exact hw.len);have hEok := Hd (edgesF_ok (f := f) (M := a) (by omega));unfold edgesF at hEok ⊢;rw [hil] at hEok ⊢;clear hw hil;obtain ⟨i0, hi, hz0, hz1, hz2⟩ := info_parts info_edge;replace hi := Hd hi;replace hz0 := Hd hz0;replace hz1 := Hd hz1;replace hz2 := Hd hz2;have hB0 := Hd (FBox.new hF);obtain ⟨g, hg⟩ : ∃ g, g = w.heap.size := ⟨_, rfl⟩;obtain ⟨W0, hW0⟩ : ∃ W, W = w.alloc (.cells #[.slice v.A v.n v.c, .slice v.B v.m v.d, .slice v.C v.k v.e] 29) := ⟨_, rfl⟩;rw [← hW0, ← hg] at hB0;clear hF;replace hr := hr.below hB0.out.o;have hM1 := Hd (MatK.new (N := (v.m : Int)) (c := c) W0 57 hr);obtain ⟨gm, hgm⟩ : ∃ g, g = W0.heap.size := ⟨_, rfl⟩;obtain ⟨W1, hW1⟩ : ∃ W, W = W0.alloc (.cells #[.int .i64 (v.m : Int), .slice A v.m c] 57) := ⟨_, rfl⟩;rw [← hW1, ← hgm] at hM1;have hB1 := Hd (hB0.out.later (show Below W0.heap.size W0 W1 from by rw [hW1]; exact bAl _ _));clear hr hB0
 go_enter Tryz.func42, Tryz.ntmps42
 go_wp2_with (first | (rw [← hW0, ← hg]; clear hW0 hg) | (rw [← hW1, ← hgm]; clear hW1 hgm))
 go_loopw [5, 6] (fun u t wr => ∃ i : Nat, i ≤ v.m ∧ t = .int .i64 (i : Int) ∧ Hid (Below W1.heap.size W1 wr) ∧ Hid (wr.ownsRow W1.heap.size 84 3 u (eA f a v.m i).length (encE.all (eA f a v.m i)))) (fun _ t _ => v.m - (intOf t).toNat)
 case atStart => exact ⟨0, Nat.zero_le _, rfl, Hd (Below.refl _ _), Hd (World.ownsRow_nil _ _ _ _)⟩
 case round =>
  obtain ⟨i, hi0, rfl, hb, hown⟩ := hrel;have hB := Hd (hB1.out.later hb.out);have p0 := hB.out.c0;have p1 := hB.out.c1;have p2 := hB.out.c2;by_cases hli : i < v.m
  ·have hli' : (i : Int) < (v.m : Int) := by omega
   go_wp2_with fail;clear p0 p1 p2 hB
   go_loopw [5, 7] (fun u t wr => ∃ j : Nat, j ≤ v.m ∧ t = .int .i64 (j : Int) ∧ Hid (Below W1.heap.size W1 wr) ∧ Hid (wr.ownsRow W1.heap.size 84 3 u (eA f a v.m i ++ eB f a i v.m j).length (encE.all (eA f a v.m i ++ eB f a i v.m j)))) (fun _ t _ => v.m - (intOf t).toNat)
   case atStart => exact ⟨0, Nat.zero_le _, rfl, hb, Hd (by rw [eB_zero, List.append_nil]; exact hown.out)⟩
   case round =>
    clear hb hown;obtain ⟨j, hj0, rfl, hb, hown⟩ := hrel;have hB := Hd (hB1.out.later hb.out);have p0 := hB.out.c0;have p1 := hB.out.c1;have p2 := hB.out.c2;by_cases hlj : j < v.m
    ·have hlj' : (j : Int) < (v.m : Int) := by omega
     have hS0 := eA_len f a v.m i;have hS1 := eB_len f a i v.m j;obtain ⟨S2, hS2⟩ : ∃ S, S = eA f a v.m i ++ eB f a i v.m j := ⟨_, rfl⟩;have hS2l : S2.length ≤ 1048576 := by
      rw [hS2, List.length_append];have q1 : i * (v.m * v.m) ≤ 64 * (64 * 64) := Nat.mul_le_mul (by omega) (Nat.mul_le_mul hm hm);have q2 : j * v.m ≤ 64 * 64 := Nat.mul_le_mul (by omega) hm
      omega
     rw [← hS2] at hown;replace hS2 := Hd hS2;clear hS0 hS1;go_wp2_with fail;clear p0 p1 p2 hB
     go_loopw [5, 8] (fun u t wr => ∃ r : Nat, r ≤ v.m ∧ t = .int .i64 (r : Int) ∧ Hid (Below W1.heap.size W1 wr) ∧ Hid (wr.ownsRow W1.heap.size 84 3 u (S2 ++ eR f a i j r).length (encE.all (S2 ++ eR f a i j r)))) (fun _ t _ => v.m - (intOf t).toNat)
     case atStart => exact ⟨0, Nat.zero_le _, rfl, hb, Hd (by rw [eR_zero, List.append_nil]; exact hown.out)⟩
     case round =>
      clear hb hown;obtain ⟨r, hr0, rfl, hb, hown⟩ := hrel;have hB := Hd (hB1.out.later hb.out);have p0 := hB.out.c0;have p1 := hB.out.c1;have p2 := hB.out.c2;by_cases hlr : r < v.m
      ·have hlr' : (r : Int) < (v.m : Int) := by omega
       have hrl : (S2 ++ eR f a i j r).length ≤ 1048576 + 64 := by rw [List.length_append]; have := eR_len f a i j r; omega
       have hrs := eR_succ f a i j r;obtain ⟨L, hLl⟩ : ∃ L, L = (S2 ++ eR f a i j r).length := ⟨_, rfl⟩;rw [← hLl] at hown hrl;replace hLl := Hd hLl;have bi : 0 ≤ (i : Int) ∧ (i : Int) < (v.m : Int) := by omega
       have bj : 0 ≤ (j : Int) ∧ (j : Int) < (v.m : Int) := by omega
       have br : 0 ≤ (r : Int) ∧ (r : Int) < (v.k : Int) := by have := hkm.out; omega
       obtain ⟨ib, io, x, hxB, hib, hx, -, i0, i1, i2, i3, i4⟩ := hB.out.f.is.item hli;rw [hxB] at p1;by_cases hij : i = j
       ·have e0 : ((i : Int) != (j : Int)) = false := by simp [hij]
        have hcl : clB f a i j r = false := by unfold clB; rw [decide_eq_false (by omega)]; simp
        subst hij;obtain ⟨xs, xp, xw, xa, xl⟩ := x
        simp only at i2 i3
        clear i0 i1 i4 hx hxB hib
        cases xw with
        | false =>
         rw [if_neg (by rw [hcl]; simp)] at hrs;replace hrs := Hd hrs;replace hcl := Hd hcl;clear hlr;go_wp2_with fail
         go_quiet (fail)
         obtain ⟨Wq, hWq⟩ : ∃ W, W = wr.drewN nq := ⟨_, rfl⟩;have hown3 := Hd (show Wq.ownsRow W1.heap.size 84 3 _ L (encE.all (S2 ++ eR f a i i r)) from by rw [hWq]; exact oBl hown.out (bDN (Below.refl _ _) _));have hb3 := Hd (show Below W1.heap.size W1 Wq from by rw [hWq]; exact bDN hb.out _);have hBq := Hd (show FBox w g v f Wq from hB1.out.later hb3.out);have hMq := Hd (hM1.out.below hb3.out);rw [← hWq];clear hWq p0 p1 p2;have p0 := hBq.out.c0;have p1 := hBq.out.c1;have p2 := hBq.out.c2;have m0 := hMq.out.1.c0;have m1 := hMq.out.1.c1;go_wp2_with fail;exact ⟨⟨r + 1, by have := hlr'; omega, by go_num, hb3, Hd (by rw [hrs.out, ← hLl.out]; exact hown3.out)⟩, by have := hlr'; simp [intOf]; omega⟩
        | true =>
         have e1 : (xa == xa) = true := by simp
         rw [if_neg (by rw [hcl]; simp)] at hrs;replace hrs := Hd hrs;replace hcl := Hd hcl;clear hlr;go_wp2_with fail
         go_quiet (fail)
         obtain ⟨Wq, hWq⟩ : ∃ W, W = wr.drewN nq := ⟨_, rfl⟩;have hown3 := Hd (show Wq.ownsRow W1.heap.size 84 3 _ L (encE.all (S2 ++ eR f a i i r)) from by rw [hWq]; exact oBl hown.out (bDN (Below.refl _ _) _));have hb3 := Hd (show Below W1.heap.size W1 Wq from by rw [hWq]; exact bDN hb.out _);have hBq := Hd (show FBox w g v f Wq from hB1.out.later hb3.out);have hMq := Hd (hM1.out.below hb3.out);rw [← hWq];clear hWq p0 p1 p2;have p0 := hBq.out.c0;have p1 := hBq.out.c1;have p2 := hBq.out.c2;have m0 := hMq.out.1.c0;have m1 := hMq.out.1.c1;go_wp2_with fail;exact ⟨⟨r + 1, by have := hlr'; omega, by go_num, hb3, Hd (by rw [hrs.out, ← hLl.out]; exact hown3.out)⟩, by have := hlr'; simp [intOf]; omega⟩
       ·have e0 : ((i : Int) != (j : Int)) = true := by simp; omega
        obtain ⟨jb, jo, y, hyB, hjb, hy, -, j0, j1, j2, j3, j4⟩ := hB.out.f.is.item hlj;rw [hxB] at hyB;injection hyB with hyB;injection hyB with h1 h2;subst h1; subst h2;have hcl : clB f a i j r = ((x.wr && y.wr && decide (x.va = y.va)) && decide (f.frm.getD r 0 = (j : Int)) && hasM a (i : Int) (r : Int)) := by
         unfold clB; rw [bothW_at hx hy, decide_eq_true hij, Bool.true_and]
        replace hij := Hd hij;obtain ⟨xs, xp, xw, xa, xl⟩ := x;obtain ⟨ys, yp, yw, ya, yl⟩ := y
        simp only at i2 i3 j2 j3 hcl
        clear i0 i1 i4 j0 j1 j4 hx hy hxB hib hjb
        cases xw with
        | false =>
         rw [Bool.false_and, Bool.false_and, Bool.false_and, Bool.false_and] at hcl;rw [if_neg (by rw [hcl]; simp)] at hrs;replace hrs := Hd hrs;replace hcl := Hd hcl;clear hlr;go_wp2_with fail
         go_quiet (fail)
         obtain ⟨Wq, hWq⟩ : ∃ W, W = wr.drewN nq := ⟨_, rfl⟩;have hown3 := Hd (show Wq.ownsRow W1.heap.size 84 3 _ L (encE.all (S2 ++ eR f a i j r)) from by rw [hWq]; exact oBl hown.out (bDN (Below.refl _ _) _));have hb3 := Hd (show Below W1.heap.size W1 Wq from by rw [hWq]; exact bDN hb.out _);have hBq := Hd (show FBox w g v f Wq from hB1.out.later hb3.out);have hMq := Hd (hM1.out.below hb3.out);rw [← hWq];clear hWq p0 p1 p2;have p0 := hBq.out.c0;have p1 := hBq.out.c1;have p2 := hBq.out.c2;have m0 := hMq.out.1.c0;have m1 := hMq.out.1.c1;go_wp2_with fail;exact ⟨⟨r + 1, by have := hlr'; omega, by go_num, hb3, Hd (by rw [hrs.out, ← hLl.out]; exact hown3.out)⟩, by have := hlr'; simp [intOf]; omega⟩
        | true =>
         cases yw with
         | false =>
          rw [Bool.and_false, Bool.false_and, Bool.false_and, Bool.false_and] at hcl;rw [if_neg (by rw [hcl]; simp)] at hrs;replace hrs := Hd hrs;replace hcl := Hd hcl;clear hlr;go_wp2_with fail
          go_quiet (fail)
          obtain ⟨Wq, hWq⟩ : ∃ W, W = wr.drewN nq := ⟨_, rfl⟩;have hown3 := Hd (show Wq.ownsRow W1.heap.size 84 3 _ L (encE.all (S2 ++ eR f a i j r)) from by rw [hWq]; exact oBl hown.out (bDN (Below.refl _ _) _));have hb3 := Hd (show Below W1.heap.size W1 Wq from by rw [hWq]; exact bDN hb.out _);have hBq := Hd (show FBox w g v f Wq from hB1.out.later hb3.out);have hMq := Hd (hM1.out.below hb3.out);rw [← hWq];clear hWq p0 p1 p2;have p0 := hBq.out.c0;have p1 := hBq.out.c1;have p2 := hBq.out.c2;have m0 := hMq.out.1.c0;have m1 := hMq.out.1.c1;go_wp2_with fail;exact ⟨⟨r + 1, by have := hlr'; omega, by go_num, hb3, Hd (by rw [hrs.out, ← hLl.out]; exact hown3.out)⟩, by have := hlr'; simp [intOf]; omega⟩
         | true =>
          by_cases hva : xa = ya
          ·have e1 : (xa == ya) = true := by simp [hva]
           rw [decide_eq_true hva, Bool.and_true, Bool.and_true, Bool.true_and] at hcl;replace hva := Hd hva;obtain ⟨-, -, z, -, -, hz, hzok, -⟩ := hB.out.f.fs.int (show r < v.k by have := hkm.out; omega);have hgd : f.frm.getD r 0 = z := by rw [List.getD_eq_getElem?_getD, hz]; rfl
           rw [hgd] at hcl;replace hz := Hd hz;replace hgd := Hd hgd;by_cases hzj : z = (j : Int)
           ·have e2 : (z == (j : Int)) = true := by simp [hzj]
            rw [decide_eq_true hzj, Bool.true_and] at hcl;replace hzj := Hd hzj;have cH := ref3_HasG A v.m c a hG (i : Int) (r : Int)
            cases hh : hasM a (i : Int) (r : Int) with
            | false =>
             rw [hh] at hcl cH;rw [if_neg (by rw [hcl]; simp)] at hrs;replace hrs := Hd hrs;replace hcl := Hd hcl;replace cH := Hd cH;clear hh;clear hlr;go_wp2_with fail
             go_quiet (fail)
             obtain ⟨Wq, hWq⟩ : ∃ W, W = wr.drewN nq := ⟨_, rfl⟩;have hown3 := Hd (show Wq.ownsRow W1.heap.size 84 3 _ L (encE.all (S2 ++ eR f a i j r)) from by rw [hWq]; exact oBl hown.out (bDN (Below.refl _ _) _));have hb3 := Hd (show Below W1.heap.size W1 Wq from by rw [hWq]; exact bDN hb.out _);have hBq := Hd (show FBox w g v f Wq from hB1.out.later hb3.out);have hMq := Hd (hM1.out.below hb3.out);rw [← hWq];clear hWq p0 p1 p2;have p0 := hBq.out.c0;have p1 := hBq.out.c1;have p2 := hBq.out.c2;have m0 := hMq.out.1.c0;have m1 := hMq.out.1.c1;obtain ⟨zb, zo, z2, hzC, hzb, hz2, -, k0⟩ := hBq.out.f.fs.int (show r < v.k by have := hkm.out; omega);obtain rfl : z2 = z := by have h := hz.out; rw [hz2] at h; injection h
             rw [hzC] at p2;clear hzC hz2 hzb;go_wp2_with fail;refine (cH.out Wq hMq.out.2).mono ?_; rintro e w5 ⟨rfl, b5⟩;have hown5 := Hd (oBl hown3.out b5);have hb5 := Hd (bT2 hb3.out b5);clear b5 cH k0 p0 p1 p2 m0 m1;go_wp2_with fail;exact ⟨⟨r + 1, by omega, by go_num, hb5, Hd (by rw [hrs.out, ← hLl.out]; exact hown5.out)⟩, by simp [intOf]; omega⟩
            | true =>
             rw [hh] at hcl cH;rw [if_pos hcl] at hrs;replace hrs := Hd hrs;replace hcl := Hd hcl;replace cH := Hd cH;clear hh;clear hlr;go_wp2_with fail
             go_quiet (fail)
             obtain ⟨Wq, hWq⟩ : ∃ W, W = wr.drewN nq := ⟨_, rfl⟩;have hown3 := Hd (show Wq.ownsRow W1.heap.size 84 3 _ L (encE.all (S2 ++ eR f a i j r)) from by rw [hWq]; exact oBl hown.out (bDN (Below.refl _ _) _));have hb3 := Hd (show Below W1.heap.size W1 Wq from by rw [hWq]; exact bDN hb.out _);have hBq := Hd (show FBox w g v f Wq from hB1.out.later hb3.out);have hMq := Hd (hM1.out.below hb3.out);rw [← hWq];clear hWq p0 p1 p2;have p0 := hBq.out.c0;have p1 := hBq.out.c1;have p2 := hBq.out.c2;have m0 := hMq.out.1.c0;have m1 := hMq.out.1.c1;obtain ⟨zb, zo, z2, hzC, hzb, hz2, -, k0⟩ := hBq.out.f.fs.int (show r < v.k by have := hkm.out; omega);obtain rfl : z2 = z := by have h := hz.out; rw [hz2] at h; injection h
             rw [hzC] at p2;clear hzC hz2 hzb;go_wp2_with fail;refine (cH.out Wq hMq.out.2).mono ?_; rintro e w5 ⟨rfl, b5⟩;have hown5 := Hd (oBl hown3.out b5);have hb5 := Hd (bT2 hb3.out b5);clear b5 cH k0 p0 p1 p2 m0 m1;obtain ⟨gl, hgl⟩ : ∃ g, g = (w5).heap.size := ⟨_, rfl⟩;obtain ⟨VL, hVL⟩ : ∃ W, W = World.alloc (w5) (.cells #[.int .i64 (i : Int), .int .i64 (j : Int), .int .i64 (r : Int)] 84) := ⟨_, rfl⟩;have bL : Below (w5).heap.size (w5) VL := by rw [hVL]; exact (Below.refl _ _).alloc (Nat.le_refl _) _
             have hlit := Hd (show LAt encE VL (some ⟨gl, 0, none⟩) 1 [⟨(i : Int), (j : Int), (r : Int)⟩] from by rw [hVL, hgl]; exact LAt.lit1 (E := encE) (w5) 84 ⟨(i : Int), (j : Int), (r : Int)⟩ ⟨by simp only; omega, by simp only; omega, by simp only; omega, by simp only; omega, by simp only; omega, by simp only; omega⟩);have hownL := Hd (oBl hown5.out bL);have bWL := Hd (bT2 hb5.out bL);have hbase := Hd bWL.out.size;clear bL;go_wp2_with (first
              | (rw [← hVL, ← hgl]; clear hVL hgl)
              | (at_builtin; refine wpAL (E := encE) rfl (.tmp 81) (.tmp 86) _ rfl W1.heap.size 84 i0 _ 24 Tryz.underlying79 hi.out hz0.out hz1.out hz2.out rfl _ L (S2 ++ eR f a i j r) (by rfl) hownL.out _ 1 1 _ rfl hlit.out (by unfold maxLen; omega) (by omega) hbase.out ?_; intro v' w7 hown' hb7 _ _))
             exact ⟨⟨r + 1, by omega, by go_num, Hd (bWL.out.trans hb7), Hd (by rw [hrs.out, ← List.append_assoc, List.length_append, ← hLl.out]; exact hown')⟩, by simp [intOf]; omega⟩
           ·have e2 : (z == (j : Int)) = false := by simpa using hzj
            rw [decide_eq_false hzj, Bool.false_and] at hcl;rw [if_neg (by rw [hcl]; simp)] at hrs;replace hrs := Hd hrs;replace hcl := Hd hcl;replace hzj := Hd hzj;clear hlr;go_wp2_with fail
            go_quiet (fail)
            obtain ⟨Wq, hWq⟩ : ∃ W, W = wr.drewN nq := ⟨_, rfl⟩;have hown3 := Hd (show Wq.ownsRow W1.heap.size 84 3 _ L (encE.all (S2 ++ eR f a i j r)) from by rw [hWq]; exact oBl hown.out (bDN (Below.refl _ _) _));have hb3 := Hd (show Below W1.heap.size W1 Wq from by rw [hWq]; exact bDN hb.out _);have hBq := Hd (show FBox w g v f Wq from hB1.out.later hb3.out);have hMq := Hd (hM1.out.below hb3.out);rw [← hWq];clear hWq p0 p1 p2;have p0 := hBq.out.c0;have p1 := hBq.out.c1;have p2 := hBq.out.c2;have m0 := hMq.out.1.c0;have m1 := hMq.out.1.c1;obtain ⟨zb, zo, z2, hzC, hzb, hz2, -, k0⟩ := hBq.out.f.fs.int (show r < v.k by have := hkm.out; omega);obtain rfl : z2 = z := by have h := hz.out; rw [hz2] at h; injection h
            rw [hzC] at p2;clear hzC hz2 hzb;go_wp2_with fail;exact ⟨⟨r + 1, by omega, by go_num, hb3, Hd (by rw [hrs.out, ← hLl.out]; exact hown3.out)⟩, by simp [intOf]; omega⟩
          ·have e1 : (xa == ya) = false := by simpa using hva
           rw [decide_eq_false hva, Bool.and_false, Bool.false_and, Bool.false_and] at hcl;replace hva := Hd hva;rw [if_neg (by rw [hcl]; simp)] at hrs;replace hrs := Hd hrs;replace hcl := Hd hcl;clear hlr;go_wp2_with fail
           go_quiet (fail)
           obtain ⟨Wq, hWq⟩ : ∃ W, W = wr.drewN nq := ⟨_, rfl⟩;have hown3 := Hd (show Wq.ownsRow W1.heap.size 84 3 _ L (encE.all (S2 ++ eR f a i j r)) from by rw [hWq]; exact oBl hown.out (bDN (Below.refl _ _) _));have hb3 := Hd (show Below W1.heap.size W1 Wq from by rw [hWq]; exact bDN hb.out _);have hBq := Hd (show FBox w g v f Wq from hB1.out.later hb3.out);have hMq := Hd (hM1.out.below hb3.out);rw [← hWq];clear hWq p0 p1 p2;have p0 := hBq.out.c0;have p1 := hBq.out.c1;have p2 := hBq.out.c2;have m0 := hMq.out.1.c0;have m1 := hMq.out.1.c1;go_wp2_with fail;exact ⟨⟨r + 1, by have := hlr'; omega, by go_num, hb3, Hd (by rw [hrs.out, ← hLl.out]; exact hown3.out)⟩, by have := hlr'; simp [intOf]; omega⟩
      ·have hlr' : ¬ (r : Int) < (v.m : Int) := by omega
       obtain rfl : r = v.m := by omega
       clear hlr;go_wp2_with fail;exact ⟨⟨j + 1, by omega, by go_num, hb, Hd (by rw [eB_succ, ← List.append_assoc, ← hS2.out]; exact hown.out)⟩, by simp [intOf]; omega⟩
    ·have hlj' : ¬ (j : Int) < (v.m : Int) := by omega
     obtain rfl : j = v.m := by omega
     clear hlj;go_wp2_with fail;exact ⟨⟨i + 1, by omega, by go_num, hb, Hd (by rw [eA_succ]; exact hown.out)⟩, by simp [intOf]; omega⟩
  ·have hli' : ¬ (i : Int) < (v.m : Int) := by omega
   obtain rfl : i = v.m := by omega
   obtain ⟨A2, c2, rfl, hnc, hcm, hLA⟩ := LAt.of_own hown.out hEok.out rfl;clear hli;go_wp2_with fail;go_ret;exact ⟨A2, _, c2, rfl, hLA, hnc, hcm, bT2 hB1.out.o hb.out⟩

section
variable {P : Program} {ops : Array Oper} {md : Region.Mode} {Q : Exit → Act → World → Prop} {S : World → Prop}

def wpAnyS (S : World → Prop) (P : Program) (md : Region.Mode) (ops : Array Oper) (Q : Exit → Act → World → Prop) : Nat → Array Bool → Act → World → Prop
 | 0, listed, a, w => Region.ready md ops listed = [] ∧ Q .normal a w
 | f + 1, listed, a, w => Region.ready md ops listed ≠ [] ∧ ∀ i ∈ Region.ready md ops listed, wpOp P ops Q i (fun a' w' => S w' ∧ wpAnyS S P md ops Q f (listed.setIfInBounds i true) a' w') a w
theorem wpAny_of_S : ∀ (f : Nat) (listed : Array Bool) (a : Act) (w : World), wpAnyS S P md ops Q f listed a w → wpAny P md ops Q f listed a w
 | 0, _, _, _, h => h
 | f + 1, listed, a, w, h => ⟨fun h0 => absurd h0 h.1, fun i hi => wpOp_mono (fun a' w' h' => wpAny_of_S f _ a' w' h'.2) (h.2 i hi)⟩

theorem wpAnyS_first {i : Nat} {oi : Oper} {v : Value} (hi : ops[i]? = some oi) (hsel : ∀ (j : Nat) (o : Oper) cs b, ops[j]? = some o → o.op ≠ .select cs b)
  (hQ : ∀ c a w, Q (.panic c) (a.put oi.dst v) w → Q (.panic c) a w) :
  ∀ (f : Nat) (listed : Array Bool) (a : Act) (w : World), S w →
   (∀ j oj, ops[j]? = some oj → j ≠ i → listed.getD j true = false → (∀ e ∈ oj.after, Region.binds md e = true → e.on ≠ i) → oi.apart ops oj = true) →
   i ∈ Region.ready md ops listed → YieldsIf P ops S oi v a →
   wpAnyS S P md ops Q f (listed.setIfInBounds i true) (a.put oi.dst v) w → wpAnyS S P md ops Q (f + 1) listed a w := by
 intro f
 induction f with
 | zero =>
  intro listed a w hS _ hr hy H;refine ⟨fun h => (by rw [h] at hr; cases hr), fun j hj => ?_⟩;by_cases hji : j = i
  ·subst hji; exact hy.wpOp hi hS ⟨hS, H⟩
  ·have h1 := ready_mono hj hji
   rw [H.1] at h1
   cases h1
 | succ f ih =>
  intro listed a w hS hfree hr hy H;have hun := (mem_ready.1 hr).1;refine ⟨fun h => (by rw [h] at hr; cases hr), fun j hj => ?_⟩;by_cases hji : j = i
  ·subst hji; exact hy.wpOp hi hS ⟨hS, H⟩
  ·have h1 := H.2 j (ready_mono hj hji)
   obtain ⟨hjun, oj, hoj, hall⟩ := mem_ready.1 hj;have hnot : ∀ e ∈ oj.after, Region.binds md e = true → e.on ≠ i := fun e he hb heq => by
    have h1 := hall e he hb;rw [heq, getD_both hun] at h1
    cases h1
   have h2 := wpOp_putIf hoj (hfree j oj hoj hji hjun hnot) (fun cs b => hsel i oi cs b hi) (fun cs b => hsel j oj cs b hoj) hQ hy h1;have hfree' : ∀ k ok, ops[k]? = some ok → k ≠ i → (listed.setIfInBounds j true).getD k true = false →
     (∀ e ∈ ok.after, Region.binds md e = true → e.on ≠ i) → oi.apart ops ok = true := fun k ok hk hki hun hno => by
    refine hfree k ok hk hki ?_ hno;by_cases hjk : j = k
    ·subst hjk; exact hjun
    ·rw [getD_set_ne true hjk] at hun; exact hun
   refine wpOp_mono (fun a' w' h3 => ⟨h3.2.1, ih (listed.setIfInBounds j true) a' w' h3.2.1 hfree' (ready_mono hr (Ne.symm hji)) h3.1 ?_⟩) h2;rw [Array.setIfInBounds_comm _ _ hji];exact h3.2.2

inductive PT where
 | done
 | flt (i : Nat) (t : PT)
 | one (i : Nat) (t : PT)
 | two (i j : Nat) (ti tj : PT)
 | three (i j k : Nat) (ti tj tk : PT)
def PT.depth : PT → Nat
 | .done => 0
 | .flt _ t => t.depth + 1
 | .one _ t => t.depth + 1
 | .two _ _ t _ => t.depth + 1
 | .three _ _ _ t _ _ => t.depth + 1
def PT.ok (md : Region.Mode) (ops : Array Oper) : PT → Array Bool → Bool
 | .done, listed => (Region.ready md ops listed).isEmpty
 | .flt i t, listed => (Region.ready md ops listed).contains i && Region.free md ops listed i && t.ok md ops (listed.setIfInBounds i true)
 | .one i t, listed => decide (Region.ready md ops listed = [i]) && t.ok md ops (listed.setIfInBounds i true)
 | .two i j t u, listed => decide (Region.ready md ops listed = [i, j]) && decide (t.depth = u.depth) && t.ok md ops (listed.setIfInBounds i true) && u.ok md ops (listed.setIfInBounds j true)
 | .three i j k t u v, listed => decide (Region.ready md ops listed = [i, j, k]) && (decide (t.depth = u.depth) && decide (t.depth = v.depth)) && t.ok md ops (listed.setIfInBounds i true) && u.ok md ops (listed.setIfInBounds j true) && v.ok md ops (listed.setIfInBounds k true)
def wpPT (S : World → Prop) (P : Program) (ops : Array Oper) (Q : Exit → Act → World → Prop) : PT → Act → World → Prop
 | .done, a, w => Q .normal a w
 | .flt i t, a, w => ∃ o v, ops[i]? = some o ∧ YieldsIf P ops S o v a ∧ wpPT S P ops Q t (a.put o.dst v) w
 | .one i t, a, w => wpOp P ops Q i (fun a' w' => S w' ∧ wpPT S P ops Q t a' w') a w
 | .two i j t u, a, w => wpOp P ops Q i (fun a' w' => S w' ∧ wpPT S P ops Q t a' w') a w ∧ wpOp P ops Q j (fun a' w' => S w' ∧ wpPT S P ops Q u a' w') a w
 | .three i j k t u v, a, w => wpOp P ops Q i (fun a' w' => S w' ∧ wpPT S P ops Q t a' w') a w ∧ wpOp P ops Q j (fun a' w' => S w' ∧ wpPT S P ops Q u a' w') a w ∧ wpOp P ops Q k (fun a' w' => S w' ∧ wpPT S P ops Q v a' w') a w

theorem wpAnyS_tree (hsel : Region.noSelect ops = true) (hQ : ∀ c a d v w, Q (.panic c) (a.put d v) w → Q (.panic c) a w) :
  ∀ (t : PT) (listed : Array Bool) (a : Act) (w : World), S w → t.ok md ops listed = true → wpPT S P ops Q t a w → wpAnyS S P md ops Q t.depth listed a w
 | .done, listed, a, w, _, hB, h => ⟨by simpa [PT.ok] using hB, h⟩
 | .flt i t, listed, a, w, hS, hB, h => by
  simp only [PT.ok, Bool.and_eq_true] at hB;obtain ⟨⟨hr, hf⟩, hB'⟩ := hB;obtain ⟨o, v, ho, hy, h'⟩ := h;exact wpAnyS_first ho (Region.noSelect_spec hsel) (fun c a w => hQ c a o.dst v w) t.depth listed a w hS (Region.free_spec ho hf) (by simpa using hr) hy (wpAnyS_tree hsel hQ t _ _ _ hS hB' h')
 | .one i t, listed, a, w, hS, hB, h => by
  simp only [PT.ok, Bool.and_eq_true, decide_eq_true_eq] at hB;refine ⟨by rw [hB.1]; simp, fun j hj => ?_⟩;rw [hB.1] at hj;have hji : j = i := by simpa using hj
  subst hji;exact wpOp_mono (fun a' w' h3 => ⟨h3.1, wpAnyS_tree hsel hQ t _ a' w' h3.1 hB.2 h3.2⟩) h
 | .two i k t u, listed, a, w, hS, hB, h => by
  simp only [PT.ok, Bool.and_eq_true, decide_eq_true_eq] at hB;obtain ⟨⟨⟨hr, hd⟩, h1⟩, h2⟩ := hB;refine ⟨by rw [hr]; simp, fun j hj => ?_⟩;rw [hr] at hj;have hjik : j = i ∨ j = k := by simpa using hj
  rcases hjik with rfl | rfl
  ·exact wpOp_mono (fun a' w' h3 => ⟨h3.1, wpAnyS_tree hsel hQ t _ a' w' h3.1 h1 h3.2⟩) h.1
  ·refine wpOp_mono (fun a' w' h3 => ⟨h3.1, ?_⟩) h.2
   rw [hd];exact wpAnyS_tree hsel hQ u _ a' w' h3.1 h2 h3.2
 | .three i j k t u v, listed, a, w, hS, hB, h => by
  simp only [PT.ok, Bool.and_eq_true, decide_eq_true_eq] at hB;obtain ⟨⟨⟨⟨hr, hd, hd2⟩, h1⟩, h2⟩, h3⟩ := hB;refine ⟨by rw [hr]; simp, fun q hq => ?_⟩;rw [hr] at hq;have hqs : q = i ∨ q = j ∨ q = k := by simpa using hq
  rcases hqs with rfl | rfl | rfl
  ·exact wpOp_mono (fun a' w' h3' => ⟨h3'.1, wpAnyS_tree hsel hQ t _ a' w' h3'.1 h1 h3'.2⟩) h.1
  ·refine wpOp_mono (fun a' w' h3' => ⟨h3'.1, ?_⟩) h.2.1
   rw [hd];exact wpAnyS_tree hsel hQ u _ a' w' h3'.1 h2 h3'.2
  ·refine wpOp_mono (fun a' w' h3' => ⟨h3'.1, ?_⟩) h.2.2
   rw [hd2];exact wpAnyS_tree hsel hQ v _ a' w' h3'.1 h3 h3'.2

theorem wp_region_tree {id : Nat} {a : Act} {w : World} {l : List Oper} (t : PT) (hm : P.follows .mixedOrders = true) (hB : (Region.noSelect l.toArray && decide (t.depth = l.toArray.size) && t.ok .any l.toArray (Array.replicate l.toArray.size false)) = true)
  (h : ∀ W : World, Hid (W = w.drew) → wpPT (fun x => Below W.heap.size W x) P l.toArray (NoPanic Q) t a W) : (Code.region id l.toArray true).wp P Q a w := by
 refine wp_region_noPanic ?_;have hQ : ∀ c a d v w, NoPanic Q (.panic c) (a.put d v) w → NoPanic Q (.panic c) a w := fun _ _ _ _ _ h => h;simp only [Bool.and_eq_true, decide_eq_true_eq] at hB;obtain ⟨⟨hsel, hd⟩, hok⟩ := hB;refine wp_region_any hm ?_;have H := wpAny_of_S _ _ _ _ (wpAnyS_tree (md := .any) hsel hQ t _ a w.drew (Below.refl _ _) hok (h w.drew (Hd rfl)));rw [hd] at H;exact H

/-! ### the steps -/
section
variable {W : World} {t u : PT} {a : Act} {w : World} {i j : Nat} {o : Oper}
theorem wpTf {v : Value} (hi : ops[i]? = some o) (hw : Region.wanted o (yielded ops a.tmps) = true)
  (hy : ∀ w' : World, (∀ p, (W.cell? p).isSome = true → w'.cell? p = W.cell? p) → (execOp a.eval o).run P w' = .ok (.value v) w') (h : ∀ K : Act → Prop, (∀ a', wpPT (fun x => Below W.heap.size W x) P ops Q t a' w → K a') → K (a.put o.dst v)) : wpPT (fun x => Below W.heap.size W x) P ops Q (.flt i t) a w :=
 ⟨o, v, hi, .inl ⟨hw, fun w' hb => hy w' (fun p hp => by
  have hlt : p.block < W.heap.size := by
   cases hc : W.cell? p with
   | none => rw [hc] at hp; cases hp
   | some u => exact block_lt_of_cell hc
  exact hb.cell hlt)⟩, h _ (fun _ h => h)⟩
theorem wpOp_step {K0 : Act → World → Prop} (hi : ops[i]? = some o) (hw : Region.wanted o (yielded ops a.tmps) = true)
  (h : ∀ K : Act → World → Prop, (∀ a' w', S w' → K0 a' w' → K a' w') → o.wp P a w K Q) : wpOp P ops Q i (fun a' w' => S w' ∧ K0 a' w') a w := by
 unfold wpOp;simp only [hi, hw, if_true];exact .inl (h _ (fun a' w' hb hp => ⟨hb, hp⟩))
theorem wpT1 (hi : ops[i]? = some o) (hw : Region.wanted o (yielded ops a.tmps) = true)
  (h : ∀ K : Act → World → Prop, (∀ a' w', S w' → wpPT S P ops Q t a' w' → K a' w') → o.wp P a w K Q) : wpPT S P ops Q (.one i t) a w := wpOp_step hi hw h
theorem wpPT_two {o' : Oper} (hi : ops[i]? = some o) (hw : Region.wanted o (yielded ops a.tmps) = true) (hj : ops[j]? = some o') (hw' : Region.wanted o' (yielded ops a.tmps) = true)
  (h : ∀ K : Act → World → Prop, (∀ a' w', S w' → wpPT S P ops Q t a' w' → K a' w') → o.wp P a w K Q)
  (h' : ∀ K : Act → World → Prop, (∀ a' w', S w' → wpPT S P ops Q u a' w' → K a' w') → o'.wp P a w K Q) : wpPT S P ops Q (.two i j t u) a w := ⟨wpOp_step hi hw h, wpOp_step hj hw' h'⟩
theorem wpTd (h : Q .normal a w) : wpPT S P ops Q .done a w := h
end
end
theorem foldP_len1024 {n : Nat} (hn : n ≤ 4096) (ps : List (Int × Int)) : ∀ xs ∈ foldP n ps, xs.length ≤ 1024 := poM_len hn ps
theorem ref13_Rf (v : FV) (f : Fac) (w : World) (hF : FactsAt w v f) (hm : v.m ≤ 4096) (hw : WholeF f) :
  Calls Tryz.prog 97 #[.agg #[.slice v.A v.n v.c, .slice v.B v.m v.d, .slice v.C v.k v.e]] w (RetMat1F (v.m : Int) (rfM f.items.length f.frm) w) := by
 have hil := hF.is.len;have hfl := hF.fs.len;have hkv : v.k = v.m := by rw [← hil, ← hfl]; exact hw.len
 rw [show rfM f.items.length f.frm = foldP v.m (rfPs f.frm v.m) from by unfold rfM; rw [hil, hfl, hkv]];have hlt' := hw.lt;rw [hil] at hlt';replace hlt' := Hd hlt';have cN := Hd (ref3_NewF v.m hm);replace hil := Hd hil;replace hfl := Hd hfl;replace hkv := Hd hkv;have hB0 := Hd (FBox.new hF);obtain ⟨g, hg⟩ : ∃ g, g = w.heap.size := ⟨_, rfl⟩;obtain ⟨W0, hW0⟩ : ∃ W, W = w.alloc (.cells #[.slice v.A v.n v.c, .slice v.B v.m v.d, .slice v.C v.k v.e] 29) := ⟨_, rfl⟩;rw [← hW0, ← hg] at hB0;clear hF;obtain ⟨gr, hgr⟩ : ∃ g, g = W0.heap.size := ⟨_, rfl⟩;obtain ⟨W1, hW1⟩ : ∃ W, W = W0.alloc (.cells #[.int .i64 0, .slice none 0 0] 57) := ⟨_, rfl⟩;have b1 : Below W0.heap.size W0 W1 := by rw [hW1]; exact (Below.refl _ _).alloc (Nat.le_refl _) _
 have kR : MatB W1 gr 57 0 none 0 0 := by rw [hW1, hgr]; exact MatB.new W0 _
 have hB1 := Hd (hB0.out.later b1);have p0 := hB1.out.c0;have p1 := hB1.out.c1;have p2 := hB1.out.c2
 go_enter Tryz.func97, Tryz.ntmps97
 go_wp2_with (first | (rw [← hW0, ← hg]; clear hW0 hg) | (rw [← hW1, ← hgr]; clear hW1));refine (cN.out _).mono ?_; rintro e w2 ⟨C, p, q, rfl, hrows, hcap, b2, hfar⟩;have hpn : p = v.m := by rw [← hrows.len]; exact (DimM.new v.m).1
 subst hpn;obtain ⟨M, hM⟩ : ∃ M, M = w2.heap.size := ⟨_, rfl⟩;obtain ⟨W2, hW2⟩ : ∃ W2, W2 = w2.alloc (.cells #[.int .i64 v.m, .slice C v.m q] 57) := ⟨_, rfl⟩;have b3 : Below w2.heap.size w2 W2 := by rw [hW2]; exact (Below.refl _ _).alloc (Nat.le_refl _) _
 have hbb := Hd (bT2 (bT2 b1 b2) b3);have hMV := Hd (show MV W2 M v.m C q (foldP v.m (rfPs f.frm 0)) from ⟨by rw [hW2, hM]; exact MatB.new w2 _, by rw [show rfPs f.frm 0 = [] from rfl, foldP_nil]; exact hrows.below b3, hcap, fun h0 ad e => by have := hrows.block_lt h0 ad e; omega⟩);have hgrM : gr < M := by have := kR.lt; have := b2.size; omega
 have kR2 := Hd ((kR.below_ b2).below_ b3);have hgW : W0.heap.size ≤ gr := by omega
 have hAf := Hd (show ∀ ad, C = some ad → gr < ad.block from fun ad e => by have := hfar ad e; have := kR.lt; omega);replace hgr := Hd hgr;clear hrows hcap b2 b3 hfar kR b1 hB1 p0 p1 p2 cN;go_wp2_with (rw [← hW2, ← hM]; clear hW2; replace hM := Hd hM)
 go_loopw [5] (fun t wr => ∃ (i : Nat) (A : Option Addr) (c : Nat), i ≤ v.m ∧ t = .int .i64 i ∧ Hid (Below W0.heap.size W0 wr) ∧ Hid (MatB wr gr 57 0 none 0 0) ∧ Hid (MV wr M v.m A c (foldP v.m (rfPs f.frm i))) ∧ Hid (∀ ad, A = some ad → gr < ad.block)) (fun t _ => v.m - (intOf t).toNat)
 case atStart => exact ⟨0, _, _, Nat.zero_le _, rfl, hbb, kR2, hMV, hAf⟩
 case round =>
  clear hbb kR2 hMV hAf;obtain ⟨i, A, c, hi, rfl, hbb, kR, hMV, hAf⟩ := hrel;have hB := Hd (hB0.out.later hbb.out);by_cases hlt : i < v.m
  ·have hik : (i : Int) < (v.k : Int) := by have := hkv.out; omega
   have p0 := hB.out.c0;have p1 := hB.out.c1;have p2 := hB.out.c2;obtain ⟨ib, io, z, hzC, hib, hz, hzo, j0⟩ := hB.out.f.fs.int (show i < v.k by have := hkv.out; omega);rw [hzC] at p2;have hgd : f.frm.getD i 0 = z := by rw [List.getD_eq_getElem?_getD, hz]; rfl
   have hrs := rfPs_succ f.frm i;rw [hgd] at hrs;have hzm : z < (v.m : Int) := hlt'.out z (List.mem_of_getElem? hz);replace hgd := Hd hgd;by_cases hz0 : 0 ≤ z
   ·rw [if_pos hz0] at hrs
    have e0 : decide (0 ≤ z) = true := decide_eq_true hz0;have cS := fun W (hW : RowsAt W A v.m (foldP v.m (rfPs f.frm i))) => ref3_SetF (v.m : Int) A v.m c _ z (i : Int) W hW rfl hm (foldP_len1024 hm _) (by unfold inM; simp; omega);replace cS := Hd cS;replace hrs := Hd hrs;replace hz := Hd hz;clear hzo hzC hib;go_wp2_with fail;refine wp_region_planT 9 [(true, 0), (true, 1), (true, 2), (true, 3), (true, 4), (true, 5), (true, 6), (false, 7), (true, 8)] 11 [9, 10] (by kernel_rfl) (by kernel_rfl) (fun W hW => ?_);have hWb : Below wr.heap.size wr W := by rw [hW.out]; exact (Below.refl _ _).drew
    replace hbb := Hd (bT2 hbb.out hWb);replace kR := Hd (kR.out.below_ hWb);replace hMV := Hd (hMV.out.later hWb);replace hB := Hd (hB.out.later hWb);clear p0 p1 p2 j0 hW hWb;have p0 := hB.out.c0;have p1 := hB.out.c1;have p2 := hB.out.c2;obtain ⟨ib', io', z', hzC, hib, hz', hzo, j0⟩ := hB.out.f.fs.int (show i < v.k by have := hkv.out; omega);rw [hz.out] at hz';injection hz' with hz';subst hz';rw [hzC] at p2;have m0 := hMV.out.loc.c0;have m1 := hMV.out.loc.c1;clear hzo hib hzC;simp only [List.drop_succ_cons, List.drop_zero]
    iterate 7
     refine wpEf (v := ?_) rfl (by rfl) (fun w' hw' => ?_) (fun K hK => ?_);rotate_left
     ·(go_simp; try with_reducible rfl)
     go_simp;refine hK _ ?_;clear hK K
    refine wpPlanE_only rfl (by rfl) (fun K hK => ?_);go_simp;refine (cS.out W hMV.out.rows).mono ?_;rintro e w4 ⟨C2, n2, c2, rfl, hrows2, hcap2, b4, hfar2⟩;have hn2 : n2 = v.m := by
     have h1 := hrows2.len;rw [← foldP_last v.m (rfPs f.frm i) (z, (i : Int))] at h1;rw [← h1]; exact (DimM.fold v.m _).1
    subst hn2;refine hK _ _ b4 ?_;clear hK K p0 p1 p2 j0 m0 m1;have hMV4 := Hd (hMV.out.put b4 hrows2 hcap2 hfar2);have hAf4 := Hd (show ∀ ad, C2 = some ad → gr < ad.block from fun ad e => by have := hfar2 ad e; have := kR.out.lt; omega);have kM := hMV.out.loc.below_ b4;have hbb4 := Hd (((bT2 hbb.out b4).setCell (p := ⟨M, 0, none⟩) (by show W0.heap.size ≤ M; omega) (.int .i64 (v.m : Int))).setCell (p := ⟨M, 1, none⟩) (by show W0.heap.size ≤ M; omega) (.slice C2 v.m c2));have kR4 := Hd (((kR.out.below_ b4).farB (p := ⟨M, 0, none⟩) (by show gr ≠ M; omega) (.int .i64 (v.m : Int))).farB (p := ⟨M, 1, none⟩) (by show gr ≠ M; omega) (.slice C2 v.m c2));clear cS hrows2 hfar2 b4
    iterate 1
     refine wpEf (v := ?_) rfl (by rfl) (fun w' hw' => ?_) (fun K hK => ?_);rotate_left
     ·(go_simp; try with_reducible rfl)
     go_simp;refine hK _ ?_;clear hK K
    refine wpPlanE_nil ?_
    iterate 2
     refine wpPlanT_float (v := ?_) rfl (by rfl) (fun w' => ?_) (fun K hK => ?_);rotate_left
     ·(go_simp; try with_reducible rfl)
     go_simp;refine hK _ ?_;clear hK K
    refine wpPlanT_nil ?_;have m0 := kM.c0;have m1 := kM.c1;have g0 := kM.frozen 0;have g1 := kM.frozen 1;clear kM;go_wp2_with fail;refine NoPanic.normal ?_;go_wp2_with fail
    go_roundw
    case rel => exact ⟨i + 1, C2, c2, by omega, by go_num, hbb4, kR4, Hd (by rw [hrs.out, foldP_last]; exact hMV4.out), hAf4⟩
    case measure => simp [intOf]; omega
   ·rw [if_neg hz0] at hrs
    have e0 : decide (0 ≤ z) = false := decide_eq_false hz0;replace hrs := Hd hrs;clear hzC hz hzo;go_wp2_with fail;exact ⟨⟨i + 1, A, c, by omega, by go_num, hbb, kR, Hd (by rw [hrs.out]; exact hMV.out), hAf⟩, by simp [intOf]; omega⟩
  ·have hik : ¬ (i : Int) < (v.k : Int) := by have := hkv.out; omega
   have him : i = v.m := by omega
   rw [him] at hMV;replace him := Hd him;have p2 := hB.out.c2;have m0 := hMV.out.loc.c0;have m1 := hMV.out.loc.c1;have f0 := kR.out.c0;have f1 := kR.out.c1;have g0 := kR.out.frozen 0;have g1 := kR.out.frozen 1;have hcc := kR.out.two (.int .i64 (v.m : Int)) (.slice A v.m c);have hc1 := Hd hcc.1;have hc2 := Hd hcc.2;have hrf := Hd (show RowsAt ((wr.setCell ⟨gr, 0, none⟩ (.int .i64 (v.m : Int))).setCell ⟨gr, 1, none⟩ (.slice A v.m c)) A v.m (foldP v.m (rfPs f.frm v.m)) from hMV.out.rows.putB kR.out (fun h0 ad e hb => by have := hAf.out ad e; omega) _ _);have hbf := Hd (((bT2 hB0.out.o hbb.out).setCell (p := ⟨gr, 0, none⟩) (by have := hB0.out.o.size; show w.heap.size ≤ gr; omega) (.int .i64 (v.m : Int))).setCell (p := ⟨gr, 1, none⟩) (by have := hB0.out.o.size; show w.heap.size ≤ gr; omega) (.slice A v.m c));clear hcc hlt;go_wp2_with fail;exact bodyPost_ret (v := .agg #[.int .i64 (v.m : Int), .slice A v.m c]) (by simp [results, Tryz.results97, go_sem, hc1.out, hc2.out]) rfl ⟨A, v.m, c, rfl, hrf.out, hMV.out.cap, hbf.out, fun ad e => by have := hAf.out ad e; have := hB0.out.o.size; omega⟩
theorem rows_len_pos {n : Nat} {xss : List (List Nat)} (h : Good n xss) (hn : 0 < n) : ∀ xs ∈ xss, 0 < xs.length := fun xs hx => by
 have := (h.row xs hx).2.1; omega
theorem RowsAt.farZ {w : World} {C : Option Addr} {p g : Nat} {t : TypeId} {xss : List (List Nat)} {N : Int} (h : RowsAt w C p xss) (hM : MatB w g t N none 0 0) (hl : ∀ xs ∈ xss, 0 < xs.length) : 0 < p → ∀ ad, C = some ad → ad.block ≠ g := by
 intro h0 ad e;obtain ⟨b, off, B, m, d, xs, e2, _, hx, hc, hr⟩ := h.at_ h0;rw [e] at e2
 cases e2
 intro hb;have hb' : b = g := hb;subst hb';rw [Blk.cell hM] at hc
 match off + 0, hc with
 | 0, hc => simp at hc
 | 1, hc =>
  simp at hc;obtain ⟨rfl, rfl, rfl⟩ := hc;have h1 := hr.len;have := hl xs (List.mem_of_getElem? hx)
  omega
 | k + 2, hc => simp at hc
theorem ref13_Edges (v : FV) (f : Fac) (w : World) (hF : FactsAt w v f) (hm : v.m ≤ 4096) (hw : WholeF f) :
  Calls Tryz.prog 65 #[.agg #[.slice v.A v.n v.c, .slice v.B v.m v.d, .slice v.C v.k v.e]] w (RetMat1F (v.m : Int) (edgeM f) w) := by
 have hil := hF.is.len;have gp := poM_good (is := f.items) (by omega);have gq := rfM_good hw (by omega);rw [hil] at gp gq;obtain ⟨pm, hpm⟩ : ∃ m, m = poM f.items := ⟨_, rfl⟩;obtain ⟨rm, hrm⟩ : ∃ m, m = rfM f.items.length f.frm := ⟨_, rfl⟩;rw [hil] at hrm;have cPo := fun W hW => ref12_Po v f W hW hm;have cRf := fun W hW => ref13_Rf v f W hW hm hw;unfold edgeM;rw [hil] at cRf ⊢;rw [← hpm] at gp cPo ⊢;rw [← hrm] at gq cRf ⊢;have hpl := Hd gp.1.len;have hrl := Hd gq.1.len;have hp24 := Hd (show ∀ (i : Nat) (xs : List Nat), pm[i]? = some xs → xs.length ≤ 1024 from fun i xs h => Nat.le_trans (gp.1.small xs (List.mem_of_getElem? h)) (by decide));have hr24 := Hd (show ∀ (i : Nat) (xs : List Nat), rm[i]? = some xs → xs.length ≤ 1024 from fun i xs h => Nat.le_trans (gq.1.small xs (List.mem_of_getElem? h)) (by decide));replace cPo := Hd cPo;replace cRf := Hd cRf;clear gp gq hpm hrm hil;have hB0 := Hd (FBox.new hF);obtain ⟨g, hg⟩ : ∃ g, g = w.heap.size := ⟨_, rfl⟩;obtain ⟨W0, hW0⟩ : ∃ W, W = w.alloc (.cells #[.slice v.A v.n v.c, .slice v.B v.m v.d, .slice v.C v.k v.e] 29) := ⟨_, rfl⟩;rw [← hW0, ← hg] at hB0;clear hF;obtain ⟨gr, hgr⟩ : ∃ g, g = W0.heap.size := ⟨_, rfl⟩;obtain ⟨W1, hW1⟩ : ∃ W, W = W0.alloc (.cells #[.int .i64 0, .slice none 0 0] 57) := ⟨_, rfl⟩;have b1 : Below W0.heap.size W0 W1 := by rw [hW1]; exact (Below.refl _ _).alloc (Nat.le_refl _) _
 have kR : MatB W1 gr 57 0 none 0 0 := by rw [hW1, hgr]; exact MatB.new W0 _
 have hB1 := Hd (hB0.out.later b1);have hgw := Hd (show w.heap.size ≤ gr from by rw [hgr]; exact hB0.out.o.size)
 go_enter Tryz.func65, Tryz.ntmps65
 go_wp2_with (first | (rw [← hW0, ← hg]; clear hW0 hg) | (rw [← hW1, ← hgr]; clear hW1; replace hgr := Hd hgr));refine wp_region_tree (.flt 0 (.flt 2 (.two 1 8 (.two 3 8 (.two 4 8 (.flt 5 (.flt 6 (.flt 7 (.one 8 (.one 9 (.flt 10 .done)))))) (.one 4 (.flt 5 (.flt 6 (.flt 7 (.one 9 (.flt 10 .done))))))) (.one 3 (.one 4 (.flt 5 (.flt 6 (.flt 7 (.one 9 (.flt 10 .done)))))))) (.one 1 (.one 3 (.one 4 (.flt 5 (.flt 6 (.flt 7 (.one 9 (.flt 10 .done))))))))))) (by kernel_rfl) (by kernel_rfl) (fun U hU => ?_);have hkR := Hd (show MatB U gr 57 0 none 0 0 from by rw [hU.out]; exact kR.below_ (Below.refl _ _).drew);have hBU := Hd (show FBox w g v f U from by rw [hU.out]; exact hB1.out.later (Below.refl _ _).drew);clear hU hB1 b1 kR hB0;have bW : Below U.heap.size U U := Below.refl _ _;have p0 := hBU.out.c0;have p1 := hBU.out.c1;have p2 := hBU.out.c2
 iterate 2
  refine wpTf (v := ?_) rfl (by rfl) (fun w' hw' => ?_) (fun K hK => ?_);rotate_left
  ·(go_simp; try with_reducible rfl)
  go_simp;refine hK _ ?_;clear hK K
 clear p0 p1 p2;refine wpPT_two rfl (by rfl) rfl (by rfl) (fun K hK => ?_) (fun K hK => ?_)
 ·skip
  go_simp;refine (cPo.out U (hBU.out.later bW).f).mono ?_; rintro e v1 ⟨A1, n1, c1, rfl, r1, hc1, b, -⟩;obtain rfl : n1 = v.m := by rw [← r1.len]; exact hpl.out
  replace bW := bT2 bW b;refine hK _ _ bW ?_;clear hK K;replace r1 := Hd r1;clear b;refine wpPT_two rfl (by rfl) rfl (by rfl) (fun K hK => ?_) (fun K hK => ?_)
  ·skip
   go_simp;refine (cRf.out v1 (hBU.out.later bW).f).mono ?_; rintro e v2 ⟨A2, n2, c2, rfl, r2, hc2, b, -⟩;obtain rfl : n2 = v.m := by rw [← r2.len]; exact hrl.out
   replace bW := bT2 bW b;refine hK _ _ bW ?_;clear hK K;replace r2 := Hd r2;replace r1 := Hd (r1.out.below b);clear b;refine wpPT_two rfl (by rfl) rfl (by rfl) (fun K hK => ?_) (fun K hK => ?_)
   ·skip
    have cE := Hd (ref3_OrF A1 A2 v.m c1 c2 pm rm v2 r1.out r2.out hm hp24.out hr24.out);go_simp;refine cE.out.mono ?_; rintro e v3 ⟨A3, n3, c3, rfl, r3, hc3, b, hfar⟩;obtain rfl : n3 = v.m := by rw [← r3.len, orM_len]; exact hpl.out
    have hfz3 := hfar;replace hfar : ∀ ad, A3 = some ad → U.heap.size ≤ ad.block := fun ad e => Nat.le_trans bW.size (hfar ad e);replace bW := bT2 bW b;refine hK _ _ bW ?_;clear hK K cE r1 r2;clear b
    iterate 3
     refine wpTf (v := ?_) rfl (by rfl) (fun w' hw' => ?_) (fun K hK => ?_);rotate_left
     ·(go_simp; try with_reducible rfl)
     go_simp;refine hK _ ?_;clear hK K
    refine wpT1 rfl (by rfl) (fun K hK => ?_);go_simp;obtain ⟨M, hM⟩ : ∃ M, M = (World.heap v3).size := ⟨_, rfl⟩;obtain ⟨v4, hw⟩ : ∃ X : World, X = World.alloc v3 (.cells #[.int .i64 0, .slice none 0 0] 57) := ⟨_, rfl⟩;rw [← hw, ← hM];have b : Below (World.heap v3).size v3 v4 := by rw [hw]; exact bAl _ _
    have hUM : U.heap.size ≤ M := by rw [hM]; exact bW.size
    replace bW := bT2 bW b;refine hK _ _ bW ?_;clear hK K;have kM := Hd (show MatB v4 M 57 0 none 0 0 from by rw [hw, hM]; exact MatB.new _ _);have hne : 0 < v.m → ∀ ad, A3 = some ad → ad.block ≠ M := fun h0 ad e => by have := r3.block_lt h0 ad e; omega
    replace r3 := r3.below b;clear b;clear hw hM;have f0 := kM.out.c0;have f1 := kM.out.c1;have g0 := kM.out.frozen 0;have g1 := kM.out.frozen 1;refine wpT1 rfl (by rfl) (fun K hK => ?_);go_simp;obtain ⟨wz, hw⟩ : ∃ X : World, X = (World.setCell v4 ⟨M, 0, none⟩ (.int .i64 (v.m : Int))).setCell ⟨M, 1, none⟩ (.slice A3 v.m c3) := ⟨_, rfl⟩;rw [← hw];have r4 := Hd (show RowsAt wz A3 v.m (orM pm rm) from by rw [hw]; exact r3.putB kM.out hne _ _);have k4 := Hd (show MatB wz M 57 (v.m : Int) A3 v.m c3 from by rw [hw]; exact kM.out.put _ _ _ _);replace bW : Below U.heap.size U wz := by rw [hw]; exact (bW.setCell (p := ⟨M, 0, none⟩) hUM _).setCell (p := ⟨M, 1, none⟩) hUM _
    refine hK _ _ bW ?_;clear hK K f0 f1 g0 g1 hw r3 kM
    iterate 1
     refine wpTf (v := ?_) rfl (by rfl) (fun w' hw' => ?_) (fun K hK => ?_);rotate_left
     ·(go_simp; try with_reducible rfl)
     go_simp;refine hK _ ?_;clear hK K
    refine wpTd (NoPanic.normal ?_);have kR4 := hkR.out.below_ bW;have m0 := k4.out.c0;have m1 := k4.out.c1;have f0 := kR4.c0;have f1 := kR4.c1;have g0 := kR4.frozen 0;have g1 := kR4.frozen 1;have hcc := kR4.two (.int .i64 (v.m : Int)) (.slice A3 v.m c3);have hc1 := Hd hcc.1;have hc2 := Hd hcc.2;have hrf := Hd (r4.out.putB kR4 (fun h0 ad e hb => by have := hfar ad e; have := hkR.out.lt; omega) (.int .i64 (v.m : Int)) (.slice A3 v.m c3));have hbf := Hd (((bT2 hBU.out.o bW).setCell (p := ⟨gr, 0, none⟩) hgw.out (.int .i64 (v.m : Int))).setCell (p := ⟨gr, 1, none⟩) hgw.out (.slice A3 v.m c3));have hfz := Hd (show ∀ ad, A3 = some ad → w.heap.size ≤ ad.block from fun ad e => Nat.le_trans hBU.out.o.size (hfar ad e));clear hcc bW hfar hne k4 r4;go_wp2_with fail;exact bodyPost_ret (v := .agg #[.int .i64 (v.m : Int), .slice A3 v.m c3]) (by simp [results, Tryz.results65, go_sem, hc1.out, hc2.out]) rfl ⟨A3, v.m, c3, rfl, hrf.out, hc3, hbf.out, hfz.out⟩
   ·skip
    go_simp;obtain ⟨M, hM⟩ : ∃ M, M = (World.heap v2).size := ⟨_, rfl⟩;obtain ⟨v5, hw⟩ : ∃ X : World, X = World.alloc v2 (.cells #[.int .i64 0, .slice none 0 0] 57) := ⟨_, rfl⟩;rw [← hw, ← hM];have b : Below (World.heap v2).size v2 v5 := by rw [hw]; exact bAl _ _
    have hUM : U.heap.size ≤ M := by rw [hM]; exact bW.size
    replace bW := bT2 bW b;refine hK _ _ bW ?_;clear hK K;have kM := Hd (show MatB v5 M 57 0 none 0 0 from by rw [hw, hM]; exact MatB.new _ _);replace r1 := Hd (r1.out.below b);replace r2 := Hd (r2.out.below b);clear b;clear hw hM;refine wpT1 rfl (by rfl) (fun K hK => ?_);have cE := Hd (ref3_OrF A1 A2 v.m c1 c2 pm rm v5 r1.out r2.out hm hp24.out hr24.out);go_simp;refine cE.out.mono ?_; rintro e v6 ⟨A3, n3, c3, rfl, r3, hc3, b, hfar⟩;obtain rfl : n3 = v.m := by rw [← r3.len, orM_len]; exact hpl.out
    have hfz3 := hfar;replace hfar : ∀ ad, A3 = some ad → U.heap.size ≤ ad.block := fun ad e => Nat.le_trans bW.size (hfar ad e);replace bW := bT2 bW b;refine hK _ _ bW ?_;clear hK K cE r1 r2;have hne : 0 < v.m → ∀ ad, A3 = some ad → ad.block ≠ M := fun h0 ad e => by have := hfz3 ad e; have := kM.out.lt; omega
    replace kM := Hd (kM.out.below_ b);clear b
    iterate 3
     refine wpTf (v := ?_) rfl (by rfl) (fun w' hw' => ?_) (fun K hK => ?_);rotate_left
     ·(go_simp; try with_reducible rfl)
     go_simp;refine hK _ ?_;clear hK K
    have f0 := kM.out.c0;have f1 := kM.out.c1;have g0 := kM.out.frozen 0;have g1 := kM.out.frozen 1;refine wpT1 rfl (by rfl) (fun K hK => ?_);go_simp;obtain ⟨wz, hw⟩ : ∃ X : World, X = (World.setCell v6 ⟨M, 0, none⟩ (.int .i64 (v.m : Int))).setCell ⟨M, 1, none⟩ (.slice A3 v.m c3) := ⟨_, rfl⟩;rw [← hw];have r4 := Hd (show RowsAt wz A3 v.m (orM pm rm) from by rw [hw]; exact r3.putB kM.out hne _ _);have k4 := Hd (show MatB wz M 57 (v.m : Int) A3 v.m c3 from by rw [hw]; exact kM.out.put _ _ _ _);replace bW : Below U.heap.size U wz := by rw [hw]; exact (bW.setCell (p := ⟨M, 0, none⟩) hUM _).setCell (p := ⟨M, 1, none⟩) hUM _
    refine hK _ _ bW ?_;clear hK K f0 f1 g0 g1 hw r3 kM
    iterate 1
     refine wpTf (v := ?_) rfl (by rfl) (fun w' hw' => ?_) (fun K hK => ?_);rotate_left
     ·(go_simp; try with_reducible rfl)
     go_simp;refine hK _ ?_;clear hK K
    refine wpTd (NoPanic.normal ?_);have kR4 := hkR.out.below_ bW;have m0 := k4.out.c0;have m1 := k4.out.c1;have f0 := kR4.c0;have f1 := kR4.c1;have g0 := kR4.frozen 0;have g1 := kR4.frozen 1;have hcc := kR4.two (.int .i64 (v.m : Int)) (.slice A3 v.m c3);have hc1 := Hd hcc.1;have hc2 := Hd hcc.2;have hrf := Hd (r4.out.putB kR4 (fun h0 ad e hb => by have := hfar ad e; have := hkR.out.lt; omega) (.int .i64 (v.m : Int)) (.slice A3 v.m c3));have hbf := Hd (((bT2 hBU.out.o bW).setCell (p := ⟨gr, 0, none⟩) hgw.out (.int .i64 (v.m : Int))).setCell (p := ⟨gr, 1, none⟩) hgw.out (.slice A3 v.m c3));have hfz := Hd (show ∀ ad, A3 = some ad → w.heap.size ≤ ad.block from fun ad e => Nat.le_trans hBU.out.o.size (hfar ad e));clear hcc bW hfar hne k4 r4;go_wp2_with fail;exact bodyPost_ret (v := .agg #[.int .i64 (v.m : Int), .slice A3 v.m c3]) (by simp [results, Tryz.results65, go_sem, hc1.out, hc2.out]) rfl ⟨A3, v.m, c3, rfl, hrf.out, hc3, hbf.out, hfz.out⟩
  ·skip
   go_simp;obtain ⟨M, hM⟩ : ∃ M, M = (World.heap v1).size := ⟨_, rfl⟩;obtain ⟨v7, hw⟩ : ∃ X : World, X = World.alloc v1 (.cells #[.int .i64 0, .slice none 0 0] 57) := ⟨_, rfl⟩;rw [← hw, ← hM];have b : Below (World.heap v1).size v1 v7 := by rw [hw]; exact bAl _ _
   have hUM : U.heap.size ≤ M := by rw [hM]; exact bW.size
   replace bW := bT2 bW b;refine hK _ _ bW ?_;clear hK K;have kM := Hd (show MatB v7 M 57 0 none 0 0 from by rw [hw, hM]; exact MatB.new _ _);replace r1 := Hd (r1.out.below b);clear b;clear hw hM;refine wpT1 rfl (by rfl) (fun K hK => ?_);go_simp;refine (cRf.out v7 (hBU.out.later bW).f).mono ?_; rintro e v8 ⟨A2, n2, c2, rfl, r2, hc2, b, -⟩;obtain rfl : n2 = v.m := by rw [← r2.len]; exact hrl.out
   replace bW := bT2 bW b;refine hK _ _ bW ?_;clear hK K;replace r2 := Hd r2;replace r1 := Hd (r1.out.below b);replace kM := Hd (kM.out.below_ b);clear b;refine wpT1 rfl (by rfl) (fun K hK => ?_);have cE := Hd (ref3_OrF A1 A2 v.m c1 c2 pm rm v8 r1.out r2.out hm hp24.out hr24.out);go_simp;refine cE.out.mono ?_; rintro e v9 ⟨A3, n3, c3, rfl, r3, hc3, b, hfar⟩;obtain rfl : n3 = v.m := by rw [← r3.len, orM_len]; exact hpl.out
   have hfz3 := hfar;replace hfar : ∀ ad, A3 = some ad → U.heap.size ≤ ad.block := fun ad e => Nat.le_trans bW.size (hfar ad e);replace bW := bT2 bW b;refine hK _ _ bW ?_;clear hK K cE r1 r2;have hne : 0 < v.m → ∀ ad, A3 = some ad → ad.block ≠ M := fun h0 ad e => by have := hfz3 ad e; have := kM.out.lt; omega
   replace kM := Hd (kM.out.below_ b);clear b
   iterate 3
    refine wpTf (v := ?_) rfl (by rfl) (fun w' hw' => ?_) (fun K hK => ?_);rotate_left
    ·(go_simp; try with_reducible rfl)
    go_simp;refine hK _ ?_;clear hK K
   have f0 := kM.out.c0;have f1 := kM.out.c1;have g0 := kM.out.frozen 0;have g1 := kM.out.frozen 1;refine wpT1 rfl (by rfl) (fun K hK => ?_);go_simp;obtain ⟨wz, hw⟩ : ∃ X : World, X = (World.setCell v9 ⟨M, 0, none⟩ (.int .i64 (v.m : Int))).setCell ⟨M, 1, none⟩ (.slice A3 v.m c3) := ⟨_, rfl⟩;rw [← hw];have r4 := Hd (show RowsAt wz A3 v.m (orM pm rm) from by rw [hw]; exact r3.putB kM.out hne _ _);have k4 := Hd (show MatB wz M 57 (v.m : Int) A3 v.m c3 from by rw [hw]; exact kM.out.put _ _ _ _);replace bW : Below U.heap.size U wz := by rw [hw]; exact (bW.setCell (p := ⟨M, 0, none⟩) hUM _).setCell (p := ⟨M, 1, none⟩) hUM _
   refine hK _ _ bW ?_;clear hK K f0 f1 g0 g1 hw r3 kM
   iterate 1
    refine wpTf (v := ?_) rfl (by rfl) (fun w' hw' => ?_) (fun K hK => ?_);rotate_left
    ·(go_simp; try with_reducible rfl)
    go_simp;refine hK _ ?_;clear hK K
   refine wpTd (NoPanic.normal ?_);have kR4 := hkR.out.below_ bW;have m0 := k4.out.c0;have m1 := k4.out.c1;have f0 := kR4.c0;have f1 := kR4.c1;have g0 := kR4.frozen 0;have g1 := kR4.frozen 1;have hcc := kR4.two (.int .i64 (v.m : Int)) (.slice A3 v.m c3);have hc1 := Hd hcc.1;have hc2 := Hd hcc.2;have hrf := Hd (r4.out.putB kR4 (fun h0 ad e hb => by have := hfar ad e; have := hkR.out.lt; omega) (.int .i64 (v.m : Int)) (.slice A3 v.m c3));have hbf := Hd (((bT2 hBU.out.o bW).setCell (p := ⟨gr, 0, none⟩) hgw.out (.int .i64 (v.m : Int))).setCell (p := ⟨gr, 1, none⟩) hgw.out (.slice A3 v.m c3));have hfz := Hd (show ∀ ad, A3 = some ad → w.heap.size ≤ ad.block from fun ad e => Nat.le_trans hBU.out.o.size (hfar ad e));clear hcc bW hfar hne k4 r4;go_wp2_with fail;exact bodyPost_ret (v := .agg #[.int .i64 (v.m : Int), .slice A3 v.m c3]) (by simp [results, Tryz.results65, go_sem, hc1.out, hc2.out]) rfl ⟨A3, v.m, c3, rfl, hrf.out, hc3, hbf.out, hfz.out⟩
 ·skip
  go_simp;obtain ⟨M, hM⟩ : ∃ M, M = (World.heap U).size := ⟨_, rfl⟩;obtain ⟨v10, hw⟩ : ∃ X : World, X = World.alloc U (.cells #[.int .i64 0, .slice none 0 0] 57) := ⟨_, rfl⟩;rw [← hw, ← hM];have b : Below (World.heap U).size U v10 := by rw [hw]; exact bAl _ _
  have hUM : U.heap.size ≤ M := by rw [hM]; exact bW.size
  replace bW := bT2 bW b;refine hK _ _ bW ?_;clear hK K;have kM := Hd (show MatB v10 M 57 0 none 0 0 from by rw [hw, hM]; exact MatB.new _ _);clear b;clear hw hM;refine wpT1 rfl (by rfl) (fun K hK => ?_);go_simp;refine (cPo.out v10 (hBU.out.later bW).f).mono ?_; rintro e v11 ⟨A1, n1, c1, rfl, r1, hc1, b, -⟩;obtain rfl : n1 = v.m := by rw [← r1.len]; exact hpl.out
  replace bW := bT2 bW b;refine hK _ _ bW ?_;clear hK K;replace r1 := Hd r1;replace kM := Hd (kM.out.below_ b);clear b;refine wpT1 rfl (by rfl) (fun K hK => ?_);go_simp;refine (cRf.out v11 (hBU.out.later bW).f).mono ?_; rintro e v12 ⟨A2, n2, c2, rfl, r2, hc2, b, -⟩;obtain rfl : n2 = v.m := by rw [← r2.len]; exact hrl.out
  replace bW := bT2 bW b;refine hK _ _ bW ?_;clear hK K;replace r2 := Hd r2;replace kM := Hd (kM.out.below_ b);replace r1 := Hd (r1.out.below b);clear b;refine wpT1 rfl (by rfl) (fun K hK => ?_);have cE := Hd (ref3_OrF A1 A2 v.m c1 c2 pm rm v12 r1.out r2.out hm hp24.out hr24.out);go_simp;refine cE.out.mono ?_; rintro e v13 ⟨A3, n3, c3, rfl, r3, hc3, b, hfar⟩;obtain rfl : n3 = v.m := by rw [← r3.len, orM_len]; exact hpl.out
  have hfz3 := hfar;replace hfar : ∀ ad, A3 = some ad → U.heap.size ≤ ad.block := fun ad e => Nat.le_trans bW.size (hfar ad e);replace bW := bT2 bW b;refine hK _ _ bW ?_;clear hK K cE r1 r2;have hne : 0 < v.m → ∀ ad, A3 = some ad → ad.block ≠ M := fun h0 ad e => by have := hfz3 ad e; have := kM.out.lt; omega
  replace kM := Hd (kM.out.below_ b);clear b
  iterate 3
   refine wpTf (v := ?_) rfl (by rfl) (fun w' hw' => ?_) (fun K hK => ?_);rotate_left
   ·(go_simp; try with_reducible rfl)
   go_simp;refine hK _ ?_;clear hK K
  have f0 := kM.out.c0;have f1 := kM.out.c1;have g0 := kM.out.frozen 0;have g1 := kM.out.frozen 1;refine wpT1 rfl (by rfl) (fun K hK => ?_);go_simp;obtain ⟨wz, hw⟩ : ∃ X : World, X = (World.setCell v13 ⟨M, 0, none⟩ (.int .i64 (v.m : Int))).setCell ⟨M, 1, none⟩ (.slice A3 v.m c3) := ⟨_, rfl⟩;rw [← hw];have r4 := Hd (show RowsAt wz A3 v.m (orM pm rm) from by rw [hw]; exact r3.putB kM.out hne _ _);have k4 := Hd (show MatB wz M 57 (v.m : Int) A3 v.m c3 from by rw [hw]; exact kM.out.put _ _ _ _);replace bW : Below U.heap.size U wz := by rw [hw]; exact (bW.setCell (p := ⟨M, 0, none⟩) hUM _).setCell (p := ⟨M, 1, none⟩) hUM _
  refine hK _ _ bW ?_;clear hK K f0 f1 g0 g1 hw r3 kM
  iterate 1
   refine wpTf (v := ?_) rfl (by rfl) (fun w' hw' => ?_) (fun K hK => ?_);rotate_left
   ·(go_simp; try with_reducible rfl)
   go_simp;refine hK _ ?_;clear hK K
  refine wpTd (NoPanic.normal ?_);have kR4 := hkR.out.below_ bW;have m0 := k4.out.c0;have m1 := k4.out.c1;have f0 := kR4.c0;have f1 := kR4.c1;have g0 := kR4.frozen 0;have g1 := kR4.frozen 1;have hcc := kR4.two (.int .i64 (v.m : Int)) (.slice A3 v.m c3);have hc1 := Hd hcc.1;have hc2 := Hd hcc.2;have hrf := Hd (r4.out.putB kR4 (fun h0 ad e hb => by have := hfar ad e; have := hkR.out.lt; omega) (.int .i64 (v.m : Int)) (.slice A3 v.m c3));have hbf := Hd (((bT2 hBU.out.o bW).setCell (p := ⟨gr, 0, none⟩) hgw.out (.int .i64 (v.m : Int))).setCell (p := ⟨gr, 1, none⟩) hgw.out (.slice A3 v.m c3));have hfz := Hd (show ∀ ad, A3 = some ad → w.heap.size ≤ ad.block from fun ad e => Nat.le_trans hBU.out.o.size (hfar ad e));clear hcc bW hfar hne k4 r4;go_wp2_with fail;exact bodyPost_ret (v := .agg #[.int .i64 (v.m : Int), .slice A3 v.m c3]) (by simp [results, Tryz.results65, go_sem, hc1.out, hc2.out]) rfl ⟨A3, v.m, c3, rfl, hrf.out, hc3, hbf.out, hfz.out⟩
theorem ref13_Co (v : FV) (f : Fac) (w : World) (hF : FactsAt w v f) (hm : v.m < 64) (hw : WholeF f) :
  Calls Tryz.prog 37 #[.agg #[.slice v.A v.n v.c, .slice v.B v.m v.d, .slice v.C v.k v.e]] w (RetMat1 (v.m : Int) (coM f) w) := by
 have hil := hF.is.len;have ge := (edgeM_good hw (by omega)).1;have gc := (coM_hull hw (by omega)).1;have cE := Hd (fun W hW => ref13_Edges v f W hW (by omega) hw);rw [hil] at ge gc;have hlc := Hd gc.len;have hpos := Hd (fun h0 => rows_len_pos gc h0);have cC := fun A c W hW => ref4_Close A v.m c (edgeM f) W hW ge hm;rw [show closeK (edgeM f) v.m = coM f from by unfold coM; rw [hil]] at cC;have hel := Hd ge.len;replace cC := Hd cC;clear ge gc hil;have hB0 := Hd (FBox.new hF);obtain ⟨g, hg⟩ : ∃ g, g = w.heap.size := ⟨_, rfl⟩;obtain ⟨W0, hW0⟩ : ∃ W, W = w.alloc (.cells #[.slice v.A v.n v.c, .slice v.B v.m v.d, .slice v.C v.k v.e] 29) := ⟨_, rfl⟩;rw [← hW0, ← hg] at hB0;clear hF;obtain ⟨gr, hgr⟩ : ∃ g, g = W0.heap.size := ⟨_, rfl⟩;obtain ⟨W1, hW1⟩ : ∃ W, W = W0.alloc (.cells #[.int .i64 0, .slice none 0 0] 57) := ⟨_, rfl⟩;have b1 : Below W0.heap.size W0 W1 := by rw [hW1]; exact (Below.refl _ _).alloc (Nat.le_refl _) _
 have kR : MatB W1 gr 57 0 none 0 0 := by rw [hW1, hgr]; exact MatB.new W0 _
 have hB1 := Hd (hB0.out.later b1);have hgw := Hd (show w.heap.size ≤ gr from by rw [hgr]; exact hB0.out.o.size);have p0 := hB1.out.c0;have p1 := hB1.out.c1;have p2 := hB1.out.c2;clear b1 hB0
 go_enter Tryz.func37, Tryz.ntmps37
 go_wp2_with (first | (rw [← hW0, ← hg]; clear hW0 hg) | (rw [← hW1, ← hgr]; clear hW1; replace hgr := Hd hgr));refine (cE.out _ hB1.out.f).mono ?_; rintro e w2 ⟨A1, n1, c1, rfl, r1, hc1, b2, -⟩;obtain rfl : n1 = v.m := by rw [← r1.len]; exact hel.out
 replace kR := kR.below_ b2;have hB2 := Hd (hB1.out.later b2);replace r1 := Hd r1;clear p0 p1 p2 b2 hB1;go_wp2_with fail;refine (cC.out A1 c1 w2 r1.out).mono ?_; rintro e w3 ⟨A3, n3, c3, rfl, r3, hc3, b3⟩;obtain rfl : n3 = v.m := by rw [← r3.len]; exact hlc.out
 have kR4 := kR.below_ b3;have hfz := r3.farZ kR4;have hB3 := Hd (hB2.out.later b3);have f0 := kR4.c0;have f1 := kR4.c1;have g0 := kR4.frozen 0;have g1 := kR4.frozen 1;have hcc := kR4.two (.int .i64 (v.m : Int)) (.slice A3 v.m c3);have hd1 := Hd hcc.1;have hd2 := Hd hcc.2;have hrf := Hd (r3.putB kR4 (fun h0 => hfz (hpos.out h0) h0) (.int .i64 (v.m : Int)) (.slice A3 v.m c3));have hbf := Hd ((hB3.out.o.setCell (p := ⟨gr, 0, none⟩) hgw.out (.int .i64 (v.m : Int))).setCell (p := ⟨gr, 1, none⟩) hgw.out (.slice A3 v.m c3));clear hcc hfz kR b3 r3 kR4;go_wp2_with fail;exact bodyPost_ret (v := .agg #[.int .i64 (v.m : Int), .slice A3 v.m c3]) (by simp [results, Tryz.results37, go_sem, hd1.out, hd2.out]) rfl ⟨A3, v.m, c3, rfl, hrf.out, hc3, hbf.out⟩
theorem LoopIs.b {n : Nat} {a : List (List Nat)} {r : Int} {b : Bool} (h : LoopIs n a r b) : b = loopB n a := by
 rcases h with ⟨rfl, i, -, hi, hr, -⟩ | ⟨rfl, -, hno⟩
 ·exact (loopB_iff.2 ⟨i, hi, hr⟩).symm
 ·cases h : loopB n a with
  | false => rfl
  | true => obtain ⟨i, hi, hr⟩ := loopB_iff.1 h; exact absurd hr (hno i hi)
def RetW1 (x : Wit) (w : World) (e : Ending) (w' : World) : Prop := e = .returned (.agg #[.int .i64 x.ki, .int .i64 x.r, .int .i64 x.w1, .int .i64 x.w2, .int .i64 x.o, .slice none 0 0, .int .i64 x.fi, .int .i64 x.se]) ∧ Below w.heap.size w w'
theorem Blk.put8 {w : World} {g : Nat} {t : TypeId} {c0 c1 c2 c3 c4 c5 c6 c7 : Value} (h : Blk w g t [c0, c1, c2, c3, c4, c5, c6, c7]) (a0 a1 a2 a3 a4 a5 a6 a7 : Value) :
  Blk ((((((((w.setCell ⟨g, 0, none⟩ a0).setCell ⟨g, 1, none⟩ a1).setCell ⟨g, 2, none⟩ a2).setCell ⟨g, 3, none⟩ a3).setCell ⟨g, 4, none⟩ a4).setCell ⟨g, 5, none⟩ a5).setCell ⟨g, 6, none⟩ a6).setCell ⟨g, 7, none⟩ a7) g t [a0, a1, a2, a3, a4, a5, a6, a7] :=
 (((((((h.set_ 0 a0).set_ 1 a1).set_ 2 a2).set_ 3 a3).set_ 4 a4).set_ 5 a5).set_ 6 a6).set_ 7 a7
theorem bP8 {w w' : World} {B g : Nat} (h : Below B w w') (hg : B ≤ g) (a0 a1 a2 a3 a4 a5 a6 a7 : Value) :
  Below B w ((((((((w'.setCell ⟨g, 0, none⟩ a0).setCell ⟨g, 1, none⟩ a1).setCell ⟨g, 2, none⟩ a2).setCell ⟨g, 3, none⟩ a3).setCell ⟨g, 4, none⟩ a4).setCell ⟨g, 5, none⟩ a5).setCell ⟨g, 6, none⟩ a6).setCell ⟨g, 7, none⟩ a7) :=
 (((((((h.setCell (p := ⟨g, 0, none⟩) hg _).setCell (p := ⟨g, 1, none⟩) hg _).setCell (p := ⟨g, 2, none⟩) hg _).setCell (p := ⟨g, 3, none⟩) hg _).setCell (p := ⟨g, 4, none⟩) hg _).setCell (p := ⟨g, 5, none⟩) hg _).setCell (p := ⟨g, 6, none⟩) hg _).setCell (p := ⟨g, 7, none⟩) hg _
theorem ref19_None (k : Int) (w : World) : Calls Tryz.prog 66 #[.int .i64 k] w (RetW1 (noneW k) w) := by
 obtain ⟨W1, hW1⟩ : ∃ W, W = w.alloc (.cells #[.int .i64 0, .int .i64 0, .int .i64 0, .int .i64 0, .int .i64 0, .slice none 0 0, .int .i64 0, .int .i64 0] 34) := ⟨_, rfl⟩;obtain ⟨gr, hgr⟩ : ∃ g, g = w.heap.size := ⟨_, rfl⟩;have b1 : Below w.heap.size w W1 := by rw [hW1]; exact bAl _ _
 have kR : Blk W1 gr 34 [.int .i64 0, .int .i64 0, .int .i64 0, .int .i64 0, .int .i64 0, .slice none 0 0, .int .i64 0, .int .i64 0] := by rw [hW1, hgr]; exact Blk.new w _ _
 obtain ⟨z0c, z1c, z2c, z3c, z4c, z5c, z6c, z7c⟩ := kR.cells8;obtain ⟨z0fz, z1fz, z2fz, z3fz, z4fz, z5fz, z6fz, z7fz⟩ := kR.frozen8;have kN := kR.put8 (.int .i64 k) (.int .i64 (-1)) (.int .i64 (-1)) (.int .i64 (-1)) (.int .i64 (-1)) (.slice none 0 0) (.int .i64 (-1)) (.int .i64 (-1));have hbf := Hd (bP8 b1 (g := gr) (by omega) (.int .i64 k) (.int .i64 (-1)) (.int .i64 (-1)) (.int .i64 (-1)) (.int .i64 (-1)) (.slice none 0 0) (.int .i64 (-1)) (.int .i64 (-1)));have hdd := Hd kN.cells8;clear kN kR b1
 go_enter Tryz.func66, Tryz.ntmps66
 go_wp2_with (rw [← hW1, ← hgr]; clear hW1; replace hgr := Hd hgr);obtain ⟨d0, d1, d2, d3, d4, d5, d6, d7⟩ := hdd.out;exact bodyPost_ret (v := .agg #[.int .i64 k, .int .i64 (-1), .int .i64 (-1), .int .i64 (-1), .int .i64 (-1), .slice none 0 0, .int .i64 (-1), .int .i64 (-1)]) (by simp [results, Tryz.results66, go_sem, d0, d1, d2, d3, d4, d5, d6, d7]) rfl ⟨rfl, hbf.out⟩
theorem ref19_thin (v : FV) (f : Fac) (w : World) (hF : FactsAt w v f) (hvk : v.k ≤ 1048576) :
  Calls Tryz.prog 38 #[.agg #[.slice v.A v.n v.c, .slice v.B v.m v.d, .slice v.C v.k v.e]] w (RetWit 1 (thinF f) w) := by
 have hfl := Hd hF.fs.len;have hB0 := Hd (FBox.new hF);obtain ⟨g, hg⟩ : ∃ g, g = w.heap.size := ⟨_, rfl⟩;obtain ⟨W0, hW0⟩ : ∃ W, W = w.alloc (.cells #[.slice v.A v.n v.c, .slice v.B v.m v.d, .slice v.C v.k v.e] 29) := ⟨_, rfl⟩;rw [← hW0, ← hg] at hB0;clear hF;obtain ⟨W1, hW1⟩ : ∃ W, W = World.alloc W0 (.cells #[.int .i64 0, .int .i64 0, .int .i64 0, .int .i64 0, .int .i64 0, .slice none 0 0, .int .i64 0, .int .i64 0] 34) := ⟨_, rfl⟩;obtain ⟨gr, hgr⟩ : ∃ g, g = (World.heap W0).size := ⟨_, rfl⟩;have bW1 : Below (World.heap W0).size W0 W1 := by rw [hW1]; exact bAl _ _
 have kR := Hd (show Blk W1 gr 34 [.int .i64 0, .int .i64 0, .int .i64 0, .int .i64 0, .int .i64 0, .slice none 0 0, .int .i64 0, .int .i64 0] from by rw [hW1, hgr]; exact Blk.new W0 _ _);have hB1 := Hd (hB0.out.later bW1);have hgrw := Hd (show w.heap.size ≤ gr from by rw [hgr]; exact hB0.out.o.size);clear hB0 bW1;have cN := Hd (fun W => ref19_None 1 W)
 go_enter Tryz.func38, Tryz.ntmps38
 go_wp2_with (first | (rw [← hW0, ← hg]; clear hW0 hg) | (rw [← hW1, ← hgr]; clear hW1; replace hgr := Hd hgr));refine (cN.out W1).mono ?_; rintro e w2 ⟨he, b2⟩;have he' : e = .returned (.agg #[.int .i64 1, .int .i64 (-1), .int .i64 (-1), .int .i64 (-1), .int .i64 (-1), .slice none 0 0, .int .i64 (-1), .int .i64 (-1)]) := he;subst he';obtain ⟨W3, hW3⟩ : ∃ W, W = World.alloc w2 (.cells #[.int .i64 1, .int .i64 (-1), .int .i64 (-1), .int .i64 (-1), .int .i64 (-1), .slice none 0 0, .int .i64 (-1), .int .i64 (-1)] 34) := ⟨_, rfl⟩;obtain ⟨gw, hgw⟩ : ∃ g, g = (World.heap w2).size := ⟨_, rfl⟩;have bW3 : Below (World.heap w2).size w2 W3 := by rw [hW3]; exact bAl _ _
 have kW := Hd (show Blk W3 gw 34 [.int .i64 1, .int .i64 (-1), .int .i64 (-1), .int .i64 (-1), .int .i64 (-1), .slice none 0 0, .int .i64 (-1), .int .i64 (-1)] from by rw [hW3, hgw]; exact Blk.new w2 _ _);have hB := Hd ((hB1.out.later b2).later bW3);have kQ := (kR.out.below b2 kR.out.lt).below bW3 (kR.out.below b2 kR.out.lt).lt;have hne : gr ≠ gw := by have := (kR.out.below b2 kR.out.lt).lt; omega
 have hbw := Hd (show w.heap.size ≤ gw from by have := hgrw.out; have := (kR.out.below b2 kR.out.lt).lt; omega);replace kQ := Hd kQ;clear bW3 b2 he hB1 kR cN;go_wp2_with (rw [← hW3, ← hgw]; clear hW3; replace hgw := Hd hgw)
 go_loopw [5] (fun t wr => ∃ i : Nat, i ≤ v.k ∧ t = .int .i64 (i : Int) ∧ Hid (∀ j, j < i → f.frm.getD j 0 ≠ -2) ∧ wr = W3) (fun t _ => v.k - (intOf t).toNat)
 case atStart => exact ⟨0, Nat.zero_le _, rfl, Hd (fun j h => absurd h (by omega)), rfl⟩
 case round =>
  obtain ⟨i, hi, rfl, hall, rfl⟩ := hrel;have p0 := hB.out.c0;have p1 := hB.out.c1;have p2 := hB.out.c2;by_cases hlt : i < v.k
  ·have hlt' : (i : Int) < (v.k : Int) := by omega
   have bi : 0 ≤ (i : Int) ∧ (i : Int) < (v.k : Int) := by omega
   obtain ⟨zb, zo, z, hzC, -, hz, -, k0⟩ := hB.out.f.fs.int hlt;rw [hzC] at p2;have hgd : f.frm.getD i 0 = z := by rw [List.getD_eq_getElem?_getD, hz]; rfl
   replace hlt := Hd hlt;by_cases hz2 : z = -2
   ·have e0 : (z == -2) = true := by rw [hz2]; rfl
    have hans : Hid (thinF f = some ⟨1, (i : Int), -1, -1, -1, -1, -1⟩) := Hd (by
     unfold thinF;rw [List.find?_eq_some_iff_getElem.2 ⟨by rw [hgd, hz2]; rfl, i, by rw [List.length_range, hfl.out]; exact hlt.out, List.getElem_range _, fun j hj => by
      rw [List.getElem_range, decide_eq_false (hall.out j hj)]; rfl⟩]
     rfl)
    have kV := kW.out.set_ 1 (.int .i64 (i : Int));simp only [List.set_cons_zero, List.set_cons_succ] at kV;have kQ := kQ.out.far (p := ⟨gw, 1, none⟩) hne (.int .i64 (i : Int));have bV := hB.out.o.setCell (p := ⟨gw, 1, none⟩) hbw.out (.int .i64 (i : Int));obtain ⟨z0x, z1x, z2x, z3x, z4x, z5x, z6x, z7x⟩ := kW.out.cells8;obtain ⟨z0fx, z1fx, z2fx, z3fx, z4fx, z5fx, z6fx, z7fx⟩ := kW.out.frozen8;replace hgd := Hd hgd;replace hz2 := Hd hz2;clear hzC hz;obtain ⟨z0w, z1w, z2w, z3w, z4w, z5w, z6w, z7w⟩ := kV.cells8;obtain ⟨z0c, z1c, z2c, z3c, z4c, z5c, z6c, z7c⟩ := kQ.cells8;obtain ⟨z0fz, z1fz, z2fz, z3fz, z4fz, z5fz, z6fz, z7fz⟩ := kQ.frozen8;have kN := kQ.put8 (.int .i64 1) (.int .i64 (i : Int)) (.int .i64 (-1)) (.int .i64 (-1)) (.int .i64 (-1)) (.slice none 0 0) (.int .i64 (-1)) (.int .i64 (-1));have hbf := Hd (bP8 bV (g := gr) hgrw.out (.int .i64 1) (.int .i64 (i : Int)) (.int .i64 (-1)) (.int .i64 (-1)) (.int .i64 (-1)) (.slice none 0 0) (.int .i64 (-1)) (.int .i64 (-1)));have hdd := Hd kN.cells8;clear kN kQ kV bV;go_wp2_with fail;obtain ⟨d0, d1, d2, d3, d4, d5, d6, d7⟩ := hdd.out;exact bodyPost_ret (v := .tuple #[.agg #[.int .i64 1, .int .i64 (i : Int), .int .i64 (-1), .int .i64 (-1), .int .i64 (-1), .slice none 0 0, .int .i64 (-1), .int .i64 (-1)], .bool true]) (by simp [results, Tryz.results38, go_sem, d0, d1, d2, d3, d4, d5, d6, d7]) rfl ⟨⟨1, (i : Int), (-1), (-1), (-1), -1, -1⟩, by rw [hans.out]; rfl, by rw [hans.out]; rfl, hbf.out⟩
   ·have e0 : (z == -2) = false := by simpa using hz2
    have hn : Hid (∀ j, j < i + 1 → f.frm.getD j 0 ≠ -2) := Hd (fun j hj => by
     rcases Nat.lt_succ_iff_lt_or_eq.1 hj with h1 | h1
     ·exact hall.out j h1
     ·rw [h1, hgd]; exact hz2)
    replace hgd := Hd hgd;replace hz2 := Hd hz2;clear hzC hz;go_wp2_with fail;exact ⟨⟨i + 1, by have := hlt.out; omega, by go_num, hn, trivial⟩, by have := hlt.out; simp [intOf]; omega⟩
  ·have hlt' : ¬ (i : Int) < (v.k : Int) := by omega
   obtain rfl : i = v.k := by omega
   have hans : Hid (thinF f = none) := Hd (by
    unfold thinF;rw [List.find?_eq_none.2 (fun j hj => by
     rw [decide_eq_false (hall.out j (by have := List.mem_range.1 hj; have := hfl.out; omega))]; simp)]
    rfl)
   have kV := kW.out;have kQ := kQ.out;have bV := hB.out.o;clear hlt;obtain ⟨z0w, z1w, z2w, z3w, z4w, z5w, z6w, z7w⟩ := kV.cells8;obtain ⟨z0c, z1c, z2c, z3c, z4c, z5c, z6c, z7c⟩ := kQ.cells8;obtain ⟨z0fz, z1fz, z2fz, z3fz, z4fz, z5fz, z6fz, z7fz⟩ := kQ.frozen8;have kN := kQ.put8 (.int .i64 1) (.int .i64 (-1)) (.int .i64 (-1)) (.int .i64 (-1)) (.int .i64 (-1)) (.slice none 0 0) (.int .i64 (-1)) (.int .i64 (-1));have hbf := Hd (bP8 bV (g := gr) hgrw.out (.int .i64 1) (.int .i64 (-1)) (.int .i64 (-1)) (.int .i64 (-1)) (.int .i64 (-1)) (.slice none 0 0) (.int .i64 (-1)) (.int .i64 (-1)));have hdd := Hd kN.cells8;clear kN kQ kV bV;go_wp2_with fail;obtain ⟨d0, d1, d2, d3, d4, d5, d6, d7⟩ := hdd.out;exact bodyPost_ret (v := .tuple #[.agg #[.int .i64 1, .int .i64 (-1), .int .i64 (-1), .int .i64 (-1), .int .i64 (-1), .slice none 0 0, .int .i64 (-1), .int .i64 (-1)], .bool false]) (by simp [results, Tryz.results38, go_sem, d0, d1, d2, d3, d4, d5, d6, d7]) rfl ⟨⟨1, (-1), (-1), (-1), (-1), -1, -1⟩, by rw [hans.out]; rfl, by rw [hans.out]; rfl, hbf.out⟩
theorem LoopIs.find {n : Nat} {a : List (List Nat)} {r : Int} {b : Bool} (h : LoopIs n a r b) (k : Int) : roundF k n a = if b = true then some ⟨k, -1, -1, -1, r, -1, -1⟩ else none := by
 unfold roundF;rcases h with ⟨rfl, i, rfl, hi, h1, h2⟩ | ⟨rfl, -, h1⟩
 ·have hfd : (List.range n).find? (fun (q : Nat) => hasM a (q : Int) (q : Int)) = some i := List.find?_eq_some_iff_getElem.2 ⟨h1, i, by rw [List.length_range]; exact hi, List.getElem_range _, fun j hj => by
   have := h2 j hj;unfold Rel at this;rw [List.getElem_range]
   simpa using this⟩
  rw [hfd]
  rfl
 ·rw [List.find?_eq_none.2 (fun j hj => by
   have := h1 j (List.mem_range.1 hj);unfold Rel at this;exact this)]
  rfl
theorem ref19_round (k : Int) (A : Option Addr) (n c : Nat) (a : List (List Nat)) (w : World) (hr : RowsAt w A n a) (hG : Good n a) :
  Calls Tryz.prog 39 #[.int .i64 k, .agg #[.int .i64 (n : Int), .slice A n c]] w (RetWit k (roundF k n a) w) := by
 have hM0 := Hd (MatK.new (N := (n : Int)) (c := c) w 57 hr);obtain ⟨g, hg⟩ : ∃ g, g = w.heap.size := ⟨_, rfl⟩;obtain ⟨W0, hW0⟩ : ∃ W, W = w.alloc (.cells #[.int .i64 (n : Int), .slice A n c] 57) := ⟨_, rfl⟩;rw [← hW0, ← hg] at hM0;have hbo := Hd (show Below w.heap.size w W0 from by rw [hW0]; exact bAl _ _);obtain ⟨W1, hW1⟩ : ∃ W, W = World.alloc W0 (.cells #[.int .i64 0, .int .i64 0, .int .i64 0, .int .i64 0, .int .i64 0, .slice none 0 0, .int .i64 0, .int .i64 0] 34) := ⟨_, rfl⟩;obtain ⟨gr, hgr⟩ : ∃ g, g = (World.heap W0).size := ⟨_, rfl⟩;have bW1 : Below (World.heap W0).size W0 W1 := by rw [hW1]; exact bAl _ _
 have kR := Hd (show Blk W1 gr 34 [.int .i64 0, .int .i64 0, .int .i64 0, .int .i64 0, .int .i64 0, .slice none 0 0, .int .i64 0, .int .i64 0] from by rw [hW1, hgr]; exact Blk.new W0 _ _);have hM1 := Hd (hM0.out.below bW1);have hb1 := Hd (bT2 hbo.out bW1);have hgrw := Hd (show w.heap.size ≤ gr from by rw [hgr]; exact hbo.out.size);clear hM0 bW1;have cN := Hd (fun W => ref19_None k W)
 go_enter Tryz.func39, Tryz.ntmps39
 go_wp2_with (first | (rw [← hW0, ← hg]; clear hW0 hg) | (rw [← hW1, ← hgr]; clear hW1; replace hgr := Hd hgr));refine (cN.out W1).mono ?_; rintro e w2 ⟨he, b2⟩;have he' : e = .returned (.agg #[.int .i64 k, .int .i64 (-1), .int .i64 (-1), .int .i64 (-1), .int .i64 (-1), .slice none 0 0, .int .i64 (-1), .int .i64 (-1)]) := he;subst he';obtain ⟨W3, hW3⟩ : ∃ W, W = World.alloc w2 (.cells #[.int .i64 k, .int .i64 (-1), .int .i64 (-1), .int .i64 (-1), .int .i64 (-1), .slice none 0 0, .int .i64 (-1), .int .i64 (-1)] 34) := ⟨_, rfl⟩;obtain ⟨gw, hgw⟩ : ∃ g, g = (World.heap w2).size := ⟨_, rfl⟩;have bW3 : Below (World.heap w2).size w2 W3 := by rw [hW3]; exact bAl _ _
 have kW := Hd (show Blk W3 gw 34 [.int .i64 k, .int .i64 (-1), .int .i64 (-1), .int .i64 (-1), .int .i64 (-1), .slice none 0 0, .int .i64 (-1), .int .i64 (-1)] from by rw [hW3, hgw]; exact Blk.new w2 _ _);have hM := Hd ((hM1.out.below b2).below bW3);have hbb := Hd (bT2 (bT2 hb1.out b2) bW3);have kQ := (kR.out.below b2 kR.out.lt).below bW3 (kR.out.below b2 kR.out.lt).lt;have hne : gr ≠ gw := by have := (kR.out.below b2 kR.out.lt).lt; omega
 have hbw := Hd (show w.heap.size ≤ gw from by have := hgrw.out; have := (kR.out.below b2 kR.out.lt).lt; omega);replace kQ := Hd kQ;clear bW3 b2 he hM1 kR cN hb1;have m0 := hM.out.1.c0;have m1 := hM.out.1.c1;have cL := Hd (ref4_Loop A n c a W3 hM.out.2 hG);go_wp2_with (rw [← hW3, ← hgw]; clear hW3; replace hgw := Hd hgw);refine cL.out.mono ?_; rintro e w4 ⟨i, b, rfl, hLp, b4⟩;have hans := Hd (hLp.find k);replace kW := Hd (kW.out.below b4 kW.out.lt);replace kQ := Hd (kQ.out.below b4 kQ.out.lt);replace hbb := Hd (bT2 hbb.out b4);clear m0 m1 hLp b4 cL hM hr
 cases b with
 | true =>
  have kV := kW.out.set_ 4 (.int .i64 i);simp only [List.set_cons_zero, List.set_cons_succ] at kV;have kQ := kQ.out.far (p := ⟨gw, 4, none⟩) hne (.int .i64 i);have bV := hbb.out.setCell (p := ⟨gw, 4, none⟩) hbw.out (.int .i64 i);obtain ⟨z0x, z1x, z2x, z3x, z4x, z5x, z6x, z7x⟩ := kW.out.cells8;obtain ⟨z0fx, z1fx, z2fx, z3fx, z4fx, z5fx, z6fx, z7fx⟩ := kW.out.frozen8;obtain ⟨z0w, z1w, z2w, z3w, z4w, z5w, z6w, z7w⟩ := kV.cells8;obtain ⟨z0c, z1c, z2c, z3c, z4c, z5c, z6c, z7c⟩ := kQ.cells8;obtain ⟨z0fz, z1fz, z2fz, z3fz, z4fz, z5fz, z6fz, z7fz⟩ := kQ.frozen8;have kN := kQ.put8 (.int .i64 k) (.int .i64 (-1)) (.int .i64 (-1)) (.int .i64 (-1)) (.int .i64 i) (.slice none 0 0) (.int .i64 (-1)) (.int .i64 (-1));have hbf := Hd (bP8 bV (g := gr) hgrw.out (.int .i64 k) (.int .i64 (-1)) (.int .i64 (-1)) (.int .i64 (-1)) (.int .i64 i) (.slice none 0 0) (.int .i64 (-1)) (.int .i64 (-1)));have hdd := Hd kN.cells8;clear kN kQ kV bV;go_wp2_with fail;obtain ⟨d0, d1, d2, d3, d4, d5, d6, d7⟩ := hdd.out;exact bodyPost_ret (v := .tuple #[.agg #[.int .i64 k, .int .i64 (-1), .int .i64 (-1), .int .i64 (-1), .int .i64 i, .slice none 0 0, .int .i64 (-1), .int .i64 (-1)], .bool true]) (by simp [results, Tryz.results39, go_sem, d0, d1, d2, d3, d4, d5, d6, d7]) rfl ⟨⟨k, (-1), (-1), (-1), i, -1, -1⟩, by rw [hans.out]; rfl, by rw [hans.out]; rfl, hbf.out⟩
 | false =>
  have kV := kW.out;have kQ := kQ.out;have bV := hbb.out;obtain ⟨z0w, z1w, z2w, z3w, z4w, z5w, z6w, z7w⟩ := kV.cells8;obtain ⟨z0c, z1c, z2c, z3c, z4c, z5c, z6c, z7c⟩ := kQ.cells8;obtain ⟨z0fz, z1fz, z2fz, z3fz, z4fz, z5fz, z6fz, z7fz⟩ := kQ.frozen8;have kN := kQ.put8 (.int .i64 k) (.int .i64 (-1)) (.int .i64 (-1)) (.int .i64 (-1)) (.int .i64 (-1)) (.slice none 0 0) (.int .i64 (-1)) (.int .i64 (-1));have hbf := Hd (bP8 bV (g := gr) hgrw.out (.int .i64 k) (.int .i64 (-1)) (.int .i64 (-1)) (.int .i64 (-1)) (.int .i64 (-1)) (.slice none 0 0) (.int .i64 (-1)) (.int .i64 (-1)));have hdd := Hd kN.cells8;clear kN kQ kV bV;go_wp2_with fail;obtain ⟨d0, d1, d2, d3, d4, d5, d6, d7⟩ := hdd.out;exact bodyPost_ret (v := .tuple #[.agg #[.int .i64 k, .int .i64 (-1), .int .i64 (-1), .int .i64 (-1), .int .i64 (-1), .slice none 0 0, .int .i64 (-1), .int .i64 (-1)], .bool false]) (by simp [results, Tryz.results39, go_sem, d0, d1, d2, d3, d4, d5, d6, d7]) rfl ⟨⟨k, (-1), (-1), (-1), (-1), -1, -1⟩, by rw [hans.out]; rfl, by rw [hans.out]; rfl, hbf.out⟩
end Go.Proofs.YtjhjojklfdjmdaaGreat
