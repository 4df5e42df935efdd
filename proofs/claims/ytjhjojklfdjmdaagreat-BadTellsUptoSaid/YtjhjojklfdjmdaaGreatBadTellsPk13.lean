/- The code's own contracts of layer 11: copies of lists, a map of writes whose keys are arrays, what each item reads from, Fill, Whole, Readers. The code's own contracts of layer 17, first half: slices.Grow and slices.Concat at conflicts; Edges. The code's own contracts of layer 17, second half: pairs (the writes of conflicts), Cf. The code's own contract of layer 19: cyclicCF. The code's own contracts of layer 19: sort.Search at the code's closure, least. The code's own contract of layer 19: lastReaders. The code's own contracts of layer 19: least. -/
import Derived.Test.YtjhjojklfdjmdaaGreatBadTellsPk5
import Derived.Test.YtjhjojklfdjmdaaGreatBadTellsPk12
import Derived.Maps.OwnSet
import Derived.Maps.OwnOps
import Derived.DeepKeys4
import Derived.Test.YtjhjojklfdjmdaaGreatBadTellsPk6
import Derived.Test.YtjhjojklfdjmdaaGreatBadTellsPk9
import Derived.Test.YtjhjojklfdjmdaaGreatBadTellsPk10
import Derived.Lib.AppendZeros
import Derived.Test.YtjhjojklfdjmdaaGreatBadTellsPk2
import Derived.Test.YtjhjojklfdjmdaaGreatBadTellsPk3
set_option linter.unusedVariables false
namespace Go.Proofs.YtjhjojklfdjmdaaGreat
set_option maxRecDepth 100000
set_option maxHeartbeats 8000000
open Go.RowKit
open Go.RowKit Go.Maps
theorem readF_none {frm : List Int} {w : Int} {n : Nat} (h : ∀ i, i < n → ¬ (0 ≤ w ∧ frm.getD i 0 = w)) : readF frm w n = [] := by
 unfold readF readN;rw [List.filter_eq_nil_iff.2 (fun i hi => by
  have := h i (List.mem_range.1 hi);simp only [Bool.and_eq_true, decide_eq_true_eq];exact this)]
 rfl
theorem fromF_writes {is : List It} {i : Nat} {w : Int} (hi : i < is.length) (h0 : 0 ≤ w) (h : (fromF is).getD i 0 = w) : ∃ x, is[w.toNat]? = some x ∧ x.wr = true := by
 rw [List.getD_eq_getElem?_getD, fromF_at (List.getElem?_eq_getElem hi)] at h;have h : fromOne is is[i] = w := h;unfold fromOne at h
 split at h
 ·omega
 ·split at h
  ·omega
  ·cases ho : writeF is (is[i]).va (is[i]).vl with
   | none => rw [ho] at h; simp only at h; omega
   | some k =>
    rw [ho] at h
    simp only at h
    obtain ⟨x, h1, h2, _⟩ := writeF_some ho;simp only [hitW, Bool.and_eq_true, decide_eq_true_eq] at h2;exact ⟨x, by rw [← h, Int.toNat_natCast]; exact h1, h2.1⟩
theorem origin_ReadersF (v : FV) (f : Fac) (x : Int) (w : World) (hF : FactsAt w v f) (hm : v.m ≤ 1048576) (hfr : f.frm = fromF f.items) :
  Calls Tryz.prog 86 #[.agg #[.slice v.A v.n v.c, .slice v.B v.m v.d, .slice v.C v.k v.e], .int .i64 x] w (fun e w' => ∃ A n c, e = .returned (.slice A n c) ∧ LAt encI w' A n (readF f.frm x f.items.length) ∧ n ≤ c ∧ c ≤ 9223372036854775807 ∧ Below w.heap.size w w' ∧ ∀ ad, A = some ad → w.heap.size ≤ ad.block) := by
 have hil := hF.is.len;have hfl := hF.fs.len;have hk : v.k = v.m := by rw [← hfl, ← hil, hfr, fromF_len]
 have hno1 : (∀ y, f.items[x.toNat]? = some y → y.wr = true → 0 ≤ x → False) → readF f.frm x f.items.length = [] := fun h => readF_none (fun i hi hh => by
  rw [hfr] at hh;obtain ⟨y, h1, h2⟩ := fromF_writes hi hh.1 hh.2;exact h y h1 h2 hh.1)
 rw [hil] at hno1 ⊢;obtain ⟨i0, hi, hz0, hz1, hz2⟩ := info_parts info_int2;have hkv := Hd hk;replace hi := Hd hi;replace hz0 := Hd hz0;replace hz1 := Hd hz1;replace hz2 := Hd hz2;clear hk hfr;replace hil := Hd hil;replace hfl := Hd hfl;have hB0 := Hd (FBox.new hF);obtain ⟨g, hg⟩ : ∃ g, g = w.heap.size := ⟨_, rfl⟩;obtain ⟨W0, hW0⟩ : ∃ W, W = w.alloc (.cells #[.slice v.A v.n v.c, .slice v.B v.m v.d, .slice v.C v.k v.e] 29) := ⟨_, rfl⟩;rw [← hW0, ← hg] at hB0;clear hF;have p0 := hB0.out.c0;have p1 := hB0.out.c1;have p2 := hB0.out.c2;by_cases hx0 : x < 0
 ·have hr := Hd (hno1 (fun y _ _ h => by omega))
  have e0 : decide (x < 0) = true := decide_eq_true hx0;clear hno1
  go_enter Tryz.func86, Tryz.ntmps86
  go_wp2_with (rw [← hW0, ← hg]; clear hW0 hg);go_ret;rw [hr.out];exact ⟨none, 0, 0, rfl, LAt.nil _ _ _, Nat.le_refl _, by omega, hB0.out.o, fun ad e => by cases e⟩
 ·have e0 : decide (x < 0) = false := decide_eq_false hx0
  by_cases hxm : (v.m : Int) ≤ x
  ·have hr := Hd (hno1 (fun y h _ _ => by
    have := (List.getElem?_eq_some_iff.1 h).1;have := hil.out
    omega))
   have e1 : decide ((v.m : Int) ≤ x) = true := decide_eq_true hxm;clear hno1
   go_enter Tryz.func86, Tryz.ntmps86
   go_wp2_with (rw [← hW0, ← hg]; clear hW0 hg);go_ret;rw [hr.out];exact ⟨none, 0, 0, rfl, LAt.nil _ _ _, Nat.le_refl _, by omega, hB0.out.o, fun ad e => by cases e⟩
  ·have e1 : decide ((v.m : Int) ≤ x) = false := decide_eq_false hxm
   obtain ⟨m, rfl⟩ : ∃ m : Nat, x = (m : Int) := ⟨x.toNat, by omega⟩;obtain ⟨ib, io, y, hyB, hib, hy, hyo, i0', i1, i2, i3, i4⟩ := hB0.out.f.is.item (show m < v.m by omega);rw [hyB] at p1
   cases hyw : y.wr with
   | false =>
    rw [hyw] at i2;have hr := Hd (hno1 (fun y' h hw _ => by
     rw [Int.toNat_natCast, hy] at h;injection h with h;subst h;rw [hyw] at hw; cases hw))
    clear hno1 hyB hy hyo hyw
    go_enter Tryz.func86, Tryz.ntmps86
    go_wp2_with (rw [← hW0, ← hg]; clear hW0 hg);go_ret;rw [hr.out];exact ⟨none, 0, 0, rfl, LAt.nil _ _ _, Nat.le_refl _, by omega, hB0.out.o, fun ad e => by cases e⟩
   | true =>
    rw [hyw] at i2;clear hno1 hyB hy hyo hyw
    go_enter Tryz.func86, Tryz.ntmps86
    go_wp2_with (rw [← hW0, ← hg]; clear hW0 hg);clear i0' i1 i2 i3 i4 p0 p1 p2 hib
    go_loopw [5, 29] (fun u t wr => ∃ k : Nat, k ≤ v.k ∧ t = .int .i64 k ∧ Hid (Below W0.heap.size W0 wr) ∧ Hid (wr.ownsRow W0.heap.size 3 1 u (readF f.frm m k).length (encI.all (readF f.frm m k)))) (fun _ t _ => v.k - (intOf t).toNat)
    case atStart => exact ⟨0, Nat.zero_le _, rfl, Hd (Below.refl _ _), Hd (World.ownsRow_nil _ _ _ _)⟩
    case round =>
     obtain ⟨k, hkm, rfl, hb, hown⟩ := hrel;have hB := Hd (hB0.out.later hb.out);have hrl := readF_len f.frm m k;have hrs := readF_succ f.frm m k;obtain ⟨L, hL⟩ : ∃ L, L = (readF f.frm m k).length := ⟨_, rfl⟩;rw [← hL] at hown hrl;have hkv2 := hkv.out;by_cases hlt : k < v.k
     ·have hlt' : (k : Int) < (v.k : Int) := by omega
      have hkw : (k : Int) + 1 < 9223372036854775808 := by omega
      obtain ⟨ic, jo, z, hzC, hic, hz, hzo, j0⟩ := hB.out.f.fs.int hlt;rw [hzC];have hgd : f.frm.getD k 0 = z := by rw [List.getD_eq_getElem?_getD, hz]; rfl
      rw [hgd] at hrs;replace hgd := Hd hgd;replace hkv2 := Hd hkv2;by_cases hzx : z = (m : Int)
      ·rw [if_pos (by simp [hzx])] at hrs
       have e1 : (z == (m : Int)) = true := by simp [hzx]
       obtain ⟨gl, hgl⟩ : ∃ g, g = wr.heap.size := ⟨_, rfl⟩;obtain ⟨VL, hVL⟩ : ∃ W, W = wr.alloc (.cells #[.int .i64 (k : Int)] 3) := ⟨_, rfl⟩;have bL : Below wr.heap.size wr VL := by rw [hVL]; exact (Below.refl _ _).alloc (Nat.le_refl _) _
       have hlit := Hd (show LAt encI VL (some ⟨gl, 0, none⟩) 1 [(k : Int)] from by rw [hVL, hgl]; exact LAt.lit1 (E := encI) wr 3 (k : Int) ⟨by omega, by omega⟩);have hownL := Hd (oBl hown.out bL);have bWL := Hd (bT2 hb.out bL);have hbase := Hd bWL.out.size;replace hzx := Hd hzx;replace hrs := Hd hrs;replace hL := Hd hL;have hL22 : L ≤ 1048576 := by have := hkv2.out; omega
       replace hzC := Hd hzC;clear hz hzo bL hown hlt;go_wp2_with (first
        | (rw [← hVL, ← hgl]; clear hVL hgl)
        | (at_builtin; refine wpAL (E := encI) rfl (.tmp 37) (.tmp 39) _ rfl W0.heap.size 3 i0 _ 8 Tryz.underlying27 hi.out hz0.out hz1.out hz2.out rfl _ L (readF f.frm m k) (by rfl) hownL.out _ 1 1 _ rfl hlit.out (by unfold maxLen; omega) (by omega) hbase.out ?_; intro v' w7 hown' hb7 _ _))
       refine ⟨⟨k + 1, by omega, by go_num, Hd (bWL.out.trans hb7), Hd (by rw [hrs.out, List.length_append, ← hL.out]; exact hown')⟩, by simp [intOf]; omega⟩
      ·rw [if_neg (by simp [hzx])] at hrs
       have e1 : (z == (m : Int)) = false := by simp [hzx]
       replace hzx := Hd hzx;replace hrs := Hd hrs;replace hL := Hd hL;replace hzC := Hd hzC;clear hz hzo hlt;go_wp2_with fail;exact ⟨⟨k + 1, by omega, by go_num, hb, Hd (by rw [hrs.out, ← hL.out]; exact hown.out)⟩, by simp [intOf]; omega⟩
     ·have hlt' : ¬ (k : Int) < (v.k : Int) := by omega
      have hkm : k = v.m := by omega
      subst hkm;have hfr := Hd (oLb hown.out);obtain ⟨A, c, rfl, hnc, hcm, hLA⟩ := LAt.of_own hown.out (fun z hz => by
       have := readF_ok f.frm m v.m z hz;exact ⟨by omega, by omega⟩) hL.symm
      clear hlt hkv2;replace hL := Hd hL;go_wp2_with fail;go_ret;exact ⟨A, _, c, rfl, hLA, hnc, hcm, hB.out.o, fun ad e => by subst e; exact Nat.le_trans hB0.out.o.size (hfr.out _ rfl)⟩
theorem grow_edges (n : Nat) (hn : n ≤ 4398046511104) (w : World) :
  Calls Tryz.prog 115 #[.slice none 0 0, .int .i64 n] w fun e w' => ∃ v, e = .returned v ∧ w'.ownsRow w.heap.size 84 3 v 0 [] ∧ Below w.heap.size w w' := by
 obtain ⟨i0, hi, hz0, hz1, hz2⟩ := info_parts info_edge;have h1 : ¬ ((n : Int) < 0) := by omega
 by_cases h0 : n = 0
 ·subst h0
  go_enter Tryz.func115, Tryz.ntmps115
  go_wp2_with fail;go_ret;exact ⟨_, rfl, World.ownsRow_nil _ _ _ _, Below.refl _ _⟩
 ·have h4 : (0 : Int) < (n : Int) := by omega
  have hrz : ∀ ty, (Builtin.append_ #[79, 3] ty #[.slice none 0 0, .int .i64 (n : Int)]).run Tryz.prog w =
    .ok (.slice (some ⟨w.heap.size, 0, none⟩) n (grownCap w n 0 84)) (w.drew.alloc (.cells (Builtin.zeroCells (Value.agg #[.int .i64 0, .int .i64 0, .int .i64 0]).cells n ++ Builtin.zeroCells (Value.agg #[.int .i64 0, .int .i64 0, .int .i64 0]).cells (grownCap w n 0 84 - n)) 84)) := fun ty =>
   Lib.run_append_nil_zeros w 79 3 ty 84 i0 _ .i64 .i64 Tryz.underlying79 Tryz.underlying3 hi hz0 n (by omega) (by rw [hz1]; decide) (by omega) (by rw [hz2]; omega)
  have hge : n ≤ grownCap w n 0 84 := grownCap_ge w _ _ _;have hle : grownCap w n 0 84 ≤ maxLen := grownCap_le_maxLen w n 0 _ (by unfold maxLen; omega);obtain ⟨G, hG⟩ : ∃ G, G = grownCap w n 0 84 := ⟨_, rfl⟩;rw [← hG] at hrz hge hle;clear hG;have hG63 : G ≤ 9223372036854775807 := by unfold maxLen at hle; omega
  obtain ⟨Z, hZ⟩ : ∃ Z, Z = Builtin.zeroCells (Value.agg #[.int .i64 0, .int .i64 0, .int .i64 0]).cells n ++ Builtin.zeroCells (Value.agg #[.int .i64 0, .int .i64 0, .int .i64 0]).cells (G - n) := ⟨_, rfl⟩;have hZs : Z.size = G * 3 := by rw [hZ]; simp [size_zeroCells, Value.cells]; omega
  rw [← hZ] at hrz;clear hZ
  go_enter Tryz.func115, Tryz.ntmps115
  go_wp2_with (at_builtin; refine Lib.wpList_append_run _ rfl _ _ _ _ rfl _ _ rfl rfl _ _ (hrz _) ?_);go_ret;refine ⟨_, rfl, ?_, (((Below.refl _ w).drew).alloc (Nat.le_refl _) _)⟩;exact ⟨rfl, .inr ⟨_, G, Z, rfl, Nat.le_refl _, World.alloc_heap_new _ _, Nat.zero_le _, hle, hZs, rfl⟩⟩
theorem flatten_take {α : Type} {ls : List (List α)} {k : Nat} {l : List α} (h : ls[k]? = some l) : (ls.take (k + 1)).flatten = (ls.take k).flatten ++ l := by
 rw [List.take_add_one, h, List.flatten_append]; simp
theorem flatten_take_le {α : Type} (ls : List (List α)) (k : Nat) : (ls.take k).flatten.length ≤ ls.flatten.length := by
 conv => rhs; rw [← List.take_append_drop k ls]
 rw [List.flatten_append, List.length_append]; omega
theorem concat_edges (B go n : Nat) (vs : List Value) (ls : List (List Ed)) (w : World) (hS : SlotsM encE 79 84 B go n w vs ls) (hn : n ≤ 1048576) (hF : ls.flatten.length ≤ 1048576) :
  Calls Tryz.prog 87 #[.slice (some ⟨go, 0, none⟩) n n] w (RetEL ls.flatten w) := by
 obtain ⟨i0, hi, hz0, hz1, hz2⟩ := info_parts info_edge;have hll : Hid (ls.length = n) := Hd (by rw [← hS.s.len, hS.vlen]);have hok : Hid (∀ x ∈ ls.flatten, Ed.Ok x) := Hd (fun x hx => by
  obtain ⟨l, hl, hxl⟩ := List.mem_flatten.1 hx;obtain ⟨k, hk, rfl⟩ := List.getElem_of_mem hl;obtain ⟨A, m, c, l, -, h2, -, -, -, -, h7, -⟩ := hS.get (s := k) (by rw [← hll.out]; exact hk);rw [List.getElem?_eq_getElem hk] at h2;injection h2 with h2;subst h2;exact h7 x hxl)
 have cG := fun (k : Nat) (hk : k ≤ 4398046511104) (W : World) => grow_edges k hk W;replace cG := Hd cG;replace hS := Hd hS;replace hi := Hd hi;replace hz0 := Hd hz0;replace hz1 := Hd hz1;replace hz2 := Hd hz2;obtain ⟨FL, hFL⟩ : ∃ z : Nat → List Ed, z = fun k => (ls.take k).flatten := ⟨_, rfl⟩;have hst : Hid (∀ (k : Nat) (l : List Ed), ls[k]? = some l → FL (k + 1) = FL k ++ l) := Hd (fun k l h => by rw [hFL]; exact flatten_take h);have hle : Hid (∀ k, (FL k).length ≤ 1048576) := Hd (fun k => by rw [hFL]; exact Nat.le_trans (flatten_take_le ls k) hF);have hzero : Hid (FL 0 = []) := Hd (by rw [hFL]; simp);have hend : Hid (FL n = ls.flatten) := Hd (by rw [hFL]; simp only; rw [List.take_of_length_le (by rw [hll.out]; exact Nat.le_refl _)]);clear hFL
 go_enter Tryz.func87, Tryz.ntmps87
 go_wp2_with fail
 go_loop [3, 11] (fun s i => ∃ k N : Nat, k ≤ n ∧ i = .int .i64 k ∧ s = .int .i64 N ∧ Hid (N = (FL k).length)) (fun _ i => n - (intOf i).toNat)
 case atStart => exact ⟨0, 0, Nat.zero_le _, rfl, rfl, Hd (by rw [hzero.out]; rfl)⟩
 case round =>
  obtain ⟨k, N, hk, rfl, rfl, hN⟩ := hrel;by_cases hlt : k < n
  ·obtain ⟨A, m, c, l, -, hl, hlm, hcell, -, -, -, hmc, hm63, -⟩ := hS.out.get hlt
   have hlen := hst.out k l hl;have hle1 := hle.out (k + 1);rw [hlen, List.length_append, hlm, ← hN.out] at hle1;have hlt' : (k : Int) < (n : Int) := by omega
   have hnn : ¬ ((N : Int) + (m : Int) < 0) := by omega
   have hNm : Hid (N + m = (FL (k + 1)).length) := Hd (by rw [hlen, List.length_append, hlm, ← hN.out]);clear hlen;replace hl := Hd hl;replace hlm := Hd hlm;replace hmc := Hd hmc;clear hlt;go_wp2_with fail
   go_round
   case rel => exact ⟨k + 1, N + m, by omega, by go_num, by go_num, hNm⟩
   case measure => simp [intOf]; omega
  ·have hkn : k = n := by omega
   subst hkn;have hkn' : ¬ (k : Int) < (k : Int) := by omega
   have hN' : N ≤ 4398046511104 := by rw [hN.out]; exact Nat.le_trans (hle.out k) (by omega)
   clear hlt;have cG1 := Hd (cG.out N hN' w);go_wp2_with fail;refine cG1.out.mono ?_; rintro e w1 ⟨v, rfl, hown1, b1⟩;replace hown1 := Hd hown1;replace b1 := Hd b1;go_wp2_with fail
   go_loopw [6, 27] (fun v i wr => ∃ q : Nat, q ≤ k ∧ i = .int .i64 q ∧ Hid (wr.ownsRow w.heap.size 84 3 v (FL q).length (encE.all (FL q))) ∧ Hid (Below w.heap.size w wr)) (fun _ i _ => k - (intOf i).toNat)
   case atStart => exact ⟨0, Nat.zero_le _, rfl, Hd (by rw [hzero.out]; exact hown1.out), b1⟩
   case round =>
    obtain ⟨q, hq, rfl, hown, hb⟩ := hrel;have hLq := hle.out q;obtain ⟨L, hLl⟩ : ∃ L, L = (FL q).length := ⟨_, rfl⟩;rw [← hLl] at hown hLq;replace hLl := Hd hLl;by_cases hlt : q < k
    ·obtain ⟨A, m, c, l, -, hl, hlm, hcell, -, -, -, hmc, hm63, hLA⟩ := (hS.out.later hb.out).get hlt
     have hlen := hst.out q l hl;have hle1 := hle.out (q + 1);rw [hlen, List.length_append, hlm, ← hLl.out] at hle1;have hlt' : (q : Int) < (k : Int) := by omega
     have hbase := Hd hb.out.size;replace hlen := Hd hlen;replace hl := Hd hl;replace hlm := Hd hlm;replace hmc := Hd hmc;replace hLA := Hd hLA;clear hlt;go_wp2_with (at_builtin; refine wpAL (E := encE) rfl (.tmp 31) (.tmp 32) _ rfl w.heap.size 84 i0 _ 24 Tryz.underlying79 hi.out hz0.out hz1.out hz2.out rfl _ L (FL q) (by rfl) hown.out _ m c l rfl hLA.out (by unfold maxLen; omega) (by omega) hbase.out ?_; intro v' w7 hown' hb7 _ _);exact ⟨⟨q + 1, by omega, by go_num, Hd (by rw [hlen.out, List.length_append, hlm.out, ← hLl.out]; exact hown'), Hd (hb.out.trans hb7)⟩, by simp [intOf]; omega⟩
    ·have hqk : q = k := by omega
     subst hqk;have hlt' : ¬ (q : Int) < (q : Int) := by omega
     obtain ⟨A', c', rfl, hnc, hcm, hLA⟩ := LAt.of_own hown.out (fun z hz => by rw [hend.out] at hz; exact hok.out z hz) hLl.out.symm;rw [hend.out] at hLA;replace hLA := Hd hLA;clear hlt;go_wp2_with fail;go_ret;exact ⟨A', L, c', rfl, hLA.out, hnc, hcm, hb.out⟩
theorem info_edges : (Tryz.prog.info? 79).map (fun i => (i.zero, i.size, i.bytes)) = some (some (.slice none 0 0), 1, 24) := by kernel_rfl
theorem mk_edges (kl kc : IntKind) (n : Nat) (hc : n ≤ 1099511627776) (W : World) :
  (Instr.makeSlice 123 (.int kl (n : Int)) (.int kc (n : Int))).run Tryz.prog W = .ok (.slice (some ⟨W.heap.size, 0, none⟩) n n) (W.alloc (.cells (zeros n (.slice none 0 0)) 79)) := by
 obtain ⟨i, hi, hz0, hz1, hz2⟩ := info_parts info_edges;exact run_make_one _ _ i _ Tryz.underlying123 hi hz0 hz1 rfl kl kc n n (Nat.le_refl _) (by rw [hz2]; omega) (by omega) W
theorem clash_Edges (v : FV) (f : Fac) (A : Option Addr) (c : Nat) (a : List (List Nat)) (w : World) (hF : FactsAt w v f) (hr : RowsAt w A v.m a) (hG : Good v.m a) (hm : v.m < 64) (hvc : v.m ≤ c) (hw : WholeF f) (hfr : f.frm = fromF f.items) :
  Calls Tryz.prog 57 #[.agg #[.slice v.A v.n v.c, .slice v.B v.m v.d, .slice v.C v.k v.e], .agg #[.int .i64 (v.m : Int), .slice A v.m c]] w (RetEL (edgesF f a) w) := by
 have hil := hF.is.len;have hflat := by0_flat f a;have hEl := eA_len f a f.items.length f.items.length;have hEq : edgesF f a = eA f a f.items.length f.items.length := rfl;rw [← hEq] at hEl;rw [hil] at hflat hEl;have hEl2 : (edgesF f a).length ≤ 1048576 := by
  have q1 : v.m * (v.m * v.m) ≤ 64 * (64 * 64) := Nat.mul_le_mul (by omega) (Nat.mul_le_mul (by omega) (by omega))
  omega
 rw [← hflat] at hEl2 ⊢;clear hflat hEl hEq;have cO := Hd (fun (i : Nat) (W : World) hW => origin_ReadersF v f (i : Int) W hW (by omega) hfr);have cP := Hd (fun (z : Int) (W : World) hW => past_OfF A v.m c a z W hW hG);have cW := Hd (fun (B : Option Addr) (m d : Nat) (l : List Int) (vr : Int) (W : World) hW hL hm' => past_WritesF v f B m d l vr W hW hL hm' (by omega));rw [hil] at cO;have hwr : Hid (∀ (k z : Nat), z < v.m → f.frm.getD z 0 = (k : Int) → ∃ x, f.items[k]? = some x ∧ x.wr = true) := Hd (fun k z hz h => by
  rw [hfr] at h;have := fromF_writes (w := (k : Int)) (by omega) (by omega) h
  rwa [Int.toNat_natCast] at this)
 replace hil := Hd hil;clear hw hfr hG;have mkS := mk_edges .i64 .i64 v.m (by omega);obtain ⟨i0, hi, hz0, hz1, hz2⟩ := info_parts info_edge;replace hi := Hd hi;replace hz0 := Hd hz0;replace hz1 := Hd hz1;replace hz2 := Hd hz2;have hB0 := Hd (FBox.new hF);obtain ⟨g, hg⟩ : ∃ g, g = w.heap.size := ⟨_, rfl⟩;obtain ⟨W0, hW0⟩ : ∃ W, W = w.alloc (.cells #[.slice v.A v.n v.c, .slice v.B v.m v.d, .slice v.C v.k v.e] 29) := ⟨_, rfl⟩;rw [← hW0, ← hg] at hB0;clear hF;replace hr := hr.below hB0.out.o;have hM1 := Hd (MatK.new (N := (v.m : Int)) (c := c) W0 57 hr);obtain ⟨gm, hgm⟩ : ∃ g, g = W0.heap.size := ⟨_, rfl⟩;obtain ⟨W1, hW1⟩ : ∃ W, W = W0.alloc (.cells #[.int .i64 (v.m : Int), .slice A v.m c] 57) := ⟨_, rfl⟩;rw [← hW1, ← hgm] at hM1;have hB1 := Hd (hB0.out.later (show Below W0.heap.size W0 W1 from by rw [hW1]; exact bAl _ _));clear hr hB0;obtain ⟨go, hgo⟩ : ∃ g, g = W1.heap.size := ⟨_, rfl⟩;obtain ⟨W2, hW2⟩ : ∃ W, W = W1.alloc (.cells (zeros v.m (.slice none 0 0)) 79) := ⟨_, rfl⟩;have b2 := Hd (show Below W1.heap.size W1 W2 from by rw [hW2]; exact bAl _ _);have hS2 := Hd (show SlotsM encE 79 84 W1.heap.size go v.m W2 (List.replicate v.m (.slice none 0 0)) (by0 f a v.m 0) from by rw [hW2, hgo, by0_zero]; exact SlotsM.start W1 _ (by unfold maxLen; omega));obtain ⟨vB, hvB⟩ : ∃ b, b = v.B := ⟨_, rfl⟩;have hF1 : Hid (∀ W, FBox w g v f W → W.cell? ⟨g, 0, none⟩ = some (.slice v.A v.n v.c) ∧ W.cell? ⟨g, 1, none⟩ = some (.slice vB v.m v.d) ∧ W.cell? ⟨g, 2, none⟩ = some (.slice v.C v.k v.e)) := Hd (fun W h => ⟨h.c0, by rw [hvB]; exact h.c1, h.c2⟩);rw [← hvB] at cO cW hW0 ⊢;replace hvB := Hd hvB;obtain ⟨p0, p1, p2⟩ := hF1.out W1 hB1.out
 go_enter Tryz.func57, Tryz.ntmps57
 go_wp2_with (first | (rw [← hW0, ← hg]; clear hW0 hg) | (rw [← hW1, ← hgm]; clear hW1 hgm) | (rw [← hW2, ← hgo]; clear hW2; replace hgo := Hd hgo; obtain ⟨q0, q1, q2⟩ := hF1.out W2 (hB1.out.later b2.out)))
 clear p0 p1 p2 q0 q1 q2 mkS
 go_loopw [19] (fun t wr => ∃ (k : Nat) (vs : List Value), k ≤ v.m ∧ t = .int .i64 (k : Int) ∧ Hid (Below W1.heap.size W1 wr) ∧ Hid (SlotsM encE 79 84 W1.heap.size go v.m wr vs (by0 f a v.m k))) (fun t _ => v.m - (intOf t).toNat)
 case atStart => exact ⟨0, _, Nat.zero_le _, rfl, b2, hS2⟩
 case round =>
  obtain ⟨k, vs, hk, rfl, hb, hS⟩ := hrel;have hB := Hd (hB1.out.later hb.out);by_cases hlt : k < v.m
  ·have hlt' : (k : Int) < (v.m : Int) := by omega
   have k0 : 0 ≤ (k : Int) ∧ (k : Int) < (v.m : Int) := ⟨by omega, hlt'⟩;obtain ⟨ib, io, x, hxB, hib, hx, -, i0', i1, i2, i3, i4⟩ := hB.out.f.is.item hlt;have hvb : vB = some ⟨ib, io, none⟩ := hvB.out.trans hxB;subst hvb;obtain ⟨p0, p1, p2⟩ := hF1.out wr hB.out;replace hxB := Hd hxB;obtain ⟨gx, hgx⟩ : ∃ g, g = wr.heap.size := ⟨_, rfl⟩;obtain ⟨W3, hW3⟩ : ∃ W, W = wr.alloc (.cells #[.int .i64 x.se, .int .i64 x.pl, .bool x.wr, .int .i64 x.va, .int .i64 x.vl] 43) := ⟨_, rfl⟩;have b3 : Below wr.heap.size wr W3 := by rw [hW3]; exact (Below.refl _ _).alloc (Nat.le_refl _) _
   have hX3 := Hd (show Blk W3 gx 43 [.int .i64 x.se, .int .i64 x.pl, .bool x.wr, .int .i64 x.va, .int .i64 x.vl] from by rw [hW3, hgx]; exact Blk.new wr _ _);have hgx3 := Hd (show Apart go vs gx from hS.out.fresh (by rw [hgx]; exact Nat.le_refl _));have hB3 := Hd (hB.out.later b3);have hS3 := Hd (hS.out.later b3);have hb3 := Hd (bT2 hb.out b3);replace hx := Hd hx;clear hlt hib;go_wp2_with (rw [← hW3, ← hgx]; clear hW3 hgx b3; obtain ⟨q0, q1, q2⟩ := hF1.out W3 hB3.out);clear p0 p1 p2 q0 q1 q2 i0' i1 i2 i3 i4;refine (cO.out k W3 hB3.out.f).mono ?_; rintro e wR ⟨D, nr, dr, rfl, hL, hnd, hdm, bR, hDn⟩;have hXR := Hd (hX3.out.below bR hX3.out.lt);have hxa := Hd (show Apart go vs gx from hgx3.out);have hDa := Hd (show ∀ ad, D = some ad → Apart go vs ad.block from fun ad e => hS3.out.fresh (hDn ad e));have hSR := Hd (hS3.out.later bR);have hbR := Hd (bT2 hb3.out bR);have hLR := Hd hL;have hrl := Hd (show (readF f.frm (k : Int) v.m).length = nr from hL.len);have hrn : nr ≤ v.m := by rw [← hrl.out]; exact readF_len _ _ _
   obtain ⟨rs, hrs⟩ : ∃ rs, rs = readF f.frm (k : Int) v.m := ⟨_, rfl⟩;rw [← hrs] at hLR hrl;replace hrs := Hd hrs;clear hL bR hDn hB hb hS hB3 hS3 hb3 hX3 hgx3;go_wp2_with fail
   go_loopw [28] (fun t wr => ∃ (q : Nat) (vs' : List Value), q ≤ nr ∧ t = .int .i64 (q : Int) ∧ Hid (Below W1.heap.size W1 wr) ∧ Hid (SlotsM encE 79 84 W1.heap.size go v.m wr vs' (by1 f a v.m k (rs.take q))) ∧ Hid (Mv go wR vs wr vs')) (fun t _ => nr - (intOf t).toNat)
   case atStart => exact ⟨0, vs, Nat.zero_le _, rfl, hbR, Hd (by rw [List.take_zero, by1_nil]; exact hSR.out), Hd (Mv.refl _ _ _)⟩
   case round =>
    clear hbR hSR;obtain ⟨q, vs1, hq, rfl, hb, hS, hMv⟩ := hrel;have hB := Hd (hB1.out.later hb.out);by_cases hlq : q < nr
    ·have hlq' : (q : Int) < (nr : Int) := by omega
     have q0 : 0 ≤ (q : Int) ∧ (q : Int) < (nr : Int) := ⟨by omega, hlq'⟩;obtain ⟨rb, ro, z, rfl, hrb, hz, -, r0⟩ := (hMv.out.lat hLR.out hDa.out).int hlq;have hzz := readF_at (show (readF f.frm (k : Int) v.m)[q]? = some z by rw [← hrs.out]; exact hz);obtain ⟨r, rfl⟩ : ∃ r : Nat, z = (r : Int) := ⟨z.toNat, by omega⟩;rw [Int.toNat_natCast] at hzz;have hrm : r < v.m := by omega
     have hfrm := Hd hzz.2.2.2;obtain ⟨x', hx', hxw⟩ := hwr.out k r hrm hfrm.out;obtain rfl : x' = x := by have h := hx.out; rw [hx'] at h; injection h
     have hxw' := Hd hxw;replace hx' := Hd hx';replace hz := Hd hz;clear hzz hxw hlq hrb;go_wp2_with fail;refine wpRp 9 [(true, 0), (true, 1), (true, 2), (true, 4), (true, 5), (true, 8), (false, 3), (false, 6), (true, 7)] (by kernel_rfl) (by kernel_rfl) (fun U hU => ?_);have hU' : Below wr.heap.size wr U := by rw [hU.out]; exact (Below.refl _ _).drew
     have hBU := Hd (hB.out.later hU');have hSU := Hd (hS.out.later hU');have hMU := Hd (hMv.out.later hU');have hbU := Hd (bT2 hb.out hU');have hmU := Hd (hM1.out.below hbU.out);have hXU := Hd (hMU.out.blk hXR.out hxa.out);clear hU hU' r0 hB hS hMv hb;simp only [List.drop_succ_cons, List.drop_nil];obtain ⟨p0, p1, p2⟩ := hF1.out U hBU.out;have m0 := hmU.out.1.c0;have m1 := hmU.out.1.c1;have x3 := hXU.out.cell 3;simp only [List.getElem?_cons_zero, List.getElem?_cons_succ] at x3
     iterate 6
      refine wpPf (v := ?_) rfl (by rfl) (fun w' hw' => ?_) (fun K hK => ?_);rotate_left
      ·(go_simp; try with_reducible rfl)
      go_simp;refine hK _ ?_;clear hK K
     clear p0 p1 p2 m0 m1 x3;refine wpPo rfl (by rfl) (fun K hK => ?_);go_simp;refine (cP.out (r : Int) U hmU.out.2).mono ?_;rintro e y1 ⟨D1, n1, d1, rfl, hL1, hn1, hd1, b1, hD1⟩;refine hK _ _ b1 ?_;clear hK K;have hl1 : n1 ≤ v.m := by rw [← hL1.len]; unfold colF colN; rw [List.length_map]; exact Nat.le_trans (List.length_filter_le _ _) (by simp)
     refine wpPo rfl (by rfl) (fun K hK => ?_);go_simp;refine (cW.out D1 n1 d1 _ x'.va y1 (hBU.out.later b1).f hL1 (by omega)).mono ?_;rintro e y2 ⟨D2, n2, d2, rfl, hL2, hn2, hd2, b2', hD2⟩;refine hK _ _ b2' ?_;clear hK K;have b12 := bT2 b1 b2';have hBy := Hd (hBU.out.later b12);have hSy := Hd (hSU.out.later b12);have hMy := Hd (hMU.out.later b12);have hby := Hd (bT2 hbU.out b12);have hDa2 := Hd (show ∀ ad, D2 = some ad → Apart go vs1 ad.block from fun ad e => (hSU.out.later b1).fresh (hD2 ad e));have hnd := wrs_nodup f.items x'.va a (r : Int) v.m;have hn2m : n2 ≤ v.m := by rw [← hL2.len]; exact wrs_len _ _ _ _ _
     obtain ⟨ws, hws⟩ : ∃ ws, ws = wrsF f.items x'.va (colF a (r : Int) v.m) := ⟨_, rfl⟩;rw [← hws] at hL2 hnd;have hwl := Hd hL2.len;have hws2 : Hid (∀ z ∈ ws, ∃ i : Nat, i < v.m ∧ z = (i : Int)) := Hd (fun z hz => by
      rw [hws] at hz;obtain ⟨i, y, h1, h2, -⟩ := mem_wrs.1 hz;exact ⟨i, h1, h2⟩)
     replace hws := Hd hws;replace hL2 := Hd hL2;replace hnd := Hd hnd;clear hL1 hD1 hD2 b1 b2' b12 hBU hSU hMU hbU hmU hXU hl1 hn1 hd1
     iterate 1
      refine wpPf (v := ?_) rfl (by rfl) (fun w' hw' => ?_) (fun K hK => ?_);rotate_left
      ·(go_simp; try with_reducible rfl)
      go_simp;refine hK _ ?_;clear hK K
     refine wpPn (NoPanic.normal ?_);go_wp2_with fail
     go_loopw [40] (fun t wr => ∃ (j : Nat) (vs' : List Value), j ≤ n2 ∧ t = .int .i64 (j : Int) ∧ Hid (Below W1.heap.size W1 wr) ∧ Hid (SlotsM encE 79 84 W1.heap.size go v.m wr vs' (by2 f a v.m k (rs.take q) (r : Int) (ws.take j))) ∧ Hid (Mv go y2 vs1 wr vs')) (fun t _ => n2 - (intOf t).toNat)
     case atStart => exact ⟨0, vs1, Nat.zero_le _, rfl, hby, Hd (by rw [List.take_zero, by2_nil]; exact hSy.out), Hd (Mv.refl _ _ _)⟩
     case round =>
      clear hby hSy hBy;obtain ⟨j, vs2, hj, rfl, hb, hS, hMv⟩ := hrel;by_cases hlj : j < n2
      ·have hlj' : (j : Int) < (n2 : Int) := by omega
       have j0 : 0 ≤ (j : Int) ∧ (j : Int) < (n2 : Int) := ⟨by omega, hlj'⟩;obtain ⟨wb, wo, z, rfl, hwb, hz, -, s0⟩ := (hMv.out.lat hL2.out hDa2.out).int hlj;obtain ⟨s, hsm, rfl⟩ := hws2.out z (List.mem_of_getElem? hz);have s1 : 0 ≤ (s : Int) ∧ (s : Int) < (v.m : Int) := by omega
       by_cases hsk : s = k
       ·have e0 : ((s : Int) != (k : Int)) = false := by simp [hsk]
        have hst := Hd (by2_skip (f := f) (M := a) (n := v.m) (rs := rs.take q) (z := (r : Int)) hnd.out (show ws[j]? = some (k : Int) by rw [← hsk]; exact hz));replace hz := Hd hz;replace hsk := Hd hsk;clear hlj hwb;go_wp2_with fail;exact ⟨⟨j + 1, vs2, by omega, by go_num, hb, Hd (by rw [hst.out]; exact hS.out), hMv⟩, by simp [intOf]; omega⟩
       ·have e0 : ((s : Int) != (k : Int)) = true := by simp; omega
        have hst := Hd (by2_step (f := f) (M := a) (rs := rs.take q) (z := (r : Int)) hsm hnd.out hz hsk);have hat := by2_at (f := f) (M := a) (n := v.m) (k := k) (rs := rs.take q) (z := (r : Int)) (ws := ws.take j) hsm;have hll := by2_len f a (n := v.m) (k := k) (s := s) (q := q) (j := j) (rs := rs) (z := (r : Int)) (ws := ws) (by omega) hk (by rw [hrl.out]; exact hrn);obtain ⟨Lv, hLv⟩ : ∃ l, l = ((eB f a s v.m k ++ eZ f a s k (rs.take q)) ++ oneE s k (r : Int) (ws.take j)) := ⟨_, rfl⟩;rw [← hLv] at hat hll;have hst2 := Hd (show (by2 f a v.m k (rs.take q) (r : Int) (ws.take j)).set s (Lv ++ [⟨(s : Int), (k : Int), (r : Int)⟩]) = by2 f a v.m k (rs.take q) (r : Int) (ws.take (j + 1)) by rw [hLv]; exact hst.out);replace hLv := Hd hLv;obtain ⟨Ai, Mi, ci, l, hvi, hli, hlm, c0, fz0, hown, hokl, hmc, hc63, -⟩ := hS.out.get hsm;obtain rfl : l = Lv := by rw [hat] at hli; injection hli with h; exact h.symm
        rw [hlm] at hll;replace hz := Hd hz;replace hsk := Hd hsk;replace hat := Hd hat;replace hvi := Hd hvi;replace hokl := Hd hokl;replace hlm := Hd hlm;replace hmc := Hd hmc;clear hlj hwb hst hli fz0;obtain ⟨gl, hgl⟩ : ∃ g, g = wr.heap.size := ⟨_, rfl⟩;obtain ⟨VL, hVL⟩ : ∃ W, W = World.alloc wr (.cells #[.int .i64 (s : Int), .int .i64 (k : Int), .int .i64 (r : Int)] 84) := ⟨_, rfl⟩;have bL : Below wr.heap.size wr VL := by rw [hVL]; exact (Below.refl _ _).alloc (Nat.le_refl _) _
        have hokn : Hid (Ed.Ok ⟨(s : Int), (k : Int), (r : Int)⟩) := Hd ⟨by simp only; omega, by simp only; omega, by simp only; omega, by simp only; omega, by simp only; omega, by simp only; omega⟩;have hlit := Hd (show LAt encE VL (some ⟨gl, 0, none⟩) 1 [⟨(s : Int), (k : Int), (r : Int)⟩] from by rw [hVL, hgl]; exact LAt.lit1 (E := encE) wr 84 ⟨(s : Int), (k : Int), (r : Int)⟩ hokn.out);have hownL := Hd (oBl hown bL);have hSL := Hd (hS.out.later bL);have hML := Hd (hMv.out.later bL);have bWL := Hd (bT2 hb.out bL);have hbase := Hd bWL.out.size;have hgoB := Hd (hS.out.o.lt go rfl).1;clear bL hown;go_wp2_with (first
         | (rw [← hVL, ← hgl]; clear hVL hgl)
         | (at_builtin; refine wpAL (E := encE) rfl (.tmp 52) (.tmp 57) _ rfl W1.heap.size 84 i0 _ 24 Tryz.underlying79 hi.out hz0.out hz1.out hz2.out rfl _ Mi l (by rfl) hownL.out _ 1 1 _ rfl hlit.out (by unfold maxLen; omega) (by omega) hbase.out ?_; intro v' w7 hown' hb7 hg7 hob7; obtain ⟨A5, c5, rfl, h51, h52, -⟩ := LAt.of_own hown' (fun x hx => (List.mem_append.1 hx).elim (hokl.out x) (fun h => by rw [List.mem_singleton.1 h]; exact hokn.out)) (by rw [List.length_append, hlm.out]; rfl); obtain ⟨hS7, hM7, c7, f7⟩ := hSL.out.put (by decide) hvi.out hat.out hg7 (v' := .slice A5 (Mi + 1) c5) (l' := l ++ [⟨(s : Int), (k : Int), (r : Int)⟩]) (by rw [List.length_append, hlm.out]; exact hown') (fun x hx => (List.mem_append.1 hx).elim (hokl.out x) (fun h => by rw [List.mem_singleton.1 h]; exact hokn.out)) hob7; replace hS7 := Hd hS7; replace hM7 := Hd hM7; have hb8 := Hd ((bWL.out.trans hb7).setCell (p := ⟨go, s, none⟩) hgoB.out (.slice A5 (Mi + 1) c5)); clear hown' hb7 hg7 hob7 c0 s0))
        exact ⟨⟨j + 1, vs2.set s (.slice A5 (Mi + 1) c5), by omega, by go_num, hb8, Hd (by rw [← hst2.out]; exact hS7.out), Hd (hML.out.trans hM7.out)⟩, by simp [intOf]; omega⟩
      ·have hjn : j = n2 := by omega
       subst hjn;have hlj' : ¬ (j : Int) < (j : Int) := by omega
       have hall : ws.take j = ws := List.take_of_length_le (by rw [hwl.out]; exact Nat.le_refl _);have hend := Hd (by2_all (M := a) (n := v.m) (rs := rs) hil.out hx'.out hxw'.out hfrm.out hz.out);rw [hall, hws.out, hend.out] at hS;have hM2 := Hd (hMy.out.trans hMv.out);clear hlj hall;go_wp2_with fail;exact ⟨⟨q + 1, vs2, by omega, by go_num, hb, hS, hM2⟩, by simp [intOf]; omega⟩
    ·have hqn : q = nr := by omega
     subst hqn;have hlq' : ¬ (q : Int) < (q : Int) := by omega
     have hall : rs.take q = rs := List.take_of_length_le (by rw [hrl.out]; exact Nat.le_refl _);rw [hall, hrs.out, by1_all] at hS;clear hlq hall;go_wp2_with fail;exact ⟨⟨k + 1, vs1, by omega, by go_num, hb, hS⟩, by simp [intOf]; omega⟩
  ·have hkn : k = v.m := by omega
   subst hkn;have hlt' : ¬ (v.m : Int) < (v.m : Int) := by omega
   have cC := Hd (concat_edges W1.heap.size go v.m vs _ wr hS.out (by omega) hEl2);clear hlt;go_wp2_with fail;refine cC.out.mono ?_; rintro e w9 ⟨E, ne, ce, rfl, hL, hnc, hcm, b9⟩;have hbb := Hd (bT2 hB.out.o b9);go_wp2_with fail;go_ret;exact ⟨E, ne, ce, rfl, hL, hnc, hcm, hbb.out⟩
theorem PairsAt.of_blk17 {w : World} {g n : Nat} {t : TypeId} {ps : List (Int × Int)} (h : Blk w g t (cellsP ps)) (hl : ps.length = n) (ho : OkI ps) : PairsAt w (some ⟨g, 0, none⟩) n ps :=
 ⟨hl, ho, fun _ => ⟨g, 0, rfl, h.lt, fun j p hp => by
  obtain ⟨h1, h2⟩ := cellsP_get ps j p hp;exact ⟨by rw [Nat.zero_add, h.cell]; exact h1, by rw [Nat.zero_add, h.cell]; exact h2⟩⟩⟩
theorem cells2_zero (n : Nat) : (madeCells #[.int .i64 0, .int .i64 0] (n * 2)).toList = List.replicate (n * 2) (.int .i64 0) := by
 have hz : (#[.int .i64 0, .int .i64 0] : Array Value) = Array.replicate 2 (.int .i64 0) := rfl;rw [hz];unfold madeCells;rw [Array.toList_map, Array.toList_range, Array.size_replicate]
 apply List.ext_getElem (by simp)
 intro i h1 h2;rw [List.getElem_map, List.getElem_range, List.getElem_replicate, getElem!_pos _ _ (by rw [Array.size_replicate]; omega), Array.getElem_replicate]
def ppC (es : List Ed) (n i : Nat) : List Value := cellsP (edP (es.take i)) ++ List.replicate ((n - i) * 2) (.int .i64 0)
theorem ppC_zero (es : List Ed) (n : Nat) : ppC es n 0 = List.replicate (n * 2) (.int .i64 0) := by unfold ppC; simp [edP, cellsP]
theorem ppC_all {es : List Ed} {n : Nat} (h : es.length = n) : ppC es n n = cellsP (edP es) := by unfold ppC; rw [List.take_of_length_le (by omega)]; simp
theorem edP_snoc {es : List Ed} {i : Nat} {x : Ed} (h : es[i]? = some x) : edP (es.take (i + 1)) = edP (es.take i) ++ [(x.w1, x.w2)] := by
 unfold edP; rw [List.take_add_one, h, List.map_append]; rfl
theorem ppC_at {es : List Ed} {n i : Nat} (hi : i < n) (hl : es.length = n) : (ppC es n i)[i * 2]? = some (.int .i64 0) ∧ (ppC es n i)[i * 2 + 1]? = some (.int .i64 0) := by
 have hL : (cellsP (edP (es.take i))).length = i * 2 := by rw [cellsP_len]; unfold edP; rw [List.length_map, List.length_take]; congr 1; omega
 unfold ppC
 constructor
 ·rw [List.getElem?_append_right (by omega), hL, List.getElem?_replicate, if_pos (by omega)]
 ·rw [List.getElem?_append_right (by omega), hL, List.getElem?_replicate, if_pos (by omega)]
theorem ppC_step {es : List Ed} {n i : Nat} {x : Ed} (hi : i < n) (hl : es.length = n) (h : es[i]? = some x) : ((ppC es n i).set (i * 2) (.int .i64 x.w1)).set (i * 2 + 1) (.int .i64 x.w2) = ppC es n (i + 1) := by
 have hL : (cellsP (edP (es.take i))).length = i * 2 := by rw [cellsP_len]; unfold edP; rw [List.length_map, List.length_take]; congr 1; omega
 unfold ppC;obtain ⟨k, hk⟩ : ∃ k, n - i = k + 1 := ⟨n - i - 1, by omega⟩;rw [edP_snoc h, cellsP_snoc, hk, show n - (i + 1) = k by omega, show (k + 1) * 2 = k * 2 + 1 + 1 by omega, List.replicate_succ, List.replicate_succ];rw [List.set_append_right _ _ (by omega), hL, Nat.sub_self, List.set_cons_zero, List.set_append_right _ _ (by omega), hL, show i * 2 + 1 - i * 2 = 1 by omega]
 simp
theorem edP_len (es : List Ed) : (edP es).length = es.length := by unfold edP; rw [List.length_map]
theorem mk_pairs19 (kl kc : IntKind) (n : Nat) (hc : n ≤ 1099511627776) (W : World) :
  (Instr.makeSlice 98 (.int kl (n : Int)) (.int kc (n : Int))).run Tryz.prog W = .ok (.slice (some ⟨W.heap.size, 0, none⟩) n n) (W.alloc (.cells (madeCells #[.int .i64 0, .int .i64 0] (n * 2)) 99)) := by
 obtain ⟨i, hi, hz0, hz1, hz2⟩ := info_parts info_pair;have hr := run_make (P := Tryz.prog) W _ _ i _ Tryz.underlying98 hi hz0 kl kc n n (by omega) (by omega) (by rw [hz2]; omega) (by omega);rw [hr, hz1]
 rfl
theorem cf_of19 {f : Fac} {M : List (List Nat)} (h : f.items.length ≤ 4096) : ofN (f.items.length : Int) (edP (edgesF f M)) = (f.items.length : Int) ∧ ofM (f.items.length : Int) (edP (edgesF f M)) = foldP f.items.length (edP (edgesF f M)) ∧ ofE (f.items.length : Int) (edP (edgesF f M)) = 0 := by
 have h0 : ofOk (f.items.length : Int) (edP (edgesF f M)) = true := by
  unfold ofOk;rw [Bool.and_eq_true, List.all_eq_true];exact ⟨belowZ_yes (by omega) (by omega), fun p hp => edP_ok p hp⟩
 exact ⟨by unfold ofN; rw [if_pos h0], by unfold ofM; rw [if_pos h0]; rfl, by unfold ofE; rw [if_pos h0]⟩
theorem bad_cyclicCF {w0 : World} {v : FV} {f : Fac} {A : Option Addr} {c s : Nat} {R : Value} (g : Nat) (U : World) (hE : EnvB v f) (hS : SrAt w0 v f A c s R U) (hW : Blk U g 34 [.int .i64 5, .int .i64 (-1), .int .i64 (-1), .int .i64 (-1), .int .i64 (-1), .slice none 0 0, .int .i64 (-1), .int .i64 (-1)]) :
  Calls Tryz.prog 34 #[.pointer (some ⟨s, 0, none⟩), .pointer (some ⟨g, 0, none⟩)] U (RetLk g 5 (roundF 5 v.m (cfM f (coM f))) U) := by
 have kW := Hd hW;have hvm := hE.hvm;have hil := hE.hil;have hG := hE.good;obtain ⟨a, ha⟩ : ∃ a, a = coM f := ⟨_, rfl⟩;have cE := Hd (fun W (hS : SrAt w0 v f A c s R W) => clash_Edges v f A c (coM f) W hS.fa hS.mm hG (by omega) hS.cap hE.hw hE.hx.fr);have hG' : Good f.items.length (coM f) := by rw [hil]; exact hG
 have hel : Hid ((edgesF f (coM f)).length ≤ 1048576) := Hd (by
  have h1 := eA_len f (coM f) f.items.length f.items.length;have q1 : f.items.length * (f.items.length * f.items.length) ≤ 64 * (64 * 64) := Nat.mul_le_mul (by omega) (Nat.mul_le_mul (by omega) (by omega));have hEq : edgesF f (coM f) = eA f (coM f) f.items.length f.items.length := rfl;rw [hEq]; omega)
 obtain ⟨o1, o2, o3⟩ := cf_of19 (f := f) (M := coM f) (by omega);obtain ⟨gP, hor⟩ := or_pairs hG';rw [hil] at o1 o2 o3 gP hor;obtain ⟨pm, hpm⟩ : ∃ m, m = foldP v.m (edP (edgesF f (coM f))) := ⟨_, rfl⟩;rw [← hpm] at o2 gP hor;have hpl := Hd gP.len;have hposP := Hd (fun h0 => rows_len_pos gP h0);have hsl := Hd (hG.same_len gP);have gX : Good v.m (cfX f (coM f)) := by have := cfX_good hG'; rwa [hil] at this
 have hXl := Hd gX.len;have hposX := Hd (fun h0 => rows_len_pos gX h0);have gC : Good v.m (cfM f (coM f)) := by have := (cfM_hull hG').1; rwa [hil] at this
 have hCl := Hd gC.len;have hCs := Hd (fun xs (hx : xs ∈ cfM f (coM f)) => Nat.le_trans (gC.small xs hx) (show 64 ≤ 1024 by omega));have hcm : closeK (cfX f (coM f)) v.m = cfM f (coM f) := by unfold cfM; rw [hil]
 obtain ⟨es, hes⟩ : ∃ l, l = edgesF f (coM f) := ⟨_, rfl⟩;have cO := Hd (fun A n W hp => (mat_Of (v.m : Int) A (edgesF f (coM f)).length n (edP (edgesF f (coM f))) W hp (by have := hel.out; omega)));rw [o1, o2, o3] at cO;rw [← hes] at cE hel cO;clear o1 o2 o3 hpm hG' ha a;replace hG := Hd hG;replace gX := Hd gX;replace hor := Hd hor;replace hcm := Hd hcm;replace hes := Hd hes;have hS0 := Hd hS;clear gP gC hil hE hS hW
 go_enter Tryz.func34, Tryz.ntmps34
 go_wp2_with fail;refine wpRp 10 [(true, 0), (true, 1), (true, 2), (true, 3), (true, 4), (true, 5), (true, 6), (true, 7), (false, 8), (true, 9)] (by kernel_rfl) (by kernel_rfl) (fun V hV => ?_);have hV' : Below U.heap.size U V := by rw [hV.out]; exact (Below.refl _ _).drew
 replace hS0 := Hd (hS0.out.later hV');replace kW := Hd (kW.out.below hV' kW.out.lt);have hbo := Hd hV';clear hV hV';simp only [List.drop_succ_cons, List.drop_nil];have p0 := hS0.out.c0;have p1 := hS0.out.c1;have p2 := hS0.out.c2;have p3 := hS0.out.c3;have p4 := hS0.out.c4;have p5 := hS0.out.c5
 iterate 8
  refine wpPf (v := ?_) rfl (by rfl) (fun w' hw' => ?_) (fun K hK => ?_);rotate_left
  ·(go_simp; try with_reducible rfl)
  go_simp;refine hK _ ?_;clear hK K
 clear p0 p1 p2 p3 p4 p5;refine wpPo rfl (by rfl) (fun K hK => ?_);go_simp;refine (cE.out V hS0.out).mono ?_;rintro e x1 ⟨E1, ne, ce, rfl, hL, -, -, b⟩;refine hK _ _ b ?_;clear hK K;replace hS0 := Hd (hS0.out.later b);replace kW := Hd (kW.out.below b kW.out.lt);replace hbo := Hd (bT2 hbo.out b);clear b cE
 iterate 1
  refine wpPf (v := ?_) rfl (by rfl) (fun w' hw' => ?_) (fun K hK => ?_);rotate_left
  ·(go_simp; try with_reducible rfl)
  go_simp;refine hK _ ?_;clear hK K
 refine wpPn (NoPanic.normal ?_);have hnl := hL.len;have hne1 : ne ≤ 1048576 := by rw [← hnl]; exact hel.out
 have hokI : Hid (OkI (edP es)) := Hd (fun p hp => by
  unfold edP at hp;obtain ⟨x, hx, rfl⟩ := List.mem_map.1 hp;have h : Ed.Ok x := hL.okAll x hx;exact ⟨⟨h.a0, h.a1⟩, ⟨h.b0, h.b1⟩⟩)
 replace hnl := Hd hnl;replace hL := Hd hL;have mkP := mk_pairs19 .i64 .i64 ne (by omega);obtain ⟨gl, hgl⟩ : ∃ g, g = x1.heap.size := ⟨_, rfl⟩;obtain ⟨W1, hW1⟩ : ∃ W, W = x1.alloc (.cells (madeCells #[.int .i64 0, .int .i64 0] (ne * 2)) 99) := ⟨_, rfl⟩;have k1 := Hd (show Blk W1 gl 99 (ppC es ne 0) from by
  rw [hW1, hgl, ppC_zero, ← cells2_zero];exact Blk.new x1 _ _)
 have b1 := Hd (show Below x1.heap.size x1 W1 from by rw [hW1]; exact bAl _ _);have hgw := Hd (show x1.heap.size ≤ gl by omega);go_wp2_with (rw [← hW1, ← hgl]; clear hW1; replace hgl := Hd hgl);clear mkP
 go_loopw [29] (fun t wr => ∃ i : Nat, i ≤ ne ∧ t = .int .i64 (i : Int) ∧ Hid (Below x1.heap.size x1 wr) ∧ Hid (Blk wr gl 99 (ppC es ne i))) (fun t _ => ne - (intOf t).toNat)
 case atStart => exact ⟨0, Nat.zero_le _, rfl, b1, k1⟩
 case round =>
  obtain ⟨i, hi, rfl, hb, hk⟩ := hrel;clear b1 k1;by_cases hlt : i < ne
  ·have hlt' : (i : Int) < (ne : Int) := by omega
   have k0 : 0 ≤ (i : Int) ∧ (i : Int) < (ne : Int) := ⟨by omega, hlt'⟩;obtain ⟨eb, eo, x, rfl, heb, hx, hxo, x0, x1', x2⟩ := (hL.out.below hb.out).edge hlt;obtain ⟨gx, hgx⟩ : ∃ g, g = wr.heap.size := ⟨_, rfl⟩;obtain ⟨W3, hW3⟩ : ∃ W, W = wr.alloc (.cells #[.int .i64 x.w1, .int .i64 x.w2, .int .i64 x.rd] 84) := ⟨_, rfl⟩;have b3 : Below wr.heap.size wr W3 := by rw [hW3]; exact (Below.refl _ _).alloc (Nat.le_refl _) _
   have hX3 := show Blk W3 gx 84 [.int .i64 x.w1, .int .i64 x.w2, .int .i64 x.rd] from by rw [hW3, hgx]; exact Blk.new wr _ _
   have hk3 := hk.out.below b3 hk.out.lt;have hb3 := Hd (bT2 hb.out b3);have y0 := hX3.cell 0;have y1 := hX3.cell 1;simp only [List.getElem?_cons_zero, List.getElem?_cons_succ] at y0 y1;have z0 := (hk3.cell (i * 2)).trans (ppC_at hlt hnl.out).1;have z1 := (hk3.cell (i * 2 + 1)).trans (ppC_at hlt hnl.out).2;have f0 := hk3.frozen (i * 2);have f1 := hk3.frozen (i * 2 + 1);have hst := Hd (ppC_step hlt hnl.out hx);have hk4 := Hd ((hk3.set_ (i * 2) (.int .i64 x.w1)).set_ (i * 2 + 1) (.int .i64 x.w2));have hb4 := Hd ((hb3.out.setCell (p := ⟨gl, i * 2, none⟩) hgw.out (.int .i64 x.w1)).setCell (p := ⟨gl, i * 2 + 1, none⟩) hgw.out (.int .i64 x.w2));replace hx := Hd hx;clear hlt heb hX3 hk3;go_wp2_with (rw [← hW3, ← hgx]; clear hW3 hgx b3 x0 x1' x2);exact ⟨⟨i + 1, by omega, by go_num, hb4, Hd (by rw [← hst.out]; exact hk4.out)⟩, by simp [intOf]; omega⟩
  ·have hin : i = ne := by omega
   subst hin;have hlt' : ¬ (i : Int) < (i : Int) := by omega
   have hP := Hd (show PairsAt wr (some ⟨gl, 0, none⟩) i (edP es) from PairsAt.of_blk17 (by rw [← ppC_all hnl.out]; exact hk.out) (by rw [edP_len]; exact hnl.out) hokI.out);replace hS0 := Hd (hS0.out.later hb.out);replace kW := Hd (kW.out.below hb.out kW.out.lt);replace hbo := Hd (bT2 hbo.out hb.out);have cP := cO.out (some ⟨gl, 0, none⟩) i wr (by rw [hnl.out]; exact hP.out);rw [hnl.out] at cP;replace cP := Hd cP;clear hlt hb hk hP hL cO hokI;have p0 := hS0.out.c0;have p1 := hS0.out.c1;have p2 := hS0.out.c2;have p3 := hS0.out.c3;have p4 := hS0.out.c4;have p5 := hS0.out.c5;go_wp2_with fail;refine cP.out.mono ?_;rintro e x2 ⟨A3, n3, c3, rfl, r3, hc3, b⟩;obtain rfl : n3 = v.m := by rw [← r3.len]; exact hpl.out
   replace hS0 := Hd (hS0.out.later b);replace kW := Hd (kW.out.below b kW.out.lt);replace hbo := Hd (bT2 hbo.out b);clear b cP p0 p1 p2 p3 p4 p5;obtain ⟨W5, hW5⟩ : ∃ W, W = x2.alloc (.cells #[.int .i64 (v.m : Int), .slice A3 v.m c3] 57) := ⟨_, rfl⟩;obtain ⟨G5, hG5⟩ : ∃ G, G = x2.heap.size := ⟨_, rfl⟩;have b5 : Below x2.heap.size x2 W5 := by rw [hW5]; exact bAl _ _
   have k5 := Hd (show MatK W5 G5 57 (v.m : Int) A3 v.m c3 pm from ⟨by rw [hW5, hG5]; exact MatB.new _ _, r3.below b5⟩);replace hS0 := Hd (hS0.out.later b5);replace kW := Hd (kW.out.below b5 kW.out.lt);replace hbo := Hd (bT2 hbo.out b5);clear b5 r3;go_wp2_with (rw [← hW5, ← hG5]; clear hW5; replace hG5 := Hd hG5);refine wp_region_tree (.flt 0 (.flt 1 (.flt 2 (.flt 3 (.flt 4 (.two 5 9 (.flt 6 (.flt 7 (.flt 8 (.one 9 (.one 10 (.flt 11 .done)))))) (.one 5 (.flt 6 (.flt 7 (.flt 8 (.one 10 (.flt 11 .done)))))))))))) (by kernel_rfl) (by kernel_rfl) (fun V hV => ?_);have hV' : Below W5.heap.size W5 V := by rw [hV.out]; exact (Below.refl _ _).drew
   have hSV := Hd (hS0.out.later hV');have kV := Hd (k5.out.below hV');replace kW := Hd (kW.out.below hV' kW.out.lt);replace hbo := Hd (bT2 hbo.out hV');clear hV hV' hS0 k5;have cR := Hd (fun W (hS : SrAt w0 v f A c s R W) (hk : MatK W G5 57 (v.m : Int) A3 v.m c3 pm) => by
    have h := mat_Or A A3 v.m c c3 (coM f) pm W hS.mm hk.2 (by omega) hsl.out;rw [hor.out] at h;exact h)
   have bW : Below V.heap.size V V := Below.refl _ _
   apply cut_four19 (F := fun (M : Nat) (w9 : World) (A5 : Option Addr) (c5 : Nat) => MatK w9 M 57 (v.m : Int) A5 v.m c5 (cfX f (coM f)) ∧ V.heap.size ≤ M ∧ Below V.heap.size V w9)
   ·intro key
    have p0 := hSV.out.c0;have p1 := hSV.out.c1;have p2 := hSV.out.c2;have p3 := hSV.out.c3;have p4 := hSV.out.c4;have p5 := hSV.out.c5;have m0 := kV.out.1.c0;have m1 := kV.out.1.c1
    iterate 5
     refine wpTf (v := ?_) rfl (by rfl) (fun w' hw' => ?_) (fun K hK => ?_);rotate_left
     ·(go_simp; try with_reducible rfl)
     go_simp;refine hK _ ?_;clear hK K
    clear p0 p1 p2 p3 p4 p5 m0 m1;refine wpPT_two rfl (by rfl) rfl (by rfl) (fun K hK => ?_) (fun K hK => ?_)
    ·skip
     go_simp;refine (cR.out V (hSV.out.later bW) (kV.out.below bW)).mono ?_; rintro e v1 ⟨A5, n5, c5, rfl, r5, hc5, b⟩;obtain rfl : n5 = v.m := by rw [← r5.len]; exact hXl.out
     replace bW := bT2 bW b;refine hK _ _ bW ?_;clear hK K;clear b
     iterate 3
      refine wpTf (v := ?_) rfl (by rfl) (fun w' hw' => ?_) (fun K hK => ?_);rotate_left
      ·(go_simp; try with_reducible rfl)
      go_simp;refine hK _ ?_;clear hK K
     refine wpT1 rfl (by rfl) (fun K hK => ?_);go_simp;obtain ⟨M, hM⟩ : ∃ M, M = (World.heap v1).size := ⟨_, rfl⟩;obtain ⟨v2, hw⟩ : ∃ X : World, X = World.alloc v1 (.cells #[.int .i64 0, .slice none 0 0] 57) := ⟨_, rfl⟩;rw [← hw, ← hM];have b : Below (World.heap v1).size v1 v2 := by rw [hw]; exact bAl _ _
     have hUM : V.heap.size ≤ M := by rw [hM]; exact bW.size
     replace bW := bT2 bW b;refine hK _ _ bW ?_;clear hK K;have kM := Hd (show MatB v2 M 57 0 none 0 0 from by rw [hw, hM]; exact MatB.new _ _);have hne : 0 < v.m → ∀ ad, A5 = some ad → ad.block ≠ M := fun h0 ad e => by have := r5.block_lt h0 ad e; omega
     replace r5 := r5.below b;clear hM hw b;have f0 := kM.out.c0;have f1 := kM.out.c1;have g0 := kM.out.frozen 0;have g1 := kM.out.frozen 1;refine wpT1 rfl (by rfl) (fun K hK => ?_);go_simp;obtain ⟨wz, hw⟩ : ∃ X : World, X = (World.setCell v2 ⟨M, 0, none⟩ (.int .i64 (v.m : Int))).setCell ⟨M, 1, none⟩ (.slice A5 v.m c5) := ⟨_, rfl⟩;rw [← hw];have hMV := Hd (show MatK wz M 57 (v.m : Int) A5 v.m c5 (cfX f (coM f)) from ⟨by rw [hw]; exact kM.out.put _ _ _ _, by rw [hw]; exact r5.putB kM.out hne _ _⟩);replace bW : Below V.heap.size V wz := by rw [hw]; exact (bW.setCell (p := ⟨M, 0, none⟩) hUM _).setCell (p := ⟨M, 1, none⟩) hUM _
     refine hK _ _ bW ?_;clear hK K f0 f1 g0 g1 hw r5 kM hne
     iterate 1
      refine wpTf (v := ?_) rfl (by rfl) (fun w' hw' => ?_) (fun K hK => ?_);rotate_left
      ·(go_simp; try with_reducible rfl)
      go_simp;refine hK _ ?_;clear hK K
     refine wpTd (NoPanic.normal ?_);exact key M wz A5 c5 ⟨hMV.out, hUM, bW⟩
    ·skip
     go_simp;obtain ⟨M, hM⟩ : ∃ M, M = (World.heap V).size := ⟨_, rfl⟩;obtain ⟨v3, hw⟩ : ∃ X : World, X = World.alloc V (.cells #[.int .i64 0, .slice none 0 0] 57) := ⟨_, rfl⟩;rw [← hw, ← hM];have b : Below (World.heap V).size V v3 := by rw [hw]; exact bAl _ _
     have hUM : V.heap.size ≤ M := by rw [hM]; exact bW.size
     replace bW := bT2 bW b;refine hK _ _ bW ?_;clear hK K;have kM := Hd (show MatB v3 M 57 0 none 0 0 from by rw [hw, hM]; exact MatB.new _ _);clear hM hw b;refine wpT1 rfl (by rfl) (fun K hK => ?_);go_simp;refine (cR.out v3 (hSV.out.later bW) (kV.out.below bW)).mono ?_; rintro e v4 ⟨A5, n5, c5, rfl, r5, hc5, b⟩;obtain rfl : n5 = v.m := by rw [← r5.len]; exact hXl.out
     replace bW := bT2 bW b;refine hK _ _ bW ?_;clear hK K;have hne : 0 < v.m → ∀ ad, A5 = some ad → ad.block ≠ M := fun h0 => r5.farZ (kM.out.below_ b) (hposX.out h0) h0;replace kM := Hd (kM.out.below_ b);clear b
     iterate 3
      refine wpTf (v := ?_) rfl (by rfl) (fun w' hw' => ?_) (fun K hK => ?_);rotate_left
      ·(go_simp; try with_reducible rfl)
      go_simp;refine hK _ ?_;clear hK K
     have f0 := kM.out.c0;have f1 := kM.out.c1;have g0 := kM.out.frozen 0;have g1 := kM.out.frozen 1;refine wpT1 rfl (by rfl) (fun K hK => ?_);go_simp;obtain ⟨wz, hw⟩ : ∃ X : World, X = (World.setCell v4 ⟨M, 0, none⟩ (.int .i64 (v.m : Int))).setCell ⟨M, 1, none⟩ (.slice A5 v.m c5) := ⟨_, rfl⟩;rw [← hw];have hMV := Hd (show MatK wz M 57 (v.m : Int) A5 v.m c5 (cfX f (coM f)) from ⟨by rw [hw]; exact kM.out.put _ _ _ _, by rw [hw]; exact r5.putB kM.out hne _ _⟩);replace bW : Below V.heap.size V wz := by rw [hw]; exact (bW.setCell (p := ⟨M, 0, none⟩) hUM _).setCell (p := ⟨M, 1, none⟩) hUM _
     refine hK _ _ bW ?_;clear hK K f0 f1 g0 g1 hw r5 kM hne
     iterate 1
      refine wpTf (v := ?_) rfl (by rfl) (fun w' hw' => ?_) (fun K hK => ?_);rotate_left
      ·(go_simp; try with_reducible rfl)
      go_simp;refine hK _ ?_;clear hK K
     refine wpTd (NoPanic.normal ?_);exact key M wz A5 c5 ⟨hMV.out, hUM, bW⟩
   ·rintro M w9 A5 c5 ⟨k6', hVM, b9⟩
    have k6 := Hd k6';replace hbo := Hd (bT2 hbo.out b9);replace kW := Hd (kW.out.below b9 kW.out.lt);clear k6' b9 hSV kV cR;have qk60 := k6.out.1.c0;have qk61 := k6.out.1.c1;have cK := Hd (hull_Close A5 v.m c5 (cfX f (coM f)) w9 k6.out.2 gX.out);rw [hcm.out] at cK;go_wp2_with fail;refine cK.out.mono ?_; rintro e x4 ⟨A6, n6, c6, rfl, r6, hc6, b⟩;obtain rfl : n6 = v.m := by rw [← r6.len]; exact hCl.out
    replace hbo := Hd (bT2 hbo.out b);replace kW := Hd (kW.out.below b kW.out.lt);clear b cK qk60 qk61 k6;have cL := Hd (hull_Loop A6 v.m c6 (cfM f (coM f)) x4 r6 (by omega) hCs.out);clear r6;go_wp2_with fail;refine cL.out.mono ?_; rintro e x5 ⟨i5, bl, rfl, hLp, b⟩;replace kW := Hd (kW.out.below b kW.out.lt);have hbb := Hd (BelowB.of (g := g) (bT2 hbo.out b));clear b cL
    cases bl with
    | true =>
     have hans := Hd (roundF_some (k := 5) hLp);have kZ := kW.out.set_ 4 (.int .i64 i5);simp only [List.set_cons_zero, List.set_cons_succ] at kZ;replace kZ := Hd kZ;obtain ⟨z0x, z1x, z2x, z3x, z4x, z5x, z6x, z7x⟩ := kW.out.cells8;obtain ⟨z0fx, z1fx, z2fx, z3fx, z4fx, z5fx, z6fx, z7fx⟩ := kW.out.frozen8;clear hLp;go_wp2_with fail;go_ret;exact ⟨_, (by rw [hans.out]; try rfl), (by rw [hans.out]; try rfl), kZ.out, hbb.out.setG19 _ _⟩
    | false =>
     have hans := Hd (roundF_none (k := 5) hLp);clear hLp;go_wp2_with fail;go_ret;exact ⟨noneW 5, (by rw [hans.out]; try rfl), (by rw [hans.out]; try rfl), kW.out, hbb.out⟩
theorem sort_Search (u1 u2 u3 : Value) (m : Nat) (p : Nat → Bool) (w : World) (hm : m ≤ 1048576)
  (hp : ∀ (i : Nat) (W : World), i < m → Below w.heap.size w W → Calls Tryz.prog 93 #[.int .i64 (i : Int), u1, u2, u3] W (RetBool (p i) W))
  (hmono : ∀ a b, a ≤ b → b < m → p a = true → p b = true) :
  Calls Tryz.prog 92 #[.int .i64 (m : Int), .func (.func 93) #[] #[u1, u2, u3]] w (fun e w' => ∃ i : Nat, i ≤ m ∧ (∀ t, t < i → p t = false) ∧ (i < m → p i = true) ∧ e = .returned (.int .i64 (i : Int)) ∧ Below w.heap.size w w') := by
 replace hp := Hd hp;replace hmono := Hd hmono
 go_enter Tryz.func92, Tryz.ntmps92
 go_wp2_with fail;have hb0 := Hd (Below.refl w.heap.size w);obtain ⟨V2, hV2⟩ : ∃ V, V = w := ⟨_, rfl⟩
 go_loopw [5, 6] (fun s5 s6 wr => ∃ lo hi : Nat, s5 = .int .i64 (lo : Int) ∧ s6 = .int .i64 (hi : Int) ∧ lo ≤ hi ∧ hi ≤ m ∧ Hid ((∀ t, t < lo → p t = false) ∧ (∀ t, hi ≤ t → t < m → p t = true)) ∧ Hid (Below V2.heap.size V2 wr)) (fun s5 s6 _ => (intOf s6).toNat - (intOf s5).toNat)
 case atStart => exact ⟨0, m, rfl, rfl, Nat.zero_le _, Nat.le_refl _, Hd ⟨fun t ht => absurd ht (Nat.not_lt_zero _), fun t h1 h2 => by omega⟩, by rw [hV2]; exact hb0⟩
 case round =>
  subst hV2;clear hb0;obtain ⟨lo, hi, rfl, rfl, hlh, hin, hI, hb⟩ := hrel;by_cases hlt : lo < hi
  ·have hlt' : (lo : Int) < (hi : Int) := by omega
   have hc := hp.out ((lo + hi) / 2) wr (by omega) hb.out;rw [show (((lo + hi) / 2 : Nat) : Int) = ((lo : Int) + (hi : Int)) / 2 by omega] at hc
   cases hpi : p ((lo + hi) / 2) with
   | false =>
    rw [hpi] at hc;replace hc := Hd hc;have hI2 := Hd (show (∀ t, t < (lo + hi) / 2 + 1 → p t = false) ∧ (∀ t, hi ≤ t → t < m → p t = true) from ⟨fun t ht => (by
     cases h : p t with
     | false => rfl
     | true => have := hmono.out t ((lo + hi) / 2) (by omega) (by omega) h; rw [hpi] at this; cases this), hI.out.2⟩)
    clear hpi;go_wp2_with fail;refine hc.out.mono ?_;rintro e w2 ⟨rfl, b⟩;replace hb := Hd (bT2 hb.out b);clear hc b;go_wp2_with fail;exact ⟨⟨(lo + hi) / 2 + 1, hi, by go_num, rfl, by omega, hin, hI2, hb⟩, by simp [intOf]; omega⟩
   | true =>
    rw [hpi] at hc;replace hc := Hd hc;have hI2 := Hd (show (∀ t, t < lo → p t = false) ∧ (∀ t, (lo + hi) / 2 ≤ t → t < m → p t = true) from ⟨hI.out.1, fun t ht htn => hmono.out ((lo + hi) / 2) t ht htn hpi⟩);clear hpi;go_wp2_with fail;refine hc.out.mono ?_;rintro e w2 ⟨rfl, b⟩;replace hb := Hd (bT2 hb.out b);clear hc b;go_wp2_with fail;exact ⟨⟨lo, (lo + hi) / 2, rfl, by go_num, by omega, by omega, hI2, hb⟩, by simp [intOf]; omega⟩
  ·obtain rfl : hi = lo := by omega
   have hlt' : ¬ (hi : Int) < (hi : Int) := by omega
   clear hlt;go_wp2_with fail;go_ret;exact ⟨hi, hin, hI.out.1, fun h => hI.out.2 hi (Nat.le_refl _) h, rfl, hb.out⟩
def RetLeast (f : Fac) (p : Nat → Bool) (L : Nat) (w : World) (e : Ending) (w' : World) : Prop := ∃ z : Nat, e = .returned (.int .i64 (z : Int)) ∧ (z : Int) ∈ keptO f L ∧ p z = true ∧ (∀ q : Nat, (q : Int) ∈ keptO f L → q < z → p q = false) ∧ Below w.heap.size w w'
theorem RowsAt.len_eq19 {w : World} {C : Option Addr} {n m : Nat} {X : List (List Nat)} (h : RowsAt w C n X) (hl : X.length = m) : n = m := by rw [← h.len]; exact hl
theorem bad_least1M {w0 : World} {v : FV} {f : Fac} {A : Option Addr} {c s : Nat} {R : Value} (L ga gb gc i : Nat) (D : Option Addr) (n d : Nat) (U : World) (hE : EnvB v f) (hS : SrAt w0 v f A c s R U) (hL : LAt encI U D n (keptO f L)) (hi : i < (keptO f L).length)
  (qa : U.cell? ⟨ga, 0, none⟩ = some (.func (.func 61) #[.pointer (some ⟨s, 0, none⟩)] #[])) (qb : U.cell? ⟨gb, 0, none⟩ = some (.pointer (some ⟨s, 0, none⟩))) (qc : U.cell? ⟨gc, 0, none⟩ = some (.slice D n d)) :
  Calls Tryz.prog 93 #[.int .i64 (i : Int), .pointer (some ⟨ga, 0, none⟩), .pointer (some ⟨gb, 0, none⟩), .pointer (some ⟨gc, 0, none⟩)] U (RetBool (missB f ((keptO f L).getD i 0).toNat) U) := by
 have hvm := hE.hvm;obtain ⟨zn, hzn, hzg, hzm⟩ := kept_nat hi;have hz : zn < v.m := by have := (hE.ko hzm).2; omega
 have cS := Hd (fun W (hW : SrAt w0 v f A c s R W) => bad_seen zn W hE hW hz);have gS := Hd (hE.goodS zn);obtain ⟨db, dof, z, hD, -, hr, -, r0⟩ := hL.int (show i < n by rw [← hL.len]; exact hi);obtain rfl : z = (zn : Int) := by rw [hzn] at hr; injection hr with hr; exact hr.symm
 have bi : 0 ≤ (i : Int) ∧ (i : Int) < (n : Int) := by have := hL.len; omega
 rw [hzg];rw [hD] at qc;replace hzn := Hd hzn;replace hzg := Hd hzg;replace hzm := Hd hzm;replace hi := Hd hi;have hS0 := Hd hS;clear hS hr hL;replace hE := Hd hE
 go_enter Tryz.func93, Tryz.ntmps93
 go_wp2_with fail;refine wpRp 13 [(true, 0), (true, 1), (true, 2), (true, 3), (true, 4), (true, 5), (true, 7), (true, 8), (true, 9), (true, 10), (false, 6), (false, 11), (true, 12)] (by kernel_rfl) (by kernel_rfl) (fun V hV => ?_);have hV' : Below U.heap.size U V := by rw [hV.out]; exact (Below.refl _ _).drew
 have drw : ∀ p u, U.cell? p = some u → V.cell? p = some u := fun p u h => by rw [hV.out]; exact h
 replace qa := drw _ _ qa;replace qb := drw _ _ qb;replace qc := drw _ _ qc;replace r0 := drw _ _ r0;replace hS0 := Hd (hS0.out.later hV');have hbo := Hd hV';clear hV hV' drw;simp only [List.drop_succ_cons, List.drop_nil]
 iterate 10
  refine wpPf (v := ?_) rfl (by rfl) (fun w' hw' => ?_) (fun K hK => ?_);rotate_left
  ·(go_simp; try with_reducible rfl)
  go_simp;refine hK _ ?_;clear hK K
 clear qa qb qc r0;refine wpPo rfl (by rfl) (fun K hK => ?_);go_simp;refine (cS.out V hS0.out).mono ?_;rintro e x1 ⟨C, nn, d1, rfl, hrows, hdC, b⟩;obtain rfl : nn = v.m := hrows.len_eq19 gS.out.len;refine hK _ _ b ?_;clear hK K;replace hS0 := Hd (hS0.out.later b);replace hbo := Hd (bT2 hbo.out b);clear b cS;have cW := Hd (bad_hasMissed C d1 (seenM f (coM f) zn) zn x1 hE.out hS0.out hrows gS.out);clear hrows;refine wpPo rfl (by rfl) (fun K hK => ?_);go_simp;refine cW.out.mono ?_;rintro e x2 ⟨rfl, b⟩;refine hK _ _ b ?_;clear hK K;replace hbo := Hd (bT2 hbo.out b);clear b cW
 iterate 1
  refine wpPf (v := ?_) rfl (by rfl) (fun w' hw' => ?_) (fun K hK => ?_);rotate_left
  ·(go_simp; try with_reducible rfl)
  go_simp;refine hK _ ?_;clear hK K
 refine wpPn (NoPanic.normal ?_);go_wp2_with fail;go_ret;exact ⟨rfl, hbo.out⟩
theorem bad_least1R {w0 : World} {v : FV} {f : Fac} {A : Option Addr} {c s : Nat} {R : Value} (L ga gb gc i : Nat) (D : Option Addr) (n d : Nat) (U : World) (hE : EnvB v f) (hS : SrAt w0 v f A c s R U) (hL : LAt encI U D n (keptO f L)) (hi : i < (keptO f L).length)
  (qa : U.cell? ⟨ga, 0, none⟩ = some (.func (.func 64) #[] #[])) (qb : U.cell? ⟨gb, 0, none⟩ = some (.pointer (some ⟨s, 0, none⟩))) (qc : U.cell? ⟨gc, 0, none⟩ = some (.slice D n d)) :
  Calls Tryz.prog 93 #[.int .i64 (i : Int), .pointer (some ⟨ga, 0, none⟩), .pointer (some ⟨gb, 0, none⟩), .pointer (some ⟨gc, 0, none⟩)] U (RetBool (gorB f ((keptO f L).getD i 0).toNat) U) := by
 have hvm := hE.hvm;obtain ⟨zn, hzn, hzg, hzm⟩ := kept_nat hi;have hz : zn < v.m := by have := (hE.ko hzm).2; omega
 have cS := Hd (fun W (hW : SrAt w0 v f A c s R W) => bad_seen zn W hE hW hz);have gS := Hd (hE.goodS zn);obtain ⟨db, dof, z, hD, -, hr, -, r0⟩ := hL.int (show i < n by rw [← hL.len]; exact hi);obtain rfl : z = (zn : Int) := by rw [hzn] at hr; injection hr with hr; exact hr.symm
 have bi : 0 ≤ (i : Int) ∧ (i : Int) < (n : Int) := by have := hL.len; omega
 rw [hzg];rw [hD] at qc;replace hzn := Hd hzn;replace hzg := Hd hzg;replace hzm := Hd hzm;replace hi := Hd hi;have hS0 := Hd hS;clear hS hr hL;have hgo : Hid (gorB f zn = loopB v.m (seenM f (coM f) zn)) := Hd (by unfold gorB; rw [hE.hil]);rw [hgo.out];replace hE := Hd hE
 go_enter Tryz.func93, Tryz.ntmps93
 go_wp2_with fail;refine wpRp 13 [(true, 0), (true, 1), (true, 2), (true, 3), (true, 4), (true, 5), (true, 7), (true, 8), (true, 9), (true, 10), (false, 6), (false, 11), (true, 12)] (by kernel_rfl) (by kernel_rfl) (fun V hV => ?_);have hV' : Below U.heap.size U V := by rw [hV.out]; exact (Below.refl _ _).drew
 have drw : ∀ p u, U.cell? p = some u → V.cell? p = some u := fun p u h => by rw [hV.out]; exact h
 replace qa := drw _ _ qa;replace qb := drw _ _ qb;replace qc := drw _ _ qc;replace r0 := drw _ _ r0;replace hS0 := Hd (hS0.out.later hV');have hbo := Hd hV';clear hV hV' drw;simp only [List.drop_succ_cons, List.drop_nil]
 iterate 10
  refine wpPf (v := ?_) rfl (by rfl) (fun w' hw' => ?_) (fun K hK => ?_);rotate_left
  ·(go_simp; try with_reducible rfl)
  go_simp;refine hK _ ?_;clear hK K
 clear qa qb qc r0;refine wpPo rfl (by rfl) (fun K hK => ?_);go_simp;refine (cS.out V hS0.out).mono ?_;rintro e x1 ⟨C, nn, d1, rfl, hrows, hdC, b⟩;obtain rfl : nn = v.m := hrows.len_eq19 gS.out.len;refine hK _ _ b ?_;clear hK K;replace hS0 := Hd (hS0.out.later b);replace hbo := Hd (bT2 hbo.out b);clear b cS;have cW := Hd (bad_goesRound C d1 (seenM f (coM f) zn) (zn : Int) x1 hrows gS.out);clear hrows;refine wpPo rfl (by rfl) (fun K hK => ?_);go_simp;refine cW.out.mono ?_;rintro e x2 ⟨rfl, b⟩;refine hK _ _ b ?_;clear hK K;replace hbo := Hd (bT2 hbo.out b);clear b cW
 iterate 1
  refine wpPf (v := ?_) rfl (by rfl) (fun w' hw' => ?_) (fun K hK => ?_);rotate_left
  ·(go_simp; try with_reducible rfl)
  go_simp;refine hK _ ?_;clear hK K
 refine wpPn (NoPanic.normal ?_);go_wp2_with fail;go_ret;exact ⟨rfl, hbo.out⟩
structure RdT where
 o : Int
 mi : Bool
 ro : Bool
def encRd : Enc RdT := { cells := fun x => [.int .i64 x.o, .bool x.mi, .bool x.ro], sz := 3, pos := by decide, len := fun _ => rfl, one := fun x u h => by simp only [List.mem_cons, List.not_mem_nil, or_false] at h; rcases h with rfl | rfl | rfl <;> rfl, ok := fun x => -9223372036854775808 ≤ x.o ∧ x.o < 9223372036854775808 }
theorem LAt.rd {w : World} {A : Option Addr} {n k : Nat} {xs : List RdT} (h : LAt encRd w A n xs) (hk : k < n) : ∃ b off x, A = some ⟨b, off, none⟩ ∧ b < w.heap.size ∧ xs[k]? = some x ∧
  w.cell? ⟨b, off + k * 3, none⟩ = some (.int .i64 x.o) ∧ w.cell? ⟨b, off + k * 3 + 1, none⟩ = some (.bool x.mi) ∧ w.cell? ⟨b, off + k * 3 + 2, none⟩ = some (.bool x.ro) := by
 obtain ⟨b, off, x, e, hb, hx, hok, hc⟩ := h.at_ hk;exact ⟨b, off, x, e, hb, hx, hc 0 _ rfl, hc 1 _ rfl, hc 2 _ rfl⟩
def rdT (f : Fac) (z : Int) : RdT := ⟨z, missB f z.toNat, gorB f z.toNat⟩
def rdL (f : Fac) (n i : Nat) : List RdT := ((ldF f n).take i).map (rdT f)
def RdOk (f : Fac) (n : Nat) (l : List RdT) : Prop := ∃ i, i ≤ (ldF f n).length ∧ l = rdL f n i ∧ (∀ j z, j + 1 < i → (ldF f n)[j]? = some z → missB f z.toNat = false) ∧ (i = (ldF f n).length ∨ ∃ j z, i = j + 1 ∧ (ldF f n)[j]? = some z ∧ missB f z.toNat = true)
theorem rdL_len {f : Fac} {n i : Nat} (h : i ≤ (ldF f n).length) : (rdL f n i).length = i := by unfold rdL; rw [List.length_map, List.length_take]; omega
theorem rdL_succ {f : Fac} {n i : Nat} {z : Int} (h : (ldF f n)[i]? = some z) : rdL f n (i + 1) = rdL f n i ++ [rdT f z] := by
 unfold rdL;rw [List.take_add_one, h, List.map_append]; rfl
def RdsAt (f : Fac) (m B : Nat) (R : Value) (U : World) : Prop := (R = .slice none 0 0 ∧ RdOk f m []) ∨ ∃ (g n d : Nat) (l : List RdT), R = .slice (some ⟨g, 0, none⟩) n d ∧ LAt encRd U (some ⟨g, 0, none⟩) n l ∧ RdOk f m l ∧ B ≤ g
theorem own_lt19 {w : World} {base size n : Nat} {e : TypeId} {v : Value} {xs : List Value} (h : w.ownsRow base e size v n xs) {b : Nat} (hb : v.ownBlock = some b) : base ≤ b ∧ b < w.heap.size := by
 rcases h.2 with ⟨rfl, _⟩ | ⟨k, cap, cur, rfl, hbg, hk, _⟩
 ·cases hb
 ·have : k = b := by simpa [Value.ownBlock] using hb
  subst this;exact ⟨hbg, (Array.getElem?_eq_some_iff.1 hk).1⟩
theorem own_far19 {w : World} {base size n : Nat} {e : TypeId} {v : Value} {xs : List Value} (h : w.ownsRow base e size v n xs) {g : Nat} (hg : v.ownBlock ≠ some g) (o : Nat) (u : Value) : (w.setCell ⟨g, o, none⟩ u).ownsRow base e size v n xs :=
 ⟨h.1, h.2.imp id fun ⟨k, cap, cur, hv, hbg, hk, r⟩ => ⟨k, cap, cur, hv, hbg, (Below.heap_setCell w ⟨g, o, none⟩ u k (fun e => hg (by rw [hv]; simp only [Value.ownBlock]; rw [e]))).trans hk, r⟩⟩
theorem cut_two19 {Goal F : Nat → World → Prop} {R : Prop} (h1 : (∀ a b, F a b → Goal a b) → R) (h2 : ∀ a b, F a b → Goal a b) : R := h1 h2
def RetReaders (w0 : World) (v : FV) (f : Fac) (A : Option Addr) (c s : Nat) (U : World) (e : Ending) (U' : World) : Prop := ∃ R, e = .returned R ∧ SrAt w0 v f A c s R U' ∧ BelowB s U U' ∧ RdsAt f v.m U.heap.size R U'
theorem RdsAt.weaken {f : Fac} {m B B' : Nat} {R : Value} {U : World} (h : RdsAt f m B R U) (hb : B' ≤ B) : RdsAt f m B' R U := h.imp id fun ⟨g, n, d, l, h1, h2, h3, h4⟩ => ⟨g, n, d, l, h1, h2, h3, Nat.le_trans hb h4⟩
theorem BelowB.next19 {s : Nat} {a b c : World} (h : BelowB s a b) (h2 : Below a.heap.size b c) : BelowB s a c := ⟨h2.os.trans h.os, h2.tape.trans h.tape, h2.output.trans h.output, Nat.le_trans h.size h2.size, fun k hk hs => (h2.block k hk).trans (h.block k hk hs)⟩
theorem rdL_ok {f : Fac} {n i : Nat} (hin : ∀ z ∈ ldF f n, ∃ (q : Nat) (y : It), z = (q : Int) ∧ q < n ∧ f.items[q]? = some y ∧ 0 ≤ f.frm.getD q 0) (hn : n ≤ 4096) : ∀ x ∈ rdL f n i, encRd.ok x := fun x hx => by
 unfold rdL at hx;obtain ⟨z, hz, rfl⟩ := List.mem_map.1 hx;obtain ⟨q, y, rfl, hq, -⟩ := hin z (List.mem_of_mem_take hz);exact ⟨show (-9223372036854775808 : Int) ≤ (q : Int) by omega, show (q : Int) < 9223372036854775808 by omega⟩
theorem rds_of {f : Fac} {n i B : Nat} {R : Value} {U : World} {t : TypeId} (hown : U.ownsRow B t 3 R i (encRd.all (rdL f n i))) (hok : ∀ x ∈ rdL f n i, encRd.ok x) (hl : (rdL f n i).length = i) (hr : RdOk f n (rdL f n i)) : RdsAt f n B R U := by
 obtain ⟨D, d, rfl, -, -, hLA⟩ := LAt.of_own (E := encRd) hown hok hl
 cases D with
 | none =>
  refine .inl ?_;rcases hown.2 with ⟨hv, h0⟩ | ⟨g, cap, cur, hv, -⟩
  ·subst h0
   have : rdL f n 0 = [] := by unfold rdL; simp
   rw [this] at hr;exact ⟨hv, hr⟩
  ·injection hv with h1; cases h1
 | some ad =>
  rcases hown.2 with ⟨hv, h0⟩ | ⟨g, cap, cur, hv, hbg, -⟩
  ·injection hv with h1; cases h1
  ·injection hv with h1 h2 h3
   injection h1 with h1;subst h1;exact .inr ⟨g, i, d, _, rfl, hLA, hr, hbg⟩
theorem rds_fin {f : Fac} {n i B : Nat} {R : Value} {U : World} {t : TypeId} (hi : i ≤ (ldF f n).length) (hown : U.ownsRow B t 3 R i (encRd.all (rdL f n i))) (hil : i = (ldF f n).length) (hall : ∀ j z, j < i → (ldF f n)[j]? = some z → missB f z.toNat = false) (hok : ∀ x ∈ rdL f n i, encRd.ok x) : RdsAt f n B R U :=
 rds_of hown hok (rdL_len hi) ⟨i, hi, rfl, fun j z hj => hall j z (by omega), .inl hil⟩
theorem rds_brk {f : Fac} {n i B : Nat} {R : Value} {U : World} {t : TypeId} {z : Int} (hi : i + 1 ≤ (ldF f n).length) (hown : U.ownsRow B t 3 R (i + 1) (encRd.all (rdL f n (i + 1)))) (hz : (ldF f n)[i]? = some z) (hm : missB f z.toNat = true) (hall : ∀ j z, j < i → (ldF f n)[j]? = some z → missB f z.toNat = false) (hok : ∀ x ∈ rdL f n (i + 1), encRd.ok x) : RdsAt f n B R U :=
 rds_of hown hok (rdL_len hi) ⟨i + 1, hi, rfl, fun j z hj => hall j z (by omega), .inr ⟨i, z, rfl, hz, hm⟩⟩
theorem info_rd : (Tryz.prog.info? 103).map (fun i => (i.zero, i.size, i.bytes)) = some (some (.agg #[.int .i64 0, .bool false, .bool false]), 3, 16) := by kernel_rfl
theorem bad_readers {w0 : World} {v : FV} {f : Fac} {A : Option Addr} {c s : Nat} (U : World) (hE : EnvB v f) (hS : SrAt w0 v f A c s (.slice none 0 0) U) :
  Calls Tryz.prog 59 #[.pointer (some ⟨s, 0, none⟩)] U (RetReaders w0 v f A c s U) := by
 have hvm := hE.hvm;have cL := Hd (bad_lastReads U hE hS);have hin := Hd (ldF_is hE.hx.nb v.m (by rw [hE.hil]; exact Nat.le_refl _)).inn;have hsU := Hd hS.k.lt;have hw0U := Hd hS.o.size;have cS := Hd (fun (o : Nat) (ho : o < v.m) R W (hW : SrAt w0 v f A c s R W) => bad_seen o W hE hW ho);have gS := Hd (fun (o : Nat) => hE.goodS o);have hgo := Hd (fun (o : Nat) => show gorB f o = loopB v.m (seenM f (coM f) o) from by unfold gorB; rw [hE.hil]);have hEh := Hd hE;obtain ⟨ji0, ji, jz0, jz1, jz2⟩ := info_parts info_rd;replace ji := Hd ji;replace jz0 := Hd jz0;replace jz1 := Hd jz1;replace jz2 := Hd jz2;have hnilT : ∀ W : World, (binOp .eql 59 (.slice none 0 0) (.slice none 0 0)).run Tryz.prog W = .ok (.bool true) W := fun W => by kernel_rfl
 have hS0 := Hd hS;clear hE hS;have p0 := hS0.out.c0;have p1 := hS0.out.c1;have p2 := hS0.out.c2;have p3 := hS0.out.c3;have p4 := hS0.out.c4;have p5 := hS0.out.c5
 go_enter Tryz.func59, Tryz.ntmps59
 go_wp2_with fail;refine cL.out.mono ?_;rintro e w1 ⟨D0, nL, d0, rfl, hL0, -, -, b1, hfr0⟩;obtain ⟨ld, hld⟩ : ∃ l, l = ldF f v.m := ⟨_, rfl⟩;have hLl : nL = ld.length := by rw [hld]; exact hL0.len.symm
 have hnm : nL ≤ v.m := by rw [hLl, hld]; exact ldF_len _
 rw [← hld] at hin hL0;have hD0s := Hd (show ∀ ad, D0 = some ad → ad.block ≠ s from fun ad e => by have h1 := hfr0 ad e; have h2 := hsU.out; omega);replace hS0 := Hd (hS0.out.later b1);have hL := Hd hL0;have hbU := Hd (BelowB.of (g := s) b1);replace hld := Hd hld;replace hLl := Hd hLl;have hUw := Hd b1.size;clear p0 p1 p2 p3 p4 p5 hL0 hfr0 b1 cL hnilT;go_wp2_with fail
 go_loopw [15] (fun t wr => ∃ (i : Nat) (R : Value), i ≤ nL ∧ t = .int .i64 (i : Int) ∧ Hid (SrAt w0 v f A c s R wr) ∧ Hid (wr.ownsRow w1.heap.size 103 3 R i (encRd.all (rdL f v.m i))) ∧ Hid (BelowB s w1 wr) ∧ Hid (∀ j z, j < i → ld[j]? = some z → missB f z.toNat = false)) (fun t _ => nL - (intOf t).toNat)
 case atStart => exact ⟨0, .slice none 0 0, Nat.zero_le _, rfl, hS0, Hd (World.ownsRow_nil _ _ _ _), Hd (BelowB.refl _ _), Hd (fun j z h => absurd h (by omega))⟩
 case round =>
  clear hS0;obtain ⟨i, R, hik, rfl, hS0, hown, hb, hall⟩ := hrel;by_cases hlt : i < nL
  ·have hlt' : (i : Int) < (nL : Int) := by omega
   have bi : 0 ≤ (i : Int) ∧ (i : Int) < (nL : Int) := by omega
   obtain ⟨zb, zo, z, hzD, -, hz, -, k0⟩ := (hL.out.keptB hb.out hD0s.out).int hlt;obtain ⟨zn, y, rfl, hzl, hy, -⟩ := hin.out z (List.mem_of_getElem? hz);rw [hzD];have cSr := Hd (cS.out zn hzl R wr hS0.out);replace hzD := Hd hzD;replace hlt := Hd hlt;replace hz := Hd hz;clear hy;go_wp2_with fail;refine cSr.out.mono ?_;rintro e w2 ⟨C, nn, dC, rfl, hrows, hdC, b2⟩;obtain rfl : nn = v.m := hrows.len_eq19 (gS.out zn).len;replace hS0 := Hd (hS0.out.later b2);replace hown := Hd (oBl hown.out b2);replace hb := Hd (hb.out.trans (BelowB.of b2));clear k0 cSr;obtain ⟨W5, hW5⟩ : ∃ W, W = w2.alloc (.cells #[.int .i64 (v.m : Int), .slice C v.m dC] 57) := ⟨_, rfl⟩;obtain ⟨G5, hG5⟩ : ∃ G, G = w2.heap.size := ⟨_, rfl⟩;have b5 : Below w2.heap.size w2 W5 := by rw [hW5]; exact bAl _ _
   have k5 := Hd (show MatK W5 G5 57 (v.m : Int) C v.m dC (seenM f (coM f) zn) from ⟨by rw [hW5, hG5]; exact MatB.new _ _, hrows.below b5⟩);replace hS0 := Hd (hS0.out.later b5);replace hown := Hd (oBl hown.out b5);replace hb := Hd (hb.out.trans (BelowB.of b5));clear b2 b5 hrows;go_wp2_with (rw [← hW5, ← hG5]; clear hW5; replace hG5 := Hd hG5);refine wp_region_tree (.flt 0 (.flt 1 (.flt 2 (.flt 3 (.flt 5 (.flt 6 (.two 4 9 (.two 7 9 (.flt 8 (.one 9 (.one 10 .done))) (.one 7 (.flt 8 (.one 10 .done)))) (.one 4 (.one 7 (.flt 8 (.one 10 .done))))))))))) (by kernel_rfl) (by kernel_rfl) (fun V hV => ?_);have hV' : Below W5.heap.size W5 V := by rw [hV.out]; exact (Below.refl _ _).drew
   have hSV := Hd (hS0.out.later hV');have kV := Hd (k5.out.below hV');replace hown := Hd (oBl hown.out hV');replace hb := Hd (hb.out.trans (BelowB.of hV'));clear hV hV' hS0 k5;have cM := Hd (fun W (hW : SrAt w0 v f A c s R W) (hk : MatK W G5 57 (v.m : Int) C v.m dC (seenM f (coM f) zn)) => bad_hasMissed C dC (seenM f (coM f) zn) zn W hEh.out hW hk.2 (gS.out zn));have cG := Hd (fun W (hk : MatK W G5 57 (v.m : Int) C v.m dC (seenM f (coM f) zn)) => bad_goesRound C dC (seenM f (coM f) zn) (zn : Int) W hk.2 (gS.out zn));obtain ⟨mi, hmi⟩ : ∃ b, b = (earlyF f (seenM f (coM f) zn) 6 (keptO f zn)).isSome := ⟨_, rfl⟩;obtain ⟨ro, hro⟩ : ∃ b, b = loopB v.m (seenM f (coM f) zn) := ⟨_, rfl⟩;rw [← hmi] at cM;rw [← hro] at cG;have hmm : missB f zn = mi := by rw [hmi]; rfl
   have hrr : gorB f zn = ro := by rw [hro]; exact hgo.out zn
   have hrt : Hid (rdT f (zn : Int) = ⟨(zn : Int), mi, ro⟩) := Hd (by unfold rdT; rw [Int.toNat_natCast, hmm, hrr]);replace hmm := Hd hmm;clear hmi hro hrr;have bW : Below V.heap.size V V := Below.refl _ _
   apply cut_two19 (F := fun (M : Nat) (w9 : World) => Blk w9 M 103 [.int .i64 (zn : Int), .bool mi, .bool ro] ∧ V.heap.size ≤ M ∧ Below V.heap.size V w9)
   ·intro key
    have m0 := kV.out.1.c0;have m1 := kV.out.1.c1
    iterate 6
     refine wpTf (v := ?_) rfl (by rfl) (fun w' hw' => ?_) (fun K hK => ?_);rotate_left
     ·(go_simp; try with_reducible rfl)
     go_simp;refine hK _ ?_;clear hK K
    clear m0 m1;refine wpPT_two rfl (by rfl) rfl (by rfl) (fun K hK => ?_) (fun K hK => ?_)
    ·skip
     go_simp;refine (cM.out V (hSV.out.later bW) (kV.out.below bW)).mono ?_; rintro e v1 ⟨rfl, b⟩;replace bW := bT2 bW b;refine hK _ _ bW ?_;clear hK K;clear b;refine wpPT_two rfl (by rfl) rfl (by rfl) (fun K hK => ?_) (fun K hK => ?_)
     ·skip
      go_simp;refine (cG.out v1 (kV.out.below bW)).mono ?_; rintro e v2 ⟨rfl, b⟩;replace bW := bT2 bW b;refine hK _ _ bW ?_;clear hK K;clear b
      iterate 1
       refine wpTf (v := ?_) rfl (by rfl) (fun w' hw' => ?_) (fun K hK => ?_);rotate_left
       ·(go_simp; try with_reducible rfl)
       go_simp;refine hK _ ?_;clear hK K
      refine wpT1 rfl (by rfl) (fun K hK => ?_);go_simp;obtain ⟨M, hM⟩ : ∃ M, M = (World.heap v2).size := ⟨_, rfl⟩;obtain ⟨v3, hw⟩ : ∃ X : World, X = World.alloc v2 (.cells #[.int .i64 0, .bool false, .bool false] 103) := ⟨_, rfl⟩;rw [← hw, ← hM];have b : Below (World.heap v2).size v2 v3 := by rw [hw]; exact bAl _ _
      have hUM : V.heap.size ≤ M := by rw [hM]; exact bW.size
      replace bW := bT2 bW b;refine hK _ _ bW ?_;clear hK K;have kM := Hd (show Blk v3 M 103 [.int .i64 0, .bool false, .bool false] from by rw [hw, hM]; exact Blk.new _ _ _);clear hM hw b;have f0 := kM.out.frozen 0;have f1 := kM.out.frozen 1;have f2 := kM.out.frozen 2;have g0 := kM.out.cell 0;have g1 := kM.out.cell 1;have g2 := kM.out.cell 2;simp only [List.getElem?_cons_zero, List.getElem?_cons_succ] at g0 g1 g2;refine wpT1 rfl (by rfl) (fun K hK => ?_);go_simp;obtain ⟨wz, hw⟩ : ∃ X : World, X = ((World.setCell v3 ⟨M, 0, none⟩ (.int .i64 (zn : Int))).setCell ⟨M, 1, none⟩ (.bool mi)).setCell ⟨M, 2, none⟩ (.bool ro) := ⟨_, rfl⟩;rw [← hw];have kN := Hd (show Blk wz M 103 [.int .i64 (zn : Int), .bool mi, .bool ro] from by rw [hw]; exact ((kM.out.set_ 0 _).set_ 1 _).set_ 2 _);replace bW : Below V.heap.size V wz := by rw [hw]; exact ((bW.setCell (p := ⟨M, 0, none⟩) hUM _).setCell (p := ⟨M, 1, none⟩) hUM _).setCell (p := ⟨M, 2, none⟩) hUM _
      refine hK _ _ bW ?_;clear hK K f0 f1 f2 g0 g1 g2 hw kM;refine wpTd (NoPanic.normal ?_);exact key M wz ⟨kN.out, hUM, bW⟩
     ·skip
      go_simp;obtain ⟨M, hM⟩ : ∃ M, M = (World.heap v1).size := ⟨_, rfl⟩;obtain ⟨v4, hw⟩ : ∃ X : World, X = World.alloc v1 (.cells #[.int .i64 0, .bool false, .bool false] 103) := ⟨_, rfl⟩;rw [← hw, ← hM];have b : Below (World.heap v1).size v1 v4 := by rw [hw]; exact bAl _ _
      have hUM : V.heap.size ≤ M := by rw [hM]; exact bW.size
      replace bW := bT2 bW b;refine hK _ _ bW ?_;clear hK K;have kM := Hd (show Blk v4 M 103 [.int .i64 0, .bool false, .bool false] from by rw [hw, hM]; exact Blk.new _ _ _);clear hM hw b;refine wpT1 rfl (by rfl) (fun K hK => ?_);go_simp;refine (cG.out v4 (kV.out.below bW)).mono ?_; rintro e v5 ⟨rfl, b⟩;replace bW := bT2 bW b;refine hK _ _ bW ?_;clear hK K;replace kM := Hd (kM.out.below b kM.out.lt);clear b
      iterate 1
       refine wpTf (v := ?_) rfl (by rfl) (fun w' hw' => ?_) (fun K hK => ?_);rotate_left
       ·(go_simp; try with_reducible rfl)
       go_simp;refine hK _ ?_;clear hK K
      have f0 := kM.out.frozen 0;have f1 := kM.out.frozen 1;have f2 := kM.out.frozen 2;have g0 := kM.out.cell 0;have g1 := kM.out.cell 1;have g2 := kM.out.cell 2;simp only [List.getElem?_cons_zero, List.getElem?_cons_succ] at g0 g1 g2;refine wpT1 rfl (by rfl) (fun K hK => ?_);go_simp;obtain ⟨wz, hw⟩ : ∃ X : World, X = ((World.setCell v5 ⟨M, 0, none⟩ (.int .i64 (zn : Int))).setCell ⟨M, 1, none⟩ (.bool mi)).setCell ⟨M, 2, none⟩ (.bool ro) := ⟨_, rfl⟩;rw [← hw];have kN := Hd (show Blk wz M 103 [.int .i64 (zn : Int), .bool mi, .bool ro] from by rw [hw]; exact ((kM.out.set_ 0 _).set_ 1 _).set_ 2 _);replace bW : Below V.heap.size V wz := by rw [hw]; exact ((bW.setCell (p := ⟨M, 0, none⟩) hUM _).setCell (p := ⟨M, 1, none⟩) hUM _).setCell (p := ⟨M, 2, none⟩) hUM _
      refine hK _ _ bW ?_;clear hK K f0 f1 f2 g0 g1 g2 hw kM;refine wpTd (NoPanic.normal ?_);exact key M wz ⟨kN.out, hUM, bW⟩
    ·skip
     go_simp;obtain ⟨M, hM⟩ : ∃ M, M = (World.heap V).size := ⟨_, rfl⟩;obtain ⟨v6, hw⟩ : ∃ X : World, X = World.alloc V (.cells #[.int .i64 0, .bool false, .bool false] 103) := ⟨_, rfl⟩;rw [← hw, ← hM];have b : Below (World.heap V).size V v6 := by rw [hw]; exact bAl _ _
     have hUM : V.heap.size ≤ M := by rw [hM]; exact bW.size
     replace bW := bT2 bW b;refine hK _ _ bW ?_;clear hK K;have kM := Hd (show Blk v6 M 103 [.int .i64 0, .bool false, .bool false] from by rw [hw, hM]; exact Blk.new _ _ _);clear hM hw b;refine wpT1 rfl (by rfl) (fun K hK => ?_);go_simp;refine (cM.out v6 (hSV.out.later bW) (kV.out.below bW)).mono ?_; rintro e v7 ⟨rfl, b⟩;replace bW := bT2 bW b;refine hK _ _ bW ?_;clear hK K;replace kM := Hd (kM.out.below b kM.out.lt);clear b;refine wpT1 rfl (by rfl) (fun K hK => ?_);go_simp;refine (cG.out v7 (kV.out.below bW)).mono ?_; rintro e v8 ⟨rfl, b⟩;replace bW := bT2 bW b;refine hK _ _ bW ?_;clear hK K;replace kM := Hd (kM.out.below b kM.out.lt);clear b
     iterate 1
      refine wpTf (v := ?_) rfl (by rfl) (fun w' hw' => ?_) (fun K hK => ?_);rotate_left
      ·(go_simp; try with_reducible rfl)
      go_simp;refine hK _ ?_;clear hK K
     have f0 := kM.out.frozen 0;have f1 := kM.out.frozen 1;have f2 := kM.out.frozen 2;have g0 := kM.out.cell 0;have g1 := kM.out.cell 1;have g2 := kM.out.cell 2;simp only [List.getElem?_cons_zero, List.getElem?_cons_succ] at g0 g1 g2;refine wpT1 rfl (by rfl) (fun K hK => ?_);go_simp;obtain ⟨wz, hw⟩ : ∃ X : World, X = ((World.setCell v8 ⟨M, 0, none⟩ (.int .i64 (zn : Int))).setCell ⟨M, 1, none⟩ (.bool mi)).setCell ⟨M, 2, none⟩ (.bool ro) := ⟨_, rfl⟩;rw [← hw];have kN := Hd (show Blk wz M 103 [.int .i64 (zn : Int), .bool mi, .bool ro] from by rw [hw]; exact ((kM.out.set_ 0 _).set_ 1 _).set_ 2 _);replace bW : Below V.heap.size V wz := by rw [hw]; exact ((bW.setCell (p := ⟨M, 0, none⟩) hUM _).setCell (p := ⟨M, 1, none⟩) hUM _).setCell (p := ⟨M, 2, none⟩) hUM _
     refine hK _ _ bW ?_;clear hK K f0 f1 f2 g0 g1 g2 hw kM;refine wpTd (NoPanic.normal ?_);exact key M wz ⟨kN.out, hUM, bW⟩
   ·rintro M w9 ⟨kM', hVM, b9⟩
    have kM := Hd kM';have hS9 := Hd (hSV.out.later b9);have hown9 := Hd (oBl hown.out b9);have hb9 := Hd (hb.out.trans (BelowB.of b9));obtain ⟨gb, hgb, hgs, hgM, hg0⟩ : ∃ gb, (∀ b, R.ownBlock = some b → b = gb) ∧ gb ≠ s ∧ gb ≠ M ∧ w0.heap.size ≤ gb := by
     have h0 := hS9.out.o.size;have h1 := hw0U.out;have h2 := hsU.out;have h3 := hUw.out
     cases hob : R.ownBlock with
     | none => exact ⟨w9.heap.size + 7, (fun b h => by cases h), (by have := hS9.out.k.lt; omega), (by have := kM'.lt; omega), (by omega)⟩
     | some b =>
      have h4 := own_lt19 hown.out hob;exact ⟨b, (fun b' h => by injection h with h; exact h.symm), (fun e => hS9.out.k.not_row' (by decide) hown9.out (by rw [hob, e])), (by omega), (by omega)⟩
    have hokn := Hd (show ∀ x ∈ rdL f v.m (i + 1), encRd.ok x from rdL_ok (by rw [← hld.out]; exact hin.out) (by omega));have hst := Hd (show rdL f v.m (i + 1) = rdL f v.m i ++ [⟨(zn : Int), mi, ro⟩] from by rw [← hrt.out]; exact rdL_succ (by rw [← hld.out]; exact hz.out));have hll1 : i + 1 ≤ (ldF f v.m).length := by have h1 := hLl.out; have h2 := hlt.out; rw [← hld.out]; omega
    have him : i ≤ 4096 := by omega
    have hw19 := Hd hb9.out.size;replace hll1 := Hd hll1;replace hgb := Hd hgb;clear kM' hVM b9 hSV kV hown hb cM cG;have p5 := hS9.out.c5;have y0 := kM.out.cell 0;have y1 := kM.out.cell 1;have y2 := kM.out.cell 2;simp only [List.getElem?_cons_zero, List.getElem?_cons_succ] at y0 y1 y2;go_wp2_with fail;have ns : s ≠ gb := Ne.symm hgs;have nM : M ≠ gb := Ne.symm hgM;refine wp_region_planG (gb := gb) 10 [(true, 0), (true, 1), (true, 2), (true, 3), (true, 4), (true, 5), (false, 6), (false, 7), (true, 8), (true, 9)] (by kernel_rfl) (by kernel_rfl) (fun X hX => ?_);obtain rfl := hX.out;clear hX;replace p5 : w9.drew.cell? ⟨s, 5, none⟩ = some R := p5;replace y0 : w9.drew.cell? ⟨M, 0, none⟩ = some (.int .i64 (zn : Int)) := y0;replace y1 : w9.drew.cell? ⟨M, 1, none⟩ = some (.bool mi) := y1;replace y2 : w9.drew.cell? ⟨M, 2, none⟩ = some (.bool ro) := y2;simp only [List.drop_succ_cons, List.drop_zero]
    iterate 6
     refine wpPG_float (v := ?_) rfl (by rfl) (fun w' hw' => ?_) (fun K hK => ?_);rotate_left
     ·(go_simp; try with_reducible rfl)
     go_simp;refine hK _ ?_;clear hK K
    clear p5 y0 y1 y2;refine wpPG_only rfl (by rfl) (fun K hK => ?_);go_simp;obtain ⟨W3, hW3⟩ : ∃ W, W = (w9.alloc (.cells #[.int .i64 (zn : Int), .bool mi, .bool ro] 103)).drew := ⟨_, rfl⟩;have b3 : Below w9.heap.size w9 W3 := by rw [hW3]; exact ((Below.refl _ w9).alloc (Nat.le_refl _) _).drew
    have hlit : LAt encRd W3 (some ⟨w9.heap.size, 0, none⟩) 1 [⟨(zn : Int), mi, ro⟩] := by rw [hW3]; exact LAt.lit1 (E := encRd) w9 _ ⟨(zn : Int), mi, ro⟩ ⟨by simp only; omega, by simp only; omega⟩
    have hS3 := hS9.out.later b3;have kM3 := kM.out.below b3 kM.out.lt;have hrow3 := oBl hown9.out b3;have hb3 := hb9.out.trans (BelowB.of b3);have hw13 : w1.heap.size ≤ W3.heap.size := Nat.le_trans hw19.out b3.size;rw [← hW3];refine hK _ _ ⟨b3.os, b3.tape, b3.output, b3.size, fun k hk _ => b3.block k hk⟩ ?_;clear hK K hW3;refine wpPG_only rfl (by rfl) (fun K hK => ?_);refine wp_append_L18 (E := encRd) (.tmp 35) (.tmp 37) _ rfl w1.heap.size 103 ji0 _ 16 Tryz.underlying59 ji.out jz0.out jz1.out jz2.out rfl _ i (rdL f v.m i) (by rfl) hrow3 _ 1 1 [⟨(zn : Int), mi, ro⟩] (by rfl) hlit (by unfold maxLen; omega) (by omega) hw13 ?_;intro v' w4 hown' hbb hg4 hob;rw [← hst.out] at hown';obtain ⟨D5, d5, rfl, -, -, -⟩ := LAt.of_own (E := encRd) hown' hokn.out (rdL_len hll1.out);have hBg := BelowB.grown hg4 (fun k hk => hgb.out k hk);refine hK _ _ hBg ?_;clear hK K hob hg4 hlit;have hS4 := Hd (hS3.but hBg hgs hg0);have kM4 := Hd (hBg.blk kM3 (Ne.symm hgM));have hb4 := Hd (hb3.next19 hbb);have hrow4 := Hd hown';have hv's : (Value.slice D5 (i + 1) d5).ownBlock ≠ some s := hS4.out.k.not_row' (by decide) hown';have hMs : M ≠ s := fun e => by
     have h1 := kM4.out;rw [e] at h1;have h2 := hS4.out.k.symm.trans h1;injection h2 with h2;injection h2 with _ h3;exact absurd h3 (by decide)
    have hS5 := Hd (hS4.out.readers (.slice D5 (i + 1) d5));have kM5 := Hd (kM4.out.far (p := ⟨s, 5, none⟩) hMs (.slice D5 (i + 1) d5));have hrow5 := Hd (own_far19 hown' hv's 5 (.slice D5 (i + 1) d5));have hb5 := Hd (hb4.out.setG19 5 (.slice D5 (i + 1) d5));have s5 := hS4.out.c5;have s5f := hS4.out.k.frozen 5;have m1 := kM5.out.cell 1;simp only [List.getElem?_cons_zero, List.getElem?_cons_succ] at m1;have t5 := hS5.out.c5;clear hown' hBg hbb hb3 hS3 kM3 hrow3 b3 hv's hMs hrow4 kM4 hb4 hgM hgs
    iterate 2
     refine wpPG_float (v := ?_) rfl (by rfl) (fun w' hw' => ?_) (fun K hK => ?_);rotate_left
     ·(go_simp; try with_reducible rfl)
     go_simp;refine hK _ ?_;clear hK K
    refine wpPG_nil ?_;go_wp2_with fail;refine NoPanic.normal ?_
    cases mi with
    | false =>
     have hal1 := Hd (show ∀ j z, j < i + 1 → ld[j]? = some z → missB f z.toNat = false from fun j z hj hjz => by
      rcases Nat.lt_succ_iff_lt_or_eq.1 hj with h1 | h1
      ·exact hall.out j z h1 hjz
      ·subst h1
       rw [hz.out] at hjz;injection hjz with hjz;rw [← hjz, Int.toNat_natCast]; exact hmm.out)
     go_wp2_with fail;exact ⟨⟨i + 1, .slice D5 (i + 1) d5, by have := hlt.out; omega, by go_num, hS5, hrow5, hb5, hal1⟩, by have := hlt.out; simp [intOf]; omega⟩
    | true =>
     have hfin := Hd (rds_brk (f := f) (n := v.m) (B := w1.heap.size) hll1.out hrow5.out (by rw [← hld.out]; exact hz.out) (by rw [Int.toNat_natCast]; exact hmm.out) (by rw [← hld.out]; exact hall.out) hokn.out);have hbe := Hd (hbU.out.trans hb5.out);go_wp2_with fail;go_ret;exact ⟨.slice D5 (i + 1) d5, rfl, hS5.out, hbe.out, hfin.out.weaken hUw.out⟩
  ·have hlt' : ¬ (i : Int) < (nL : Int) := by omega
   obtain rfl : i = nL := by omega
   have hfin := Hd (rds_fin (f := f) (n := v.m) (U := wr) (B := w1.heap.size) (by rw [← hld.out]; exact Nat.le_of_eq hLl.out) hown.out (by rw [← hld.out]; exact hLl.out) (by rw [← hld.out]; exact hall.out) (rdL_ok (by rw [← hld.out]; exact hin.out) (by omega)));have hbe := Hd (hbU.out.trans hb.out);clear hlt;have p0 := hS0.out.c0;have p1 := hS0.out.c1;have p2 := hS0.out.c2;have p3 := hS0.out.c3;have p4 := hS0.out.c4;have p5 := hS0.out.c5;go_wp2_with fail;go_ret;exact ⟨R, rfl, hS0.out, hbe.out, hfin.out.weaken hUw.out⟩
theorem bad_leastM {w0 : World} {v : FV} {f : Fac} {A : Option Addr} {c s : Nat} {R : Value} (L : Nat) (y : It) (U : World) (hE : EnvB v f) (hS : SrAt w0 v f A c s R U) (hP : SeenBy f (missB f)) (hy : f.items[L]? = some y) (h0 : 0 ≤ f.frm.getD L 0) (hpL : missB f L = true) :
  Calls Tryz.prog 60 #[.pointer (some ⟨s, 0, none⟩), .int .i64 (L : Int), .func (.func 61) #[.pointer (some ⟨s, 0, none⟩)] #[]] U (RetLeast f (missB f) L U) := by
 have hvm := hE.hvm;have hwr := read_of hE.hx.fr hy (by omega);obtain ⟨hn0, hnl⟩ := kept_last hE.hx.nb hy hwr;have hkl := hE.kl L;have hmono := Hd (fun (a b : Nat) (hab : a ≤ b) (hb : b < (keptO f L).length - 1) (h : missB f ((keptO f L).getD a 0).toNat = true) => show missB f ((keptO f L).getD b 0).toNat = true from by
  obtain ⟨za, hza, ea, hma⟩ := kept_nat (f := f) (L := L) (show a < (keptO f L).length by omega);obtain ⟨zb, hzb, eb, hmb⟩ := kept_nat (f := f) (L := L) (show b < (keptO f L).length by omega);rw [ea] at h;rw [eb];refine hP.kept hE.hx.nb hy hma hmb ?_ h;rcases Nat.lt_or_ge a b with h1 | h1
  ·have := kept_lt hza hzb h1; omega
  ·obtain rfl : a = b := by omega
   rw [hza] at hzb; injection hzb with hzb; omega)
 have hfin := Hd (fun (i : Nat) (hi : i ≤ (keptO f L).length - 1) (h1 : ∀ t, t < i → missB f ((keptO f L).getD t 0).toNat = false) (h2 : i < (keptO f L).length - 1 → missB f ((keptO f L).getD i 0).toNat = true) => show ∃ z : Nat, (keptO f L)[i]? = some (z : Int) ∧ (z : Int) ∈ keptO f L ∧ missB f z = true ∧ (∀ q : Nat, (q : Int) ∈ keptO f L → q < z → missB f q = false) from by
  obtain ⟨z, hz, ez, hm⟩ := kept_nat (f := f) (L := L) (show i < (keptO f L).length by omega);refine ⟨z, hz, hm, ?_, fun q hq hqz => ?_⟩
  ·rcases Nat.lt_or_ge i ((keptO f L).length - 1) with h3 | h3
   ·have := h2 h3
    rwa [ez] at this
   ·rw [show i = (keptO f L).length - 1 by omega, hnl] at hz
    injection hz with hz;rw [show z = L by omega];exact hpL
  ·obtain ⟨t, ht⟩ := List.getElem?_of_mem hq
   have htl := (List.getElem?_eq_some_iff.1 ht).1;obtain ⟨z2, hz2, ez2, -⟩ := kept_nat (f := f) (L := L) htl;rw [ht] at hz2; injection hz2 with hz2;have h4 := h1 t (by
    rcases Nat.lt_or_ge t i with h5 | h5
    ·exact h5
    ·exfalso
     rcases Nat.lt_or_ge i t with h6 | h6
     ·have := kept_lt hz ht h6; omega
     ·obtain rfl : i = t := by omega
      rw [hz] at ht; injection ht with ht; omega)
   rw [ez2] at h4
   rwa [show q = z2 by omega])
 obtain ⟨gb, hgb⟩ : ∃ g, g = U.heap.size := ⟨_, rfl⟩;obtain ⟨W1, hW1⟩ : ∃ W, W = U.alloc (.cells #[.pointer (some ⟨s, 0, none⟩)] 74) := ⟨_, rfl⟩;have b1 : Below U.heap.size U W1 := by rw [hW1]; exact bAl _ _
 have kB1 : Blk W1 gb 74 [.pointer (some ⟨s, 0, none⟩)] := by rw [hW1, hgb]; exact Blk.new U _ _
 obtain ⟨ga, hga⟩ : ∃ g, g = W1.heap.size := ⟨_, rfl⟩;obtain ⟨W2, hW2⟩ : ∃ W, W = W1.alloc (.cells #[.func (.func 61) #[.pointer (some ⟨s, 0, none⟩)] #[]] 105) := ⟨_, rfl⟩;have b2 : Below W1.heap.size W1 W2 := by rw [hW2]; exact bAl _ _
 have kA := Hd (show Blk W2 ga 105 [.func (.func 61) #[.pointer (some ⟨s, 0, none⟩)] #[]] from by rw [hW2, hga]; exact Blk.new W1 _ _);have kB := Hd (kB1.below b2 kB1.lt);have hS2 := Hd ((hS.later b1).later b2);have hbo := Hd (bT2 b1 b2);have qb := kB.out.cell 0;simp only [List.getElem?_cons_zero] at qb;have cK := Hd (past_Kept v f (L : Int) W2 hS2.out.fa (by omega) hE.hx.nb);replace hE := Hd hE;clear b1 b2 kB1 hS hP hpL hwr hy hnl;have p0 := hS2.out.c0;have p1 := hS2.out.c1;have p2 := hS2.out.c2;have p3 := hS2.out.c3;have p4 := hS2.out.c4;have p5 := hS2.out.c5
 go_enter Tryz.func60, Tryz.ntmps60
 go_wp2_with (first | (rw [← hW1, ← hgb]; clear hW1; replace hgb := Hd hgb) | (rw [← hW2, ← hga]; clear hW2; replace hga := Hd hga));refine cK.out.mono ?_;rintro e w3 ⟨D, n, d, rfl, hL', -, -, b⟩;have hL0 : LAt encI w3 D n (keptO f L) := hL';have hln := hL0.len;replace kA := Hd (kA.out.below b kA.out.lt);replace kB := Hd (kB.out.below b kB.out.lt);replace hS2 := Hd (hS2.out.later b);replace hbo := Hd (bT2 hbo.out b);clear p0 p1 p2 p3 p4 p5 qb b cK hL';obtain ⟨gc, hgc⟩ : ∃ g, g = w3.heap.size := ⟨_, rfl⟩;obtain ⟨W4, hW4⟩ : ∃ W, W = w3.alloc (.cells #[.slice D n d] 27) := ⟨_, rfl⟩;have b4 : Below w3.heap.size w3 W4 := by rw [hW4]; exact bAl _ _
 have kC := Hd (show Blk W4 gc 27 [.slice D n d] from by rw [hW4, hgc]; exact Blk.new w3 _ _);replace kA := Hd (kA.out.below b4 kA.out.lt);replace kB := Hd (kB.out.below b4 kB.out.lt);replace hS2 := Hd (hS2.out.later b4);replace hbo := Hd (bT2 hbo.out b4);have hL := Hd (hL0.below b4);clear b4 hL0;go_wp2_with (rw [← hW4, ← hgc]; clear hW4; replace hgc := Hd hgc);refine wpRp 9 [(true, 0), (true, 1), (true, 2), (true, 3), (false, 4), (false, 5), (true, 6), (true, 7), (true, 8)] (by kernel_rfl) (by kernel_rfl) (fun V hV => ?_);have hV' : Below W4.heap.size W4 V := by rw [hV.out]; exact (Below.refl _ _).drew
 replace kA := Hd (kA.out.below hV' kA.out.lt);replace kB := Hd (kB.out.below hV' kB.out.lt);replace kC := Hd (kC.out.below hV' kC.out.lt);replace hS2 := Hd (hS2.out.later hV');replace hL := Hd (hL.out.below hV');replace hbo := Hd (bT2 hbo.out hV');clear hV hV';simp only [List.drop_succ_cons, List.drop_nil];have qc := kC.out.cell 0;simp only [List.getElem?_cons_zero] at qc;have hn1 : (((keptO f L).length - 1 : Nat) : Int) = IntKind.i64.wrap ((n : Int) - 1) := by rw [IntKind.wrap_i64]; omega
 have cSr := sort_Search (.pointer (some ⟨ga, 0, none⟩)) (.pointer (some ⟨gb, 0, none⟩)) (.pointer (some ⟨gc, 0, none⟩)) ((keptO f L).length - 1) (fun i => missB f ((keptO f L).getD i 0).toNat) V (by omega)
  (fun i W hi hb => bad_least1M L ga gb gc i D n d W hE.out (hS2.out.later hb) (hL.out.below hb) (by omega) ((kA.out.below hb kA.out.lt).cell 0) ((kB.out.below hb kB.out.lt).cell 0) ((kC.out.below hb kC.out.lt).cell 0)) hmono.out
 rw [hn1] at cSr;replace cSr := Hd cSr;replace hn1 := Hd hn1
 iterate 4
  refine wpPf (v := ?_) rfl (by rfl) (fun w' hw' => ?_) (fun K hK => ?_);rotate_left
  ·(go_simp; try with_reducible rfl)
  go_simp;refine hK _ ?_;clear hK K
 refine wpPo rfl (by rfl) (fun K hK => ?_);go_simp;refine hK _ _ (Below.refl _ _) ?_;clear hK K;clear qc;refine wpPo rfl (by rfl) (fun K hK => ?_);go_simp;refine cSr.out.mono ?_;rintro e x5 ⟨i, hi1, hi2, hi3, rfl, b⟩;refine hK _ _ b ?_;clear hK K cSr;obtain ⟨z, hz, hm, hpz, hlst⟩ := hfin.out i hi1 hi2 hi3;obtain ⟨db, dof, z', hD, -, hr, -, r0⟩ := (hL.out.below b).int (show i < n by omega);obtain rfl : z' = (z : Int) := by rw [hz] at hr; injection hr with hr; exact hr.symm
 have bi : 0 ≤ (i : Int) ∧ (i : Int) < (n : Int) := by omega
 have hres := Hd (show RetLeast f (missB f) L U (.returned (.int .i64 (z : Int))) x5 from ⟨z, rfl, hm, hpz, hlst, bT2 hbo.out b⟩);subst hD;clear hz hm hpz hlst hr hi1 hi2 hi3 b hfin hmono hbo kA kB kC hS2 hL
 iterate 3
  refine wpPf (v := ?_) rfl (by rfl) (fun w' hw' => ?_) (fun K hK => ?_);rotate_left
  ·(go_simp; try with_reducible rfl)
  go_simp;refine hK _ ?_;clear hK K
 refine wpPn (NoPanic.normal ?_);go_wp2_with fail;go_ret;exact hres.out
theorem bad_leastR {w0 : World} {v : FV} {f : Fac} {A : Option Addr} {c s : Nat} {R : Value} (L : Nat) (y : It) (U : World) (hE : EnvB v f) (hS : SrAt w0 v f A c s R U) (hP : SeenBy f (gorB f)) (hy : f.items[L]? = some y) (h0 : 0 ≤ f.frm.getD L 0) (hpL : gorB f L = true) :
  Calls Tryz.prog 60 #[.pointer (some ⟨s, 0, none⟩), .int .i64 (L : Int), .func (.func 64) #[] #[]] U (RetLeast f (gorB f) L U) := by
 have hvm := hE.hvm;have hwr := read_of hE.hx.fr hy (by omega);obtain ⟨hn0, hnl⟩ := kept_last hE.hx.nb hy hwr;have hkl := hE.kl L;have hmono := Hd (fun (a b : Nat) (hab : a ≤ b) (hb : b < (keptO f L).length - 1) (h : gorB f ((keptO f L).getD a 0).toNat = true) => show gorB f ((keptO f L).getD b 0).toNat = true from by
  obtain ⟨za, hza, ea, hma⟩ := kept_nat (f := f) (L := L) (show a < (keptO f L).length by omega);obtain ⟨zb, hzb, eb, hmb⟩ := kept_nat (f := f) (L := L) (show b < (keptO f L).length by omega);rw [ea] at h;rw [eb];refine hP.kept hE.hx.nb hy hma hmb ?_ h;rcases Nat.lt_or_ge a b with h1 | h1
  ·have := kept_lt hza hzb h1; omega
  ·obtain rfl : a = b := by omega
   rw [hza] at hzb; injection hzb with hzb; omega)
 have hfin := Hd (fun (i : Nat) (hi : i ≤ (keptO f L).length - 1) (h1 : ∀ t, t < i → gorB f ((keptO f L).getD t 0).toNat = false) (h2 : i < (keptO f L).length - 1 → gorB f ((keptO f L).getD i 0).toNat = true) => show ∃ z : Nat, (keptO f L)[i]? = some (z : Int) ∧ (z : Int) ∈ keptO f L ∧ gorB f z = true ∧ (∀ q : Nat, (q : Int) ∈ keptO f L → q < z → gorB f q = false) from by
  obtain ⟨z, hz, ez, hm⟩ := kept_nat (f := f) (L := L) (show i < (keptO f L).length by omega);refine ⟨z, hz, hm, ?_, fun q hq hqz => ?_⟩
  ·rcases Nat.lt_or_ge i ((keptO f L).length - 1) with h3 | h3
   ·have := h2 h3
    rwa [ez] at this
   ·rw [show i = (keptO f L).length - 1 by omega, hnl] at hz
    injection hz with hz;rw [show z = L by omega];exact hpL
  ·obtain ⟨t, ht⟩ := List.getElem?_of_mem hq
   have htl := (List.getElem?_eq_some_iff.1 ht).1;obtain ⟨z2, hz2, ez2, -⟩ := kept_nat (f := f) (L := L) htl;rw [ht] at hz2; injection hz2 with hz2;have h4 := h1 t (by
    rcases Nat.lt_or_ge t i with h5 | h5
    ·exact h5
    ·exfalso
     rcases Nat.lt_or_ge i t with h6 | h6
     ·have := kept_lt hz ht h6; omega
     ·obtain rfl : i = t := by omega
      rw [hz] at ht; injection ht with ht; omega)
   rw [ez2] at h4
   rwa [show q = z2 by omega])
 obtain ⟨gb, hgb⟩ : ∃ g, g = U.heap.size := ⟨_, rfl⟩;obtain ⟨W1, hW1⟩ : ∃ W, W = U.alloc (.cells #[.pointer (some ⟨s, 0, none⟩)] 74) := ⟨_, rfl⟩;have b1 : Below U.heap.size U W1 := by rw [hW1]; exact bAl _ _
 have kB1 : Blk W1 gb 74 [.pointer (some ⟨s, 0, none⟩)] := by rw [hW1, hgb]; exact Blk.new U _ _
 obtain ⟨ga, hga⟩ : ∃ g, g = W1.heap.size := ⟨_, rfl⟩;obtain ⟨W2, hW2⟩ : ∃ W, W = W1.alloc (.cells #[.func (.func 64) #[] #[]] 105) := ⟨_, rfl⟩;have b2 : Below W1.heap.size W1 W2 := by rw [hW2]; exact bAl _ _
 have kA := Hd (show Blk W2 ga 105 [.func (.func 64) #[] #[]] from by rw [hW2, hga]; exact Blk.new W1 _ _);have kB := Hd (kB1.below b2 kB1.lt);have hS2 := Hd ((hS.later b1).later b2);have hbo := Hd (bT2 b1 b2);have qb := kB.out.cell 0;simp only [List.getElem?_cons_zero] at qb;have cK := Hd (past_Kept v f (L : Int) W2 hS2.out.fa (by omega) hE.hx.nb);replace hE := Hd hE;clear b1 b2 kB1 hS hP hpL hwr hy hnl;have p0 := hS2.out.c0;have p1 := hS2.out.c1;have p2 := hS2.out.c2;have p3 := hS2.out.c3;have p4 := hS2.out.c4;have p5 := hS2.out.c5
 go_enter Tryz.func60, Tryz.ntmps60
 go_wp2_with (first | (rw [← hW1, ← hgb]; clear hW1; replace hgb := Hd hgb) | (rw [← hW2, ← hga]; clear hW2; replace hga := Hd hga));refine cK.out.mono ?_;rintro e w3 ⟨D, n, d, rfl, hL', -, -, b⟩;have hL0 : LAt encI w3 D n (keptO f L) := hL';have hln := hL0.len;replace kA := Hd (kA.out.below b kA.out.lt);replace kB := Hd (kB.out.below b kB.out.lt);replace hS2 := Hd (hS2.out.later b);replace hbo := Hd (bT2 hbo.out b);clear p0 p1 p2 p3 p4 p5 qb b cK hL';obtain ⟨gc, hgc⟩ : ∃ g, g = w3.heap.size := ⟨_, rfl⟩;obtain ⟨W4, hW4⟩ : ∃ W, W = w3.alloc (.cells #[.slice D n d] 27) := ⟨_, rfl⟩;have b4 : Below w3.heap.size w3 W4 := by rw [hW4]; exact bAl _ _
 have kC := Hd (show Blk W4 gc 27 [.slice D n d] from by rw [hW4, hgc]; exact Blk.new w3 _ _);replace kA := Hd (kA.out.below b4 kA.out.lt);replace kB := Hd (kB.out.below b4 kB.out.lt);replace hS2 := Hd (hS2.out.later b4);replace hbo := Hd (bT2 hbo.out b4);have hL := Hd (hL0.below b4);clear b4 hL0;go_wp2_with (rw [← hW4, ← hgc]; clear hW4; replace hgc := Hd hgc);refine wpRp 9 [(true, 0), (true, 1), (true, 2), (true, 3), (false, 4), (false, 5), (true, 6), (true, 7), (true, 8)] (by kernel_rfl) (by kernel_rfl) (fun V hV => ?_);have hV' : Below W4.heap.size W4 V := by rw [hV.out]; exact (Below.refl _ _).drew
 replace kA := Hd (kA.out.below hV' kA.out.lt);replace kB := Hd (kB.out.below hV' kB.out.lt);replace kC := Hd (kC.out.below hV' kC.out.lt);replace hS2 := Hd (hS2.out.later hV');replace hL := Hd (hL.out.below hV');replace hbo := Hd (bT2 hbo.out hV');clear hV hV';simp only [List.drop_succ_cons, List.drop_nil];have qc := kC.out.cell 0;simp only [List.getElem?_cons_zero] at qc;have hn1 : (((keptO f L).length - 1 : Nat) : Int) = IntKind.i64.wrap ((n : Int) - 1) := by rw [IntKind.wrap_i64]; omega
 have cSr := sort_Search (.pointer (some ⟨ga, 0, none⟩)) (.pointer (some ⟨gb, 0, none⟩)) (.pointer (some ⟨gc, 0, none⟩)) ((keptO f L).length - 1) (fun i => gorB f ((keptO f L).getD i 0).toNat) V (by omega)
  (fun i W hi hb => bad_least1R L ga gb gc i D n d W hE.out (hS2.out.later hb) (hL.out.below hb) (by omega) ((kA.out.below hb kA.out.lt).cell 0) ((kB.out.below hb kB.out.lt).cell 0) ((kC.out.below hb kC.out.lt).cell 0)) hmono.out
 rw [hn1] at cSr;replace cSr := Hd cSr;replace hn1 := Hd hn1
 iterate 4
  refine wpPf (v := ?_) rfl (by rfl) (fun w' hw' => ?_) (fun K hK => ?_);rotate_left
  ·(go_simp; try with_reducible rfl)
  go_simp;refine hK _ ?_;clear hK K
 refine wpPo rfl (by rfl) (fun K hK => ?_);go_simp;refine hK _ _ (Below.refl _ _) ?_;clear hK K;clear qc;refine wpPo rfl (by rfl) (fun K hK => ?_);go_simp;refine cSr.out.mono ?_;rintro e x5 ⟨i, hi1, hi2, hi3, rfl, b⟩;refine hK _ _ b ?_;clear hK K cSr;obtain ⟨z, hz, hm, hpz, hlst⟩ := hfin.out i hi1 hi2 hi3;obtain ⟨db, dof, z', hD, -, hr, -, r0⟩ := (hL.out.below b).int (show i < n by omega);obtain rfl : z' = (z : Int) := by rw [hz] at hr; injection hr with hr; exact hr.symm
 have bi : 0 ≤ (i : Int) ∧ (i : Int) < (n : Int) := by omega
 have hres := Hd (show RetLeast f (gorB f) L U (.returned (.int .i64 (z : Int))) x5 from ⟨z, rfl, hm, hpz, hlst, bT2 hbo.out b⟩);subst hD;clear hz hm hpz hlst hr hi1 hi2 hi3 b hfin hmono hbo kA kB kC hS2 hL
 iterate 3
  refine wpPf (v := ?_) rfl (by rfl) (fun w' hw' => ?_) (fun K hK => ?_);rotate_left
  ·(go_simp; try with_reducible rfl)
  go_simp;refine hK _ ?_;clear hK K
 refine wpPn (NoPanic.normal ?_);go_wp2_with fail;go_ret;exact hres.out
end Go.Proofs.YtjhjojklfdjmdaaGreat
