/- The code's own contracts of layer 18: conflicts put in order (slices.SortFunc by its first contract: the library's text is not walked). The code's own contracts of layer 18: what a round finds (wants, lacks). Contracts of package hull: chosen, keep, Within. The code's own contracts of layer 18: Of. What the code of layer 18 asks of facts, of a history's. Plain mathematics of layer 22: runs of registers. Nothing of the program is named. Plain mathematics of layer 15: the first order of numbers. Nothing of the program is named. Plain mathematics of layer 15: first orders of all of a matrix's numbers. Nothing of the program is named. The contract of the document's own answer of layer 11: Of (whole facts of a history). Layer 19's example, as facts; plain mathematics of the levels. Plain mathematics of layer 19: what a pattern's operations are. Nothing of the program is named. Plain mathematics of layers 20 and 21: steps, which are right, which are plain, what holds. Nothing of the program is named. Plain mathematics of layer 18: what an operation has seen is in what a later one of its session has. Nothing of the program is named. Plain mathematics of layers 20 and 21: what holds is a pattern of its kind. Nothing of the program is named. Plain mathematics of layers 23 and 24: what was written last in a run that respects an order; what it says that a level has no bad pattern. Nothing of the program is named. -/
import Derived.Test.YtjhjojklfdjmdaaGreatBadTellsPk8
import Derived.Test.YtjhjojklfdjmdaaGreatBadTellsPk3
import Derived.Test.YtjhjojklfdjmdaaGreatBadTellsPk1
import Derived.Test.YtjhjojklfdjmdaaGreatSortLay
import Derived.Test.YtjhjojklfdjmdaaGreatBadTellsPk10
import Derived.Test.YtjhjojklfdjmdaaGreatBadTellsPk7
import Derived.Test.YtjhjojklfdjmdaaGreatBadTellsPk2
import Derived.Maps.OwnSet
import Derived.Maps.OwnOps
import Derived.DeepKeys4
import Derived.Test.YtjhjojklfdjmdaaGreatBadTellsPk9
import Derived.Test.YtjhjojklfdjmdaaGreatBadTellsPk5
import Derived.Test.YtjhjojklfdjmdaaGreatBadTellsPk4
set_option linter.unusedVariables false
namespace Go.Proofs.YtjhjojklfdjmdaaGreat
set_option maxRecDepth 100000
set_option maxHeartbeats 8000000
open Go.RowKit
instance : Inhabited Ed := ⟨⟨0, 0, 0⟩⟩
instance (x y : Ed) : Decidable (EdLt x y) := by unfold EdLt; infer_instance
def cmpZ (x y : Int) : Int := if x < y then -1 else if y < x then 1 else 0
def cfEd (x y : Ed) : Int := if cmpZ x.w1 y.w1 = 0 then cmpZ x.w2 y.w2 else cmpZ x.w1 y.w1
theorem cfEd_lt (x y : Ed) : ltOf cfEd x y = decide (EdLt x y) := by
 unfold ltOf;rw [Bool.eq_iff_iff, decide_eq_true_eq, decide_eq_true_eq];unfold cfEd cmpZ EdLt
 repeat (split; skip)
 all_goals omega
theorem swoE : Go.Sort.SWO (ltOf cfEd) where
 irrefl x := by rw [cfEd_lt, decide_eq_false_iff_not]; unfold EdLt; omega
 trans x y z h1 h2 := by rw [cfEd_lt, decide_eq_true_eq] at *; unfold EdLt at *; omega
 ntrans x y z h1 h2 := by rw [cfEd_lt, decide_eq_false_iff_not] at *; unfold EdLt at *; omega
theorem cmp_cmp (x y : Int) (w : World) : Calls Tryz.prog 140 #[.int .i64 x, .int .i64 y] w fun e w' => e = .returned (.int .i64 (cmpZ x y)) ∧ w = w' := by
 by_cases h1 : x < y
 ·have e1 : Hid (cmpZ x y = -1) := Hd (by unfold cmpZ; rw [if_pos h1])
  go_enter Tryz.func140, Tryz.ntmps140
  go_wp2
  go_ret;exact ⟨by rw [e1.out]; rfl, rfl⟩
 ·by_cases h2 : y < x
  ·have e1 : Hid (cmpZ x y = 1) := Hd (by unfold cmpZ; rw [if_neg h1, if_pos h2])
   go_enter Tryz.func140, Tryz.ntmps140
   go_wp2
   go_ret;exact ⟨by rw [e1.out]; rfl, rfl⟩
  ·have e1 : Hid (cmpZ x y = 0) := Hd (by unfold cmpZ; rw [if_neg h1, if_neg h2])
   go_enter Tryz.func140, Tryz.ntmps140
   go_wp2
   go_ret;exact ⟨by rw [e1.out]; rfl, rfl⟩
theorem cmp_or (g : Nat) (a b : Int) (w : World) (h0 : w.cell? ⟨g, 0, none⟩ = some (.int .i64 a)) (h1 : w.cell? ⟨g, 1, none⟩ = some (.int .i64 b)) : Calls Tryz.prog 139 #[.slice (some ⟨g, 0, none⟩) 2 2] w fun e w' => e = .returned (.int .i64 (if a = 0 then b else a)) ∧ w = w' := by
 by_cases ha : a = 0
 ·have e1 : (a != 0) = false := by rw [ha]; rfl
  rw [if_pos ha];by_cases hb : b = 0
  ·have e2 : (b != 0) = false := by rw [hb]; rfl
   replace hb := Hd hb;replace ha := Hd ha
   go_enter Tryz.func139, Tryz.ntmps139
   go_wp2
   refine wp_loop_rounds 3 ?_;rw [rounds_succ]
   go_wp2
   rw [rounds_succ]
   go_wp2
   rw [rounds_succ]
   go_wp2
   go_ret;exact ⟨by rw [hb.out]; rfl, rfl⟩
  ·have e2 : (b != 0) = true := by rw [bne_iff_ne]; exact hb
   replace hb := Hd hb;replace ha := Hd ha
   go_enter Tryz.func139, Tryz.ntmps139
   go_wp2
   refine wp_loop_rounds 3 ?_;rw [rounds_succ]
   go_wp2
   rw [rounds_succ]
   go_wp2
   go_ret;exact ⟨rfl, rfl⟩
 ·have e1 : (a != 0) = true := by rw [bne_iff_ne]; exact ha
  rw [if_neg ha];replace ha := Hd ha
  go_enter Tryz.func139, Tryz.ntmps139
  go_wp2
  refine wp_loop_rounds 3 ?_;rw [rounds_succ]
  go_wp2
  go_ret;exact ⟨rfl, rfl⟩
theorem sort_cmp (x y : Ed) (W : World) : Calls Tryz.prog 138 #[.agg (encE.cells x).toArray, .agg (encE.cells y).toArray] W fun e w' => e = .returned (.int .i64 (cfEd x y)) ∧ ∃ q os', w' = Go.Sort.grow (W.drewN q) os' := by
 obtain ⟨x1, x2, x3⟩ := x;obtain ⟨y1, y2, y3⟩ := y
 show Calls Tryz.prog 138 #[.agg #[.int .i64 x1, .int .i64 x2, .int .i64 x3], .agg #[.int .i64 y1, .int .i64 y2, .int .i64 y3]] W _
 obtain ⟨W1, hW1⟩ : ∃ V, V = W.alloc (.cells #[.int .i64 x1, .int .i64 x2, .int .i64 x3] 84) := ⟨_, rfl⟩;obtain ⟨g1, hg1⟩ : ∃ g, g = W.heap.size := ⟨_, rfl⟩;obtain ⟨W2, hW2⟩ : ∃ V, V = W1.alloc (.cells #[.int .i64 y1, .int .i64 y2, .int .i64 y3] 84) := ⟨_, rfl⟩;obtain ⟨g2, hg2⟩ : ∃ g, g = W1.heap.size := ⟨_, rfl⟩;have k1 : Blk W1 g1 84 [.int .i64 x1, .int .i64 x2, .int .i64 x3] := by rw [hW1, hg1]; exact Blk.new W _ _
 have k1' : Blk W2 g1 84 [.int .i64 x1, .int .i64 x2, .int .i64 x3] := by rw [hW2]; exact k1.alloc _
 have k2 : Blk W2 g2 84 [.int .i64 y1, .int .i64 y2, .int .i64 y3] := by rw [hW2, hg2]; exact Blk.new W1 _ _
 have hWW := Hd (show W2 = Go.Sort.grow W #[.cells #[.int .i64 x1, .int .i64 x2, .int .i64 x3] 84, .cells #[.int .i64 y1, .int .i64 y2, .int .i64 y3] 84] from by
  rw [hW2, hW1, Go.Sort.alloc_eq_grow, Go.Sort.alloc_eq_grow, Go.Sort.grow_grow]; rfl)
 replace k1' := Hd k1';replace k2 := Hd k2;clear k1;obtain ⟨c1, hc1⟩ : ∃ c, c = cmpZ x1 y1 := ⟨_, rfl⟩;obtain ⟨c2, hc2⟩ : ∃ c, c = cmpZ x2 y2 := ⟨_, rfl⟩;have cA := fun V => cmp_cmp x1 y1 V;have cB := fun V => cmp_cmp x2 y2 V;rw [← hc1] at cA;rw [← hc2] at cB;have hcf : Hid (cfEd ⟨x1, x2, x3⟩ ⟨y1, y2, y3⟩ = if c1 = 0 then c2 else c1) := Hd (by rw [hc1, hc2]; rfl);replace cA := Hd cA;replace cB := Hd cB;have cO := fun g V h0 h1 => cmp_or g c1 c2 V h0 h1;obtain ⟨r, hr⟩ : ∃ r, r = if c1 = 0 then c2 else c1 := ⟨_, rfl⟩;rw [← hr] at cO hcf;replace cO := Hd cO;clear hc1 hc2 hr
 go_enter Tryz.func138, Tryz.ntmps138
 go_wp2_with (first | (rw [← hW1, ← hg1]; clear hW1; replace hg1 := Hd hg1) | (rw [← hW2, ← hg2]; clear hW2; replace hg2 := Hd hg2));refine wpRp 13 [(true, 0), (true, 1), (true, 2), (true, 3), (true, 5), (true, 6), (true, 7), (true, 8), (false, 4), (false, 9), (false, 10), (false, 11), (true, 12)] (by kernel_rfl) (by kernel_rfl) (fun U hU => ?_);have q1 : Blk U g1 84 [.int .i64 x1, .int .i64 x2, .int .i64 x3] := by rw [hU.out]; exact k1'.out.drew
 have q2 : Blk U g2 84 [.int .i64 y1, .int .i64 y2, .int .i64 y3] := by rw [hU.out]; exact k2.out.drew
 have i0 := q1.cell 0;have i1 := q1.cell 1;have j0 := q2.cell 0;have j1 := q2.cell 1;simp only [gZ, gS] at i0 i1 j0 j1;clear q1 q2;simp only [List.drop_succ_cons, List.drop_nil]
 iterate 8
  refine wpPf (v := ?_) rfl (by rfl) (fun w' hw' => ?_) (fun K hK => ?_);rotate_left
  ·(go_simp; try with_reducible rfl)
  go_simp;refine hK _ ?_;clear hK K
 clear i0 i1 j0 j1;refine wpPo rfl (by rfl) (fun K hK => ?_);go_simp;refine (cA.out U).mono ?_;rintro e w1 ⟨rfl, rfl⟩;refine hK _ _ (Below.refl _ _) ?_;clear hK K;refine wpPo rfl (by rfl) (fun K hK => ?_);go_simp;refine (cB.out U).mono ?_;rintro e w1 ⟨rfl, rfl⟩;refine hK _ _ (Below.refl _ _) ?_;clear hK K;refine wpPo rfl (by rfl) (fun K hK => ?_);go_simp;obtain ⟨V, hV⟩ : ∃ V, V = U.alloc (.cells #[.int .i64 c1, .int .i64 c2] 3) := ⟨_, rfl⟩;obtain ⟨gl, hgl⟩ : ∃ g, g = U.heap.size := ⟨_, rfl⟩;have kl : Blk V gl 3 [.int .i64 c1, .int .i64 c2] := by rw [hV, hgl]; exact Blk.new U _ _
 have bl : Below U.heap.size U V := by rw [hV]; exact bAl _ _
 rw [← hV, ← hgl];refine hK _ _ bl ?_;clear hK K bl;replace hV := Hd hV;replace hgl := Hd hgl;refine wpPo rfl (by rfl) (fun K hK => ?_);go_simp;refine (cO.out gl V (kl.cell 0) (kl.cell 1)).mono ?_;rintro e w1 ⟨rfl, rfl⟩;refine hK _ _ (Below.refl _ _) ?_;clear hK K
 iterate 1
  refine wpPf (v := ?_) rfl (by rfl) (fun w' hw' => ?_) (fun K hK => ?_);rotate_left
  ·(go_simp; try with_reducible rfl)
  go_simp;refine hK _ ?_;clear hK K
 refine wpPn (NoPanic.normal ?_);go_wp2_with fail;go_ret;refine ⟨by rw [hcf.out]; rfl, 1, #[.cells #[.int .i64 x1, .int .i64 x2, .int .i64 x3] 84, .cells #[.int .i64 y1, .int .i64 y2, .int .i64 y3] 84] ++ #[.cells #[.int .i64 c1, .int .i64 c2] 3], ?_⟩;rw [hV.out, hU.out, hWW.out, Go.Sort.alloc_eq_grow, Go.Sort.drew_grow, Go.Sort.grow_grow]
 rfl
theorem flat_all (l : List Ed) {j : Nat} (hj : j < l.length * 3) : (encE.all l)[j]? = some ((Go.Sort.flatK encE.cells 3 l.toArray)[j]!) := by
 have hx : j / 3 < l.length := by omega
 rw [Go.Sort.get_flatK _ _ _ _ (by rw [List.size_toArray]; exact hj)];have h1 := Enc.all_at (E := encE) (xs := l) (k := j / 3) (x := l[j / 3]) (List.getElem?_eq_getElem hx) (r := j % 3) (by show j % 3 < 3; omega);have h2 : j / 3 * encE.sz + j % 3 = j := by show j / 3 * 3 + j % 3 = j; omega
 rw [h2] at h1;rw [h1];have h3 : l.toArray[j / 3]! = l[j / 3] := by simp [hx]
 rw [h3];have h4 : j % 3 < (encE.cells l[j / 3]).length := by show j % 3 < 3; omega
 rw [List.getElem?_eq_getElem h4, getElem!_pos (encE.cells l[j / 3]) (j % 3) h4]
theorem sort_holds {w : World} {base blk m c : Nat} {l : List Ed} (hown : w.ownsRow base 84 3 (.slice (some ⟨blk, 0, none⟩) m c) m (encE.all l)) (hl : l.length = m) : Go.Sort.HoldsK encE.cells 3 w blk 0 l.toArray := fun j hj => by
 rw [Go.Sort.size_flatK, List.size_toArray, hl] at hj;refine ⟨?_, by rw [Nat.zero_add]; exact hown.frozenAt j⟩;rw [Nat.zero_add, hown.cellAt j hj, flat_all l (by rw [hl]; exact hj)]; rfl
def RetSorted (base blk m : Nat) (l : List Ed) (w : World) (e : Ending) (w' : World) : Prop := e = .returned (.tuple #[]) ∧ ∃ l' : List Ed, l.Perm l' ∧ (l'.Pairwise fun x y => ¬ EdLt y x) ∧ LAt encE w' (some ⟨blk, 0, none⟩) m l' ∧ w.grownBy w' (some blk)
theorem sort_edges (base blk m c : Nat) (l : List Ed) (w : World) (hown : w.ownsRow base 84 3 (.slice (some ⟨blk, 0, none⟩) m c) m (encE.all l)) (hl : l.length = m) (hok : ∀ x ∈ l, Ed.Ok x) (hm : m ≤ 1099511627776) :
  Calls Tryz.prog 137 #[.slice (some ⟨blk, 0, none⟩) m c, .func (.func 138) #[] #[]] w (RetSorted base blk m l w) := by
 have hlt := (hown.lt blk rfl).2;have hH := sort_holds hown hl;have eg : ∀ args w, (callFunc 138 args).run Tryz.prog w = .ok (.enter 138 args) w := enters_of Tryz.func138 (by kernel_rfl) rfl;have hcon := AnyQ.slices_SortFunc Tryz.sortEd 3 Tryz.isAgg84 Tryz.sizeOf84 encE.cells (fun _ => rfl) (fun x v hv => encE.one x v hv) cfEd swoE 138 #[] blk 0 c l.toArray w eg (fun _ _ _ _ x y => sort_cmp x y _) hH hlt (by rw [List.size_toArray, hl]; omega)
 change Calls Tryz.prog 137 _ _ _ at hcon
 have hls : l.toArray.size = m := by rw [List.size_toArray, hl]
 rw [hls] at hcon;refine hcon.mono ?_;rintro e w' ⟨rfl, d', n, os, ⟨hsz, -, hp⟩, hs, rfl⟩;rw [hls] at hsz;have e1 : d'.extract 0 m = d' := by rw [← hsz]; exact Array.extract_size
 have e2 : l.toArray.extract 0 m = l.toArray := by rw [← hls]; exact Array.extract_size
 rw [e1, e2] at hp;have hp' : l.Perm d'.toList := hp.symm;have hg := holdsK_sortWorldK_c encE.cells 3 w blk 0 l.toArray d' n os hH hlt (by rw [hls, hsz]);refine ⟨rfl, d'.toList, hp', ?_, ⟨by rw [Array.length_toList, hsz], fun x hx => hok x (hp'.symm.subset hx), fun h0 => ⟨blk, 0, rfl, Nat.lt_of_lt_of_le hlt (size_sortWorldK_c _ _ _ _ _ _ _ _), fun j u hu => ?_⟩⟩, ⟨rfl, rfl, rfl, size_sortWorldK_c _ _ _ _ _ _ _ _, fun k hk hne => ?_⟩⟩
 ·rw [List.pairwise_iff_getElem]
  intro i j hi hj hij;have h1 := hs i j (Nat.zero_le _) hij (by rw [← hsz]; simpa using hj);rw [cfEd_lt, decide_eq_false_iff_not] at h1;rw [Array.length_toList] at hi hj;rw [getElem!_pos d' i hi, getElem!_pos d' j hj] at h1
  simpa using h1
 ·have hjl : j < d'.toList.length * 3 := by
   have := (List.getElem?_eq_some_iff.1 hu).1;rw [encE.all_len] at this;exact this
  rw [flat_all d'.toList hjl] at hu;injection hu with hu;subst hu;exact (hg j (by rw [Go.Sort.size_flatK]; simpa using hjl)).1
 ·unfold sortWorldK Go.Sort.grow Go.Sort.putRowK Go.Sort.putRow Go.Sort.mapBlock Go.Sort.ahead
  simp only
  rw [Array.getElem?_append_left (by rw [Array.size_modify]; exact hk), Array.getElem?_modify, if_neg (fun h => hne (by rw [h]))]
end Go.Proofs.YtjhjojklfdjmdaaGreat

namespace Go.Proofs.YtjhjojklfdjmdaaGreat
set_option maxRecDepth 100000
set_option maxHeartbeats 8000000
open Go.RowKit Go.Maps
def In18 (a : Int) : Prop := -9223372036854775808 ≤ a ∧ a < 9223372036854775808
theorem seen_wants (A : Option Addr) (n c : Nat) (X : List (List Nat)) (a b r : Int) (w : World) (hr : RowsAt w A n X) (hn : n ≤ 4096) (hl : ∀ xs ∈ X, xs.length ≤ 64) (ha : In18 a) (hb0 : In18 b) (hr0 : In18 r) :
  Calls Tryz.prog 136 #[.agg #[.int .i64 (n : Int), .slice A n c], .agg #[.int .i64 a, .int .i64 b], .int .i64 r] w (RetB (decide (a ≠ b) && hasM X a r && !hasM X a b) w) := by
 have cH := Hd (fun (i j : Int) (hi : In18 i) (hj : In18 j) (W : World) (hW : RowsAt W A n X) => mat_Has (n : Int) A n c X i j W hW (by omega) (fun xs hx => by have := hl xs hx; omega) hi.1 hi.2 hj.1 hj.2);replace ha := Hd ha;replace hb0 := Hd hb0;replace hr0 := Hd hr0;replace hl := Hd hl;by_cases hab : a = b
 ·have hres : Hid ((decide (a ≠ b) && hasM X a r && !hasM X a b) = false) := Hd (by rw [decide_eq_false (by omega)]; rfl)
  have e1 : (a != b) = false := by rw [hab]; simp
  replace hab := Hd hab;have hM0 := Hd (MatK.new (N := (n : Int)) (c := c) w 57 hr);obtain ⟨g, hg⟩ : ∃ g, g = w.heap.size := ⟨_, rfl⟩;obtain ⟨W0, hW0⟩ : ∃ W, W = w.alloc (.cells #[.int .i64 (n : Int), .slice A n c] 57) := ⟨_, rfl⟩;rw [← hW0, ← hg] at hM0;have b0 : Below w.heap.size w W0 := by rw [hW0]; exact bAl _ _
  obtain ⟨gp, hgp⟩ : ∃ g, g = W0.heap.size := ⟨_, rfl⟩;obtain ⟨W1, hW1⟩ : ∃ W, W = W0.alloc (.cells #[.int .i64 a, .int .i64 b] 157) := ⟨_, rfl⟩;have b1 : Below W0.heap.size W0 W1 := by rw [hW1]; exact bAl _ _
  have hM := Hd (hM0.out.below b1);have kp := Hd (show Blk W1 gp 157 [.int .i64 a, .int .i64 b] from by rw [hW1, hgp]; exact Blk.new _ _ _);have hb := Hd (bT2 b0 b1);have m0 := hM.out.1.c0;have m1 := hM.out.1.c1;have p0 := kp.out.cell 0;have p1 := kp.out.cell 1;simp only [gZ, gS] at p0 p1;clear hM0 b0 b1 hr
  go_enter Tryz.func136, Tryz.ntmps136
  go_wp2_with (first | (rw [← hW0, ← hg]; clear hW0; replace hg := Hd hg) | (rw [← hW1, ← hgp]; clear hW1; replace hgp := Hd hgp));go_ret;exact ⟨by rw [hres.out]; rfl, hb.out⟩
 ·have e1 : (a != b) = true := by rw [bne_iff_ne]; exact hab
  cases h1 : hasM X a r with
  | false =>
   have hres : Hid ((decide (a ≠ b) && false && !hasM X a b) = false) := Hd (by simp);replace hab := Hd hab;have hM0 := Hd (MatK.new (N := (n : Int)) (c := c) w 57 hr);obtain ⟨g, hg⟩ : ∃ g, g = w.heap.size := ⟨_, rfl⟩;obtain ⟨W0, hW0⟩ : ∃ W, W = w.alloc (.cells #[.int .i64 (n : Int), .slice A n c] 57) := ⟨_, rfl⟩;rw [← hW0, ← hg] at hM0;have b0 : Below w.heap.size w W0 := by rw [hW0]; exact bAl _ _
   obtain ⟨gp, hgp⟩ : ∃ g, g = W0.heap.size := ⟨_, rfl⟩;obtain ⟨W1, hW1⟩ : ∃ W, W = W0.alloc (.cells #[.int .i64 a, .int .i64 b] 157) := ⟨_, rfl⟩;have b1 : Below W0.heap.size W0 W1 := by rw [hW1]; exact bAl _ _
   have hM := Hd (hM0.out.below b1);have kp := Hd (show Blk W1 gp 157 [.int .i64 a, .int .i64 b] from by rw [hW1, hgp]; exact Blk.new _ _ _);have hb := Hd (bT2 b0 b1);have m0 := hM.out.1.c0;have m1 := hM.out.1.c1;have p0 := kp.out.cell 0;have p1 := kp.out.cell 1;simp only [gZ, gS] at p0 p1;clear hM0 b0 b1 hr;have c1 := Hd (cH.out a r ha.out hr0.out W1 hM.out.2);rw [h1] at c1
   go_enter Tryz.func136, Tryz.ntmps136
   go_wp2_with (first | (rw [← hW0, ← hg]; clear hW0; replace hg := Hd hg) | (rw [← hW1, ← hgp]; clear hW1; replace hgp := Hd hgp));refine c1.out.mono ?_; rintro e w2 ⟨rfl, b2⟩;have hb2 := Hd (bT2 hb.out b2);clear b2 m0 m1 p0 p1 c1;go_wp2_with fail;go_ret;exact ⟨by rw [hres.out]; rfl, hb2.out⟩
  | true =>
   have hres : Hid ((decide (a ≠ b) && true && !hasM X a b) = !hasM X a b) := Hd (by rw [decide_eq_true hab]; simp);obtain ⟨bo, hbo⟩ : ∃ x, x = hasM X a b := ⟨_, rfl⟩;rw [← hbo] at hres ⊢;replace hab := Hd hab;have hM0 := Hd (MatK.new (N := (n : Int)) (c := c) w 57 hr);obtain ⟨g, hg⟩ : ∃ g, g = w.heap.size := ⟨_, rfl⟩;obtain ⟨W0, hW0⟩ : ∃ W, W = w.alloc (.cells #[.int .i64 (n : Int), .slice A n c] 57) := ⟨_, rfl⟩;rw [← hW0, ← hg] at hM0;have b0 : Below w.heap.size w W0 := by rw [hW0]; exact bAl _ _
   obtain ⟨gp, hgp⟩ : ∃ g, g = W0.heap.size := ⟨_, rfl⟩;obtain ⟨W1, hW1⟩ : ∃ W, W = W0.alloc (.cells #[.int .i64 a, .int .i64 b] 157) := ⟨_, rfl⟩;have b1 : Below W0.heap.size W0 W1 := by rw [hW1]; exact bAl _ _
   have hM := Hd (hM0.out.below b1);have kp := Hd (show Blk W1 gp 157 [.int .i64 a, .int .i64 b] from by rw [hW1, hgp]; exact Blk.new _ _ _);have hb := Hd (bT2 b0 b1);have m0 := hM.out.1.c0;have m1 := hM.out.1.c1;have p0 := kp.out.cell 0;have p1 := kp.out.cell 1;simp only [gZ, gS] at p0 p1;clear hM0 b0 b1 hr;have c1 := Hd (cH.out a r ha.out hr0.out W1 hM.out.2);rw [h1] at c1
   go_enter Tryz.func136, Tryz.ntmps136
   go_wp2_with (first | (rw [← hW0, ← hg]; clear hW0; replace hg := Hd hg) | (rw [← hW1, ← hgp]; clear hW1; replace hgp := Hd hgp));refine c1.out.mono ?_; rintro e w2 ⟨rfl, b2⟩;have hb2 := Hd (bT2 hb.out b2);have hM2 := Hd (hM.out.below b2);have kp2 := Hd (kp.out.below b2 kp.out.lt);have c2 := Hd (cH.out a b ha.out hb0.out w2 hM2.out.2);rw [← hbo] at c2;replace hbo := Hd hbo;clear b2 m0 m1 p0 p1 c1;have m0 := hM2.out.1.c0;have m1 := hM2.out.1.c1;have p0 := kp2.out.cell 0;have p1 := kp2.out.cell 1;simp only [gZ, gS] at p0 p1;go_wp2_with fail;refine c2.out.mono ?_; rintro e w3 ⟨rfl, b3⟩;have hb3 := Hd (bT2 hb2.out b3);clear b3 m0 m1 p0 p1 c2;go_wp2_with fail;go_ret;exact ⟨by rw [hres.out]; rfl, hb3.out⟩
theorem row18 : (157 : TypeId) < Tryz.prog.types.size := of_decide_eq_true (by kernel_rfl)
theorem laid18 : laidOutB Tryz.prog = true := by kernel_rfl
theorem wide18 : (match Tryz.prog.underlying 157 with | some (.array _ _) | some (.struct _) => true | _ => false) = true := by kernel_rfl
theorem keyLaw18 : WideMaps.KeyLaw Tryz.prog 157 := deep_law_laid laid18 (m := 2) (by omega) row18 (by kernel_rfl) wide18
theorem law18 : Keyed Tryz.prog 157 := Keyed.of_law keyLaw18
theorem zeroB18 (w : World) : (zeroValue 4).run Tryz.prog w = .ok (.bool false) w := by kernel_rfl
theorem cells18 : Tryz.prog.cellsOf 157 = 2 := by kernel_rfl
theorem cells18i : Tryz.prog.cellsOf 3 = 1 := by kernel_rfl
theorem keyT18 : Tryz.prog.keyType 157 = true := by kernel_rfl
theorem types18 : ∃ m, Tryz.prog.types.size = m + 1 := ⟨Tryz.prog.types.size - 1, by kernel_rfl⟩
def keyP (a v : Int) : Lit := .string (keyBytes [.int .i64 a, .int .i64 v])
theorem key18 {a v : Int} (ha : In18 a) (hv : In18 v) : keyOf Tryz.prog 157 (.agg #[.int .i64 a, .int .i64 v]) = some (keyP a v) := by
 have hu := Tryz.underlying157;have hi := Tryz.underlying3;have wa : (Lit.int .i64 a).wf = true := WalkArith.wf_i64 (by unfold In18 at ha; omega);have wv : (Lit.int .i64 v).wf = true := WalkArith.wf_i64 (by unfold In18 at hv; omega);obtain ⟨m, hm⟩ := types18;have hf : (Value.agg #[.int .i64 a, .int .i64 v]).formed Tryz.prog 157 = true := by simp [Value.formed, hu, cells18]
 unfold keyOf;rw [hu];simp only [keyT18, hf, hm, Bool.and_self, if_true, Value.cells];unfold Program.keyLits
 simp [hu, hi, cells18, cells18i, Program.keyLits, wa, wv, keyP]
theorem keyP_ne {a v b u : Int} (ha : In18 a) (hv : In18 v) (hb : In18 b) (hu : In18 u) (h : ¬ (a = b ∧ v = u)) : keyP a v ≠ keyP b u := by
 intro e;have h1 := key18 ha hv;rw [e] at h1;have h2 := keyLaw18.inj h1 (key18 hb hu);simp at h2;exact h h2
theorem keyP_lit (a v : Int) : Go.WideAt.IsKeyLit (keyP a v) := trivial
def FoundP (w : World) (B n : Nat) (acc : List Ed) : Prop := ∃ D : DataW Unit, w.ownsMap Tryz.prog 157 (plainElem Tryz.prog 4) B n D ∧ ∀ a v, In18 a → In18 v → D.atKey (keyP a v) (.lit (.bool false)) = .lit (.bool (decide ((a, v) ∈ edP acc)))
theorem FoundP.made (w : World) : FoundP (w.alloc (.map #[] 0)) w.heap.size 0 [] := ⟨_, World.ownsMap_made w _ _ _, fun a v _ _ => rfl⟩
theorem FoundP.kept {w w' : World} {B n : Nat} {acc : List Ed} {row : Option Nat} (h : FoundP w B n acc) (hg : w.grownBy w' row) (hne : row ≠ some B) : FoundP w' B n acc := by
 obtain ⟨D, hD, h1⟩ := h;exact ⟨D, hD.kept hg (fun e => hne e.symm), h1⟩
theorem FoundP.below {w w' : World} {B n : Nat} {acc : List Ed} (h : FoundP w B n acc) (hb : Below w.heap.size w w') : FoundP w' B n acc := h.kept (row := none) ⟨hb.os, hb.tape, hb.output, hb.size, fun i hi _ => hb.block i hi⟩ (by simp)
theorem FoundP.look {w : World} {B n : Nat} {acc : List Ed} (h : FoundP w B n acc) {a v : Int} (ha : In18 a) (hv : In18 v) : (Instr.lookup 155 (.map (some B)) (.agg #[.int .i64 a, .int .i64 v]) false).run Tryz.prog w = .ok (.bool (decide ((a, v) ∈ edP acc))) w := by
 obtain ⟨D, hD, h1⟩ := h;obtain ⟨u, ps, hrun, hu⟩ := hD.lookup law18 Tryz.underlying155 (zeroB18 w) (plainElem_bool Tryz.underlying4 false) (key18 ha hv);rw [h1 a v ha hv] at hu;unfold plainElem at hu;rw [Tryz.underlying4] at hu
 cases u <;> simp at hu
 rw [hrun, hu.1]
theorem info_edge18 : (Tryz.prog.info? 84).map (fun i => (i.zero, i.size, i.bytes)) = some (some (.agg #[.int .i64 0, .int .i64 0, .int .i64 0]), 3, 24) := by kernel_rfl
structure LkI (w : World) (base g2 g3 B : Nat) (r0 r1 r2 r3 r4 : Value) (n : Nat) (A : Option Addr) (c : Nat) (u : Value) (am ao : List Ed) (wr : World) : Prop where
 b : Below w.heap.size w wr
 k2 : Blk wr g2 142 [r0, r1, r2, r3, r4]
 k3 : Blk wr g3 57 [.int .i64 (n : Int), .slice A n c]
 fm : FoundP wr B am.length am
 o : wr.ownsRow base 84 3 u ao.length (encE.all ao)
 z : w.heap.size ≤ g2 ∧ g2 < base ∧ g3 < base ∧ w.heap.size ≤ B ∧ B < base ∧ base ≤ wr.heap.size ∧ g2 ≠ B ∧ g3 ≠ B ∧ w.heap.size ≤ g3
section
variable {w wr w' : World} {base g2 g3 B : Nat} {r0 r1 r2 r3 r4 : Value} {n : Nat} {A : Option Addr} {c : Nat} {u v' : Value} {am ao am' ao' : List Ed}
theorem LkI.later (h : LkI w base g2 g3 B r0 r1 r2 r3 r4 n A c u am ao wr) (hb : Below wr.heap.size wr w') : LkI w base g2 g3 B r0 r1 r2 r3 r4 n A c u am ao w' :=
 ⟨bT2 h.b hb, h.k2.below hb h.k2.lt, h.k3.below hb h.k3.lt, h.fm.below hb, oBl h.o hb, by have := h.z; have := hb.size; omega⟩
theorem LkI.upd (h : LkI w base g2 g3 B r0 r1 r2 r3 r4 n A c u am ao wr) (hg : wr.grownBy w' (some B)) (hf : FoundP w' B am'.length am') : LkI w base g2 g3 B r0 r1 r2 r3 r4 n A c u am' ao w' := by
 obtain ⟨z1, z2, z3, z4, z5, z6, z7, z8, z9⟩ := h.z;refine ⟨⟨hg.os.trans h.b.os, hg.tape.trans h.b.tape, hg.output.trans h.b.output, Nat.le_trans h.b.size hg.size, fun k hk => (hg.block k (Nat.lt_of_lt_of_le hk h.b.size) (fun e => by injection e with e; omega)).trans (h.b.block k hk)⟩, h.k2.grown hg (fun e => z7 (by injection e)), h.k3.grown hg (fun e => z8 (by injection e)), hf, h.o.kept hg (.inr (fun e => by have := oLb h.o B e; omega)), z1, z2, z3, z4, z5, Nat.le_trans z6 hg.size, z7, z8, z9⟩
theorem LkI.app (h : LkI w base g2 g3 B r0 r1 r2 r3 r4 n A c u am ao wr) (hb : Below base wr w') (hg : wr.grownBy w' u.ownBlock) (ho : w'.ownsRow base 84 3 v' ao'.length (encE.all ao')) : LkI w base g2 g3 B r0 r1 r2 r3 r4 n A c v' am ao' w' := by
 obtain ⟨z1, z2, z3, z4, z5, z6, z7, z8, z9⟩ := h.z;exact ⟨h.b.trans (hb.mono (by omega)), h.k2.below hb z2, h.k3.below hb z3, h.fm.kept hg (fun e => by have := oLb h.o B e; omega), ho, z1, z2, z3, z4, z5, Nat.le_trans z6 hg.size, z7, z8, z9⟩
end
def ReadsAt (w : World) (go n : Nat) (f : Fac) (kept : List Int) : Prop := ∀ k, k < n → ∃ A m c, w.cell? ⟨go, k, none⟩ = some (.slice A m c) ∧ LAt encI w A m (rdsV f kept (k : Int)) ∧ go < w.heap.size
theorem ReadsAt.of {B go n : Nat} {w : World} {vs : List Value} {f : Fac} {kept : List Int} (h : SlotsM encI 27 3 B go n w vs (rdsX f n kept)) : ReadsAt w go n f kept := fun k hk => by
 obtain ⟨A, m, c, l, h1, h2, h3, h4, -, -, -, -, -, h5⟩ := h.get hk;rw [rdsX_at _ hk] at h2;injection h2 with h2;rw [← h2] at h5;exact ⟨A, m, c, h4, h5, (h.o.lt go rfl).2⟩
theorem seen_lacks (v : FV) (f : Fac) (U : Option Addr) (nu cu go : Nat) (wsl kept : List Int) (A : Option Addr) (c : Nat) (X : List (List Nat)) (w : World) (hF : FactsAt w v f) (hx : SeenX v f) (hwh : WholeF f) (hvm : v.m ≤ 64)
    (hU : LAt encI w U nu wsl) (hR : ReadsAt w go v.n f kept) (hr : RowsAt w A v.m X) (hG : Good v.m X) (hnd : wsl.Nodup) (hws : ∀ z ∈ wsl, 0 ≤ z ∧ z < (v.m : Int) ∧ isW f z = true) (hk : ∀ z ∈ kept, 0 ≤ z ∧ z < (v.m : Int)) (hkl : kept.length ≤ v.m) (hnu : nu ≤ v.m)
    (hX : ∀ a y : Nat, Rel X a y → isW f (a : Int) = true → (a : Int) ∈ wsl) :
    Calls Tryz.prog 121 #[.agg #[.slice v.A v.n v.c, .slice v.B v.m v.d, .slice v.C v.k v.e, .slice U nu cu, .slice (some ⟨go, 0, none⟩) v.n v.n], .agg #[.int .i64 (v.m : Int), .slice A v.m c]] w (RetELF (newF f X kept) w) := by
  have hil := hF.is.len;have hfl := Hd (show v.k = v.m from by rw [← hil, ← hF.fs.len]; exact hwh.len);have hperm := Hd (lkA_perm (X := X) (kept := kept) hx.fr hnd (by rw [hil]; exact hws) (by rw [hil]; exact hk) hX);have hsm := Hd hG.small;have hlkl : ∀ q, (lkA f X kept (wsl.take q)).length ≤ 4096 := fun q => by
    have h1 := lkA_len (f := f) (X := X) (kept := kept) (wsl.take q);have h2 : (wsl.take q).length ≤ 64 := by rw [List.length_take, hU.len]; omega
    have h3 : (wsl.take q).length * kept.length ≤ 64 * 64 := Nat.mul_le_mul h2 (by omega)
    omega
  replace hlkl := Hd hlkl;have cW := Hd (fun (a b r : Int) (W : World) (hW : RowsAt W A v.m X) (ha : In18 a) (hb : In18 b) (hr : In18 r) => seen_wants A v.m c X a b r W hW (by omega) hsm.out ha hb hr);have hokE := Hd (newF_okE (f := f) (X := X) (kept := kept) (by rw [hil]; exact hk) (by omega));have hflt := Hd (show ∀ z ∈ f.frm, z < (v.m : Int) from by rw [← hil]; exact hwh.lt);have hfrom := Hd (show ∀ z ∈ f.frm, -3 ≤ z from by
    rw [hx.fr];intro z hz;obtain ⟨y, -, rfl⟩ := List.mem_map.1 hz;exact (fromOne_range _ _).1)
  have hF0 := Hd hF;have hU0 := Hd hU;have hR0 := Hd hR;have hr0 := Hd hr;replace hx := Hd hx;replace hws := Hd hws;replace hk := Hd hk;replace hil := Hd hil;obtain ⟨i0', hi, hz0, hz1, hz2⟩ := info_parts info_edge18;replace hi := Hd hi;replace hz0 := Hd hz0;replace hz1 := Hd hz1;replace hz2 := Hd hz2;have hmm := @run_makeMap Tryz.prog 155;clear hF hU hR hr hwh hG hX hnd;obtain ⟨g2, hg2⟩ : ∃ g, g = w.heap.size := ⟨_, rfl⟩;obtain ⟨W0, hW0⟩ : ∃ W, W = w.alloc (.cells #[.slice v.A v.n v.c, .slice v.B v.m v.d, .slice v.C v.k v.e, .slice U nu cu, .slice (some ⟨go, 0, none⟩) v.n v.n] 142) := ⟨_, rfl⟩;have b0 : Below w.heap.size w W0 := by rw [hW0]; exact bAl _ _
  have k0 : Blk W0 g2 142 [.slice v.A v.n v.c, .slice v.B v.m v.d, .slice v.C v.k v.e, .slice U nu cu, .slice (some ⟨go, 0, none⟩) v.n v.n] := by rw [hW0, hg2]; exact Blk.new _ _ _
  obtain ⟨g3, hg3⟩ : ∃ g, g = W0.heap.size := ⟨_, rfl⟩;obtain ⟨W1, hW1⟩ : ∃ W, W = W0.alloc (.cells #[.int .i64 (v.m : Int), .slice A v.m c] 57) := ⟨_, rfl⟩;have b1 : Below W0.heap.size W0 W1 := by rw [hW1]; exact bAl _ _
  have k1 : Blk W1 g3 57 [.int .i64 (v.m : Int), .slice A v.m c] := by rw [hW1, hg3]; exact Blk.new _ _ _
  obtain ⟨B, hBe⟩ : ∃ g, g = W1.heap.size := ⟨_, rfl⟩;obtain ⟨W2, hW2⟩ : ∃ W, W = W1.alloc (.map #[] 0) := ⟨_, rfl⟩;have b2 : Below W1.heap.size W1 W2 := by rw [hW2]; exact bAl _ _
  have hI2 := Hd (show LkI w W2.heap.size g2 g3 B (.slice v.A v.n v.c) (.slice v.B v.m v.d) (.slice v.C v.k v.e) (.slice U nu cu) (.slice (some ⟨go, 0, none⟩) v.n v.n) v.m A c (.slice none 0 0) [] (lkA f X kept (wsl.take 0)) W2 from by
    have e0 := k0.lt;have e1 := k1.lt;have s0 : W1.heap.size = W0.heap.size + 1 := by rw [hW1]; simp
    have s1 : W2.heap.size = W1.heap.size + 1 := by rw [hW2]; simp
    have s2 : W0.heap.size = w.heap.size + 1 := by rw [hW0]; simp
    exact ⟨bT2 (bT2 b0 b1) b2, (k0.below b1 k0.lt).below b2 (k0.below b1 k0.lt).lt, k1.below b2 k1.lt, by rw [hW2, hBe]; exact FoundP.made W1, World.ownsRow_nil _ _ _ _, by omega⟩)
  have hI1 : Below w.heap.size w W1 := bT2 b0 b1;clear b0 b1 b2 k0 k1
  go_enter Tryz.func121, Tryz.ntmps121
  go_wp2_with (first | (rw [← hW0, ← hg2]; clear hW0; replace hg2 := Hd hg2) | (rw [← hW1, ← hg3]; clear hW1; replace hg3 := Hd hg3) | (rw [← hW2, ← hBe]; clear hW2; replace hBe := Hd hBe; have c3 := hI2.out.k2.cell 3; simp only [gZ, gS] at c3));clear hmm hI1 c3;obtain ⟨B2, hB2⟩ : ∃ n, n = W2.heap.size := ⟨_, rfl⟩;rw [← hB2] at hI2;replace hB2 := Hd hB2;have hUl := Hd hU0.out.len
  go_loopw [5, 16] (fun u t wr => ∃ q : Nat, q ≤ nu ∧ t = .int .i64 (q : Int) ∧ Hid (LkI w B2 g2 g3 B (.slice v.A v.n v.c) (.slice v.B v.m v.d) (.slice v.C v.k v.e) (.slice U nu cu) (.slice (some ⟨go, 0, none⟩) v.n v.n) v.m A c u (lkA f X kept (wsl.take q)) (lkA f X kept (wsl.take q)) wr)) (fun _ t _ => nu - (intOf t).toNat)
  case atStart => exact ⟨0, Nat.zero_le _, rfl, hI2⟩
  case round =>
    clear hI2;obtain ⟨q, hq, rfl, hI⟩ := hrel;by_cases hlt : q < nu
    · have hlt' : (q : Int) < (nu : Int) := by omega
      have hq0 : 0 ≤ (q : Int) ∧ (q : Int) < (nu : Int) := ⟨by omega, hlt'⟩;obtain ⟨ub, uo, z, rfl, hebl, hz, hzo, x0⟩ := (hU0.out.below hI.out.b).int hlt;have hzz := hws.out z (List.mem_of_getElem? hz);obtain ⟨a, rfl⟩ := Int.eq_ofNat_of_zero_le hzz.1;have ham : a < v.m := by omega
      have ham' : (a : Int) < (v.m : Int) := hzz.2.1;have ha0 : (0 : Int) ≤ (a : Int) := hzz.1;obtain ⟨ib, io, x, hxB, hib, hxi, -, i0, i1, i2, i3, i4⟩ := (hF0.out.below hI.out.b).is.item ham;have hva : vaZ f (a : Int) = x.va := by unfold vaZ; rw [Int.toNat_natCast, hxi]
      have hvr := hx.out.va x (List.mem_of_getElem? hxi);obtain ⟨b, hb0⟩ := Int.eq_ofNat_of_zero_le hvr.1;rw [hb0] at i3 hva hvr;have hbn : b < v.n := by omega
      have hbn' : 0 ≤ (b : Int) ∧ (b : Int) < (v.n : Int) := hvr;obtain ⟨Ar, mr, cr, r0, hRL, hgol⟩ := hR0.out b hbn;have r0' := (hI.out.b.cell (p := ⟨go, b, none⟩) hgol).trans r0;have hstep := lkA_take (f := f) (X := X) (kept := kept) hz;rw [hva] at hstep;obtain ⟨zs, hzs⟩ : ∃ l, l = rdsV f kept (b : Int) := ⟨_, rfl⟩;rw [← hzs] at hRL hstep;have hzl : mr ≤ 64 := by rw [← hRL.len, hzs]; exact Nat.le_trans (rdsV_len _) (by omega)
      have hzk : Hid (∀ z ∈ zs, (0 ≤ z ∧ z < (v.m : Int)) ∧ 0 ≤ fromZ f z) := Hd (fun z hz => by
        rw [hzs] at hz;unfold rdsV at hz;obtain ⟨h1, h2⟩ := List.mem_filter.1 hz;refine ⟨hk.out z h1, ?_⟩;unfold rdsP at h2;simp only [Bool.and_eq_true, decide_eq_true_eq] at h2;exact h2.1)
      obtain ⟨acc0, hacc0⟩ : ∃ l, l = lkA f X kept (wsl.take q) := ⟨_, rfl⟩;have hal0 : acc0.length ≤ 4096 := by rw [hacc0]; exact hlkl.out q
      rw [← hacc0] at hI hstep;have j1 := hI.out.k2.cell 1;have j4 := hI.out.k2.cell 4;simp only [gZ, gS] at j1 j4;rw [hxB] at j1;replace hRL := Hd hRL;replace hzs := Hd hzs;replace hacc0 := Hd hacc0;replace hxB := Hd hxB;replace hz := Hd hz;replace hxi := Hd hxi;replace hva := Hd hva;replace hstep := Hd hstep;clear hebl hib hzo hlt hzz i0 i1 i2 i4 hvr hb0 r0 hgol;go_wp2_with fail;clear x0;refine wpRp 13 [(true, 0), (true, 1), (true, 2), (true, 3), (true, 4), (true, 5), (true, 6), (true, 7), (true, 8), (true, 9), (true, 10), (true, 11), (true, 12)] (by kernel_rfl) (by kernel_rfl) (fun Z hZ => ?_);have hZ' : Below wr.heap.size wr Z := by rw [hZ.out]; exact (Below.refl _ _).drew
      replace hI := Hd (hI.out.later hZ');replace j1 : Z.cell? ⟨g2, 1, none⟩ = some (.slice (some ⟨ib, io, none⟩) v.m v.d) := by rw [hZ.out]; exact j1
      replace j4 : Z.cell? ⟨g2, 4, none⟩ = some (.slice (some ⟨go, 0, none⟩) v.n v.n) := by rw [hZ.out]; exact j4
      replace i3 : Z.cell? ⟨ib, io + a * 5 + 3, none⟩ = some (.int .i64 (b : Int)) := by rw [hZ.out]; exact i3
      replace r0' : Z.cell? ⟨go, b, none⟩ = some (.slice Ar mr cr) := by rw [hZ.out]; exact r0'
      clear hZ hZ';simp only [List.drop_succ_cons, List.drop_nil]
      iterate 13
        refine wpPf (v := ?_) rfl (by rfl) (fun w' hw' => ?_) (fun K hK => ?_);rotate_left
        · (go_simp; try with_reducible rfl)
        go_simp;refine hK _ ?_;clear hK K
      refine wpPn (NoPanic.normal ?_);clear j1 j4 i3 r0';go_wp2_with fail
      go_loopw [5, 32] (fun u t wr => ∃ j : Nat, j ≤ mr ∧ t = .int .i64 (j : Int) ∧ Hid (LkI w B2 g2 g3 B (.slice v.A v.n v.c) (.slice v.B v.m v.d) (.slice v.C v.k v.e) (.slice (some ⟨ub, uo, none⟩) nu cu) (.slice (some ⟨go, 0, none⟩) v.n v.n) v.m A c u (lkR f X acc0 (a : Int) (zs.take j)) (lkR f X acc0 (a : Int) (zs.take j)) wr)) (fun _ t _ => mr - (intOf t).toNat)
      case atStart => exact ⟨0, Nat.zero_le _, rfl, Hd (by rw [List.take_zero, lkR_nil]; exact hI.out)⟩
      case round =>
        clear hI;obtain ⟨j, hj, rfl, hI⟩ := hrel;by_cases hlj : j < mr
        · have hlj' : (j : Int) < (mr : Int) := by omega
          have hj0 : 0 ≤ (j : Int) ∧ (j : Int) < (mr : Int) := ⟨by omega, hlj'⟩;obtain ⟨eb, eo, z, rfl, hebl, hz, hzo, x0⟩ := (hRL.out.below hI.out.b).int hlj;obtain ⟨hzz, hzp0⟩ := hzk.out z (List.mem_of_getElem? hz);obtain ⟨r, rfl⟩ := Int.eq_ofNat_of_zero_le hzz.1;have hrm : r < v.m := by omega
          have hr0' : (0 : Int) ≤ (r : Int) := hzz.1;have hrk' : (r : Int) < (v.k : Int) := by rw [hfl.out]; exact hzz.2
          obtain ⟨cb, co, zf, hxC, hcb, hzf, hzfo, y0⟩ := (hF0.out.below hI.out.b).fs.int (show r < v.k by rw [hfl.out]; exact hrm);have hfz : fromZ f (r : Int) = zf := by unfold fromZ; rw [Int.toNat_natCast, getD_at hzf]
          have hzfl := hflt.out zf (List.mem_of_getElem? hzf);rw [hfz] at hzp0;have hst := lkR_take (f := f) (X := X) (acc := acc0) (a := (a : Int)) hz;obtain ⟨acc, hacc⟩ : ∃ l, l = lkR f X acc0 (a : Int) (zs.take j) := ⟨_, rfl⟩;have hal : acc.length ≤ 4160 := by rw [hacc]; exact Nat.le_trans (lkR_len _ _ _) (by rw [List.length_take]; omega)
          rw [← hacc] at hI hst;have p2 := hI.out.k2.cell 2;simp only [gZ, gS] at p2;rw [hxC] at p2;have ia : In18 (a : Int) := ⟨by omega, by omega⟩;have iz : In18 zf := ⟨by omega, by omega⟩;have ir : In18 (r : Int) := ⟨by omega, by omega⟩;obtain ⟨gp, hgp⟩ : ∃ g, g = wr.heap.size := ⟨_, rfl⟩;obtain ⟨W3, hW3⟩ : ∃ W, W = wr.alloc (.cells #[.int .i64 (a : Int), .int .i64 zf] 157) := ⟨_, rfl⟩;have b3 : Below wr.heap.size wr W3 := by rw [hW3]; exact bAl _ _
          have kp := Hd (show Blk W3 gp 157 [.int .i64 (a : Int), .int .i64 zf] from by rw [hW3, hgp]; exact Blk.new _ _ _);have hgpB := Hd (show gp ≠ B from by rw [hgp]; have := hI.out.z; omega);replace hI := Hd (hI.out.later b3);have m0 := hI.out.k3.cell 0;have m1 := hI.out.k3.cell 1;have q0 := kp.out.cell 0;have q1 := kp.out.cell 1;simp only [gZ, gS] at m0 m1 q0 q1;obtain ⟨bo, hbo⟩ : ∃ x, x = (decide ((a : Int) ≠ zf) && hasM X (a : Int) (r : Int) && !hasM X (a : Int) zf) := ⟨_, rfl⟩;have cWr := cW.out (a : Int) zf (r : Int) W3 (hr0.out.below hI.out.b) ia iz ir;rw [← hbo] at cWr;have hlk : Hid (lkW f X (a : Int) (r : Int) = bo) := Hd (by unfold lkW; rw [hfz, hbo]);replace cWr := Hd cWr;replace hbo := Hd hbo;replace hxC := Hd hxC;replace hz := Hd hz;replace hacc := Hd hacc;replace ia := Hd ia;replace iz := Hd iz;replace ir := Hd ir;have hfz' := Hd hfz;clear hebl hzo hcb hzf hzfo b3 hlj hfz hzz;go_wp2_with (rw [← hW3, ← hgp]; clear hW3 x0 y0 p2; replace hgp := Hd hgp);refine cWr.out.mono ?_; rintro e w4 ⟨rfl, b4⟩;have hI4 := Hd (hI.out.later b4);have kp4 := Hd (kp.out.below b4 kp.out.lt);clear b4 m0 m1 q0 q1 hI kp cWr;unfold lkO at hst;rw [hlk.out] at hst
          cases bo with
          | false =>
            rw [if_neg (by simp)] at hst;replace hst := Hd hst;go_wp2_with fail;exact ⟨⟨j + 1, by omega, by go_num, Hd (by rw [hst.out]; exact hI4.out)⟩, by simp [intOf]; omega⟩
          | true =>
            have q0 := kp4.out.cell 0;have q1 := kp4.out.cell 1;simp only [gZ, gS] at q0 q1;have hlook := hI4.out.fm.look ia.out iz.out;by_cases hin : ((a : Int), zf) ∈ edP acc
            · rw [decide_eq_true hin] at hlook
              rw [if_neg (fun h => h.2 (by rw [hfz'.out]; exact hin))] at hst;replace hst := Hd hst;replace hin := Hd hin;go_wp2_with fail;exact ⟨⟨j + 1, by omega, by go_num, Hd (by rw [hst.out]; exact hI4.out)⟩, by simp [intOf]; omega⟩
            · rw [decide_eq_false hin] at hlook
              rw [if_pos ⟨rfl, by rw [hfz'.out]; exact hin⟩, hfz'.out] at hst;replace hst := Hd hst;obtain ⟨D, hD, hDa⟩ := hI4.out.fm;have hkey := Hd (key18 ia.out iz.out);have hIs := World.ownsMap.isMap hD;have hput : Hid (∀ a' v', In18 a' → In18 v' → (D.put (keyP (a : Int) zf) (.lit (.bool true))).atKey (keyP a' v') (.lit (.bool false)) = .lit (.bool (decide ((a', v') ∈ edP (acc ++ [(⟨(a : Int), zf, (r : Int)⟩ : Ed)]))))) := Hd (fun a' v' h1 h2 => by
                have he : ((a', v') ∈ edP (acc ++ [(⟨(a : Int), zf, (r : Int)⟩ : Ed)])) ↔ ((a', v') ∈ edP acc ∨ (a' = (a : Int) ∧ v' = zf)) := by
                  unfold edP; rw [List.map_append, List.mem_append]; simp
                by_cases hav : a' = (a : Int) ∧ v' = zf
                · rw [decide_eq_true (he.2 (.inr hav)), hav.1, hav.2, atKey_put_same hIs (keyP_lit _ _)]
                · rw [atKey_put_other (keyP_ne h1 h2 ia.out iz.out hav), hDa a' v' h1 h2]
                  congr 2
                  rw [Bool.eq_iff_iff, decide_eq_true_eq, decide_eq_true_eq, he]
                  constructor
                  · exact .inl
                  · rintro (h | h)
                    · exact h
                    · exact absurd h hav)
              have hokn : Hid (Ed.Ok ⟨(a : Int), zf, (r : Int)⟩) := Hd ⟨by simp only; omega, by simp only; omega, by simp only; omega, by simp only; omega, by simp only; omega, by simp only; omega⟩;obtain ⟨kl, hkl⟩ : ∃ k, k = keyP (a : Int) zf := ⟨_, rfl⟩;rw [← hkl] at hkey hput;obtain ⟨L, hLl⟩ : ∃ n, n = acc.length := ⟨_, rfl⟩;have hLb : L ≤ 4160 := by omega
              rw [← hLl] at hD;replace hLl := Hd hLl;replace hkl := Hd hkl;replace hD := Hd hD;replace hin := Hd hin;clear hDa hIs;go_wp2_with (first
                | (at_mapUpdate
                   refine wpList_mapUpdate_own _ rfl _ _ _ 155 rfl 157 4 law18 Tryz.underlying155 _ B L D rfl hD.out (by unfold maxLen; omega) _ _ _ rfl rfl hkey.out _ [] (plainElem_bool Tryz.underlying4 true) ?_;intro w5 hD5 hg5;have hI5 := Hd (hI4.out.upd (am' := acc ++ [(⟨(a : Int), zf, (r : Int)⟩ : Ed)]) hg5 ⟨_, by rw [List.length_append, ← hLl.out]; exact hD5, hput.out⟩);have kp5 := kp4.out.grown hg5 (fun e => hgpB.out (by injection e));clear q0 q1 hlook;have q0 := kp5.cell 0;have q1 := kp5.cell 1;simp only [gZ, gS] at q0 q1;obtain ⟨gl, hgl⟩ : ∃ g, g = w5.heap.size := ⟨_, rfl⟩;obtain ⟨VL, hVL⟩ : ∃ W, W = World.alloc w5 (.cells #[.int .i64 (a : Int), .int .i64 zf, .int .i64 (r : Int)] 84) := ⟨_, rfl⟩;have bL : Below w5.heap.size w5 VL := by rw [hVL]; exact (Below.refl _ _).alloc (Nat.le_refl _) _
                   have hlit := Hd (show LAt encE VL (some ⟨gl, 0, none⟩) 1 [⟨(a : Int), zf, (r : Int)⟩] from by rw [hVL, hgl]; exact LAt.lit1 (E := encE) w5 84 ⟨(a : Int), zf, (r : Int)⟩ hokn.out);have hI6 := Hd (hI5.out.later bL);have hownL := Hd (show VL.ownsRow B2 84 3 _ L (encE.all acc) from by rw [hLl.out]; exact hI6.out.o);clear bL hD5 hg5 kp5 hI5)
                | (rw [← hVL, ← hgl]; clear hVL hgl q0 q1)
                | (at_builtin
                   refine wpAL (E := encE) rfl (.tmp 56) (.tmp 63) _ rfl B2 84 i0' _ 24 Tryz.underlying79 hi.out hz0.out hz1.out hz2.out rfl _ L acc (by rfl) hownL.out _ 1 1 _ rfl hlit.out (by unfold maxLen; omega) (by omega) hI6.out.z.2.2.2.2.2.1 ?_;intro v' w7 hown' hb7 hg7 hob7;have hI7 := Hd (hI6.out.app hb7 hg7 (ao' := acc ++ [(⟨(a : Int), zf, (r : Int)⟩ : Ed)]) (by rw [List.length_append, ← hLl.out]; exact hown'));clear hown' hb7 hg7 hob7))
              exact ⟨⟨j + 1, by omega, by go_num, Hd (by rw [hst.out]; exact hI7.out)⟩, by simp [intOf]; omega⟩
        · obtain rfl : j = mr := by omega
          have hlj' : ¬ (j : Int) < (j : Int) := by omega
          have hall : zs.take j = zs := List.take_of_length_le (by rw [hRL.out.len]; exact Nat.le_refl _);rw [hall] at hI;clear hlj hall;go_wp2_with fail;exact ⟨⟨q + 1, by omega, by go_num, Hd (by rw [hstep.out]; exact hI.out)⟩, by simp [intOf]; omega⟩
    · obtain rfl : q = nu := by omega
      have hlt' : ¬ (q : Int) < (q : Int) := by omega
      have hall : wsl.take q = wsl := List.take_of_length_le (by rw [hUl.out]; exact Nat.le_refl _);have hacl := hlkl.out q;rw [hall] at hI hacl;obtain ⟨acc, hacc⟩ : ∃ l, l = lkA f X kept wsl := ⟨_, rfl⟩;rw [← hacc] at hI hacl hperm;replace hacc := Hd hacc;have hokA : ∀ x ∈ acc, Ed.Ok x := fun x hx => hokE.out x (hperm.out.subset hx);obtain ⟨A5, c5, rfl, h51, h52, -⟩ := LAt.of_own (E := encE) hI.out.o hokA rfl;obtain ⟨L, hL⟩ : ∃ n, n = acc.length := ⟨_, rfl⟩;have hown := Hd hI.out.o;rw [← hL] at hown hacl h51 ⊢;replace hL := Hd hL;rcases hown.out.2 with ⟨h1, h2⟩ | ⟨g, cap, cur, h1, h2, h3, -⟩
      · injection h1 with e1 e2 e3
        subst e1; subst e3;have hnil : Hid (newF f X kept = []) := Hd (by
          have h := hperm.out.length_eq;rw [← hL.out, h2] at h;exact List.eq_nil_of_length_eq_zero h.symm)
        subst h2;have cS := AnyF.slices_SortFunc_none Tryz.sortEd none 0 (.func (.func 138) #[] #[]) wr
        change Calls Tryz.prog 137 _ _ _ at cS
        replace cS := Hd cS;clear hlt e2 hokA;go_wp2_with fail;refine cS.out.mono ?_; rintro e w6 ⟨rfl, rfl⟩;go_wp2_with fail;go_ret;exact ⟨none, 0, 0, rfl, by rw [hnil.out]; exact LAt.nil _ _ _, Nat.le_refl _, by omega, hI.out.b, fun ad e => by cases e⟩
      · injection h1 with e1 e2 e3
        subst e1; subst e3;have cS := Hd (sort_edges B2 g L c5 acc wr hown.out hL.out.symm hokA (by omega));clear hlt e2 hokA h3;go_wp2_with fail;refine cS.out.mono ?_; rintro e w6 ⟨rfl, l', hp, hs, hL', hg⟩;obtain rfl := lk_sorted hperm.out hp hs;have hb6 := Hd (show Below w.heap.size w w6 from by
          obtain ⟨z1, z2, z3, z4, z5, z6, z7, z8, z9⟩ := hI.out.z;exact ⟨hg.os.trans hI.out.b.os, hg.tape.trans hI.out.b.tape, hg.output.trans hI.out.b.output, Nat.le_trans hI.out.b.size hg.size, fun k hk => (hg.block k (Nat.lt_of_lt_of_le hk hI.out.b.size) (fun e => by injection e with e; omega)).trans (hI.out.b.block k hk)⟩)
        have hfre := Hd (show w.heap.size ≤ g from by have := hI.out.z; omega);replace hL' := Hd hL';clear hp hs hg;go_wp2_with fail;go_ret;exact ⟨some ⟨g, 0, none⟩, L, c5, rfl, hL'.out, h51, h52, hb6.out, fun ad e => by injection e with e; subst e; exact hfre.out⟩

def andR (a b : List Nat) : List Nat := (List.range a.length).map fun j => a.getD j 0 &&& b.getD j 0
def andK (N : Nat) (a b : List Nat) (k : Nat) : List Nat := (List.range N).map fun j => if j < k then a.getD j 0 &&& b.getD j 0 else 0
theorem andR_len (a b : List Nat) : (andR a b).length = a.length := by simp [andR]
theorem andK_len (N : Nat) (a b : List Nat) (k : Nat) : (andK N a b k).length = N := by simp [andK]
theorem andK_zero (N : Nat) (a b : List Nat) : andK N a b 0 = List.replicate N 0 := by
 unfold andK; apply List.ext_getElem (by simp); intro i _ _; simp
theorem andK_get (N : Nat) (a b : List Nat) (k : Nat) (h : k < N) : (andK N a b k)[k]? = some 0 := by
 unfold andK; rw [List.getElem?_map, List.getElem?_range h]; simp
theorem andK_set (N : Nat) (a b : List Nat) (k : Nat) : (andK N a b k).set k (a.getD k 0 &&& b.getD k 0) = andK N a b (k + 1) := by
 apply List.ext_getElem?
 intro j;rw [List.getElem?_set, andK_len];by_cases hj : j < N
 ·unfold andK
  rw [List.getElem?_map, List.getElem?_map, List.getElem?_range hj, Option.map_some, Option.map_some];by_cases hk : k = j
  ·subst hk
   rw [if_pos rfl, if_pos hj, if_pos (by omega)]
  ·rw [if_neg hk]
   by_cases h1 : j < k
   ·rw [if_pos h1, if_pos (by omega)]
   ·rw [if_neg h1, if_neg (by omega)]
 ·rw [List.getElem?_eq_none (l := andK N a b (k + 1)) (by rw [andK_len]; omega), List.getElem?_eq_none (l := andK N a b k) (by rw [andK_len]; omega)]
  split
  ·rename_i h
   rw [if_neg (by omega)]
  ·rfl
theorem andK_all (a b : List Nat) : andK a.length a b a.length = andR a b := by
 unfold andK andR
 apply List.map_congr_left
 intro j hj;rw [if_pos (List.mem_range.1 hj)]
theorem andR_w64 {a b : List Nat} (ha : W64 a) : W64 (andR a b) := by
 intro x hx;obtain ⟨j, _, rfl⟩ := List.mem_map.1 hx;exact Nat.lt_of_le_of_lt Nat.and_le_left (getD_w64 ha j)
theorem hasR_andR {a b : List Nat} (j : Nat) : hasR (andR a b) (j : Int) = (hasR a (j : Int) && hasR b (j : Int)) := by
 rw [hasR_nat, hasR_nat, hasR_nat];by_cases hk : j / 64 < a.length
 ·have h1 : (andR a b)[j / 64]? = some (a.getD (j / 64) 0 &&& b.getD (j / 64) 0) := by
   unfold andR; rw [List.getElem?_map, List.getElem?_range hk]; rfl
  rw [getD_at h1, Nat.testBit_and]
 ·rw [getD_out a _ (by omega), getD_out (andR a b) _ (by rw [andR_len]; omega), Nat.zero_testBit, Bool.false_and]

def ChosenR (n N : Nat) (l : List Int) (xs : List Nat) : Prop := xs.length = N ∧ W64 xs ∧ ∀ j : Nat, hasR xs (j : Int) = (decide (j < n) && decide ((j : Int) ∈ l))
theorem ChosenR.start (n N : Nat) : ChosenR n N [] (List.replicate N 0) := ⟨by simp, fun x hx => by rw [(List.mem_replicate.1 hx).2]; omega, fun j => by rw [hasR_zeros]; simp⟩
theorem ChosenR.skip {n N : Nat} {l : List Int} {xs : List Nat} (h : ChosenR n N l xs) {x : Int} (hx : belowZ x n = false) : ChosenR n N (l ++ [x]) xs := ⟨h.1, h.2.1, fun j => by
 rw [h.2.2 j];by_cases hj : j < n
 ·have hne : ¬ (j : Int) = x := by
   intro e;rw [← e, belowZ_yes (by omega) (by omega)] at hx; cases hx
  simp [hj, hne]
 ·simp [hj]⟩
theorem ChosenR.put {n N : Nat} {l : List Int} {xs : List Nat} (h : ChosenR n N l xs) {p : Nat} (hp : p < n) (hn : n ≤ 64 * N) : ChosenR n N (l ++ [(p : Int)]) (setR xs (p : Int)) := ⟨by rw [setR_len]; exact h.1, setR_w64 h.2.1 p, fun j => by
 rw [hasR_setR xs p j (by rw [h.1]; omega), h.2.2 j];by_cases hj : j = p
 ·subst hj
  simp [hp]
 ·have : ¬ (j : Int) = (p : Int) := by omega
  simp [hj, this]⟩
def RetChosen (n N : Nat) (l : List Int) (w : World) (e : Ending) (w' : World) : Prop := ∃ g xs, e = .returned (.slice (some ⟨g, 0, none⟩) N N) ∧ Row w' (some ⟨g, 0, none⟩) N xs ∧ ChosenR n N l xs ∧ g < w'.heap.size ∧ Below w.heap.size w w'
theorem hull_chosen (L : Option Addr) (m d n : Nat) (zs : List Int) (w : World) (hz : Ints w L m zs) (hm : m ≤ 1073741824) (hn : n ≤ 4096) :
  Calls Tryz.prog 134 #[.slice L m d, .int .i64 (n : Int)] w (RetChosen n (wordsN (n : Int)) zs w) := by
 have hw := Hd (wordsZ_N (n : Int));obtain ⟨N, hN⟩ : ∃ N, N = wordsN (n : Int) := ⟨_, rfl⟩;have hN64 : N ≤ 64 := by rw [hN]; exact words_le hn
 have hnN : n ≤ 64 * N := by
  rcases Nat.eq_zero_or_pos n with h0 | h0
  ·omega
  ·rw [hN]; exact (words_pos h0).2
 rw [← hN] at hw ⊢;have hmk := mk_u64 .i64 .i64 N N (Nat.le_refl _) (by omega);have hlen := Hd hz.len;obtain ⟨W1, hW1⟩ : ∃ W1, W1 = w.alloc (.cells (zeros N (.int .u64 0)) 89) := ⟨_, rfl⟩;have hb1 := Hd (show Below w.heap.size w W1 by rw [hW1]; exact bAl _ _);have hown := Hd (show W1.ownsRow w.heap.size 89 1 (.slice (some ⟨w.heap.size, 0, none⟩) N N) N ((List.replicate N 0).map u64v) by
  rw [hW1]; simpa [u64v] using own_zeros w N (.int .u64 0) 89 (by unfold maxLen; omega))
 replace hz := Hd hz;replace hN := Hd hN
 go_enter Tryz.func134, Tryz.ntmps134
 go_wp2_with fail;refine (row_Words _ (by omega) (by omega) _).mono ?_; rintro e w' ⟨rfl, rfl⟩;rw [hw.out];go_wp2_with fail;rw [← hW1];clear hW1 hmk
 go_loopw [15] (fun t wr => ∃ (q : Nat) (xs : List Nat), q ≤ m ∧ t = .int .i64 q ∧ Hid (wr.ownsRow w.heap.size 89 1 (.slice (some ⟨w.heap.size, 0, none⟩) N N) N (xs.map u64v)) ∧ Hid (ChosenR n N (zs.take q) xs) ∧ Hid (Below w.heap.size w wr)) (fun t _ => m - (intOf t).toNat)
 case atStart => exact ⟨0, _, Nat.zero_le _, rfl, hown, Hd (ChosenR.start n N), hb1⟩
 case round =>
  clear hown hb1;obtain ⟨q, xs, hq, rfl, hown, hC, hbel⟩ := hrel;by_cases hlt : q < m
  ·obtain ⟨b, off, x, rfl, hbl, hx, hx64, hc⟩ := (hz.out.below hbel.out).at_ hlt
   have htake : zs.take (q + 1) = zs.take q ++ [x] := by
    rw [List.take_succ_eq_append_getElem (List.getElem?_eq_some_iff.1 hx).1, (List.getElem?_eq_some_iff.1 hx).2]
   have hB := Hd (hull_below x (n : Int) hx64.1 hx64.2 (by omega) (by omega) wr);have hq0 : (0 : Int) ≤ (q : Int) := by omega
   have hqm : (q : Int) < (m : Int) := by omega
   clear hx
   cases hbz : belowZ x (n : Int) with
   | false =>
    have hC2 := Hd (hC.out.skip hbz);rw [← htake] at hC2;clear htake;go_wp2_with fail;refine hB.out.mono ?_; rintro e w' ⟨rfl, rfl⟩;rw [hbz];clear hbz;go_wp2_with fail
    go_roundw
    case rel => exact ⟨q + 1, xs, by omega, by go_num, hown, hC2, hbel⟩
    case measure => simp [intOf]; omega
   | true =>
    have hbz' := hbz;unfold belowZ at hbz';simp only [Bool.and_eq_true, decide_eq_true_eq] at hbz';obtain ⟨p, rfl⟩ := Int.eq_ofNat_of_zero_le hbz'.1;have hpn : p < n := by omega
    have hC2 := hC.out.put hpn hnN;rw [← htake] at hC2;have hxl : xs.length = N := hC.out.1;obtain ⟨y, hy⟩ : ∃ y, xs[p / 64]? = some y := ⟨_, List.getElem?_eq_getElem (by omega)⟩;have hy64 : y < 18446744073709551616 := hC.out.2.1 y (List.mem_of_getElem? hy);rw [setR_in (by omega) hy] at hC2;have hP := Hd (hull_place p (by omega) wr);have hE := Hd (u64_or_nat y (p2 (p % 64)) hy64 (by have := p2_lt (p % 64) (by omega); omega));have hcy : wr.cell? ⟨w.heap.size, p / 64, none⟩ = some (.int .u64 (y : Int)) := by
     rw [hown.out.cellAt _ (by omega), List.getElem?_map, hy]; rfl
    have hfy := hown.out.frozenAt (p / 64);have hpp0 : (0 : Int) ≤ ((p / 64 : Nat) : Int) := by omega
    have hppm : ((p / 64 : Nat) : Int) < (N : Int) := by omega
    have hpp1 : (((p / 64 : Nat) : Int)).toNat = p / 64 := by omega
    replace hC2 := Hd hC2;clear htake hbz' hy hxl hy64;go_wp2_with fail;refine hB.out.mono ?_; rintro e w' ⟨rfl, rfl⟩;rw [hbz];clear hbz;go_wp2_with fail;refine hP.out.mono ?_; rintro e w' ⟨rfl, rfl⟩;go_wp2_with fail;rw [hE.out]
    go_roundw
    case rel =>
     refine ⟨q + 1, _, by omega, by go_num, Hd ?_, hC2, Hd (hbel.out.setCell (by simp) _)⟩;rw [List.map_set];exact (hown.out.stored _ _).1
    case measure => simp [intOf]; omega
  ·obtain rfl : q = m := by omega
   rw [List.take_of_length_le (by rw [hlen.out]; exact Nat.le_refl _)] at hC;go_wp2_with fail;go_ret;exact ⟨_, xs, rfl, Row.of_own hown.out hC.out.2.1, hC.out, (hown.out.lt _ rfl).2, hbel.out⟩
theorem hull_keep (g base n c d e' : Nat) (B M : Option Addr) (ys zs : List Nat) (w : World) (hown : w.ownsRow base 89 1 (.slice (some ⟨g, 0, none⟩) n c) n ((List.replicate n 0).map u64v)) (hs : Row w B n ys) (hz : Row w M n zs)
  (h1 : ∀ ad, B = some ad → ad.block ≠ g) (h2 : ∀ ad, M = some ad → ad.block ≠ g) (hn : n ≤ 1073741824) :
  Calls Tryz.prog 135 #[.slice (some ⟨g, 0, none⟩) n c, .slice B n d, .slice M n e'] w (RetJoinIn g base n c (andR ys zs) w) := by
 have hl := hs.len;have hall : andK n ys zs n = andR ys zs := by rw [← hl]; exact andK_all ys zs
 replace hall := Hd hall;replace hl := Hd hl;have hrow := Hd (fun W (ho : OnlyAt g w W) => hs.only ho h1);have hmask := Hd (fun W (ho : OnlyAt g w W) => hz.only ho h2);replace hown := Hd hown;clear hs hz h1 h2
 go_enter Tryz.func135, Tryz.ntmps135
 go_wp2_with fail
 go_loopw [10] (fun i wr => ∃ k : Nat, k ≤ n ∧ i = .int .i64 k ∧ Hid (wr.ownsRow base 89 1 (.slice (some ⟨g, 0, none⟩) n c) n ((andK n ys zs k).map u64v)) ∧ Hid (OnlyAt g w wr)) (fun i _ => n - (intOf i).toNat)
 case atStart => exact ⟨0, Nat.zero_le _, rfl, Hd (by rw [andK_zero]; exact hown.out), Hd (OnlyAt.refl _ _)⟩
 case round =>
  obtain ⟨k, hk, rfl, hownr, hor⟩ := hrel;clear hown;by_cases hlt : k < n
  ·obtain ⟨b, off, y, rfl, hbk, hy, hy64, hc⟩ := (hrow.out wr hor.out).at_ hlt
   obtain ⟨b2, off2, z, rfl, hbk2, hz, hz64, hc2⟩ := (hmask.out wr hor.out).at_ hlt;have hcg : wr.cell? ⟨g, k, none⟩ = some (.int .u64 0) := by
    rw [hownr.out.cellAt _ (by omega), List.getElem?_map, andK_get n ys zs k hlt]; rfl
   have hand : y &&& z < 18446744073709551616 := Nat.lt_of_le_of_lt Nat.and_le_left hy64;have hE := u64_and_nat y z hy64 hz64;have hE2 := u64_or_nat 0 (y &&& z) (by omega) hand;rw [Nat.zero_or] at hE2;replace hE := Hd hE;replace hE2 := Hd hE2;have hst := andK_set n ys zs k;rw [Row.get hy, Row.get hz] at hst;replace hst := Hd hst;have hk0 : (0 : Int) ≤ (k : Int) := by omega
   have hkn : (k : Int) < (n : Int) := by omega
   clear hy hz hand;go_wp2_with fail;refine wpRp 12 [(true, 0), (true, 1), (true, 2), (true, 3), (true, 4), (true, 5), (true, 6), (true, 7), (true, 8), (true, 9), (true, 10), (true, 11)] (by kernel_rfl) (by kernel_rfl) (fun W hW => ?_);have hownW := Hd (show W.ownsRow base 89 1 (.slice (some ⟨g, 0, none⟩) n c) n ((andK n ys zs k).map u64v) by rw [hW.out]; exact hownr.out.drew);have hoW := Hd (show OnlyAt g w W by rw [hW.out]; exact hor.out.drewN 1);replace hcg : W.cell? ⟨g, k, none⟩ = some (.int .u64 0) := by rw [hW.out]; exact hcg
   replace hc2 : W.cell? ⟨b2, off2 + k, none⟩ = some (.int .u64 (z : Int)) := by rw [hW.out]; exact hc2
   have hf := hownW.out.frozenAt k;clear hW hownr hor hc;simp only [List.drop_succ_cons, List.drop_zero]
   iterate 12
    refine wpPf (v := ?_) rfl (by rfl) (fun w' hw' => ?_) (fun K hK => ?_);rotate_left
    ·(go_simp; try with_reducible rfl)
    go_simp;refine hK _ ?_;clear hK K
   rw [hE.out];refine wpPn ?_;go_wp2_with fail;refine NoPanic.normal ?_;go_wp2_with fail
   go_roundw
   case rel =>
    refine ⟨k + 1, by omega, by go_num, Hd ?_, Hd (hoW.out.set k _)⟩;rw [← hst.out, List.map_set];have h := hE2.out;rw [show ((0 : Nat) : Int) = 0 from rfl] at h;rw [h];exact (hownW.out.stored _ _).1
   case measure => simp [intOf]; omega
  ·obtain rfl : k = n := by omega
   go_wp2_with fail
   go_end0
   exact ⟨rfl, by rw [← hall.out]; exact hownr.out, hor.out⟩

def withRow (inn : List Nat) (i : Nat) (r : List Nat) : List Nat := if hasR inn (i : Int) = true then andR r inn else List.replicate r.length 0
def withPre (a : List (List Nat)) (inn : List Nat) (k : Nat) : List (List Nat) := (List.range k).map fun i => withRow inn i (a.getD i [])
theorem withPre_len (a : List (List Nat)) (inn : List Nat) (k : Nat) : (withPre a inn k).length = k := by simp [withPre]
theorem withPre_succ {a : List (List Nat)} {inn : List Nat} {k : Nat} {r : List Nat} (h : a[k]? = some r) : withPre a inn (k + 1) = withPre a inn k ++ [withRow inn k r] := by
 unfold withPre; rw [List.range_succ, List.map_append, List.map_singleton, getD_at h]
theorem withPre_get {a : List (List Nat)} {inn : List Nat} {k i : Nat} {r : List Nat} (h : a[i]? = some r) (hi : i < k) : (withPre a inn k)[i]? = some (withRow inn i r) := by
 unfold withPre; rw [List.getElem?_map, List.getElem?_range hi, Option.map_some, getD_at h]
theorem withRow_facts {n : Nat} {a : List (List Nat)} (hG : Good n a) {N : Nat} {l : List Int} {inn : List Nat} (hC : ChosenR n N l inn) {i : Nat} {r : List Nat} (hr : a[i]? = some r) :
  W64 (withRow inn i r) ∧ (withRow inn i r).length = r.length ∧ ∀ y : Nat, hasR (withRow inn i r) (y : Int) = (hasR r (y : Int) && (decide (i < n) && decide ((i : Int) ∈ l)) && (decide (y < n) && decide ((y : Int) ∈ l))) := by
 have h1 := hG.row r (List.mem_of_getElem? hr);unfold withRow;rw [hC.2.2 i]
 cases h : decide (i < n) && decide ((i : Int) ∈ l) with
 | true =>
  rw [if_pos rfl];exact ⟨andR_w64 h1.1, andR_len _ _, fun y => by rw [hasR_andR, hC.2.2 y, Bool.and_true]⟩
 | false =>
  rw [if_neg (by simp)];exact ⟨fun x hx => by rw [(List.mem_replicate.1 hx).2]; omega, by simp, fun y => by rw [hasR_zeros]; simp⟩
theorem withPre_all {n : Nat} {a : List (List Nat)} (hG : Good n a) {N : Nat} {l : List Int} {inn : List Nat} (hC : ChosenR n N l inn) : withPre a inn n = withinM n a l := by
 have hw := within_facts hG l;have hg : Good n (withPre a inn n) := by
  refine ⟨hG.le, withPre_len _ _ _, fun r hr => ?_⟩;obtain ⟨i, hi⟩ := List.getElem?_of_mem hr;have hin : i < n := by have := (List.getElem?_eq_some_iff.1 hi).1; rwa [withPre_len] at this
  obtain ⟨s, hs, _, _⟩ := hG.at_ hin;rw [withPre_get hs hin] at hi;injection hi with hi;subst hi;obtain ⟨h1, h2, h3⟩ := withRow_facts hG hC hs;have h0 := hG.row s (List.mem_of_getElem? hs);exact ⟨h1, by rw [h2]; exact h0.2.1, by rw [h2]; exact h0.2.2.1, fun y hy => by rw [h3 y, h0.2.2.2 y hy]; simp⟩
 refine rel_ext hg hw.1 (fun x y => ?_);rw [hw.2];by_cases hx : x < n
 ·obtain ⟨s, hs, _, _⟩ := hG.at_ hx
  obtain ⟨_, _, h3⟩ := withRow_facts hG hC hs;unfold Rel;rw [hasM_in (withPre_get hs hx), h3 y, hasM_in hs];simp only [Bool.and_eq_true, decide_eq_true_eq]
  constructor
  ·rintro ⟨⟨h1, _, h2⟩, _, h4⟩
   exact ⟨h1, h2, h4⟩
  ·rintro ⟨h1, h2, h4⟩
   have hr : Rel a x y := by unfold Rel; rw [hasM_in hs]; exact h1
   exact ⟨⟨h1, hx, h2⟩, (hG.has_lt hr).2, h4⟩
 ·constructor
  ·intro h; exact absurd (hg.has_lt h).1 hx
  ·rintro ⟨h, _⟩; exact absurd (hG.has_lt h).1 hx
structure WithI (w : World) (n : Nat) (A : Option Addr) (c G gi N : Nat) (inn : List Nat) (vs : List Value) (xss : List (List Nat)) (wr : World) : Prop where
 own : wr.ownsRow G 88 1 (.slice (some ⟨G, 0, none⟩) n n) n (filled vs n)
 rows : OwnRows 89 wr (G + 1) vs xss
 mat : MatB wr w.heap.size 57 n A n c
 res : MatB wr (w.heap.size + 1) 57 0 none 0 0
 inr : Row wr (some ⟨gi, 0, none⟩) N inn
 bel : Below w.heap.size w wr
 big : w.heap.size + 1 < G ∧ G + 1 ≤ wr.heap.size ∧ gi < G
theorem hull_Within (A L : Option Addr) (n c m d : Nat) (a : List (List Nat)) (zs : List Int) (w : World) (hr : RowsAt w A n a) (hG : Good n a) (hz : Ints w L m zs) (hm : m ≤ 1073741824) :
    Calls Tryz.prog 119 #[.agg #[.int .i64 (n : Int), .slice A n c], .slice L m d] w (RetMat1 (n : Int) (withinM n a zs) w) := by
  have hnn : n ≤ 4096 := hG.le;have hal := Hd hG.len;have hmk := mk_rows .i64 .i64 n n (Nat.le_refl _) (by omega);obtain ⟨N, hN⟩ : ∃ N, N = wordsN (n : Int) := ⟨_, rfl⟩;have hN64 : N ≤ 64 := by rw [hN]; exact words_le hnn
  have hrl : ∀ r ∈ a, r.length = N := fun r hr => by rw [(hG.row r hr).2.2.1, hN]; rfl
  have hNp : 0 < n → 0 < N := fun h0 => by rw [hN]; exact (words_pos h0).1
  obtain ⟨W0, hW0⟩ : ∃ W0, W0 = (w.alloc (.cells #[.int .i64 n, .slice A n c] 57)).alloc (.cells #[.int .i64 0, .slice none 0 0] 57) := ⟨_, rfl⟩;have bb := show Below w.heap.size w W0 by rw [hW0]; exact ((Below.refl _ _).alloc (Nat.le_refl _) _).alloc (by simp) _
  have m1 := show MatB W0 w.heap.size 57 n A n c by rw [hW0]; exact (MatB.new w _).below_ (bAl _ _)
  have m2 := show MatB W0 (w.heap.size + 1) 57 0 none 0 0 by rw [hW0]; exact MatB.new1 w _ _
  have cC := hull_chosen L m d n zs W0 (hz.below bb) hm hnn;rw [← hN] at cC;have q0 := m1.c0;have q1 := m1.c1;replace cC := Hd cC;replace bb := Hd bb;replace m1 := Hd m1;replace m2 := Hd m2;replace hG := Hd hG;replace hr := Hd hr;replace hrl := Hd hrl;replace hNp := Hd hNp;replace hN := Hd hN;clear hz
  go_enter Tryz.func119, Tryz.ntmps119
  go_wp2_with fail;rw [← hW0];clear hW0;go_wp2_with fail;refine cC.out.mono ?_; rintro e w1 ⟨gi, inn, rfl, hin, hCh, hgi, b⟩;replace m1 := Hd (m1.out.below b);replace m2 := Hd (m2.out.below b);replace bb := Hd (bT2 bb.out b);have hlt2 := m2.out.lt;obtain ⟨W2, hW2⟩ : ∃ W, W = w1.alloc (.cells (zeros n (.slice none 0 0)) 88) := ⟨_, rfl⟩;obtain ⟨G, hGG⟩ : ∃ G, G = w1.heap.size := ⟨_, rfl⟩;have ba : Below w1.heap.size w1 W2 := by rw [hW2]; exact bAl _ _
  have hI : Hid (WithI w n A c G gi N inn [] [] W2) := Hd
    { own := by
        have h := own_zeros w1 n (.slice none 0 0) 88 (by unfold maxLen; omega);rw [← hW2, ← hGG] at h;rw [filled_nil]; exact h
      rows := OwnRows.nil _ _ _
      mat := m1.out.below ba
      res := m2.out.below ba
      inr := hin.below ba
      bel := bT2 bb.out ba
      big := ⟨by omega, by rw [hW2, hGG]; simp, by omega⟩ }
  have q0 := m1.out.c0;have q1 := m1.out.c1;have r1 := (m1.out.below ba).c1;rw [hW2] at r1;replace hCh := Hd hCh;clear hin b cC hgi hlt2 ba m1 m2 bb;go_wp2_with fail;rw [← hW2, ← hGG];clear hmk q0 q1 r1 hW2 hGG
  go_loopw [19] (fun t wr => ∃ vs : List Value, vs.length ≤ n ∧ t = .int .i64 vs.length ∧ Hid (WithI w n A c G gi N inn vs (withPre a inn vs.length) wr)) (fun t _ => n - (intOf t).toNat)
  case atStart => exact ⟨[], Nat.zero_le _, rfl, hI⟩
  case round =>
    clear hI;obtain ⟨vs, hk, rfl, hI⟩ := hrel;obtain ⟨k, hke⟩ : ∃ k, k = vs.length := ⟨_, rfl⟩;rw [← hke] at hk;rw [← hke];rw [← hke] at hI;by_cases hlt : k < n
    · have hke' := Hd hke
      clear hke;obtain ⟨b, off, B', m', d', r, rfl, hbl, hx, hc, hrr⟩ := hr.out.at_ hlt;have hm' : m' = N := by have := hrr.len; have := hrl.out r (List.mem_of_getElem? hx); omega
      subst hm';have hN0 := hNp.out (by omega);have hcc : wr.cell? ⟨b, off + k, none⟩ = some (.slice B' m' d') := (hI.out.bel.cell (p := ⟨b, off + k, none⟩) hbl).trans hc;obtain ⟨b5, o5, _, rfl, hb5, _, _, _⟩ := hrr.at_ hN0;have hmk := mk_u64 .i64 .i64 m' m' (Nat.le_refl _) (by omega) wr;obtain ⟨W3, hW3⟩ : ∃ W, W = wr.alloc (.cells (zeros m' (.int .u64 0)) 89) := ⟨_, rfl⟩;obtain ⟨g, hgg⟩ : ∃ g, g = wr.heap.size := ⟨_, rfl⟩;have b3 : Below wr.heap.size wr W3 := by rw [hW3]; exact bAl _ _
      have hown0 : W3.ownsRow wr.heap.size 89 1 (.slice (some ⟨g, 0, none⟩) m' m') m' ((List.replicate m' 0).map u64v) := by
        rw [hW3, hgg]; simpa [u64v] using own_zeros wr m' (.int .u64 0) 89 (by unfold maxLen; omega)
      have hget := filled_get (vs := vs) (n := n) (by rw [← hke'.out]; exact hlt);have hown3 := oBl hI.out.own b3;have hcg := hown3.cellAt k (by omega);rw [hke'.out, hget, ← hke'.out] at hcg;have hfg := hown3.frozenAt k;have hrows3 := hI.out.rows.snoc b3 hown0 (xs := List.replicate m' 0) (fun x hx => by rw [(List.mem_replicate.1 hx).2]; omega) hI.out.big.2.1;have hgG : G < g := by have := hI.out.big.2.1; omega
      obtain ⟨W4, hW4⟩ : ∃ W, W = W3.setCell ⟨G, k, none⟩ (.slice (some ⟨g, 0, none⟩) m' m') := ⟨_, rfl⟩;have hI4 : Hid (WithI w n (some ⟨b, off, none⟩) c G gi m' inn (vs ++ [.slice (some ⟨g, 0, none⟩) m' m']) (withPre a inn k ++ [List.replicate m' 0]) W4) := Hd
        { own := by
            rw [hW4, ← filled_set (by rw [← hke'.out]; exact hlt), ← hke'.out];exact (hown3.stored k _).1
          rows := by rw [hW4]; exact hrows3.far (p := ⟨G, k, none⟩) (by simp) _
          mat := by rw [hW4]; exact Blk.far (hI.out.mat.below b3) (by have := hI.out.big; simp; omega) _
          res := by rw [hW4]; exact Blk.far (hI.out.res.below b3) (by have := hI.out.big; simp; omega) _
          inr := by rw [hW4]; exact (hI.out.inr.below b3).setCell (p := ⟨G, k, none⟩) (fun ad e => by
            injection e with e;subst e;have := hI.out.big
            simp; omega) _
          bel := by rw [hW4]; exact (bT2 hI.out.bel b3).setCell (by have := hI.out.big; simp; omega) _
          big := ⟨hI.out.big.1, by rw [hW4, hW3]; have := hI.out.big.2.1; simp; omega, hI.out.big.2.2⟩ }
      have hown4 : Hid (W4.ownsRow (G + 1) 89 1 (.slice (some ⟨g, 0, none⟩) m' m') m' ((List.replicate m' 0).map u64v)) := Hd (by
        rw [hW4];exact own_base (own_far hown0 (p := ⟨G, k, none⟩) (by simp [Value.ownBlock]; omega) _) hI.out.big.2.1)
      have hrow4 : Hid (Row W4 (some ⟨b5, o5, none⟩) m' r) := Hd (hrr.below hI4.out.bel);have hH := Hd (row_Has (some ⟨gi, 0, none⟩) m' m' inn (k : Int) W4 hI4.out.inr (by omega) (by omega) (by omega));have hgb : w.heap.size < g := by have := hI.out.big; omega
      have hgi : gi < g := by have := hI.out.big; omega
      have hstep : Hid (withPre a inn (k + 1) = withPre a inn k ++ [withRow inn k r]) := Hd (withPre_succ hx);have hrl' : r.length = m' := hrr.len;have hr64 := Hd (hrr.2);have hk0 : (0 : Int) ≤ (k : Int) := by omega
      have hkn : (k : Int) < (n : Int) := by omega
      have hw4c : Hid (W4.cell? ⟨G, k, none⟩ = some (.slice (some ⟨g, 0, none⟩) m' m')) := Hd (by
        rw [hI4.out.own.cellAt k (by omega)];unfold filled;rw [List.getElem?_append_left (by simp; have := hke'.out; omega), List.getElem?_append_right (by have := hke'.out; omega), show k - vs.length = 0 from by have := hke'.out; omega]; rfl)
      replace hrl' := Hd hrl';rw [hW3] at hcg hfg;replace hrr := Hd hrr;clear hI hget hown3 hrows3 hown0 b3 hx hc;go_wp2_with fail;rw [← hW3, ← hgg, ← hW4];clear hW3 hgg hW4 hcg hfg hmk hcc;refine hH.out.mono ?_; rintro e w' ⟨rfl, rfl⟩
      cases hh : hasR inn (k : Int) with
      | false =>
        have hfin : Hid (WithI w n (some ⟨b, off, none⟩) c G gi m' inn (vs ++ [.slice (some ⟨g, 0, none⟩) m' m']) (withPre a inn (k + 1)) W4) := Hd (by
          rw [hstep.out];unfold withRow;rw [hh, hrl'.out];exact hI4.out)
        clear hI4 hown4 hw4c hh;go_wp2_with fail
        go_roundw
        case rel => exact ⟨vs ++ [.slice (some ⟨g, 0, none⟩) m' m'], by have := hke'.out; simp; omega, by rw [List.length_append, ← hke'.out]; simp; try omega, by rw [List.length_append, List.length_singleton, ← hke'.out]; exact hfin⟩
        case measure => simp [intOf]; omega
      | true =>
        have hC := Hd (hull_keep g (G + 1) m' m' d' m' (some ⟨b5, o5, none⟩) (some ⟨gi, 0, none⟩) r inn W4 hown4.out hrow4.out hI4.out.inr (fun ad e => by injection e with e; subst e; simp; omega) (fun ad e => by injection e with e; subst e; simp; omega) (by omega));have hc4 := hw4c.out;have hand := Hd (andR_w64 (b := inn) hr64.out);have hst2 : Hid ((withPre a inn k ++ [List.replicate m' 0]).set k (andR r inn) = withPre a inn (k + 1)) := Hd (by
          rw [hstep.out, List.set_append_right _ _ (by rw [withPre_len]; exact Nat.le_refl _), withPre_len, Nat.sub_self];unfold withRow;rw [hh]; rfl)
        clear hh;go_wp2_with fail;refine hC.out.mono ?_; rintro e w5 ⟨rfl, hy, ho⟩;have hfin : Hid (WithI w n (some ⟨b, off, none⟩) c G gi m' inn (vs ++ [.slice (some ⟨g, 0, none⟩) m' m']) (withPre a inn (k + 1)) w5) := Hd
          { own := own_only hI4.out.own ho (by simp [Value.ownBlock]; omega)
            rows := by
              rw [← hst2.out];exact hI4.out.rows.joined (by rw [List.getElem?_append_right (by have := hke'.out; omega), show k - vs.length = 0 from by have := hke'.out; omega]; rfl) ho hy hand.out
            mat := Blk.only hI4.out.mat ho (by omega)
            res := Blk.only hI4.out.res ho (by have := hI4.out.big; omega)
            inr := hI4.out.inr.only ho (fun ad e => by injection e with e; subst e; simp; omega)
            bel := below_only hI4.out.bel ho (by omega)
            big := ⟨hI4.out.big.1, by rw [ho.size]; exact hI4.out.big.2.1, hI4.out.big.2.2⟩ }
        clear hI4 hown4 hw4c hc4 hy ho hC;go_wp2_with fail
        go_roundw
        case rel => exact ⟨vs ++ [.slice (some ⟨g, 0, none⟩) m' m'], by have := hke'.out; simp; omega, by rw [List.length_append, ← hke'.out]; simp; try omega, by rw [List.length_append, List.length_singleton, ← hke'.out]; exact hfin⟩
        case measure => simp [intOf]; omega
    · obtain rfl : n = k := by omega
      have hvn := Hd hke.symm;clear hlt hke;have l0 := hI.out.mat.c0;have f0 := hI.out.res.c0;have f1 := hI.out.res.c1;have g0 := hI.out.res.frozen 0;have g1 := hI.out.res.frozen 1;go_wp2_with fail;have hcc := hI.out.res.two (.int .i64 n) (.slice (some ⟨G, 0, none⟩) n n);have hc1 := hcc.1;have hc2 := hcc.2;clear hcc f0 f1 g0 g1 l0;refine bodyPost_ret (v := .agg #[.int .i64 n, .slice (some ⟨G, 0, none⟩) n n]) (by simp [results, Tryz.results119, go_sem, hc1, hc2]) rfl ⟨_, _, _, rfl, ⟨vs, ?_, ?_⟩, Nat.le_refl _, ?_⟩
      · have h := hI.out.own
        rw [filled_all hvn.out] at h;exact Rd.of_own' (own_far (own_far h (p := ⟨w.heap.size + 1, 0, none⟩) (by have := hI.out.big; simp [Value.ownBlock]; omega) _) (p := ⟨w.heap.size + 1, 1, none⟩) (by have := hI.out.big; simp [Value.ownBlock]; omega) _)
      · rw [← withPre_all hG.out hCh.out]
        exact ((hI.out.rows.far (p := ⟨w.heap.size + 1, 0, none⟩) (by have := hI.out.big; simp; omega) _).far (p := ⟨w.heap.size + 1, 1, none⟩) (by have := hI.out.big; simp; omega) _).rows
      · exact (hI.out.bel.setCell (by simp) _).setCell (by simp) _

theorem LAt.keptB {α : Type} {E : Enc α} {w w' : World} {A : Option Addr} {n g : Nat} {xs : List α} (h : LAt E w A n xs) (hb : BelowB g w w') (hne : ∀ ad, A = some ad → ad.block ≠ g) : LAt E w' A n xs :=
 ⟨h.1, h.2.1, fun hn => by
  obtain ⟨b, off, e, hb', hc⟩ := h.2.2 hn;exact ⟨b, off, e, Nat.lt_of_lt_of_le hb' hb.size, fun j u hu => (hb.cell (p := ⟨b, off + j, none⟩) hb' (show b ≠ g from hne _ e)).trans (hc j u hu)⟩⟩
theorem SlotsM.keptB {α : Type} {E : Enc α} {tS tE : TypeId} {B go n g : Nat} {w w' : World} {vs : List Value} {ls : List (List α)} (h : SlotsM E tS tE B go n w vs ls) (hb : BelowB g w w') (hg : g < B) : SlotsM E tS tE B go n w' vs ls :=
 ⟨own_keptB18 h.o hb hg, ⟨h.s.len, fun i v l h1 h2 => ⟨(h.s.row i v l h1 h2).1, own_keptB18 (h.s.row i v l h1 h2).2 hb hg⟩, h.s.dis⟩⟩
theorem wihO_nodup (a : List (List Nat)) (o : Int) (n : Nat) : (wihO a o n).Nodup := by
 unfold wihO
 split
 ·unfold wihF wihN
  refine List.Pairwise.map _ (R := (· ≠ ·)) (fun a b h e => h (by omega)) ?_
  exact List.Pairwise.filter _ List.nodup_range
 ·simp
theorem seen_Of (v : FV) (f : Fac) (A : Option Addr) (c : Nat) (co : List (List Nat)) (o : Int) (w : World) (hF : FactsAt w v f) (hr : RowsAt w A v.m co) (hG : Good v.m co) (hm : v.m < 64) (hw : WholeF f) (h0 : 0 ≤ o) (h1 : o < (v.m : Int)) (hx : SeenX v f) (hcl : ClosedM co) :
  Calls Tryz.prog 94 #[.agg #[.slice v.A v.n v.c, .slice v.B v.m v.d, .slice v.C v.k v.e], .agg #[.int .i64 (v.m : Int), .slice A v.m c], .int .i64 o] w (RetSeen v.m f (keptF f.items (pastF f.items o f.items.length)) (withinM v.m co (wihO co o v.m)) w) := by
 have hil := hF.is.len;have hvn := hx.nn;have d1 : decide (o < 0) = false := decide_eq_false (by omega);have d2 : decide ((v.m : Int) ≤ o) = false := decide_eq_false (by omega);have hkok := keptF_ok f.items o;have hklen := keptF_len f.items o;obtain ⟨wl, hwl⟩ : ∃ l, l = wihO co o v.m := ⟨_, rfl⟩;have hwok : ∀ z ∈ wl, 0 ≤ z ∧ z < (v.m : Int) := by rw [hwl]; exact wihO_ok co o v.m
 have hwnd : wl.Nodup := by rw [hwl]; exact wihO_nodup co o v.m
 have hwlen : wl.length ≤ v.m := by
  rw [hwl]; unfold wihO
  split
  ·exact wihF_len _ _ _
  ·simp
 have gB := within_facts hG (l := wl);rw [hil] at hkok hklen;have cP := fun W hW => past_With A v.m c co o W hW hG;rw [← hwl] at cP ⊢;have cI := fun L m d W hR hI hmm => hull_Within A L v.m c m d co wl W hR hG hI hmm;have cR := fun D m d W hF hL hm' => seen_ruled v f D m d wl o W hF hx hw (by omega) hL hwok hm';obtain ⟨kept, hke⟩ : ∃ l, l = keptF f.items (pastF f.items o f.items.length) := ⟨_, rfl⟩;obtain ⟨B, hBe⟩ : ∃ M, M = withinM v.m co wl := ⟨_, rfl⟩;have hk2 : ∀ r ∈ kept, 0 ≤ r ∧ r < (v.m : Int) := by rw [hke, ← hil]; exact keptF_ok f.items o
 have hkl2 : kept.length ≤ v.m := by rw [hke, ← hil]; exact keptF_len f.items o
 rw [← hke] at cR ⊢;rw [← hBe] at cI gB ⊢;have gB' : Good f.items.length B := by rw [hil]; exact gB.1
 have hBc : ClosedM B := fun i j k hij hjk => by
  have h2 := (gB.2 i j).1 hij;have h3 := (gB.2 j k).1 hjk;exact (gB.2 i k).2 ⟨hcl i j k h2.1 h3.1, h2.2.1, h3.2.2⟩
 have hfst := Hd (fun k => seX_first (f := f) (kept := kept) gB' (P := fun a => (a : Int) ∈ wl) (fun a y h => ((gB.2 a y).1 h).2.1) k);have hsg : Hid (∀ k, Good v.m (seX f kept B k)) := Hd (fun k => by rw [← hil]; exact seX_good gB' k);have hsc : Hid (∀ k, ClosedM (seX f kept B k)) := Hd (fun k => seX_closed gB' hBc k);have hsl : Hid (∀ k, (seL f kept B k).length ≤ v.m * v.m) := Hd (fun k => Nat.le_trans (seL_len gB' k) (by rw [hil]; exact Nat.mul_le_mul (by rw [← hil]; exact cntW_le _ _) (by rw [← hil]; exact cntW_le _ _)));have hsk : Hid (∀ k, ∀ x ∈ seL f kept B k, Ed.Ok x) := Hd (seL_okE gB' (by rw [hil]; exact hk2) (by omega));have hsn : Hid (∀ X, (newF f X kept).length ≤ v.m * v.m) := Hd (fun X => by unfold newF; rw [hil]; exact nwA_len _ _);have hnp : Hid (∀ X, ∀ e ∈ newF f X kept, ∃ a b : Nat, e.w1 = (a : Int) ∧ e.w2 = (b : Int) ∧ a < v.m ∧ b < v.m) := Hd (fun X e he => by
  obtain ⟨a, b, h1, h2, h3, h4, -⟩ := newF_some he;exact ⟨a, b, h3, h4, by omega, by omega⟩)
 have hst : Hid (∀ k, seX f kept B (k + 1) = closeK ((edP (newF f (seX f kept B k) kept)).foldl setP (seX f kept B k)) v.m) := Hd (fun k => by rw [← hil]; rfl);have hpos : Hid (∀ k, ∀ xs ∈ seX f kept B k, 0 < xs.length) := Hd (fun k xs hxs => rows_len_pos (hsg.out k) (by omega) xs hxs);obtain ⟨wsl, hwsl⟩ : ∃ l, l = wl.filter (isW f) := ⟨_, rfl⟩;have hwsn : wsl.Nodup := by rw [hwsl]; exact hwnd.sublist List.filter_sublist
 have hwso : ∀ z ∈ wsl, 0 ≤ z ∧ z < (v.m : Int) ∧ isW f z = true := fun z hz => by
  rw [hwsl] at hz;obtain ⟨h2, h3⟩ := List.mem_filter.1 hz;exact ⟨(hwok z h2).1, (hwok z h2).2, h3⟩
 have hwsle : wsl.length ≤ v.m := by rw [hwsl]; exact Nat.le_trans (List.length_filter_le _ _) hwlen
 have hwin : ∀ k (a y : Nat), Rel (seX f kept B k) a y → isW f (a : Int) = true → (a : Int) ∈ wsl := fun k a y h2 h3 => by
  rw [hwsl]; exact List.mem_filter.2 ⟨hfst.out k a y h2, h3⟩
 have hGB := Hd gB.1;have cL := Hd (fun (k : Nat) U nu cu go A c W hF hU hR hr (hnu : nu ≤ v.m) => seen_lacks v f U nu cu go wsl kept A c (seX f kept B k) W hF hx hw (by omega) hU hR hr (hsg.out k) hwsn hwso hk2 hkl2 hnu (hwin k));rw [show RetRule v f wl kept = fun w e w' => RetRule v f wl kept w e w' from rfl] at cR;have hF0 := Hd hF;replace cP := Hd cP;replace cI := Hd cI;replace cR := Hd cR;replace hke := Hd hke;replace hBe := Hd hBe;replace hil := Hd hil;replace hwok := Hd hwok;clear hw hx gB gB' hG hcl hBc hwnd hwso hwsn hk2 hkok hklen hfst hwin hwl;replace hwsl := Hd hwsl;obtain ⟨i0, hi, hz0, hz1, hz2⟩ := info_parts info_edge;replace hi := Hd hi;replace hz0 := Hd hz0;replace hz1 := Hd hz1;replace hz2 := Hd hz2;have hB0 := Hd (FBox.new hF);obtain ⟨g, hg⟩ : ∃ g, g = w.heap.size := ⟨_, rfl⟩;obtain ⟨W0, hW0⟩ : ∃ W, W = w.alloc (.cells #[.slice v.A v.n v.c, .slice v.B v.m v.d, .slice v.C v.k v.e] 29) := ⟨_, rfl⟩;rw [← hW0, ← hg] at hB0;clear hF;replace hr := hr.below hB0.out.o;have hM1 := Hd (MatK.new (N := (v.m : Int)) (c := c) W0 57 hr);obtain ⟨gm, hgm⟩ : ∃ g, g = W0.heap.size := ⟨_, rfl⟩;obtain ⟨W1, hW1⟩ : ∃ W, W = W0.alloc (.cells #[.int .i64 (v.m : Int), .slice A v.m c] 57) := ⟨_, rfl⟩;rw [← hW1, ← hgm] at hM1;have hB1 := Hd (hB0.out.later (show Below W0.heap.size W0 W1 from by rw [hW1]; exact bAl _ _));clear hr hB0;obtain ⟨gr, hgr⟩ : ∃ g, g = W1.heap.size := ⟨_, rfl⟩;obtain ⟨W2, hW2⟩ : ∃ W, W = W1.alloc (.cells #[.int .i64 0, .slice none 0 0] 57) := ⟨_, rfl⟩;have b2 : Below W1.heap.size W1 W2 := by rw [hW2]; exact bAl _ _
 have hB2 := Hd (hB1.out.later b2);have hM2 := Hd (hM1.out.below b2);have kR := Hd (show MatB W2 gr 57 0 none 0 0 from by rw [hW2, hgr]; exact MatB.new W1 _);have hgw := Hd (show w.heap.size ≤ gr from by rw [hgr]; exact hB1.out.o.size);clear hM1 hB1 b2;have p0 := hB2.out.c0;have p1 := hB2.out.c1;have p2 := hB2.out.c2;have m0 := hM2.out.1.c0;have m1 := hM2.out.1.c1
 go_enter Tryz.func94, Tryz.ntmps94
 go_wp2_with (first | (rw [← hW0, ← hg]; clear hW0 hg) | (rw [← hW1, ← hgm]; clear hW1 hgm) | (rw [← hW2, ← hgr]; clear hW2; replace hgr := Hd hgr));refine (cP.out W2 hM2.out.2).mono ?_; rintro e w3 ⟨D, nd, dd, rfl, hD, hdd, hdm, b⟩;have hdl := Hd hD.len;have hnd : nd ≤ v.m := by rw [← hdl.out]; exact hwlen
 replace hB2 := Hd (hB2.out.later b);replace hM2 := Hd (hM2.out.below b);replace kR := Hd (kR.out.below_ b);replace hD := Hd hD;clear p0 p1 p2 m0 m1 b cP;have m0 := hM2.out.1.c0;have m1 := hM2.out.1.c1;go_wp2_with fail;refine (cI.out D nd dd w3 hM2.out.2 hD.out.ints (by omega)).mono ?_; rintro e w4 ⟨C, n4, dC, rfl, hC, hdC, b⟩;obtain rfl : n4 = v.m := by rw [← hC.len]; exact hGB.out.len
 replace hB2 := Hd (hB2.out.later b);replace kR := Hd (kR.out.below_ b);replace hD := Hd (hD.out.below b);clear m0 m1 b cI hM2;have hgr4 : gr < w4.heap.size := Blk.lt kR.out;have hBU := hC.block_lt (by omega);obtain ⟨M, hMe⟩ : ∃ g, g = w4.heap.size := ⟨_, rfl⟩;obtain ⟨W5, hW5⟩ : ∃ W, W = w4.alloc (.cells #[.int .i64 (v.m : Int), .slice C v.m dC] 57) := ⟨_, rfl⟩;have b5 : Below w4.heap.size w4 W5 := by rw [hW5]; exact bAl _ _
 have hMV := Hd (show MV W5 M v.m C dC (seX f kept B 0) from ⟨by rw [hW5, hMe]; exact MatB.new _ _, by rw [show seX f kept B 0 = B from rfl]; exact hC.below b5, hdC, fun _ ad e => by have := hBU ad e; omega⟩);replace hB2 := Hd (hB2.out.later b5);replace kR := Hd (kR.out.below_ b5);replace hD := Hd (hD.out.below b5);have hM5 := Hd (show M < W5.heap.size from hMV.out.loc.lt);have hwM := Hd (show w.heap.size ≤ M ∧ gr < M from ⟨by rw [hMe]; have := hgw.out; omega, by rw [hMe]; exact hgr4⟩);clear hC hBU b5 hgr4;go_wp2_with (rw [← hW5, ← hMe]; clear hW5; replace hMe := Hd hMe; have p0 := hB2.out.c0; have p1 := hB2.out.c1; have p2 := hB2.out.c2);refine (cR.out D nd dd W5 hB2.out.f hD.out (by omega)).mono ?_; rintro e w6 ⟨U, nu, cu, go, vs, rfl, hU, hnu, hS, b, hUw⟩;rw [← hwsl.out] at hU;have hnm : nu ≤ v.m := by rw [← hU.len]; exact hwsle
 have hM6 := hMV.out.later b;have hb6 := bT2 hB2.out.o b;have kR6 := kR.out.below_ b;obtain ⟨gu, hgu⟩ : ∃ g, g = w6.heap.size := ⟨_, rfl⟩;obtain ⟨W7, hW7⟩ : ∃ W, W = w6.alloc (.cells #[.slice v.A v.n v.c, .slice v.B v.m v.d, .slice v.C v.k v.e, .slice U nu cu, .slice (some ⟨go, 0, none⟩) v.n v.n] 142) := ⟨_, rfl⟩;have b7 : Below w6.heap.size w6 W7 := by rw [hW7]; exact bAl _ _
 have kU := Hd (show Blk W7 gu 142 [.slice v.A v.n v.c, .slice v.B v.m v.d, .slice v.C v.k v.e, .slice U nu cu, .slice (some ⟨go, 0, none⟩) v.n v.n] from by rw [hW7, hgu]; exact Blk.new _ _ _);have hUM := Hd (show ∀ ad, U = some ad → ad.block ≠ M from fun ad e h => by have := hUw ad e; have := hM5.out; omega);have hU7 := Hd (hU.below b7);have hS7 := Hd (hS.later b7);have hMV7 := Hd (hM6.later b7);have hb7 := Hd (bT2 hb6 b7);have kR7 := Hd (show MatB W7 gr 57 0 none 0 0 from kR6.below_ b7);have hguM := Hd (show gu ≠ M ∧ gr ≠ M from by
  refine ⟨fun e => ?_, by have := hwM.out; omega⟩;have h2 := b.size;have h3 := hM5.out
  omega)
 clear hU hS hM6 hb6 kR6 b b7 hUw hB2 hMV kR hD p0 p1 p2 cR;go_wp2_with (rw [← hW7, ← hgu]; clear hW7; replace hgu := Hd hgu);obtain ⟨B7, hB7⟩ : ∃ n, n = W7.heap.size := ⟨_, rfl⟩;have hM7 := Hd (show M < B7 from by rw [hB7]; exact hMV7.out.loc.lt);replace hB7 := Hd hB7
 go_loopw [13, 14] (fun u t wr => ∃ (k : Nat) (A2 : Option Addr) (d2 : Nat), t = .int .i64 ((k + 1 : Nat) : Int) ∧ Hid (∀ j, j < k → newF f (seX f kept B j) kept ≠ []) ∧ Hid (BelowB M W7 wr) ∧ Hid (MV wr M v.m A2 d2 (seX f kept B k)) ∧ Hid (wr.ownsRow B7 84 3 u (seL f kept B k).length (encE.all (seL f kept B k))) ∧ Hid (RowsS (fun g => u.ownBlock ≠ some g) wr A2 v.m (seX f kept B k))) (fun _ t _ => v.m * v.m + 2 - (intOf t).toNat)
 case atStart => exact ⟨0, C, dC, rfl, Hd (fun j h => absurd h (by omega)), Hd (BelowB.refl _ _), hMV7, Hd (World.ownsRow_nil _ _ _ _), Hd (RowsS.of hMV7.out.rows (fun g e => by cases e))⟩
 case round =>
  clear hMV7;obtain ⟨k, A2, d2, rfl, hne, hbB, hN, hown, hRS⟩ := hrel;have hbw := Hd (show Below w.heap.size w wr from hb7.out.trans (hbB.out.below hb7.out.size hwM.out.1));have kU' := Hd (show Blk wr gu 142 [.slice v.A v.n v.c, .slice v.B v.m v.d, .slice v.C v.k v.e, .slice U nu cu, .slice (some ⟨go, 0, none⟩) v.n v.n] from hbB.out.blk kU.out hguM.out.1);have kR' := Hd (show MatB wr gr 57 0 none 0 0 from hbB.out.blk kR7.out hguM.out.2);have hU' := hU7.out.keptB hbB.out hUM.out;have hS' := ReadsAt.of (hS7.out.keptB hbB.out (by exact hM5.out));have cLk := cL.out k U nu cu go A2 d2 wr (hF0.out.below hbw.out) hU' hS' hN.out.rows hnm;have gX := hsg.out k;obtain ⟨X, hX⟩ : ∃ X, X = seX f kept B k := ⟨_, rfl⟩;obtain ⟨al, hal⟩ : ∃ l, l = seL f kept B k := ⟨_, rfl⟩;have halm : al.length ≤ v.m * v.m := by rw [hal]; exact hsl.out k
  have halk : k ≤ al.length := by rw [hal]; exact seL_ge k hne.out
  have hmm : v.m * v.m ≤ 64 * 64 := Nat.mul_le_mul (by omega) (by omega);rw [← hX] at hN hRS gX cLk;rw [← hal] at hown;obtain ⟨nl, hnl⟩ : ∃ l, l = newF f X kept := ⟨_, rfl⟩;rw [← hnl] at cLk;have hnlm : nl.length ≤ v.m * v.m := by rw [hnl]; exact hsn.out X
  have hnlp := Hd (hnp.out X);rw [← hnl] at hnlp;replace cLk := Hd cLk;replace gX := Hd gX;obtain ⟨la, hla⟩ : ∃ n, n = al.length := ⟨_, rfl⟩;rw [← hla] at hown halm halk;replace hla := Hd hla;replace hX := Hd hX;replace hal := Hd hal;replace hnl := Hd hnl;have n0 := hN.out.loc.c0;have n1 := hN.out.loc.c1;have y0 := kU'.out.cell 0;have y1 := kU'.out.cell 1;have y2 := kU'.out.cell 2;have y3 := kU'.out.cell 3;have y4 := kU'.out.cell 4;simp only [gZ, gS] at y0 y1 y2 y3 y4;clear hU' hS';go_wp2_with fail;refine cLk.out.mono ?_; rintro e w3 ⟨E, ne, ce, rfl, hE, hnc, hcm, b, hEf⟩;have hnel := Hd hE.len;have hub := Hd (own_block_lt hown.out);replace hown := Hd (oBl hown.out b);replace hN := Hd (hN.out.later b);replace hbw := Hd (bT2 hbw.out b);replace hbB := Hd (hbB.out.trans (BelowB.of b));have hRT := Hd ((hRS.out.there (by omega) (by rw [hX.out]; exact hpos.out k)).below b);have hwr3 := b.size;replace hE := Hd hE;replace kR' := Hd (kR'.out.below_ b);clear n0 n1 y0 y1 y2 y3 y4 b cLk hRS kU';rcases Nat.eq_zero_or_pos ne with hz | hz
  ·subst hz
   have hnil : Hid (newF f (seX f kept B k) kept = []) := Hd (by
    have h1 := hnel.out;rw [hnl.out, hX.out] at h1;exact List.eq_nil_of_length_eq_zero h1)
   have n0 := hN.out.loc.c0;have n1 := hN.out.loc.c1;have f0 := kR'.out.c0;have f1 := kR'.out.c1;have g0 := kR'.out.frozen 0;have g1 := kR'.out.frozen 1;have hcc := kR'.out.two (.int .i64 (v.m : Int)) (.slice A2 v.m d2);have hd1 := Hd hcc.1;have hd2 := Hd hcc.2;have hrf := Hd (hN.out.rows.putB kR'.out (fun h0 => hN.out.rows.farZ kR'.out (by rw [hX.out]; exact hpos.out k) h0) (.int .i64 (v.m : Int)) (.slice A2 v.m d2));have hbf := Hd ((hbw.out.setCell (p := ⟨gr, 0, none⟩) hgw.out (.int .i64 (v.m : Int))).setCell (p := ⟨gr, 1, none⟩) hgw.out (.slice A2 v.m d2));have hown2 := own_farT (i := 1) (own_farT (i := 0) hown.out kR'.out (by decide) (.int .i64 (v.m : Int))) (Blk.set_ kR'.out 0 (.int .i64 (v.m : Int))) (by decide) (.slice A2 v.m d2);obtain ⟨A', c', rfl, hnc', hcm', hLA⟩ := LAt.of_own hown2 (by rw [hal.out]; exact hsk.out k) hla.out.symm;have hcap := Hd hN.out.cap;replace hLA := Hd hLA;clear hcc hown hown2 hN hRT kR' hub;go_wp2_with fail;exact bodyPost_ret (v := .tuple #[.agg #[.int .i64 (v.m : Int), .slice A2 v.m d2], .slice A' la c', .int .i64 ((k + 1 : Nat) : Int), .int .i64 0]) (by simp [results, Tryz.results94, go_sem, hd1.out, hd2.out]) rfl ⟨k, A2, d2, A', la, c', rfl, ⟨hne.out, hnil.out⟩, by rw [← hX.out]; exact hrf.out, hcap.out, by rw [← hal.out]; exact hLA.out, hnc', hcm', hbf.out⟩
  ·have hnep : Hid (newF f (seX f kept B k) kept ≠ []) := Hd (fun h => by
    have h1 := hnel.out;rw [hnl.out, hX.out, h] at h1;simp at h1
    omega)
   have hbase := Hd (show B7 ≤ w3.heap.size from by rw [hB7.out]; exact hbB.out.size);have hnz : ((ne : Int) == 0) = false := by rw [beq_eq_false_iff_ne]; omega
   have hnl2 := hnel.out;clear kR';go_wp2_with (at_builtin; refine wpAL (E := encE) rfl (.tmp 47) (.tmp 48) _ rfl B7 84 i0 _ 24 Tryz.underlying79 hi.out hz0.out hz1.out hz2.out rfl _ la al (by rfl) hown.out _ ne ce nl rfl hE.out (by unfold maxLen; omega) (by omega) hbase.out ?_; intro v' w7 hown' hb7' hg7 hob7; have n0' := (hN.out.loc.belowB hb7' hM7.out).c0; have n1' := (hN.out.loc.belowB hb7' hM7.out).c1);have hE7 := hE.out.grown18 hg7 (fun ad e h => by have := hub.out _ h; have := hEf ad e; omega);have hvl := own_block_lt hown';have hRS7 := (hRT.out.grown hg7 (fun g e h => h.1 e)).mono (T := fun g => v'.ownBlock ≠ some g) (fun g h e => by
    rcases hob7 with h2 | h2
    ·rw [h2] at e; exact h.1 e
    ·rw [h2] at e; injection e with e; have := h.2; omega)
   have hN7 := Hd (show MV w7 M v.m A2 d2 X from ⟨hN.out.loc.belowB hb7' hM7.out, hRS7.at, hN.out.cap, hN.out.far⟩);have hcX : ClosedM X := by rw [hX.out]; exact hsc.out k
   have cA := seen_added (fun g => v'.ownBlock ≠ some g) A2 v.m d2 X E ne ce nl w7 hRS7 gX.out hcX (by omega) hE7 (by omega) hnlp.out;rw [show closeK ((edP nl).foldl setP X) v.m = seX f kept B (k + 1) from by rw [hst.out, hnl.out, hX.out]] at cA;have hbB7 := Hd (show BelowB M W7 w7 from ⟨hb7'.os.trans hbB.out.os, hb7'.tape.trans hbB.out.tape, hb7'.output.trans hbB.out.output, Nat.le_trans (by rw [← hB7.out]; exact hbase.out) hb7'.size, fun i hi2 hne2 => (hb7'.block i (by rw [hB7.out]; exact hi2)).trans (hbB.out.block i hi2 hne2)⟩);have hM7' := Hd (show B7 ≤ w7.heap.size from Nat.le_trans hbase.out hb7'.size);have hsL : Hid (seL f kept B (k + 1) = al ++ nl) := Hd (by rw [hal.out, hnl.out, hX.out]; rfl);have hlen : Hid ((seL f kept B (k + 1)).length = la + ne) := Hd (by rw [hsL.out, List.length_append, hnl2, hla.out]);have hnx : Hid (∀ j, j < k + 1 → newF f (seX f kept B j) kept ≠ []) := Hd (fun j hj => by
    rcases Nat.lt_succ_iff_lt_or_eq.1 hj with h1 | h1
    ·exact hne.out j h1
    ·rw [h1]; exact hnep.out)
   replace hvl := Hd hvl;replace hown' := Hd hown';replace cA := Hd cA;clear hE7 hRS7 hcX hb7' hg7 hob7 hRT hN hbB hE hnl2 hown hub hbw;refine cA.out.mono ?_; rintro e w8 ⟨C2, c2, rfl, hR2, hcap2, b8, hf2⟩;have kM := hN7.out.loc.below_ b8;have hT8 := Hd (hN7.out.put b8 hR2.at hcap2 hf2);have hfar2 : 0 < v.m → ∀ ad, C2 = some ad → ad.block ≠ M := fun _ ad e => by have := hf2 ad e; have := hM7.out; have := hM7'.out; omega
   have hRS8 := Hd ((hR2.mono (T := fun g => v'.ownBlock ≠ some g) (fun g h e => by
    rcases h with h | h
    ·exact h e
    ·have := hvl.out g e; omega)).putB kM hfar2 (.int .i64 (v.m : Int)) (.slice C2 v.m c2))
   have hbB8 := Hd (((hbB7.out.trans (BelowB.of b8)).setG 0 (.int .i64 (v.m : Int))).setG 1 (.slice C2 v.m c2));have hown8 := own_farT (i := 1) (own_farT (i := 0) (oBl hown'.out b8) kM (by decide) (.int .i64 (v.m : Int))) (Blk.set_ kM 0 (.int .i64 (v.m : Int))) (by decide) (.slice C2 v.m c2);rw [← hsL.out, ← hlen.out] at hown8;replace hown8 := Hd hown8;have m0 := kM.c0;have m1 := kM.c1;have g0 := kM.frozen 0;have g1 := kM.frozen 1;clear kM n0' n1' hR2 b8 hf2 hfar2 cA hN7 hbB7 hown' hvl;go_wp2_with fail;exact ⟨⟨k + 1, C2, c2, by go_num, hnx, hbB8, hT8, hown8, hRS8⟩, by simp [intOf]; omega⟩
theorem hisF_vars18 (hs : List (List OpT)) : (hisF hs).1.length ≤ (allO hs).length := by
 rw [← hisF_len]
 induction hs using snoc_ind with
 | h0 => simp [hisF_nil]
 | h1 hs os ih =>
  rw [hisF_snoc];have := sesF_len hs.length os (hisF hs)
  omega
theorem seenX_hist {hs : List (List OpT)} {x : FV} {f : Fac} {W : World} (hF : FactsAt W x f) (hf : f = fillF (facO hs)) (hl : x.m ≤ 1048576) : SeenX x f := by
 have hn := hF.vs.len;have hm := hF.is.len;subst hf;have e1 : (fillF (facO hs)).items = (hisF hs).2 := rfl;have e2 : (fillF (facO hs)).vars = (hisF hs).1 := rfl;rw [e1] at hm;rw [e2] at hn;have h1 := hisF_len hs;have h2 := hisF_vars18 hs;refine ⟨rfl, nbr_hist hs, by omega, fun y hy => ?_⟩;rw [e1] at hy;obtain ⟨i, hi⟩ := List.getElem?_of_mem hy;have hil := (List.getElem?_eq_some_iff.1 hi).1;obtain ⟨s, p, va, -, h4, h5, h6⟩ := hisF_item hs i _ (List.getElem?_eq_getElem (show i < (allO hs).length by omega));rw [hi] at h4;injection h4 with h4;have h7 := (List.getElem?_eq_some_iff.1 h6).1;rw [h4]
 simp only
 omega

section
variable {r : Int → Int → Prop}
end

section
variable {n : Nat} {a c : List (List Nat)}
end
def okO11 (hs : List (List OpT)) : Bool := rightL hs && decide ((checkF (facO hs).items).2.2 = 0)
def RetO11 (hs : List (List OpT)) (w : World) (e : Ending) (w' : World) : Prop := ∃ x : FV, e = .returned (.tuple #[.agg #[.slice x.A x.n x.c, .slice x.B x.m x.d, .slice x.C x.k x.e], .bool (okO11 hs)]) ∧ (okO11 hs = true → FactsAt w' x (fillF (facO hs))) ∧ Below w.heap.size w w'
theorem ref11_Of (A : Option Addr) (n c : Nat) (hs : List (List OpT)) (w : World) (hX : HistAt w A n hs) (hn : n ≤ 1099511627776) (hF : (allO hs).length ≤ 1048576) :
  Calls Tryz.prog 8 #[.slice A n c] w (RetO11 hs w) := by
 obtain ⟨gr, hgr⟩ : ∃ g, g = w.heap.size := ⟨_, rfl⟩;obtain ⟨W1, hW1⟩ : ∃ W, W = w.alloc (.cells #[.slice none 0 0, .slice none 0 0, .slice none 0 0] 29) := ⟨_, rfl⟩;have b0 : Below w.heap.size w W1 := by rw [hW1]; exact (Below.refl _ _).alloc (Nat.le_refl _) _
 have kR : Blk W1 gr 29 [.slice none 0 0, .slice none 0 0, .slice none 0 0] := by rw [hW1, hgr]; exact Blk.new w _ _
 have hgw : Hid (w.heap.size ≤ gr) := Hd (by rw [hgr]; exact Nat.le_refl _);have c1 := ref9_Of A n c hs W1 (hX.below b0) hn (by omega);clear hX
 cases hri : rightL hs with
 | false =>
  have hno := Hd (show okO11 hs = false from by unfold okO11; rw [hri]; rfl);rw [hri, if_neg (by simp), if_neg (by simp)] at c1;replace c1 := Hd c1;clear hri
  go_enter Tryz.func8, Tryz.ntmps8
  go_wp2_with (rw [← hW1, ← hgr]; clear hW1; replace hgr := Hd hgr);refine c1.out.mono ?_; rintro e w3 ⟨x, rfl, -, b3⟩;obtain ⟨V, hV⟩ : ∃ W, W = w3.alloc (.cells #[.slice x.A x.n x.c, .slice x.B x.m x.d, .slice x.C x.k x.e] 29) := ⟨_, rfl⟩;obtain ⟨g, hg⟩ : ∃ g, g = w3.heap.size := ⟨_, rfl⟩;have bV : Below w3.heap.size w3 V := by rw [hV]; exact (Below.refl _ _).alloc (Nat.le_refl _) _
  replace kR := (kR.below b3 kR.lt);replace kR := (kR.below bV kR.lt);have bb := bT2 (bT2 b0 b3) bV;clear b0 b3 bV c1;have e0 := (((kR.set_ 0 (.slice none 0 0)).set_ 1 (.slice none 0 0)).set_ 2 (.slice none 0 0)).cell 0;have e1 := (((kR.set_ 0 (.slice none 0 0)).set_ 1 (.slice none 0 0)).set_ 2 (.slice none 0 0)).cell 1;have e2 := (((kR.set_ 0 (.slice none 0 0)).set_ 1 (.slice none 0 0)).set_ 2 (.slice none 0 0)).cell 2;have c0 := Blk.cell kR 0;have c1 := Blk.cell kR 1;have c2 := Blk.cell kR 2;have f0 := Blk.frozen kR 0;have f1 := Blk.frozen kR 1;have f2 := Blk.frozen kR 2;have hb3 := Hd (((bb.setCell (p := ⟨gr, 0, none⟩) hgw.out (.slice none 0 0)).setCell (p := ⟨gr, 1, none⟩) hgw.out (.slice none 0 0)).setCell (p := ⟨gr, 2, none⟩) hgw.out (.slice none 0 0));clear kR;go_wp2_with (rw [← hV, ← hg]; clear hV; replace hg := Hd hg);exact bodyPost_ret (v := .tuple #[.agg #[.slice none 0 0, .slice none 0 0, .slice none 0 0], .bool false]) (by simp [results, Tryz.results8, go_sem, e0, e1, e2]) rfl ⟨⟨none, 0, 0, none, 0, 0, none, 0, 0⟩, by rw [hno.out], (fun h => by rw [hno.out] at h; cases h), hb3.out⟩
 | true =>
  rw [hri, if_pos rfl, if_pos rfl] at c1;obtain ⟨f, hf⟩ : ∃ f : Fac, f = facO hs := ⟨_, rfl⟩;rw [← hf] at c1;have hri' := Hd hri;replace c1 := Hd c1;clear hri;replace hf := Hd hf
  go_enter Tryz.func8, Tryz.ntmps8
  go_wp2_with (rw [← hW1, ← hgr]; clear hW1; replace hgr := Hd hgr);refine c1.out.mono ?_; rintro e w3 ⟨x, rfl, hG, b3⟩;have hB := Hd ((FBox.new hG).from_ (bT2 b0 b3));obtain ⟨V, hV⟩ : ∃ W, W = w3.alloc (.cells #[.slice x.A x.n x.c, .slice x.B x.m x.d, .slice x.C x.k x.e] 29) := ⟨_, rfl⟩;obtain ⟨g, hg⟩ : ∃ g, g = w3.heap.size := ⟨_, rfl⟩;replace kR := Hd (show Blk V gr 29 [.slice none 0 0, .slice none 0 0, .slice none 0 0] from by rw [hV]; exact (kR.below b3 kR.lt).alloc _);rw [← hV, ← hg] at hB;clear b3 c1 hG b0;have hxm : x.m ≤ 1048576 := by
   rw [← hB.out.f.is.len, hf.out]
   show (hisF hs).2.length ≤ _
   rw [hisF_len]; omega
  have p0 := hB.out.c0;have p1 := hB.out.c1;have p2 := hB.out.c2;obtain ⟨⟨r1, r2, r3⟩, hr⟩ : ∃ r, r = checkF f.items := ⟨_, rfl⟩;have cC := ref10_Check x f V hB.out.f;rw [← hr] at cC;replace cC := Hd cC;have hok : okO11 hs = decide (r3 = 0) := by
   unfold okO11;rw [hri'.out, ← hf.out, ← hr, Bool.true_and]
  replace hr := Hd hr;replace hok := Hd hok;go_wp2_with (rw [← hV, ← hg]; clear hV; replace hg := Hd hg);refine cC.out.mono ?_; rintro e w4 ⟨rfl, b4⟩;replace hB := Hd (hB.out.later b4);replace kR := kR.out.below b4 kR.out.lt;clear p0 p1 p2 b4 cC;by_cases h3 : r3 = 0
  ·have hyes := Hd (show okO11 hs = true from by rw [hok.out]; exact decide_eq_true h3)
   have e3 : (r3 != 0) = false := by rw [h3]; rfl
   replace h3 := Hd h3;have p0 := hB.out.c0;have p1 := hB.out.c1;have p2 := hB.out.c2;have cF := Hd (ref11_Fill x f w4 hB.out.f hxm);go_wp2_with fail;refine cF.out.mono ?_; rintro e w5 ⟨y, rfl, hY, b5⟩;replace hB := Hd (hB.out.later b5);replace kR := kR.below b5 kR.lt;clear p0 p1 p2 b5 cF;have hY3 := Hd (hY.put kR (fun u hu => by simp only [List.mem_cons, List.not_mem_nil, or_false] at hu; rcases hu with rfl | rfl | rfl <;> exact ⟨_, _, _, rfl⟩));have e0 := (((kR.set_ 0 (.slice y.A y.n y.c)).set_ 1 (.slice y.B y.m y.d)).set_ 2 (.slice y.C y.k y.e)).cell 0;have e1 := (((kR.set_ 0 (.slice y.A y.n y.c)).set_ 1 (.slice y.B y.m y.d)).set_ 2 (.slice y.C y.k y.e)).cell 1;have e2 := (((kR.set_ 0 (.slice y.A y.n y.c)).set_ 1 (.slice y.B y.m y.d)).set_ 2 (.slice y.C y.k y.e)).cell 2;have c0 := Blk.cell kR 0;have c1 := Blk.cell kR 1;have c2 := Blk.cell kR 2;have f0 := Blk.frozen kR 0;have f1 := Blk.frozen kR 1;have f2 := Blk.frozen kR 2;have hb3 := Hd (((hB.out.o.setCell (p := ⟨gr, 0, none⟩) hgw.out (.slice y.A y.n y.c)).setCell (p := ⟨gr, 1, none⟩) hgw.out (.slice y.B y.m y.d)).setCell (p := ⟨gr, 2, none⟩) hgw.out (.slice y.C y.k y.e));clear kR;go_wp2_with fail;rw [hf.out] at hY3;exact bodyPost_ret (v := .tuple #[.agg #[.slice y.A y.n y.c, .slice y.B y.m y.d, .slice y.C y.k y.e], .bool true]) (by simp [results, Tryz.results8, go_sem, e0, e1, e2]) rfl ⟨y, by rw [hyes.out], (fun _ => hY3.out), hb3.out⟩
  ·have hno := Hd (show okO11 hs = false from by rw [hok.out]; exact decide_eq_false h3)
   have e3 : (r3 != 0) = true := by simpa using h3
   have bb := hB.out.o;replace h3 := Hd h3;have e0 := (((kR.set_ 0 (.slice none 0 0)).set_ 1 (.slice none 0 0)).set_ 2 (.slice none 0 0)).cell 0;have e1 := (((kR.set_ 0 (.slice none 0 0)).set_ 1 (.slice none 0 0)).set_ 2 (.slice none 0 0)).cell 1;have e2 := (((kR.set_ 0 (.slice none 0 0)).set_ 1 (.slice none 0 0)).set_ 2 (.slice none 0 0)).cell 2;have c0 := Blk.cell kR 0;have c1 := Blk.cell kR 1;have c2 := Blk.cell kR 2;have f0 := Blk.frozen kR 0;have f1 := Blk.frozen kR 1;have f2 := Blk.frozen kR 2;have hb3 := Hd (((bb.setCell (p := ⟨gr, 0, none⟩) hgw.out (.slice none 0 0)).setCell (p := ⟨gr, 1, none⟩) hgw.out (.slice none 0 0)).setCell (p := ⟨gr, 2, none⟩) hgw.out (.slice none 0 0));clear kR;go_wp2_with fail;exact bodyPost_ret (v := .tuple #[.agg #[.slice none 0 0, .slice none 0 0, .slice none 0 0], .bool false]) (by simp [results, Tryz.results8, go_sem, e0, e1, e2]) rfl ⟨⟨none, 0, 0, none, 0, 0, none, 0, 0⟩, by rw [hno.out], (fun h => by rw [hno.out] at h; cases h), hb3.out⟩
def ex19A : List OpT := [(false, ⟨#[120]⟩, 1)]
def ex19B : List OpT := [(false, ⟨#[120]⟩, 0)]
theorem ok19A : OkO ex19A := fun o ho => by
 simp only [ex19A, List.mem_cons, List.not_mem_nil, or_false] at ho;subst ho; exact ⟨⟨by decide, by decide⟩, by decide⟩
theorem ok19B : OkO ex19B := fun o ho => by
 simp only [ex19B, List.mem_cons, List.not_mem_nil, or_false] at ho;subst ho; exact ⟨⟨by decide, by decide⟩, by decide⟩
def fa19 : Fac := ⟨[⟨#[120]⟩], [⟨0, 0, false, 0, 1⟩], [-2]⟩
def fb19 : Fac := ⟨[⟨#[120]⟩], [⟨0, 0, false, 0, 0⟩], [-1]⟩
theorem ex19a_facts : okO11 [ex19A] = true ∧ fillF (facO [ex19A]) = fa19 := by decide
theorem ex19b_facts : okO11 [ex19B] = true ∧ fillF (facO [ex19B]) = fb19 := by decide
theorem ex19a_whole : WholeF fa19 := by rw [← ex19a_facts.2]; exact fillF_whole _
theorem ex19b_whole : WholeF fb19 := by rw [← ex19b_facts.2]; exact fillF_whole _
theorem ex19a_find : findF fa19 1 = some ⟨1, 0, -1, -1, -1, -1, -1⟩ ∧ findE fa19 1 = 0 := by decide
theorem ex19b_find : findF fb19 3 = none ∧ findE fb19 3 = 8 ∧ findF fb19 0 = none ∧ findE fb19 0 = 1 := by decide

theorem vaF_at {f : Fac} {r : Nat} {y : It} (h : f.items[r]? = some y) : vaF f (r : Int) = y.va := by
 unfold vaF;rw [Int.toNat_natCast, h]

structure St where
 ki : Int
 fr : Int
 tt : Int
 a : Int
 b : Int
deriving DecidableEq

/-! ### what right steps say -/

theorem wihO_mem {a : List (List Nat)} {n k x : Nat} (hk : k < n) : (x : Int) ∈ wihO a (k : Int) n ↔ x < n ∧ (x = k ∨ Rel a x k) := by
 unfold wihO wihF wihN;rw [if_pos (by omega)];rw [List.mem_map]
 constructor
 ·rintro ⟨y, hy, e⟩
  obtain rfl : y = x := by omega
  obtain ⟨h1, h2⟩ := List.mem_filter.1 hy;refine ⟨List.mem_range.1 h1, ?_⟩;rw [Bool.or_eq_true, decide_eq_true_eq] at h2;rcases h2 with h2 | h2
  ·exact .inl (by omega)
  ·exact .inr h2
 ·rintro ⟨h1, h2⟩
  refine ⟨x, List.mem_filter.2 ⟨List.mem_range.2 h1, ?_⟩, rfl⟩;rw [Bool.or_eq_true, decide_eq_true_eq];rcases h2 with h2 | h2
  ·exact .inl (by omega)
  ·exact .inr h2
theorem within_closed {n : Nat} {a : List (List Nat)} (hG : Good n a) (hc : ClosedM a) (l : List Int) : ClosedM (withinM n a l) := fun i j k h1 h2 => by
 rw [(within_facts hG l).2] at h1 h2 ⊢;exact ⟨hc i j k h1.1 h2.1, h1.2.1, h2.2.2⟩
section
variable {f : Fac} {l : List St}
theorem co_closed (hw : WholeF f) (h : f.items.length ≤ 4096) : ClosedM (coM f) := (coM_hull hw h).closed
theorem base_good (hw : WholeF f) (h : f.items.length ≤ 4096) (o : Nat) : Good f.items.length (baseM f (coM f) o) ∧ ClosedM (baseM f (coM f) o) :=
 ⟨(within_facts (coM_hull hw h).1 _).1, within_closed (coM_hull hw h).1 (co_closed hw h) _⟩

/-! ### patterns that there are -/
theorem round_some {k : Int} {n : Nat} {X : List (List Nat)} {i : Nat} (hi : i < n) (h : Rel X i i) : (roundF k n X).isSome = true := by
 unfold roundF;rw [Option.isSome_map, List.find?_isSome];exact ⟨i, List.mem_range.2 hi, h⟩
theorem mem_ahead {X : List (List Nat)} {r z : Nat} {yr yz : It} (hz : z < f.items.length) (h : Rel X z r) (hr : f.items[r]? = some yr) (hy : f.items[z]? = some yz) (hw : yz.wr = true) (hv : yz.va = yr.va) : (z : Int) ∈ aheadW f X (r : Int) := by
 unfold aheadW wrsF;refine List.mem_filter.2 ⟨?_, ?_⟩
 ·unfold colF colN
  exact List.mem_map.2 ⟨z, List.mem_filter.2 ⟨List.mem_range.2 hz, h⟩, rfl⟩
 ·rw [wrOK_at (x := yz) (by omega) (by rw [Int.toNat_natCast]; exact hy), hw, vaF_at hr, hv]; simp
theorem early_some {X : List (List Nat)} {k : Int} {reads : List Int} {r : Nat} {z : Int} (hm : (r : Int) ∈ reads) (hf : f.frm.getD r 0 = -1) (hz : z ∈ aheadW f X (r : Int)) : (earlyF f X k reads).isSome = true := by
 unfold earlyF;rw [List.findSome?_isSome_iff];refine ⟨(r : Int), hm, ?_⟩;rw [Int.toNat_natCast, if_pos hf, Option.isSome_map]
 cases hh : (aheadW f X (r : Int)).head? with
 | none => rw [List.head?_eq_none_iff.1 hh] at hz; cases hz
 | some z => rfl
end

/-! ### orders that are respected -/
section
variable {r : Int → Int → Prop}
end
/-! ### facts that reads read from something -/
section
variable {f : Fac}
theorem no_round (hw : WholeF f) (hn : f.items.length ≤ 4096) (h : kindF f 2 = none) (i : Nat) : ¬ Rel (coM f) i i := fun h1 => by
 have h2 := round_some (k := 2) ((coM_hull hw hn).1.rel_lt i i h1).1 h1;unfold kindF at h;rw [if_neg (by decide), if_pos rfl] at h;rw [h] at h2; cases h2
theorem no_early (h : kindF f 3 = none) {r z : Nat} {y : It} (hr : f.items[r]? = some y) (hf : f.frm.getD r 0 = -1) (hz : wrOK f.items y.va (z : Int) = true) : ¬ Rel (coM f) z r := fun h1 => by
 unfold wrOK at hz;rw [Int.toNat_natCast] at hz
 cases hyz : f.items[z]? with
 | none => rw [hyz] at hz; simp at hz
 | some yz =>
  rw [hyz] at hz;simp only [Bool.and_eq_true, decide_eq_true_eq] at hz;have hrl := (List.getElem?_eq_some_iff.1 hr).1;have hm := mem_ahead (f := f) (List.getElem?_eq_some_iff.1 hyz).1 h1 hr hyz hz.2.1 hz.2.2;have h2 := early_some (k := 3) (reads := (List.range f.items.length).map fun (r : Nat) => (r : Int)) (List.mem_map.2 ⟨r, List.mem_range.2 hrl, rfl⟩) hf hm;unfold kindF at h;rw [if_neg (by decide), if_neg (by decide), if_pos rfl] at h;rw [h] at h2; cases h2
end
end Go.Proofs.YtjhjojklfdjmdaaGreat
