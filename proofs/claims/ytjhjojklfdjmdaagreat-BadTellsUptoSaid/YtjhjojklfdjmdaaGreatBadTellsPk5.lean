/- Contract of the document's own answer: Within. Plain mathematics of layer 19: the patterns, each kind's first one. Nothing of the program is named. Facts in a variable (FBox), as the document's answers of layers 10 and on box them. The contracts of the document's own answers of layer 10: Write, Check. The contracts of the document's own answers of layer 6: Name, Flat, Count, Right, Spot, Small. The contracts of the document's own answers of layer 6: Spot, Number, Same. The contracts of the document's own answers of layer 9, first half: find, texts, items, Ints, Same, Small. The contract of the document's own answer of layer 9: Of. The contracts of the document's own answers of layer 9: Same, Small. The contracts of the document's own answers of layer 11: From, Fill, Whole, Readers. The contracts of the document's own answers of layer 12: Ahead, Past, Po. -/
import Derived.Test.YtjhjojklfdjmdaaGreatBadTellsPk4
import Derived.Test.YtjhjojklfdjmdaaGreatBadTellsPk2
import Derived.Test.YtjhjojklfdjmdaaGreatBadTellsPk1
import Derived.Test.YtjhjojklfdjmdaaGreatProg
import Derived.BigQuiet
import Derived.Test.YtjhjojklfdjmdaaGreatBadTellsPk3
namespace Go.Proofs.YtjhjojklfdjmdaaGreat
set_option maxRecDepth 100000
set_option maxHeartbeats 8000000
open Go.RowKit
set_option linter.unusedVariables false

theorem PairsAt.farB {w : World} {A : Option Addr} {m g : Nat} {ps : List (Int × Int)} {t : TypeId} {N : Int} {B : Option Addr} {n c : Nat} (h : PairsAt w A m ps) (hM : MatB w g t N B n c) : 0 < m → ∀ ad, A = some ad → ad.block ≠ g := by
 intro h0 ad e;obtain ⟨b, off, p, e2, _, _, _, c0, c1⟩ := h.at_ h0;rw [e] at e2
 cases e2
 intro hb;have hb' : b = g := hb;subst hb';rw [Blk.cell hM] at c0 c1
 match off + 0 * 2, c0, c1 with
 | 0, c0, c1 => simp at c1
 | 1, c0, c1 => simp at c0
 | k + 2, c0, c1 => simp at c0
theorem PairsAt.setCell {w : World} {A : Option Addr} {m : Nat} {ps : List (Int × Int)} {p : Addr} (h : PairsAt w A m ps) (hne : 0 < m → ∀ ad, A = some ad → ad.block ≠ p.block) (u : Value) : PairsAt (w.setCell p u) A m ps :=
 ⟨h.1, h.2.1, fun hn => by
  obtain ⟨b, off, e, hb, hc⟩ := h.2.2 hn;have hbp := hne hn _ e;refine ⟨b, off, e, by simpa using hb, fun j q hq => ?_⟩;obtain ⟨h1, h2⟩ := hc j q hq;exact ⟨by rw [World.cell?_setCell_other w p ⟨b, off + j * 2, none⟩ u (fun e => hbp (by rw [e]))]; exact h1, by rw [World.cell?_setCell_other w p ⟨b, off + j * 2 + 1, none⟩ u (fun e => hbp (by rw [e]))]; exact h2⟩⟩
def bothIn (l : List Int) (p : Int × Int) : Bool := decide (p.1 ∈ l) && decide (p.2 ∈ l)
def withinM (n : Nat) (a : List (List Nat)) (l : List Int) : List (List Nat) := foldP n ((pairsM a).filter (bothIn l))
theorem foldP_app (n : Nat) (ps : List (Int × Int)) (p : Int × Int) : foldP n (ps ++ [p]) = setM (foldP n ps) p.1 p.2 := by
 unfold foldP; rw [List.foldl_append]; rfl
theorem within_facts {n : Nat} {a : List (List Nat)} (hG : Good n a) (l : List Int) : Good n (withinM n a l) ∧ ∀ x y : Nat, Rel (withinM n a l) x y ↔ Rel a x y ∧ (x : Int) ∈ l ∧ (y : Int) ∈ l := by
 have h := foldP_facts hG.le ((pairsM a).filter (bothIn l)) (fun x hx => hG.ok x (List.mem_filter.1 hx).1);refine ⟨h.1, fun x y => ?_⟩;unfold Rel withinM;rw [h.2 x y, decide_eq_true_eq, List.mem_filter, mem_pairsM];unfold bothIn
 simp
theorem ref4_Within (A L : Option Addr) (n c m d : Nat) (a : List (List Nat)) (zs : List Int) (w : World) (hr : RowsAt w A n a) (hG : Good n a) (hn64 : n < 64) (hz : Ints w L m zs) (hm : m ≤ 1073741824) :
  Calls Tryz.prog 101 #[.agg #[.int .i64 (n : Int), .slice A n c], .slice L m d] w (RetMat1 (n : Int) (withinM n a zs) w) := by
 have hnn : n ≤ 4096 := hG.le;obtain ⟨W0, hW0⟩ : ∃ W0, W0 = (w.alloc (.cells #[.int .i64 n, .slice A n c] 57)).alloc (.cells #[.int .i64 0, .slice none 0 0] 57) := ⟨_, rfl⟩;have bb := Hd (show Below w.heap.size w W0 by rw [hW0]; exact ((Below.refl _ _).alloc (Nat.le_refl _) _).alloc (by simp) _);have k1 := Hd (show MatK W0 w.heap.size 57 n A n c a by rw [hW0]; exact (MatK.new w _ hr).below (bAl _ _));have m2 := Hd (show MatB W0 (w.heap.size + 1) 57 0 none 0 0 by rw [hW0]; exact MatB.new1 w _ _);have cN := Hd (fun W => ref3_New n hnn W);have cP := Hd (fun W hW => ref3_Pairs A n c a W hW hnn (fun k xs hx => by have := hG.small xs (List.mem_of_getElem? hx); omega));have cH := Hd (fun x W (hW : Ints W L m zs) => ref4_has L m d zs x W hW hm);have cS := Hd (fun i j (h3 : inM (n : Int) i j = true) C e X (hX : Good n X) W (hW : RowsAt W C n X) => ref3_Set (n : Int) C n e X i j W hW rfl hnn (fun xs hx => by have := hX.small xs hx; omega) h3);have hpl := Hd (show (pairsM a).length ≤ 16777216 from by
  rw [pairs_sum hG];have h1 : ∀ k, sumF k (fun i => sumF n fun j => (hasM a (i : Int) (j : Int)).toNat) ≤ k * n := by
   intro k
   induction k with
   | zero => simp [sumF]
   | succ k ih =>
    have h2 : ∀ q, sumF q (fun j => (hasM a (k : Int) (j : Int)).toNat) ≤ q := by
     intro q
     induction q with
     | zero => simp [sumF]
     | succ q ih2 => rw [sumF_succ]; have := Bool.toNat_le (hasM a (k : Int) (q : Int)); omega
    rw [sumF_succ, Nat.add_mul, Nat.one_mul];have := h2 n
    omega
  have h3 := h1 n;have h4 : n * n ≤ 64 * 64 := Nat.mul_le_mul (by omega) (by omega)
  omega)
 have hF := Hd (fun (k : Nat) => foldP_facts hnn (((pairsM a).take k).filter (bothIn zs)) (fun x hx => hG.ok x (List.mem_of_mem_take (List.mem_filter.1 hx).1)));have hok := Hd hG.ok;replace hG := Hd hG;replace hz := Hd hz;clear hr;have qk10 := k1.out.1.c0;have qk11 := k1.out.1.c1
 go_enter Tryz.func101, Tryz.ntmps101
 go_wp2_with fail;rw [← hW0];clear hW0;go_wp2_with fail;refine (cN.out W0).mono ?_; rintro e w1 ⟨A3, n3, c3, rfl, r3, hc3, b⟩;obtain rfl : n = n3 := by have := r3.len; simp [newM] at this; omega
 replace m2 := Hd (m2.out.below b);obtain ⟨W1, hW1⟩ : ∃ W1, W1 = w1.alloc (.cells #[.int .i64 n, .slice A3 n c3] 57) := ⟨_, rfl⟩;obtain ⟨G3, hG3⟩ : ∃ G, G = w1.heap.size := ⟨_, rfl⟩;have ba : Below w1.heap.size w1 W1 := by rw [hW1]; exact bAl _ _
 have k3 := Hd (show MatK W1 G3 57 n A3 n c3 (newM n) from ⟨by rw [hW1, hG3]; exact MatB.new _ _, r3.below ba⟩);have hlt := m2.out.lt;have h23 : w.heap.size + 1 < G3 := by omega
 replace m2 := Hd (m2.out.below ba);replace b := bT2 b ba;replace k1 := Hd (k1.out.below b);replace qk10 := k1.out.1.c0;replace qk11 := k1.out.1.c1;replace bb := Hd (bT2 bb.out b);clear b;rw [hW1] at qk10 qk11;clear ba r3 hlt;go_wp2_with fail;rw [← hW1, ← hG3];rw [← hW1] at qk10 qk11;clear hW1 hG3;refine (cP.out W1 k1.out.2).mono ?_; rintro e w2 ⟨P, mp, dp, rfl, hP, b⟩;have hmp : mp ≤ 16777216 := by have := hpl.out; have := hP.1; omega
 have hpm := Hd hP.1;replace m2 := Hd (m2.out.below b);replace k1 := Hd (k1.out.below b);replace qk10 := k1.out.1.c0;replace qk11 := k1.out.1.c1;replace k3 := Hd (k3.out.below b);replace qk30 := k3.out.1.c0;replace qk31 := k3.out.1.c1;replace bb := Hd (bT2 bb.out b);clear b;replace hP := Hd hP;clear qk10 qk11 qk30 qk31;go_wp2_with fail
 go_loopw [8] (fun t wr => ∃ (k : Nat) (A3 : Option Addr) (c3 : Nat), k ≤ mp ∧ t = .int .i64 k ∧ Hid (n ≤ c3) ∧ Hid (MatB wr (w.heap.size + 1) 57 0 none 0 0) ∧ Hid (MatK wr G3 57 n A3 n c3 (foldP n (((pairsM a).take k).filter (bothIn zs)))) ∧ Hid (Below w.heap.size w wr) ∧ Hid (PairsAt wr P mp (pairsM a))) (fun t _ => mp - (intOf t).toNat)
 case atStart => exact ⟨0, A3, c3, Nat.zero_le _, rfl, Hd hc3, m2, k3, bb, hP⟩
 case round =>
  clear k1 m2 k3 bb hP;obtain ⟨k, A3, c3, hk, rfl, hc3', m2, k3, bb, hP⟩ := hrel;by_cases hlt : k < mp
  ·obtain ⟨b4, o4, ⟨x, y⟩, rfl, hb4, hx, hxy, c4, c5⟩ := hP.out.at_ hlt
   simp only at c4 c5
   have h3 := hok.out _ (List.mem_of_getElem? hx);have hfk := (hF.out k).1;have cHx := Hd (cH.out x wr (hz.out.below bb.out));have cHy := Hd (cH.out y wr (hz.out.below bb.out));have cSk := Hd (cS.out x y h3 A3 c3 _ hfk);have hn0 : 0 < n := by
    obtain ⟨i, j, _, hi, _⟩ := okP_nat h3
    omega
   have htake : (pairsM a).take (k + 1) = (pairsM a).take k ++ [(x, y)] := by
    rw [List.take_succ_eq_append_getElem (List.getElem?_eq_some_iff.1 hx).1, (List.getElem?_eq_some_iff.1 hx).2]
   have hk0 : (0 : Int) ≤ (k : Int) := by omega
   have hkm' : (k : Int) < (mp : Int) := by omega
   have hF1 := Hd (hF.out (k + 1)).1.len;clear hx hxy hfk;replace h3 := Hd h3
   cases hx1 : decide (x ∈ zs) with
   | false =>
    have hst : Hid (((pairsM a).take (k + 1)).filter (bothIn zs) = ((pairsM a).take k).filter (bothIn zs)) := Hd (by
     rw [htake, List.filter_append]
     simp [bothIn, hx1])
    clear htake;go_wp2_with fail;refine cHx.out.mono ?_; rintro e w' ⟨rfl, rfl⟩;rw [hx1];clear hx1;go_wp2_with fail
    go_roundw
    case rel => exact ⟨k + 1, A3, c3, by omega, by go_num, hc3', m2, Hd (by rw [hst.out]; exact k3.out), bb, hP⟩
    case measure => simp [intOf]; omega
   | true =>
    cases hy1 : decide (y ∈ zs) with
    | false =>
     have hst : Hid (((pairsM a).take (k + 1)).filter (bothIn zs) = ((pairsM a).take k).filter (bothIn zs)) := Hd (by
      rw [htake, List.filter_append]
      simp [bothIn, hy1])
     clear htake;replace hx1 := Hd hx1;replace hy1 := Hd hy1;go_wp2_with fail;refine cHx.out.mono ?_; rintro e w' ⟨rfl, rfl⟩;rw [hx1.out];go_wp2_with fail;refine cHy.out.mono ?_; rintro e w' ⟨rfl, rfl⟩;rw [hy1.out];go_wp2_with fail
     go_roundw
     case rel => exact ⟨k + 1, A3, c3, by omega, by go_num, hc3', m2, Hd (by rw [hst.out]; exact k3.out), bb, hP⟩
     case measure => simp [intOf]; omega
    | true =>
     have hst : Hid (foldP n (((pairsM a).take (k + 1)).filter (bothIn zs)) = setM (foldP n (((pairsM a).take k).filter (bothIn zs))) x y) := Hd (by
      rw [htake, List.filter_append, show [(x, y)].filter (bothIn zs) = [(x, y)] by simp [bothIn, of_decide_eq_true hx1, of_decide_eq_true hy1], foldP_app])
     clear htake;replace hx1 := Hd hx1;replace hy1 := Hd hy1;go_wp2_with fail;refine cHx.out.mono ?_; rintro e w' ⟨rfl, rfl⟩;rw [hx1.out];go_wp2_with fail;refine cHy.out.mono ?_; rintro e w' ⟨rfl, rfl⟩;rw [hy1.out];go_wp2_with fail;refine wp_region_planT 13 [(true, 0), (true, 1), (true, 2), (true, 3), (true, 4), (true, 5), (true, 6), (true, 7), (true, 8), (true, 9), (true, 10), (false, 11), (true, 12)] 15 [13, 14] (by kernel_rfl) (by kernel_rfl) (fun W1 hW1 => ?_);replace k3 := Hd (show MatK W1 G3 57 n A3 n c3 (foldP n (((pairsM a).take k).filter (bothIn zs))) by rw [hW1.out]; exact k3.out.drew);replace m2 := Hd (show MatB W1 (w.heap.size + 1) 57 0 none 0 0 by rw [hW1.out]; exact Blk.drew m2.out);replace bb := Hd (show Below w.heap.size w W1 by rw [hW1.out]; exact bb.out.drew);replace hP := Hd (show PairsAt W1 (some ⟨b4, o4, none⟩) mp (pairsM a) by rw [hW1.out]; exact hP.out);replace c4 : W1.cell? ⟨b4, o4 + k * 2, none⟩ = some (.int .i64 x) := by rw [hW1.out]; exact c4
     replace c5 : W1.cell? ⟨b4, o4 + k * 2 + 1, none⟩ = some (.int .i64 y) := by rw [hW1.out]; exact c5
     clear hW1 cHx cHy;simp only [List.drop_succ_cons, List.drop_zero];have qk30 := k3.out.1.c0;have qk31 := k3.out.1.c1
     iterate 11
      refine wpEf (v := ?_) rfl (by rfl) (fun w' hw' => ?_) (fun K hK => ?_);rotate_left
      ·(go_simp; try with_reducible rfl)
      go_simp;refine hK _ ?_;clear hK K
     clear c4 c5 qk30 qk31;refine wpPlanE_only rfl (by rfl) (fun K hK => ?_);go_simp;refine (cSk.out W1 k3.out.2).mono ?_;rintro e w3 ⟨D, nn, dd, rfl, rD, hcD, b⟩;obtain rfl : n = nn := by have := rD.len; have := hF1.out; rw [hst.out] at this; omega
     refine hK _ _ b ?_;clear hK K cSk;replace m2 := Hd (m2.out.below b);replace hP := Hd (hP.out.below b);replace k3 := Hd (k3.out.below b);replace bb := Hd (bT2 bb.out b);replace rD := Hd rD;replace hcD := Hd hcD;clear b
     iterate 1
      refine wpEf (v := ?_) rfl (by rfl) (fun w' hw' => ?_) (fun K hK => ?_);rotate_left
      ·(go_simp; try with_reducible rfl)
      go_simp;refine hK _ ?_;clear hK K
     refine wpPlanE_nil ?_
     iterate 2
      refine wpPlanT_float (v := ?_) rfl (by rfl) (fun w' => ?_) (fun K hK => ?_);rotate_left
      ·(go_simp; try with_reducible rfl)
      go_simp;refine hK _ ?_;clear hK K
     refine wpPlanT_nil ?_;have qk30 := k3.out.1.c0;have qk31 := k3.out.1.c1;have f0 := k3.out.1.frozen 0;have f1 := k3.out.1.frozen 1;go_wp2_with fail;refine NoPanic.normal ?_;clear f0 f1 qk30 qk31;obtain ⟨Wz, hWz⟩ : ∃ X : World, X = (w3.setCell ⟨G3, 0, none⟩ (.int .i64 n)).setCell ⟨G3, 1, none⟩ (.slice D n dd) := ⟨_, rfl⟩;rw [← hWz];have k3' := Hd (show MatK Wz G3 57 n D n dd (setM (foldP n (((pairsM a).take k).filter (bothIn zs))) x y) by rw [hWz]; exact ⟨k3.out.1.put n D n dd, rD.out.putB k3.out.1 (rD.out.farK k3.out hn0) _ _⟩);have m2' := Hd (show MatB Wz (w.heap.size + 1) 57 0 none 0 0 by rw [hWz]; exact (m2.out.farB (p := ⟨G3, 0, none⟩) (by simp <;> omega) _).farB (p := ⟨G3, 1, none⟩) (by simp <;> omega) _);have hP' := Hd (show PairsAt Wz (some ⟨b4, o4, none⟩) mp (pairsM a) by rw [hWz]; exact (hP.out.setCell (p := ⟨G3, 0, none⟩) (hP.out.farB k3.out.1) _).setCell (p := ⟨G3, 1, none⟩) (hP.out.farB k3.out.1) _);replace bb := Hd (show Below w.heap.size w Wz by rw [hWz]; exact (bb.out.setCell (p := ⟨G3, 0, none⟩) (by simp <;> omega) _).setCell (p := ⟨G3, 1, none⟩) (by simp <;> omega) _);clear hWz k3 m2 hP rD;go_wp2_with fail
     go_roundw
     case rel => exact ⟨k + 1, D, dd, by omega, by go_num, hcD, m2', Hd (by rw [hst.out]; exact k3'.out), bb, hP'⟩
     case measure => simp [intOf]; omega
  ·obtain rfl : k = mp := by omega
   have he : Hid (foldP n (((pairsM a).take k).filter (bothIn zs)) = withinM n a zs) := Hd (by rw [List.take_of_length_le (by rw [hpm.out]; exact Nat.le_refl _)]; rfl);have hone := Hd ((within_facts hG.out zs).1.one hn64);rw [he.out] at k3;have qk30 := k3.out.1.c0;have qk31 := k3.out.1.c1;have f0 := m2.out.c0;have f1 := m2.out.c1;have g0 := m2.out.frozen 0;have g1 := m2.out.frozen 1;go_wp2_with fail;have hcc := m2.out.two (.int .i64 n) (.slice A3 n c3);have hc1 := hcc.1;have hc2 := hcc.2;clear hcc f0 f1 g0 g1;exact bodyPost_ret (v := .agg #[.int .i64 n, .slice A3 n c3]) (by simp [results, Tryz.results101, go_sem, hc1, hc2]) rfl ⟨_, _, _, rfl, k3.out.2.putB m2.out (k3.out.2.farM m2.out hone.out) _ _, hc3'.out, (bb.out.setCell (p := ⟨w.heap.size + 1, 0, none⟩) (by simp) _).setCell (p := ⟨w.heap.size + 1, 1, none⟩) (by simp) _⟩


structure Wit where
 ki : Int
 r : Int
 w1 : Int
 w2 : Int
 o : Int
 fi : Int
 se : Int
deriving DecidableEq
def noneW (k : Int) : Wit := ⟨k, -1, -1, -1, -1, -1, -1⟩
def zeroW : Wit := ⟨0, 0, 0, 0, 0, 0, 0⟩
def RetWit (k : Int) (o : Option Wit) (w : World) (e : Ending) (w' : World) : Prop := ∃ x : Wit, x = o.getD (noneW k) ∧ e = .returned (.tuple #[.agg #[.int .i64 x.ki, .int .i64 x.r, .int .i64 x.w1, .int .i64 x.w2, .int .i64 x.o, .slice none 0 0, .int .i64 x.fi, .int .i64 x.se], .bool o.isSome]) ∧ Below w.heap.size w w'
def kindsF (l : Int) : List Int := if l = 1 then [1, 2, 3, 4] else if l = 2 then [1, 2, 3, 4, 5] else if l = 3 then [1, 2, 3, 4, 6, 7] else []
def vaF (f : Fac) (r : Int) : Int := match f.items[r.toNat]? with | some x => x.va | none => 0
def thinF (f : Fac) : Option Wit := ((List.range f.frm.length).find? fun r => decide (f.frm.getD r 0 = -2)).map fun (r : Nat) => ⟨1, (r : Int), -1, -1, -1, -1, -1⟩
def roundF (k : Int) (n : Nat) (X : List (List Nat)) : Option Wit := ((List.range n).find? fun (i : Nat) => hasM X (i : Int) (i : Int)).map fun (i : Nat) => ⟨k, -1, -1, -1, (i : Int), -1, -1⟩
def aheadW (f : Fac) (X : List (List Nat)) (r : Int) : List Int := wrsF f.items (vaF f r) (colF X r f.items.length)
def earlyF (f : Fac) (X : List (List Nat)) (k : Int) (reads : List Int) : Option Wit :=
 reads.findSome? fun r => if f.frm.getD r.toNat 0 = -1 then (aheadW f X r).head?.map fun z => ⟨k, r, z, -1, -1, -1, -1⟩ else none
def betwF (f : Fac) (X : List (List Nat)) : Option Wit :=
 ((List.range f.frm.length).map fun (r : Nat) => (r : Int)).findSome? fun r => if f.frm.getD r.toNat 0 < 0 then none else
  ((aheadW f X r).find? fun z => decide (z ≠ f.frm.getD r.toNat 0) && hasM X (f.frm.getD r.toNat 0) z).map fun z => ⟨4, r, f.frm.getD r.toNat 0, z, -1, -1, -1⟩
def seenK (f : Fac) (kept : List Int) (B : List (List Nat)) : Nat := ((List.range (f.items.length * f.items.length + 1)).find? fun j => (newF f (seX f kept B j) kept).isEmpty).getD 0
theorem seenK_is {f : Fac} {kept : List Int} {B : List (List Nat)} (hB : Good f.items.length B) : SeenIs f kept B (seenK f kept B) := by
 unfold seenK
 cases h : (List.range (f.items.length * f.items.length + 1)).find? fun j => (newF f (seX f kept B j) kept).isEmpty with
 | none =>
  exfalso
  have h1 := List.find?_eq_none.1 h;have h2 := seL_ge (f := f) (kept := kept) (B := B) (f.items.length * f.items.length + 1) (fun j hj => by
   have := h1 j (List.mem_range.2 hj);intro he;rw [he] at this;simp at this)
  have h3 := seL_len (kept := kept) hB (f.items.length * f.items.length + 1);have h4 : cntW f.items f.items.length * cntW f.items f.items.length ≤ f.items.length * f.items.length := Nat.mul_le_mul (cntW_le _ _) (cntW_le _ _)
  omega
 | some j =>
  obtain ⟨h1, i, hi, h2, h3⟩ := List.find?_eq_some_iff_getElem.1 h;rw [List.getElem_range] at h2;subst h2;refine ⟨fun q hq he => ?_, by simpa using h1⟩;have := h3 q hq;rw [List.getElem_range, he] at this;simp at this
def keptO (f : Fac) (o : Nat) : List Int := keptF f.items (pastF f.items (o : Int) f.items.length)
def baseM (f : Fac) (co : List (List Nat)) (o : Nat) : List (List Nat) := withinM f.items.length co (wihO co (o : Int) f.items.length)
def seenM (f : Fac) (co : List (List Nat)) (o : Nat) : List (List Nat) := seX f (keptO f o) (baseM f co o) (seenK f (keptO f o) (baseM f co o))
def seesF (f : Fac) (co : List (List Nat)) (k : Int) : Option Wit :=
 (List.range f.items.length).findSome? fun (o : Nat) => if k = 6 then (earlyF f (seenM f co o) k (keptO f o)).map fun x => { x with o := (o : Int) }
  else ((List.range f.items.length).find? fun (i : Nat) => hasM (seenM f co o) (i : Int) (i : Int)).map fun (i : Nat) => ⟨k, -1, (i : Int), -1, (o : Int), -1, -1⟩
def kindF (f : Fac) (k : Int) : Option Wit :=
 if k = 1 then thinF f else if k = 2 then roundF k f.items.length (coM f) else if k = 3 then earlyF f (coM f) k ((List.range f.items.length).map fun (r : Nat) => (r : Int))
 else if k = 4 then betwF f (coM f) else if k = 5 then roundF k f.items.length (cfM f (coM f)) else seesF f (coM f) k
def findF (f : Fac) (l : Int) : Option Wit := (kindsF l).findSome? (kindF f)
def findE (f : Fac) (l : Int) : Int := if (kindsF l).isEmpty = true then 1 else if (findF f l).isSome = true then 0 else 8

structure FBox (w : World) (g : Nat) (v : FV) (f : Fac) (wr : World) : Prop where
 f : FactsAt wr v f
 k : Blk wr g 29 [.slice v.A v.n v.c, .slice v.B v.m v.d, .slice v.C v.k v.e]
 o : Below w.heap.size w wr
section
variable {w wr w' : World} {g : Nat} {v : FV} {f : Fac}
theorem FBox.later (h : FBox w g v f wr) (hb : Below wr.heap.size wr w') : FBox w g v f w' := ⟨h.f.below hb, h.k.below hb h.k.lt, bT2 h.o hb⟩
theorem FBox.new (h : FactsAt w v f) : FBox w w.heap.size v f (w.alloc (.cells #[.slice v.A v.n v.c, .slice v.B v.m v.d, .slice v.C v.k v.e] 29)) :=
 ⟨h.below ((Below.refl _ _).alloc (Nat.le_refl _) _), Blk.new w _ _, (Below.refl _ _).alloc (Nat.le_refl _) _⟩
theorem FBox.c0 (h : FBox w g v f wr) : wr.cell? ⟨g, 0, none⟩ = some (.slice v.A v.n v.c) := h.k.cell 0
theorem FBox.c1 (h : FBox w g v f wr) : wr.cell? ⟨g, 1, none⟩ = some (.slice v.B v.m v.d) := h.k.cell 1
theorem FBox.c2 (h : FBox w g v f wr) : wr.cell? ⟨g, 2, none⟩ = some (.slice v.C v.k v.e) := h.k.cell 2
theorem FBox.from_ {w0 : World} (h : FBox w g v f wr) (hb : Below w0.heap.size w0 w) : FBox w0 g v f wr := ⟨h.f, h.k, bT2 hb h.o⟩
end

/-! ### facts stored into a variable of facts -/
section
variable {w w0 : World} {g k : Nat} {t : TypeId} {cs : List Value} {v u : FV} {f : Fac}
end

/-! ### an item in a variable -/
def RetWrite (o : Option Nat) (w : World) (e : Ending) (w' : World) : Prop := e = .returned (.tuple #[.int .i64 ((o.getD 0 : Nat) : Int), .bool o.isSome]) ∧ Below w.heap.size w w'
def RetCheck (r : Int × Int × Int) (w : World) (e : Ending) (w' : World) : Prop := e = .returned (.tuple #[.int .i64 r.1, .int .i64 r.2.1, .int .i64 r.2.2]) ∧ Below w.heap.size w w'
theorem ref10_Write (v : FV) (f : Fac) (va vl : Int) (w : World) (hF : FactsAt w v f) :
  Calls Tryz.prog 26 #[.agg #[.slice v.A v.n v.c, .slice v.B v.m v.d, .slice v.C v.k v.e], .int .i64 va, .int .i64 vl] w (RetWrite (writeF f.items va vl) w) := by
 have hil := hF.is.len;have him : v.m ≤ 9223372036854775807 := by have := hF.ic; have := hF.im; omega
 have hB0 := Hd (FBox.new hF);obtain ⟨g, hg⟩ : ∃ g, g = w.heap.size := ⟨_, rfl⟩;obtain ⟨W0, hW0⟩ : ∃ W, W = w.alloc (.cells #[.slice v.A v.n v.c, .slice v.B v.m v.d, .slice v.C v.k v.e] 29) := ⟨_, rfl⟩;rw [← hW0, ← hg] at hB0;clear hF;have p0 := hB0.out.c0;have p1 := hB0.out.c1;have p2 := hB0.out.c2
 go_enter Tryz.func26, Tryz.ntmps26
 go_wp2_with (rw [← hW0, ← hg]; clear hW0 hg)
 go_loopw [8] (fun t wr => ∃ k : Nat, k ≤ v.m ∧ t = .int .i64 k ∧ wr = W0 ∧ Hid (∀ j, j < k → ∀ y, f.items[j]? = some y → hitW va vl y = false)) (fun t _ => v.m - (intOf t).toNat)
 case atStart => exact ⟨0, Nat.zero_le _, rfl, rfl, Hd (fun j hj => absurd hj (by omega))⟩
 case round =>
  obtain ⟨k, hk, rfl, rfl, hall⟩ := hrel;by_cases hlt : k < v.m
  ·have hlt' : (k : Int) < (v.m : Int) := by omega
   obtain ⟨ib, io, x, hxB, hib, hx, hxo, i0, i1, i2, i3, i4⟩ := hB0.out.f.is.item hlt;rw [hxB] at p1;have hno := fun (h : hitW va vl x = false) => Hd (show ∀ j, j < k + 1 → ∀ y, f.items[j]? = some y → hitW va vl y = false from fun j hj y hy => by
    rcases Nat.lt_succ_iff_lt_or_eq.1 hj with h1 | h1
    ·exact hall.out j h1 y hy
    ·subst h1; rw [hx] at hy; injection hy with hy; subst hy; exact h)
   have hyes := fun (h : hitW va vl x = true) => writeF_at hx h hall.out;obtain ⟨xs, xp, xw, xa, xl⟩ := x
   simp only at i0 i1 i2 i3 i4
   have hh : hitW va vl ⟨xs, xp, xw, xa, xl⟩ = (xw && (decide (xa = va) && decide (xl = vl))) := rfl;rw [hh] at hno hyes;clear hh hxo hx hall hlt hxB;have hkw : (k : Int) + 1 < 9223372036854775808 := by omega
   cases xw with
   | false =>
    have hn := hno rfl;clear hno hyes;go_wp2_with fail
    go_round
    case rel => exact ⟨k + 1, by omega, by go_num, trivial, hn⟩
    case measure => simp [intOf]; omega
   | true =>
    by_cases ha : xa = va
    ·by_cases hl : xl = vl
     ·have hy := hyes (by simp [ha, hl])
      clear hno hyes;have e1 : (xa == va) = true := by simp [ha]
      have e2 : (xl == vl) = true := by simp [hl]
      replace ha := Hd ha;replace hl := Hd hl;replace hy := Hd hy;go_wp2_with fail;exact bodyPost_ret (v := .tuple #[.int .i64 (k : Int), .bool true]) (by simp [results, go_sem]) rfl ⟨by rw [hy.out]; rfl, hB0.out.o⟩
     ·have hn := hno (by simp [hl])
      clear hno hyes;have e1 : (xa == va) = true := by simp [ha]
      have e2 : (xl == vl) = false := by simp [hl]
      replace ha := Hd ha;replace hl := Hd hl;go_wp2_with fail
      go_round
      case rel => exact ⟨k + 1, by omega, by go_num, trivial, hn⟩
      case measure => simp [intOf]; omega
    ·have hn := hno (by simp [ha])
     clear hno hyes;have e1 : (xa == va) = false := by simp [ha]
     replace ha := Hd ha;go_wp2_with fail
     go_round
     case rel => exact ⟨k + 1, by omega, by go_num, trivial, hn⟩
     case measure => simp [intOf]; omega
  ·have hlt' : ¬ (k : Int) < (v.m : Int) := by omega
   have hn := Hd (writeF_none (is := f.items) (v := va) (val := vl) (fun j y hy => hall.out j (by have := (List.getElem?_eq_some_iff.1 hy).1; omega) y hy));clear hall hlt;go_wp2_with fail;exact bodyPost_ret (v := .tuple #[.int .i64 0, .bool false]) (by simp [results, go_sem]) rfl ⟨by rw [hn.out]; rfl, hB0.out.o⟩
theorem ref10_Check (v : FV) (f : Fac) (w : World) (hF : FactsAt w v f) :
  Calls Tryz.prog 18 #[.agg #[.slice v.A v.n v.c, .slice v.B v.m v.d, .slice v.C v.k v.e]] w (RetCheck (checkF f.items) w) := by
 have hil := hF.is.len;have him : v.m ≤ 9223372036854775807 := by have := hF.ic; have := hF.im; omega
 have hB0 := Hd (FBox.new hF);obtain ⟨g, hg⟩ : ∃ g, g = w.heap.size := ⟨_, rfl⟩;obtain ⟨W0, hW0⟩ : ∃ W, W = w.alloc (.cells #[.slice v.A v.n v.c, .slice v.B v.m v.d, .slice v.C v.k v.e] 29) := ⟨_, rfl⟩;rw [← hW0, ← hg] at hB0;clear hF;have p0 := hB0.out.c0;have p1 := hB0.out.c1;have p2 := hB0.out.c2
 go_enter Tryz.func18, Tryz.ntmps18
 go_wp2_with (rw [← hW0, ← hg]; clear hW0 hg);clear p0 p1 p2
 go_loopw [5] (fun t wr => ∃ k : Nat, k ≤ v.m ∧ t = .int .i64 k ∧ Hid (FBox w g v f wr) ∧ Hid (∀ j, j < k → stepC f.items j = none)) (fun t _ => v.m - (intOf t).toNat)
 case atStart => exact ⟨0, Nat.zero_le _, rfl, hB0, Hd (fun j hj => absurd hj (by omega))⟩
 case round =>
  clear hB0;obtain ⟨k, hk, rfl, hB, hall⟩ := hrel;have p0 := hB.out.c0;have p1 := hB.out.c1;have p2 := hB.out.c2;by_cases hlt : k < v.m
  ·have hlt' : (k : Int) < (v.m : Int) := by omega
   obtain ⟨ib, io, x, hxB, hib, hx, hxo, i0, i1, i2, i3, i4⟩ := hB.out.f.is.item hlt;rw [hxB] at p1;have hkw : (k : Int) + 1 < 9223372036854775808 := by omega
   have hno := fun (h : stepC f.items k = none) => Hd (show ∀ j, j < k + 1 → stepC f.items j = none from fun j hj => by
    rcases Nat.lt_succ_iff_lt_or_eq.1 hj with h1 | h1
    ·exact hall.out j h1
    ·subst h1; exact h)
   have hyes := fun r (h : stepC f.items k = some r) => checkF_at h hall.out;have hst : stepC f.items k = if x.wr = false then none else if x.vl = 0 then some ((k : Int), (k : Int), 5) else if (writeF f.items x.va x.vl).getD 0 < k then some (((writeF f.items x.va x.vl).getD 0 : Nat), (k : Int), 4) else none := by
    unfold stepC; rw [hx]
   obtain ⟨xs, xp, xw, xa, xl⟩ := x
   simp only at i0 i1 i2 i3 i4 hst
   obtain ⟨V, hV⟩ : ∃ W, W = wr.alloc (.cells #[.int .i64 xs, .int .i64 xp, .bool xw, .int .i64 xa, .int .i64 xl] 43) := ⟨_, rfl⟩;obtain ⟨gx, hgx⟩ : ∃ g, g = wr.heap.size := ⟨_, rfl⟩;have bV : Below wr.heap.size wr V := by rw [hV]; exact (Below.refl _ _).alloc (Nat.le_refl _) _
   have kIt : Blk V gx 43 [.int .i64 xs, .int .i64 xp, .bool xw, .int .i64 xa, .int .i64 xl] := by rw [hV, hgx]; exact Blk.new wr _ _
   have hBV := Hd (hB.out.later bV);have j2 := kIt.cell 2;have j3 := kIt.cell 3;have j4 := kIt.cell 4;simp only [gZ, gS] at j2 j3 j4;have w0 := hBV.out.c0;have w1 := hBV.out.c1;have w2 := hBV.out.c2;clear bV kIt hx hxo hxB hlt
   cases xw with
   | false =>
    have hn := hno (by rw [hst]; rfl);clear hno hyes hst hall;go_wp2_with (rw [← hV, ← hgx]; clear hV hgx)
    go_round
    case rel => exact ⟨k + 1, by omega, by go_num, hBV, hn⟩
    case measure => simp [intOf]; omega
   | true =>
    by_cases h0 : xl = 0
    ·have hy := Hd (hyes _ (by rw [hst, if_neg (by simp), if_pos h0]))
     have e0 : (xl == 0) = true := by simp [h0]
     clear hno hyes hst hall;replace h0 := Hd h0;go_wp2_with (rw [← hV, ← hgx]; clear hV hgx);exact bodyPost_ret (v := .tuple #[.int .i64 (k : Int), .int .i64 (k : Int), .int .i64 5]) (by simp [results, go_sem]) rfl ⟨by rw [hy.out], hBV.out.o⟩
    ·have e0 : (xl == 0) = false := by simp [h0]
     have cW := ref10_Write v f xa xl V hBV.out.f;obtain ⟨o, ho⟩ : ∃ o, o = writeF f.items xa xl := ⟨_, rfl⟩;rw [← ho] at cW hst;rw [if_neg (by simp), if_neg h0] at hst;unfold RetWrite at cW;obtain ⟨i, hi⟩ : ∃ i, i = o.getD 0 := ⟨_, rfl⟩;rw [← hi] at cW hst;obtain ⟨ii, hii⟩ : ∃ ii : Int, ii = (i : Int) := ⟨_, rfl⟩;rw [← hii] at cW;replace cW := Hd cW;replace h0 := Hd h0;replace ho := Hd ho;replace hi := Hd hi;by_cases hik : i < k
     ·have hy := Hd (hyes _ (by rw [hst, if_pos hik]))
      have hik' : ii < (k : Int) := by omega
      replace hii := Hd hii;clear hno hyes hst hall hik;go_wp2_with (rw [← hV, ← hgx]; clear hV hgx);refine cW.out.mono ?_; rintro e w3 ⟨rfl, b3⟩;go_wp2_with fail;exact bodyPost_ret (v := .tuple #[.int .i64 ii, .int .i64 (k : Int), .int .i64 4]) (by simp [results, go_sem]) rfl ⟨by rw [hy.out, hii.out], bT2 hBV.out.o b3⟩
     ·have hn := hno (by rw [hst, if_neg hik])
      have dk : decide (ii < (k : Int)) = false := decide_eq_false (by omega);replace hii := Hd hii;clear hno hyes hst hall hik;go_wp2_with (rw [← hV, ← hgx]; clear hV hgx);refine cW.out.mono ?_; rintro e w3 ⟨rfl, b3⟩;have hB3 := Hd (hBV.out.later b3);clear w0 w1 w2 j2 j3 j4 p0 p1 p2 i0 i1 i2 i3 i4 b3 e0;go_wp2_with fail
      go_round
      case rel => exact ⟨k + 1, by omega, by go_num, hB3, hn⟩
      case measure => simp [intOf]; omega
  ·have hlt' : ¬ (k : Int) < (v.m : Int) := by omega
   have hn := Hd (checkF_none (is := f.items) (fun j hj => hall.out j (by omega)));clear hall hlt;go_wp2_with fail;exact bodyPost_ret (v := .tuple #[.int .i64 0, .int .i64 0, .int .i64 0]) (by simp [results, go_sem]) rfl ⟨by rw [hn.out], hB.out.o⟩

theorem info_op : (Tryz.prog.info? 49).map (fun i => (i.zero, i.size, i.bytes)) = some (some (.agg #[.bool false, .string .empty, .int .i64 0]), 3, 32) := by kernel_rfl
theorem ref6_Flat (A : Option Addr) (n c : Nat) (hs : List (List OpT)) (w : World) (hH : HistAt w A n hs) (hn : n ≤ 9223372036854775807) (hF : (allO hs).length ≤ 4398046511104) :
  Calls Tryz.prog 16 #[.slice A n c] w (RetOps 49 (allO hs) w) := by
 obtain ⟨i0, hi, hz0, hz1, hz2⟩ := info_parts info_op;replace hH := Hd hH
 go_enter Tryz.func16, Tryz.ntmps16
 go_wp2_with fail
 go_loopw [3, 4] (fun v i wr => ∃ k : Nat, k ≤ n ∧ i = .int .i64 k ∧ Hid (wr.ownsRow w.heap.size 49 3 v (allO (hs.take k)).length (cellsO (allO (hs.take k))) ∧ OkO (allO (hs.take k)) ∧ Below w.heap.size w wr)) (fun _ i _ => n - (intOf i).toNat)
 case atStart => exact ⟨0, Nat.zero_le _, rfl, Hd ⟨World.ownsRow_nil _ _ _ _, fun o h => by simp [allO] at h, Below.refl _ _⟩⟩
 case round =>
  obtain ⟨k, hk, rfl, hI⟩ := hrel;by_cases hlt : k < n
  ·obtain ⟨b, off, B, m, cc, os, rfl, hb, hos, hcell, hmc, hm63, hO⟩ := (hH.out.below hI.out.2.2).at_ hlt
   have hlen := allO_take_succ hos;have hle := allO_take_le hs (k + 1);rw [hlen, List.length_append, hO.len] at hle;have hlt' : (k : Int) < (n : Int) := by omega
   replace hO := Hd hO;replace hlen := Hd hlen;replace hos := Hd hos;replace hmc := Hd hmc;clear hlt;go_wp2_with (at_builtin; refine wpList_append_ops rfl (.tmp 11) (.tmp 15) _ rfl w.heap.size 49 i0 _ Tryz.underlying46 hi hz0 hz1 hz2 rfl _ _ _ (by rfl) hI.out.1 _ _ _ _ rfl hO.out (by omega) hI.out.2.2.size ?_; intro v' w' hown' hb');refine ⟨⟨k + 1, by omega, by go_num, Hd ⟨by rw [hlen.out, List.length_append, hO.out.len]; exact hown', by rw [hlen.out]; exact okO_append hI.out.2.1 hO.out.2.1, hI.out.2.2.trans hb'⟩⟩, by simp [intOf]; omega⟩
  ·have hkn : k = n := by omega
   have hall : hs.take k = hs := by rw [hkn, ← hH.out.len]; exact List.take_length
   rw [hall] at hI;have hkn' : ¬ (k : Int) < (n : Int) := by omega
   clear hlt hkn hall;obtain ⟨A', cap, hv, hO⟩ := OpsAt.of_own hI.out.1 hI.out.2.1 rfl;subst hv;go_wp2_with fail;go_ret;exact ⟨A', _, cap, rfl, hI.out.1, rfl, hI.out.2.1, hO, OwnsRow.cap_le hI.out.1, hI.out.2.2⟩

theorem ref6_Count (A : Option Addr) (n c : Nat) (hs : List (List OpT)) (w : World) (hH : HistAt w A n hs) (hn : n ≤ 9223372036854775807) (hF : (allO hs).length ≤ 4398046511104) :
  Calls Tryz.prog 15 #[.slice A n c] w fun e w' => e = .returned (.int .i64 ((allO hs).length : Nat)) ∧ Below w.heap.size w w' := by
 have cF := Hd (ref6_Flat A n c hs w hH hn hF);clear hH
 go_enter Tryz.func15, Tryz.ntmps15
 go_wp2_with fail;refine cF.out.mono ?_; rintro e w1 ⟨A1, n1, c1, rfl, -, h1, -, -, -, b⟩;go_wp2_with fail;go_ret;exact ⟨by rw [← h1]; rfl, b⟩
theorem name_size (s : ByteArray) : s.data.toList.length = s.size := by cases s; rfl
theorem name_byte (s : ByteArray) (k : Nat) (h : k < s.size) : s.data.toList[k]? = some (s[k]'h) := by
 obtain ⟨⟨l⟩⟩ := s;exact List.getElem?_eq_getElem h
theorem nameL_no {l : List UInt8} {k : Nat} {c : UInt8} (h : l[k]? = some c) (hc : ¬ (97 ≤ c.toNat ∧ c.toNat ≤ 122)) : nameL l = false := by
 unfold nameL;have : l.all (fun c => decide (97 ≤ c.toNat) && decide (c.toNat ≤ 122)) = false := by
  rw [List.all_eq_false];exact ⟨c, List.mem_of_getElem? h, by simpa using fun h1 => by omega⟩
 rw [this]; rfl
theorem nameL_len {l : List UInt8} (h : ∀ j, j < l.length → ∃ c, l[j]? = some c ∧ 97 ≤ c.toNat ∧ c.toNat ≤ 122) : nameL l = (decide (1 ≤ l.length) && decide (l.length ≤ 8)) := by
 unfold nameL;have : l.all (fun c => decide (97 ≤ c.toNat) && decide (c.toNat ≤ 122)) = true := by
  rw [List.all_eq_true];intro c hc;obtain ⟨j, hj⟩ := List.getElem?_of_mem hc;obtain ⟨d, hd, h1, h2⟩ := h j (List.getElem?_eq_some_iff.1 hj).1;rw [hj] at hd; injection hd with hd; subst hd
  simp [h1, h2]
 rw [this, Bool.true_and]
theorem ref6_Name (s : ByteArray) (w : World) (hs : s.size ≤ 9223372036854775807) :
  Calls Tryz.prog 46 #[.string s] w fun e w' => e = .returned (.bool (nameL s.data.toList)) ∧ w' = w := by
 go_enter Tryz.func46, Tryz.ntmps46
 go_wp2_with fail
 go_loop [3] (fun t => ∃ q : Nat, t = .int .i64 q ∧ q ≤ s.size ∧ Hid (∀ j, j < q → ∃ c, s.data.toList[j]? = some c ∧ 97 ≤ c.toNat ∧ c.toNat ≤ 122)) (fun t => s.size - (intOf t).toNat)
 case atStart => exact ⟨0, rfl, by omega, Hd (fun j hj => absurd hj (by omega))⟩
 case round =>
  obtain ⟨q, rfl, hq, hall⟩ := hrel;by_cases hlt : (q : Int) < (s.size : Int)
  ·have h : 0 ≤ (q : Int) ∧ (q : Int) < (s.size : Int) := ⟨by omega, hlt⟩
   have hlt' : q < s.size := by omega
   obtain ⟨c, hc⟩ : ∃ c : UInt8, s[q]'hlt' = c := ⟨_, rfl⟩;have hcl : Hid (s.data.toList[q]? = some c) := Hd (by rw [name_byte s q hlt', hc]);by_cases h97 : 97 ≤ c.toNat
   ·by_cases h122 : c.toNat ≤ 122
    ·have e1 : ¬ (c.toNat : Int) < 97 := by omega
     have e2 : ¬ (122 : Int) < (c.toNat : Int) := by omega
     have hall' : Hid (∀ j, j < q + 1 → ∃ c, s.data.toList[j]? = some c ∧ 97 ≤ c.toNat ∧ c.toNat ≤ 122) := Hd (fun j hj => by
      rcases Nat.lt_succ_iff_lt_or_eq.1 hj with h1 | h1
      ·exact hall.out j h1
      ·subst h1
       exact ⟨c, hcl.out, h97, h122⟩)
     clear hall h97 h122;go_wp2_with fail
     go_round
     case rel => exact ⟨q + 1, by go_num, by omega, hall'⟩
     case measure => simp [intOf]; omega
    ·have e1 : ¬ (c.toNat : Int) < 97 := by omega
     have e2 : (122 : Int) < (c.toNat : Int) := by omega
     have hres := Hd (nameL_no hcl.out (by omega));clear hall h97 h122;go_wp2_with fail;go_ret;exact ⟨by rw [hres.out]; rfl, rfl⟩
   ·have e1 : (c.toNat : Int) < 97 := by omega
    have hres := Hd (nameL_no hcl.out (by omega));clear hall h97;go_wp2_with fail;go_ret;exact ⟨by rw [hres.out]; rfl, rfl⟩
  ·have hqs : q = s.data.toList.length := by rw [name_size]; omega
   have hres := Hd (nameL_len (l := s.data.toList) (by rw [← hqs]; exact hall.out));rw [name_size] at hres;clear hall hqs;by_cases h1 : 1 ≤ s.size
   ·have h1' : (1 : Int) ≤ (s.size : Int) := by omega
    by_cases h8 : s.size ≤ 8
    ·have h8' : (s.size : Int) ≤ 8 := by omega
     rw [decide_eq_true h1, decide_eq_true h8] at hres;clear h1 h8;go_wp2_with fail;go_ret;exact ⟨by rw [hres.out]; rfl, rfl⟩
    ·have h8' : ¬ (s.size : Int) ≤ 8 := by omega
     rw [decide_eq_true h1, decide_eq_false h8] at hres;clear h1 h8;go_wp2_with fail;go_ret;exact ⟨by rw [hres.out]; rfl, rfl⟩
   ·have h1' : ¬ (1 : Int) ≤ (s.size : Int) := by omega
    rw [decide_eq_false h1] at hres;clear h1;go_wp2_with fail;go_ret;exact ⟨by rw [hres.out]; rfl, rfl⟩

theorem rightL_no {hs : List (List OpT)} {k : Nat} {o : OpT} (h : (allO hs)[k]? = some o) (hc : nameL o.2.1.data.toList = false) : rightL hs = false := by
 unfold rightL;have : (allO hs).all (fun o => nameL o.2.1.data.toList) = false := by
  rw [List.all_eq_false];exact ⟨o, List.mem_of_getElem? h, by rw [hc]; simp⟩
 rw [this]; rfl
theorem rightL_len {hs : List (List OpT)} (h : ∀ j, j < (allO hs).length → ∃ o, (allO hs)[j]? = some o ∧ nameL o.2.1.data.toList = true) : rightL hs = decide ((allO hs).length ≤ 4096) := by
 unfold rightL;have : (allO hs).all (fun o => nameL o.2.1.data.toList) = true := by
  rw [List.all_eq_true];intro o ho;obtain ⟨j, hj⟩ := List.getElem?_of_mem ho;obtain ⟨d, hd, h1⟩ := h j (List.getElem?_eq_some_iff.1 hj).1;rw [hj] at hd; injection hd with hd; subst hd;exact h1
 rw [this, Bool.true_and]
theorem ref6_Right (A : Option Addr) (n c : Nat) (hs : List (List OpT)) (w : World) (hH : HistAt w A n hs) (hn : n ≤ 9223372036854775807) (hF : (allO hs).length ≤ 4398046511104) :
  Calls Tryz.prog 24 #[.slice A n c] w fun e w' => e = .returned (.bool (rightL hs)) ∧ Below w.heap.size w w' := by
 have cF := Hd (ref6_Flat A n c hs w hH hn hF);clear hH
 go_enter Tryz.func24, Tryz.ntmps24
 go_wp2_with fail;refine cF.out.mono ?_; rintro e w1 ⟨A1, n1, c1, rfl, -, h1, -, hO, hmc, b⟩;replace hO := Hd hO;replace h1 := Hd h1;replace hmc := Hd hmc;replace b := Hd b;have hF' : n1 ≤ 4398046511104 := by rw [h1.out]; exact hF
 clear hF;go_wp2_with fail
 go_loop [4] (fun t => ∃ q : Nat, t = .int .i64 q ∧ q ≤ n1 ∧ Hid (∀ j, j < q → ∃ o, (allO hs)[j]? = some o ∧ nameL o.2.1.data.toList = true)) (fun t => n1 - (intOf t).toNat)
 case atStart => exact ⟨0, rfl, by omega, Hd (fun j hj => absurd hj (by omega))⟩
 case round =>
  obtain ⟨q, rfl, hq, hall⟩ := hrel;by_cases hlt : q < n1
  ·obtain ⟨bb, off, o, rfl, hb, ho, hok, c0, c1', c2⟩ := hO.out.at_ hlt
   have hlt' : (q : Int) < (n1 : Int) := by omega
   have cN := Hd (ref6_Name o.2.1 w1 hok.2)
   cases hnm : nameL o.2.1.data.toList with
   | true =>
    rw [hnm] at cN;have hall' : Hid (∀ j, j < q + 1 → ∃ o, (allO hs)[j]? = some o ∧ nameL o.2.1.data.toList = true) := Hd (fun j hj => by
     rcases Nat.lt_succ_iff_lt_or_eq.1 hj with h1 | h1
     ·exact hall.out j h1
     ·subst h1; exact ⟨o, ho, hnm⟩)
    replace ho := Hd ho;clear hall hlt hnm hok;go_wp2_with fail;refine cN.out.mono ?_; rintro e w' ⟨rfl, rfl⟩;go_wp2_with fail
    go_round
    case rel => exact ⟨q + 1, by go_num, by omega, hall'⟩
    case measure => simp [intOf]; omega
   | false =>
    rw [hnm] at cN;have hres := Hd (rightL_no ho hnm);replace ho := Hd ho;clear hall hlt hnm hok;go_wp2_with fail;refine cN.out.mono ?_; rintro e w' ⟨rfl, rfl⟩;go_wp2_with fail;go_ret;exact ⟨by rw [hres.out]; rfl, b.out⟩
  ·have hqn : q = n1 := by omega
   have hres := Hd (rightL_len (hs := hs) (by rw [← h1.out, ← hqn]; exact hall.out));rw [← h1.out] at hres;have hlt' : ¬ (q : Int) < (n1 : Int) := by omega
   clear hall hqn hlt;by_cases h8 : n1 ≤ 4096
   ·have h8' : (n1 : Int) ≤ 4096 := by omega
    rw [decide_eq_true h8] at hres;clear h8;go_wp2_with fail;go_ret;exact ⟨by rw [hres.out]; rfl, b.out⟩
   ·have h8' : ¬ (n1 : Int) ≤ 4096 := by omega
    rw [decide_eq_false h8] at hres;clear h8;go_wp2_with fail;go_ret;exact ⟨by rw [hres.out]; rfl, b.out⟩
theorem smallL_no1 {hs : List (List OpT)} {most : Int} (h : most < (hs.length : Int)) : smallL hs most = false := by
 unfold smallL; rw [decide_eq_false (by omega : ¬ (hs.length : Int) ≤ most)]; rfl
theorem smallL_no2 {hs : List (List OpT)} {most : Int} (h : most < ((allO hs).length : Int)) : smallL hs most = false := by
 unfold smallL; rw [decide_eq_false (by omega : ¬ ((allO hs).length : Int) ≤ most), Bool.and_false]; rfl
theorem smallL_no3 {hs : List (List OpT)} {most : Int} {k : Nat} {o : OpT} (h : (allO hs)[k]? = some o) (hc : ¬ o.2.1.size ≤ 20) : smallL hs most = false := by
 unfold smallL;have : (allO hs).all (fun o => decide (o.2.1.size ≤ 20)) = false := by
  rw [List.all_eq_false];exact ⟨o, List.mem_of_getElem? h, by rw [decide_eq_false hc]; simp⟩
 rw [this, Bool.and_false]
theorem smallL_yes {hs : List (List OpT)} {most : Int} (h1 : (hs.length : Int) ≤ most) (h2 : ((allO hs).length : Int) ≤ most) (h : ∀ j, j < (allO hs).length → ∃ o, (allO hs)[j]? = some o ∧ o.2.1.size ≤ 20) : smallL hs most = true := by
 unfold smallL;have : (allO hs).all (fun o => decide (o.2.1.size ≤ 20)) = true := by
  rw [List.all_eq_true];intro o ho;obtain ⟨j, hj⟩ := List.getElem?_of_mem ho;obtain ⟨d, hd, h1⟩ := h j (List.getElem?_eq_some_iff.1 hj).1;rw [hj] at hd; injection hd with hd; subst hd;exact decide_eq_true h1
 rw [this, decide_eq_true h1, decide_eq_true h2]; rfl
theorem ref6_Small (A : Option Addr) (n c : Nat) (most : Int) (hs : List (List OpT)) (w : World) (hH : HistAt w A n hs) (hn : n ≤ 9223372036854775807) (hF : (allO hs).length ≤ 4398046511104) :
  Calls Tryz.prog 6 #[.slice A n c, .int .i64 most] w fun e w' => e = .returned (.bool (smallL hs most)) ∧ Below w.heap.size w w' := by
 have hlen := hH.len;by_cases h1 : (n : Int) ≤ most
 ·have cC := Hd (ref6_Count A n c hs w hH hn hF)
  obtain ⟨N, hN⟩ : ∃ N, N = (allO hs).length := ⟨_, rfl⟩;rw [← hN] at cC;by_cases h2 : (N : Int) ≤ most
  ·have hyes := Hd (fun h => smallL_yes (hs := hs) (most := most) (by rw [hlen]; exact h1) (by rw [← hN]; exact h2) h)
   replace hlen := Hd hlen;replace hH := Hd hH;replace hN := Hd hN
   go_enter Tryz.func6, Tryz.ntmps6
   go_wp2_with fail;refine cC.out.mono ?_; rintro e w1 ⟨rfl, b1⟩;have cF := Hd (ref6_Flat A n c hs w1 (hH.out.below b1) hn hF);replace b1 := Hd b1;replace hF := Hd hF;go_wp2_with fail;refine cF.out.mono ?_; rintro e w2 ⟨A1, n1, c1, rfl, -, h1', -, hO, hmc, b⟩;replace b := Hd (bT2 b1.out b);replace hO := Hd hO;replace hmc := Hd hmc;have hF' : n1 ≤ 4398046511104 := by rw [h1']; exact hF.out
   rw [← h1'] at hyes;replace h1' := Hd h1';go_wp2_with fail
   go_loop [6] (fun t => ∃ q : Nat, t = .int .i64 q ∧ q ≤ n1 ∧ Hid (∀ j, j < q → ∃ o, (allO hs)[j]? = some o ∧ o.2.1.size ≤ 20)) (fun t => n1 - (intOf t).toNat)
   case atStart => exact ⟨0, rfl, by omega, Hd (fun j hj => absurd hj (by omega))⟩
   case round =>
    obtain ⟨q, rfl, hq, hall⟩ := hrel;by_cases hlt : q < n1
    ·obtain ⟨bb, off, o, rfl, hb, ho, hok, c0, c1', c2⟩ := hO.out.at_ hlt
     have hlt' : (q : Int) < (n1 : Int) := by omega
     by_cases h20 : o.2.1.size ≤ 20
     ·have hall' : Hid (∀ j, j < q + 1 → ∃ o, (allO hs)[j]? = some o ∧ o.2.1.size ≤ 20) := Hd (fun j hj => by
       rcases Nat.lt_succ_iff_lt_or_eq.1 hj with h1 | h1
       ·exact hall.out j h1
       ·subst h1; exact ⟨o, ho, h20⟩)
      have h20' : (o.2.1.size : Int) ≤ 20 := by omega
      replace ho := Hd ho;replace hyes := Hd hyes;clear hall hlt hok h20;go_wp2_with fail
      go_round
      case rel => exact ⟨q + 1, by go_num, by omega, hall'⟩
      case measure => simp [intOf]; omega
     ·have hres := Hd (smallL_no3 (most := most) ho h20)
      have h20' : (20 : Int) < (o.2.1.size : Int) := by omega
      replace ho := Hd ho;clear hall hlt hok h20;go_wp2_with fail;go_ret;exact ⟨by rw [hres.out]; rfl, b.out⟩
    ·have hqn : q = n1 := by omega
     have hres := Hd (hyes.out (by rw [← hqn]; exact hall.out));have hlt' : ¬ (q : Int) < (n1 : Int) := by omega
     clear hall hqn hlt;go_wp2_with fail;go_ret;exact ⟨by rw [hres.out]; rfl, b.out⟩
  ·have hres := Hd (smallL_no2 (hs := hs) (most := most) (by omega))
   have h2' : most < (N : Int) := by omega
   clear hH h2;replace hN := Hd hN;replace hlen := Hd hlen
   go_enter Tryz.func6, Tryz.ntmps6
   go_wp2_with fail;refine cC.out.mono ?_; rintro e w1 ⟨rfl, b1⟩;go_wp2_with fail;go_ret;exact ⟨by rw [hres.out]; rfl, b1⟩
 ·have hres := Hd (smallL_no1 (hs := hs) (most := most) (by omega))
  have h1' : most < (n : Int) := by omega
  clear hH h1;replace hlen := Hd hlen
  go_enter Tryz.func6, Tryz.ntmps6
  go_wp2_with fail;go_ret;exact ⟨by rw [hres.out]; rfl, Below.refl _ _⟩


section
variable {w w' : World} {g : Nat} {t : TypeId} {x y : Int}
end

theorem toList_inj {a b : ByteArray} (h : a.toList = b.toList) : a = b := by
 rw [ByteArray.toList_eq, ByteArray.toList_eq] at h;obtain ⟨⟨x⟩⟩ := a;obtain ⟨⟨y⟩⟩ := b;have h' : x = y := h;rw [h']


theorem list_eq {α : Type} {s t : List α} (hl : s.length = t.length) (h : ∀ k, k < s.length → s[k]? = t[k]?) : s = t :=
 List.ext_getElem? (fun k => by
  by_cases hk : k < s.length
  ·exact h k hk
  ·rw [List.getElem?_eq_none (by omega), List.getElem?_eq_none (by omega)])
theorem ref9_find (A : Option Addr) (n c : Nat) (l : List ByteArray) (s : ByteArray) (w : World) (hL : LAt encS w A n l) (hn : n ≤ 9223372036854775807) :
  Calls Tryz.prog 25 #[.slice A n c, .string s] w fun e w' => e = .returned (.int .i64 (findZ l s)) ∧ w' = w := by
 have hl := Hd hL.len;replace hL := Hd hL
 go_enter Tryz.func25, Tryz.ntmps25
 go_wp2_with fail
 go_loop [5] (fun t => ∃ q : Nat, t = .int .i64 q ∧ q ≤ n ∧ Hid (∀ i, i < q → l[i]? ≠ some s)) (fun t => n - (intOf t).toNat)
 case atStart => exact ⟨0, rfl, by omega, Hd (fun j hj => absurd hj (by omega))⟩
 case round =>
  obtain ⟨q, rfl, hq, hall⟩ := hrel;by_cases hlt : q < n
  ·obtain ⟨b, off, x, rfl, hb, hx, hok, hc⟩ := hL.out.str hlt
   have hlt' : (q : Int) < (n : Int) := by omega
   by_cases hxs : x = s
   ·subst hxs
    have e1 : (x.toList == x.toList) = true := by simp
    have hres := Hd (findZ_at hx hall.out);replace hx := Hd hx;clear hlt;go_wp2_with fail;go_ret;exact ⟨by rw [hres.out]; rfl, rfl⟩
   ·have e1 : (x.toList == s.toList) = false := by
     rw [beq_eq_false_iff_ne];exact fun h => hxs (toList_inj h)
    have hall' : Hid (∀ i, i < q + 1 → l[i]? ≠ some s) := Hd (fun i hi => by
     rcases Nat.lt_succ_iff_lt_or_eq.1 hi with h1 | h1
     ·exact hall.out i h1
     ·subst h1; rw [hx]; exact fun e => hxs (by injection e))
    replace hx := Hd hx;clear hlt hxs hall;go_wp2_with fail
    go_round
    case rel => exact ⟨q + 1, by go_num, by omega, hall'⟩
    case measure => simp [intOf]; omega
  ·have hlt' : ¬ (q : Int) < (n : Int) := by omega
   have hres : Hid (findZ l s = -1) := Hd (findZ_none (fun i hi => hall.out i (by rw [hl.out] at hi; omega)));clear hlt hall;go_wp2_with fail;go_ret;exact ⟨by rw [hres.out]; rfl, rfl⟩
theorem ref2_IntsL (A B : Option Addr) (n c m d : Nat) (s t : List Int) (w : World) (hX : LAt encI w A n s) (hY : LAt encI w B m t) (hn : n ≤ 9223372036854775807) (hm : m ≤ 9223372036854775807) :
  Calls Tryz.prog 12 #[.slice A n c, .slice B m d] w fun e w' => e = .returned (.bool (decide (s = t))) ∧ ∃ q, w' = w.drewN q := by
 have hXl := hX.len;have hYl := hY.len;by_cases hnm : n = m
 ·subst hnm
  have hee : ((n : Int) != (n : Int)) = false := by simp
  replace hX := Hd hX;replace hY := Hd hY;replace hXl := Hd hXl;replace hYl := Hd hYl
  go_enter Tryz.func12, Tryz.ntmps12
  go_wp2_with fail
  go_loopw [5] (fun t' wr => ∃ j q : Nat, j ≤ n ∧ t' = .int .i64 j ∧ Hid (∀ i, i < j → s[i]? = t[i]?) ∧ wr = w.drewN q) (fun t' _ => n - (intOf t').toNat)
  case atStart => exact ⟨0, 0, Nat.zero_le _, rfl, Hd (fun i hi => absurd hi (by omega)), rfl⟩
  case round =>
   obtain ⟨j, q2, hj, rfl, hin, rfl⟩ := hrel;by_cases hjl : j < n
   ·have hjl' : (j : Int) < (n : Int) := by omega
    obtain ⟨b3, off3, x, rfl, hb3, hx, hok3, x0⟩ := hX.out.int hjl;obtain ⟨b4, off4, y, rfl, hb4, hy, hok4, y0⟩ := hY.out.int hjl;by_cases hxy : x = y
    ·have e1 : (x == y) = true := by rw [hxy]; simp
     have e1' : (x != y) = false := by rw [hxy]; simp
     have hin' : Hid (∀ i, i < j + 1 → s[i]? = t[i]?) := Hd (fun i hi => by
      rcases Nat.lt_succ_iff_lt_or_eq.1 hi with h1 | h1
      ·exact hin.out i h1
      ·subst h1; rw [hx, hy, hxy])
     clear hx hy hjl hxy;go_wp2_with fail
     go_quiet (fail)
     go_wp2_with fail;exact ⟨⟨j + 1, _, by omega, by go_num, hin', rfl⟩, by simp [intOf]; omega⟩
    ·have hno : Hid (decide (s = t) = false) := Hd (decide_eq_false (fun e => by subst e; rw [hx] at hy; injection hy with hy; exact hxy hy))
     have e1 : (x == y) = false := by rw [beq_eq_false_iff_ne]; exact hxy
     have e1' : (x != y) = true := by rw [bne_iff_ne]; exact hxy
     clear hx hy hjl hxy;go_wp2_with fail
     go_quiet (fail)
     go_wp2_with fail;go_ret;exact ⟨by rw [hno.out]; rfl, _, by rw [World.drewN_drewN]⟩
   ·have hjn : j = n := by omega
    have hres := Hd (decide_eq_true (list_eq (s := s) (t := t) (by rw [hXl.out, hYl.out]) (by rw [hXl.out, ← hjn]; exact hin.out)));have hlt' : ¬ (j : Int) < (n : Int) := by omega
    clear hin hjl hjn;go_wp2_with fail;go_ret;exact ⟨by rw [hres.out]; rfl, _, rfl⟩
 ·have hee : ((n : Int) != (m : Int)) = true := by simp; omega
  have hres : Hid (decide (s = t) = false) := Hd (decide_eq_false (fun e => by subst e; omega));clear hnm hX hY;replace hXl := Hd hXl;replace hYl := Hd hYl
  go_enter Tryz.func12, Tryz.ntmps12
  go_wp2_with fail;go_ret;exact ⟨by rw [hres.out]; rfl, 0, rfl⟩


theorem Blk.not_row {w : World} {g : Nat} {t e : TypeId} {cs : List Value} {base size n : Nat} {v : Value} {xs : List Value} (h : Blk w g t cs) (hte : t ≠ e) (hr : w.ownsRow base e size v n xs) : v.ownBlock ≠ some g := by
 rcases hr.2 with ⟨rfl, _⟩ | ⟨k, cap, cur, rfl, _, hk, _⟩
 ·intro h; cases h
 ·intro he
  have : k = g := by simpa [Value.ownBlock] using he
  subst this;rw [show w.heap[k]? = _ from h] at hk;injection hk with hk;injection hk with _ h2 _;exact hte h2
theorem Blk.kept {w w' : World} {g : Nat} {t : TypeId} {cs : List Value} {row : Option Nat} (h : Blk w g t cs) (hg : w.grownBy w' row) (hne : row ≠ some g) : Blk w' g t cs :=
 (hg.block g h.lt (fun e => hne e.symm)).trans h
theorem own_farT {w : World} {g i : Nat} {t e : TypeId} {cs : List Value} {base size n : Nat} {v : Value} {xs : List Value} (hr : w.ownsRow base e size v n xs) (h : Blk w g t cs) (hte : t ≠ e) (u : Value) : (w.setCell ⟨g, i, none⟩ u).ownsRow base e size v n xs := by
 have hne := h.not_row hte hr;refine ⟨hr.1, ?_⟩;rcases hr.2 with h1 | ⟨k, cap, cur, rfl, hb, hk, r⟩
 ·exact .inl h1
 ·refine .inr ⟨k, cap, cur, rfl, hb, ?_, r⟩
  rw [Below.heap_setCell w ⟨g, i, none⟩ u k (fun e => hne (by rw [e]; rfl))];exact hk
structure StOk (st : StF) : Prop where
 s : ∀ x ∈ st.1, x.size ≤ 9223372036854775807
 i : ∀ x ∈ st.2, It.Ok x
 l : st.1.length ≤ st.2.length
 n : st.2.length ≤ 4398046511104
theorem StOk.nil : StOk ([], []) := ⟨fun x h => by simp at h, fun x h => by simp at h, Nat.le_refl _, by simp⟩
theorem StOk.one {st : StF} (h : StOk st) {se pl : Nat} {o : OpT} (hn : st.2.length < 4398046511104) (hse : se ≤ 4398046511104) (hpl : pl ≤ 4398046511104) (ho : (-9223372036854775808 ≤ o.2.2 ∧ o.2.2 < 9223372036854775808) ∧ o.2.1.size ≤ 9223372036854775807) : StOk (oneF se st (o, pl)) := by
 have hl := addV_len st.1 o.2.1;have hf := findZ_range (addV st.1 o.2.1) o.2.1;have h1 := h.l;refine ⟨fun x hx => ?_, fun x hx => ?_, ?_, ?_⟩
 ·simp only [oneF] at hx
  by_cases hfz : findZ st.1 o.2.1 < 0
  ·rw [addV_new hfz] at hx
   rcases List.mem_append.1 hx with hx | hx
   ·exact h.s x hx
   ·rw [List.mem_singleton.1 hx]; exact ho.2
  ·rw [addV_old hfz] at hx; exact h.s x hx
 ·simp only [oneF] at hx
  rcases List.mem_append.1 hx with hx | hx
  ·exact h.i x hx
  ·rw [List.mem_singleton.1 hx]
   have := h.n;exact ⟨by simp only; omega, by simp only; omega, by simp only; omega, by simp only; omega, by simp only; omega, by simp only; omega, ho.1.1, ho.1.2⟩
 ·simp only [oneF, List.length_append, List.length_cons, List.length_nil]; omega
 ·simp only [oneF, List.length_append, List.length_cons, List.length_nil]; omega
structure FI (w wr : World) (g0 g1 : Nat) (v u : Value) (st : StF) : Prop where
 r : Blk wr g0 29 [.slice none 0 0, .slice none 0 0, .slice none 0 0]
 f : Blk wr g1 29 [v, u, .slice none 0 0]
 ov : wr.ownsRow w.heap.size 9 1 v st.1.length (encS.all st.1)
 ou : wr.ownsRow w.heap.size 43 5 u st.2.length (encT.all st.2)
 b : Below w.heap.size w wr
 ok : StOk st
 l0 : w.heap.size ≤ g0
 l1 : g0 < g1
theorem FI.later {w wr w' : World} {g0 g1 : Nat} {v u : Value} {st : StF} (h : FI w wr g0 g1 v u st) (hb : Below wr.heap.size wr w') : FI w w' g0 g1 v u st :=
 ⟨h.r.below hb h.r.lt, h.f.below hb h.f.lt, oBl h.ov hb, oBl h.ou hb, bT2 h.b hb, h.ok, h.l0, h.l1⟩
theorem info_str : (Tryz.prog.info? 9).map (fun i => (i.zero, i.size, i.bytes)) = some (some (.string .empty), 1, 16) := by kernel_rfl
theorem info_item : (Tryz.prog.info? 43).map (fun i => (i.zero, i.size, i.bytes)) = some (some (.agg #[.int .i64 0, .int .i64 0, .bool false, .int .i64 0, .int .i64 0]), 5, 40) := by kernel_rfl
theorem ref9_Of (A : Option Addr) (n c : Nat) (hs : List (List OpT)) (w : World) (hH : HistAt w A n hs) (hn : n ≤ 1099511627776) (hF : (allO hs).length ≤ 1099511627776) :
    Calls Tryz.prog 17 #[.slice A n c] w fun e w' => ∃ v : FV, e = .returned (.tuple #[.agg #[.slice v.A v.n v.c, .slice v.B v.m v.d, .slice v.C v.k v.e], .int .i64 (if rightL hs = true then 0 else 1)]) ∧
      FactsAt w' v (if rightL hs = true then facO hs else ⟨[], [], []⟩) ∧ Below w.heap.size w w' := by
  obtain ⟨i0, hi, hz0, hz1, hz2⟩ := info_parts info_str;obtain ⟨j0, ji, jz0, jz1, jz2⟩ := info_parts info_item;replace hi := Hd hi;replace hz0 := Hd hz0;replace hz1 := Hd hz1;replace hz2 := Hd hz2;replace ji := Hd ji;replace jz0 := Hd jz0;replace jz1 := Hd jz1;replace jz2 := Hd jz2;have hlen := Hd hH.len;have hH0 := Hd hH;obtain ⟨W0, hW0⟩ : ∃ W, W = w.alloc (.cells #[.slice none 0 0, .slice none 0 0, .slice none 0 0] 29) := ⟨_, rfl⟩;obtain ⟨g0, hg0⟩ : ∃ g, g = w.heap.size := ⟨_, rfl⟩;have k0 : Blk W0 g0 29 [.slice none 0 0, .slice none 0 0, .slice none 0 0] := by rw [hW0, hg0]; exact Blk.new w _ _
  have bb := Hd (show Below w.heap.size w W0 from by rw [hW0]; exact (Below.refl _ w).alloc (Nat.le_refl _) _);have cR := Hd (ref6_Right A n c hs W0 (hH.below bb.out) (by omega) (by omega));replace hF := Hd hF
  cases hr : rightL hs with
  | false =>
    rw [hr] at cR;replace hr := Hd hr;clear hH
    go_enter Tryz.func17, Tryz.ntmps17
    go_wp2_with (rw [← hW0, ← hg0]; clear hW0; replace hg0 := Hd hg0);refine cR.out.mono ?_; rintro e w1 ⟨rfl, b⟩;replace bb := Hd (bT2 bb.out b);replace k0 := k0.below b k0.lt;clear b;have c0 := k0.cell 0;have c1 := k0.cell 1;have c2 := k0.cell 2;have f0 := k0.frozen 0;have f1 := k0.frozen 1;have f2 := k0.frozen 2;go_wp2_with fail;have k3 := ((k0.set_ 0 (.slice none 0 0)).set_ 1 (.slice none 0 0)).set_ 2 (.slice none 0 0);have e0 := k3.cell 0;have e1 := k3.cell 1;have e2 := k3.cell 2;refine bodyPost_ret (v := .tuple #[.agg #[.slice none 0 0, .slice none 0 0, .slice none 0 0], .int .i64 1]) (by simp [results, Tryz.results17, go_sem, e0, e1, e2]) rfl ⟨⟨none, 0, 0, none, 0, 0, none, 0, 0⟩, rfl, ⟨LAt.nil _ _ _, Nat.le_refl _, by simp, LAt.nil _ _ _, Nat.le_refl _, by simp, LAt.nil _ _ _, Nat.le_refl _, by simp⟩, ?_⟩;exact ((bb.out.setCell (by rw [hg0.out]; exact Nat.le_refl _) _).setCell (by rw [hg0.out]; exact Nat.le_refl _) _).setCell (by rw [hg0.out]; exact Nat.le_refl _) _
  | true =>
    rw [hr] at cR;replace hr := Hd hr;replace hH := Hd (hH.below bb.out)
    go_enter Tryz.func17, Tryz.ntmps17
    go_wp2_with (rw [← hW0, ← hg0]; clear hW0; replace hg0 := Hd hg0);refine cR.out.mono ?_; rintro e w1 ⟨rfl, b⟩;replace bb := Hd (bT2 bb.out b);replace hH := Hd (hH.out.below b);replace k0 := k0.below b k0.lt;obtain ⟨W1, hW1⟩ : ∃ W, W = w1.alloc (.cells #[.slice none 0 0, .slice none 0 0, .slice none 0 0] 29) := ⟨_, rfl⟩;obtain ⟨g1, hg1⟩ : ∃ g, g = w1.heap.size := ⟨_, rfl⟩;have hFI : FI w W1 g0 g1 (.slice none 0 0) (.slice none 0 0) ([], []) := by
      have b1 : Below w1.heap.size w1 W1 := by rw [hW1]; exact (Below.refl _ w1).alloc (Nat.le_refl _) _
      exact ⟨k0.below b1 k0.lt, by rw [hW1, hg1]; exact Blk.new w1 _ _, World.ownsRow_nil _ _ _ _, World.ownsRow_nil _ _ _ _, bT2 bb.out b1, StOk.nil, by rw [hg0.out]; exact Nat.le_refl _, by rw [hg1]; exact k0.lt⟩
    replace hH := Hd (hH.out.below (show Below w1.heap.size w1 W1 from by rw [hW1]; exact (Below.refl _ w1).alloc (Nat.le_refl _) _));replace hFI := Hd hFI;clear b k0 bb cR;go_wp2_with (rw [← hW1, ← hg1]; clear hW1; replace hg1 := Hd hg1)
    go_loopw [5] (fun i wr => ∃ (k : Nat) (v u : Value), k ≤ n ∧ i = .int .i64 k ∧ Hid (FI w wr g0 g1 v u (hisF (hs.take k))) ∧ Hid (HistAt wr A n hs)) (fun i _ => n - (intOf i).toNat)
    case atStart => exact ⟨0, _, _, Nat.zero_le _, rfl, hFI, hH⟩
    case round =>
      obtain ⟨k, v, u, hk, rfl, hI, hHr⟩ := hrel;by_cases hlt : k < n
      · obtain ⟨b1, off, B, m, cc, os, rfl, hbl, hos, hcell, hmc, hm63, hO⟩ := hHr.out.at_ hlt
        have hlt' : (k : Int) < (n : Int) := by omega
        have hol := Hd hO.len;have htk := Hd (List.take_succ_eq_append_getElem (List.getElem?_eq_some_iff.1 hos).1);rw [(List.getElem?_eq_some_iff.1 hos).2] at htk;replace hos := Hd hos;replace hO := Hd hO;go_wp2_with fail
        go_loopw [6] (fun i wr => ∃ (j : Nat) (v u : Value), j ≤ m ∧ i = .int .i64 j ∧ Hid (FI w wr g0 g1 v u (sesF k (os.take j) (hisF (hs.take k)))) ∧ Hid (HistAt wr (some ⟨b1, off, none⟩) n hs)) (fun i _ => m - (intOf i).toNat)
        case atStart => exact ⟨0, v, u, Nat.zero_le _, rfl, hI, hHr⟩
        case round =>
          clear hI hHr hcell hO;obtain ⟨j, v, u, hj, rfl, hI, hHr⟩ := hrel;obtain ⟨b1', off', B, m', cc, os', e1, hbl, hos', hcell, hmc, hm63, hO⟩ := hHr.out.at_ hlt;injection e1 with e1;injection e1 with e1 e2;subst e1; subst e2;obtain rfl : os' = os := by rw [hos.out] at hos'; injection hos' with h; exact h.symm
          obtain rfl : m' = m := by rw [← hO.len]; exact hol.out
          clear hos';by_cases hjm : j < m'
          · obtain ⟨b2, off2, o, rfl, hb2, ho, hok, x0, x1, x2⟩ := hO.at_ hjm
            have hjm' : (j : Int) < (m' : Int) := by omega
            have htj := Hd (List.take_succ_eq_append_getElem (List.getElem?_eq_some_iff.1 ho).1);rw [(List.getElem?_eq_some_iff.1 ho).2] at htj;obtain ⟨st, hst⟩ : ∃ st, st = sesF k (os'.take j) (hisF (hs.take k)) := ⟨_, rfl⟩;rw [← hst] at hI;have hone : Hid (sesF k (os'.take (j + 1)) (hisF (hs.take k)) = oneF k st (o, j)) := Hd (by
              rw [htj.out, sesF_snoc, ← hst, List.length_take, hol.out, Nat.min_eq_left (by omega)])
            have hstl : st.2.length < 1099511627776 := by
              have h1 := (sesF_len k (os'.take j) (hisF (hs.take k))).1;have h2 := hisF_len (hs.take k);have h3 := allO_take_le hs (k + 1);rw [allO_take_succ hos.out, List.length_append, hol.out] at h3;rw [← hst, h2, List.length_take] at h1;have := hF.out
              omega
            have hjb : j ≤ 4398046511104 := by
              have h3 := allO_take_le hs (k + 1);rw [allO_take_succ hos.out, List.length_append, hol.out] at h3;have := hF.out
              omega
            have hok4 := hI.out.ok.one (se := k) (pl := j) (o := o) (by omega) (by omega) (by omega) hok;have hitok : It.Ok ⟨k, j, o.1, findZ (addV st.1 o.2.1) o.2.1, o.2.2⟩ := hok4.i _ (by simp [oneF]);replace hst := Hd hst;replace ho := Hd ho;replace htj := Hd htj;have hhI := hI;obtain ⟨A1, c1, rfl, h11, h12, hLv⟩ := LAt.of_own hI.out.ov hI.out.ok.s rfl;obtain ⟨Wo, hWo⟩ : ∃ W, W = wr.alloc (.cells #[.bool o.1, .string o.2.1, .int .i64 o.2.2] 49) := ⟨_, rfl⟩;obtain ⟨g2, hg2⟩ : ∃ g, g = wr.heap.size := ⟨_, rfl⟩;have bo : Below wr.heap.size wr Wo := by rw [hWo]; exact (Below.refl _ _).alloc (Nat.le_refl _) _
            have ko : Blk Wo g2 49 [.bool o.1, .string o.2.1, .int .i64 o.2.2] := by rw [hWo, hg2]; exact Blk.new wr _ _
            have I3 := hI.out.later bo;have hne : g1 ≠ g2 := by have := hI.out.f.lt; omega
            have hne' : g2 ≠ g1 := fun e => hne e.symm;have cf := Hd (ref9_find A1 st.1.length c1 st.1 o.2.1 Wo (hLv.below bo) (by omega));replace hHr := Hd (hHr.out.below bo);have q0 := I3.f.cell 0;have q1 := I3.f.cell 1;have p0 := ko.cell 0;have p1 := ko.cell 1;have p2 := ko.cell 2;clear hjm hI hLv hO;replace I3 := Hd I3;replace hitok := Hd hitok;replace hok4 := Hd hok4;obtain ⟨V, hV⟩ : ∃ V, V = findZ st.1 o.2.1 := ⟨_, rfl⟩;rw [← hV] at cf;have hVr := findZ_range st.1 o.2.1;rw [← hV] at hVr;replace hone := Hd hone.out;go_wp2_with (rw [← hWo, ← hg2]; clear hWo; replace hg2 := Hd hg2);refine cf.out.mono ?_; rintro e wx ⟨rfl, hwx⟩;rw [hwx];clear hwx cf;by_cases hV0 : V < 0
            · have hadd : Hid (addV st.1 o.2.1 = st.1 ++ [o.2.1]) := Hd (addV_new (by rw [← hV]; exact hV0))
              have hVis : Hid (findZ (addV st.1 o.2.1) o.2.1 = (st.1.length : Int)) := Hd (by rw [addV_find, if_pos (by rw [← hV]; exact hV0)]);rw [hVis.out] at hitok;have hsl := hok4.out.s o.2.1 (addV_mem _ _);obtain ⟨W3, hW3⟩ : ∃ W, W = Wo.alloc (.cells #[.string o.2.1] 9) := ⟨_, rfl⟩;have b3 : Below Wo.heap.size Wo W3 := by rw [hW3]; exact (Below.refl _ _).alloc (Nat.le_refl _) _
              have hlit : LAt encS W3 (some ⟨Wo.heap.size, 0, none⟩) 1 [o.2.1] := by rw [hW3]; exact LAt.lit1 (E := encS) Wo _ o.2.1 hsl
              have I4 := I3.out.later b3;have ko3 := ko.below b3 ko.lt;have hstn := I4.ok.l;replace hV := Hd hV;go_wp2_with (first
                | (rw [← hW3]
                   clear hW3
                   at_builtin
                   refine wpAL (E := encS) rfl (.tmp 46) (.tmp 49) _ rfl w.heap.size 9 i0 _ 16 Tryz.underlying25 hi.out hz0.out hz1.out hz2.out rfl _ st.1.length st.1 (by rfl) I4.ov _ 1 1 [o.2.1] rfl hlit (by unfold maxLen; omega) (by omega) I4.b.size ?_;intro v' w4 hown' hbb hg hob;obtain ⟨A3, c3, rfl, h31, h32, hL3⟩ := LAt.of_own hown' (fun x hx => (List.mem_append.1 hx).elim (I4.ok.s x) (fun h => by rw [List.mem_singleton.1 h]; exact hsl)) (by simp);have kf4 := I4.f.kept hg (I4.f.not_row (by decide) I4.ov);have kr4 := I4.r.kept hg (I4.r.not_row (by decide) I4.ov);have ko4 := ko3.kept hg (ko3.not_row (by decide) I4.ov);have ou4 := own_grown I4.ou I4.ov (by decide) hg;have b4 := I4.b.trans hbb;clear q0 q1 p0 p1 p2;have q0 := kf4.cell 0;have q1 := kf4.cell 1;have s0 := kf4.frozen 0;have p0 := ko4.cell 0;have p1 := ko4.cell 1;have p2 := ko4.cell 2;obtain ⟨W5, hW5⟩ : ∃ W, W = w4.setCell ⟨g1, 0, none⟩ (.slice A3 (st.1.length + 1) c3) := ⟨_, rfl⟩;have kf5 : Blk W5 g1 29 [.slice A3 (st.1.length + 1) c3, u, .slice none 0 0] := by rw [hW5]; exact kf4.set_ 0 _
                   have kr5 : Blk W5 g0 29 [.slice none 0 0, .slice none 0 0, .slice none 0 0] := by rw [hW5]; exact kr4.far (p := ⟨g1, 0, none⟩) (by have := I3.out.l1; show g0 ≠ g1; omega) _
                   have ov5 : W5.ownsRow w.heap.size 9 1 (.slice A3 (st.1.length + 1) c3) (st.1.length + 1) (encS.all (st.1 ++ [o.2.1])) := by rw [hW5]; exact own_farT (i := 0) hown' kf4 (by decide) _
                   have ou5 : W5.ownsRow w.heap.size 43 5 u st.2.length (encT.all st.2) := by rw [hW5]; exact own_farT (i := 0) ou4 kf4 (by decide) _
                   have b5 : Below w.heap.size w W5 := by rw [hW5]; exact b4.setCell (p := ⟨g1, 0, none⟩) (by have := I3.out.l0; have := I3.out.l1; show w.heap.size ≤ g1; omega) _
                   clear hbb hg hob hlit ko3 I4 b3 hL3 h31 h32 kf4 kr4 ko4 ou4 b4 hown';obtain ⟨W6, hW6⟩ : ∃ W, W = W5.alloc (.cells #[.int .i64 (k : Int), .int .i64 (j : Int), .bool o.1, .int .i64 (st.1.length : Int), .int .i64 o.2.2] 43) := ⟨_, rfl⟩;have b6 : Below W5.heap.size W5 W6 := by rw [hW6]; exact (Below.refl _ _).alloc (Nat.le_refl _) _
                   have hlit6 : LAt encT W6 (some ⟨W5.heap.size, 0, none⟩) 1 [⟨k, j, o.1, (st.1.length : Int), o.2.2⟩] := by rw [hW6]; exact LAt.lit1 (E := encT) W5 _ ⟨k, j, o.1, (st.1.length : Int), o.2.2⟩ hitok.out
                   have ov6 := Hd (oBl ov5 b6);have ou6 := Hd (oBl ou5 b6);have kf6 := Hd (kf5.below b6 kf5.lt);have kr6 := Hd (kr5.below b6 kr5.lt);have hw6 : w.heap.size ≤ W6.heap.size := Nat.le_trans b5.size b6.size;have bw6 := Hd (bT2 b5 b6);replace hlit6 := Hd hlit6;clear ov5 ou5 kf5 kr5 b5 b6;rw [show W5.heap.size = w4.heap.size from by rw [hW5]; simp] at hlit6
                   )
                | (rw [← hW5, ← hW6]
                   clear hW5 hW6
                   at_builtin
                   refine wpAL (E := encT) rfl (.tmp 53) (.tmp 62) _ rfl w.heap.size 43 j0 _ 40 Tryz.underlying26 ji.out jz0.out jz1.out jz2.out rfl _ st.2.length st.2 (by rfl) ou6.out _ 1 1 _ rfl hlit6.out (by unfold maxLen; omega) (by omega) hw6 ?_;intro v7 w7 hown7 hbb7 hg7 hob7;obtain ⟨A7, c7, rfl, h71, h72, hL7⟩ := LAt.of_own hown7 (fun x hx => (List.mem_append.1 hx).elim (I3.out.ok.i x) (fun h => by rw [List.mem_singleton.1 h]; exact hitok.out)) (by simp);have kf7 := kf6.out.kept hg7 (kf6.out.not_row (by decide) ou6.out);have kr7 := kr6.out.kept hg7 (kr6.out.not_row (by decide) ou6.out);have ov7 := own_grown ov6.out ou6.out (by decide) hg7;have b7 : Below w.heap.size w w7 := bw6.out.trans hbb7;have r0 := kf7.cell 0;have r1 := kf7.cell 1;have r2 := kf7.cell 2;have s1 := kf7.frozen 1;have kf8 := Hd (kf7.set_ 1 (.slice A7 (st.2.length + 1) c7));have kr8 := Hd (kr7.far (p := ⟨g1, 1, none⟩) (by have := I3.out.l1; show g0 ≠ g1; omega) (.slice A7 (st.2.length + 1) c7));have ov8 := Hd (own_farT (i := 1) ov7 kf7 (by decide) (.slice A7 (st.2.length + 1) c7));have ou8 := Hd (own_farT (i := 1) hown7 kf7 (by decide) (.slice A7 (st.2.length + 1) c7));have b8 := Hd (b7.setCell (p := ⟨g1, 1, none⟩) (by have := I3.out.l0; have := I3.out.l1; show w.heap.size ≤ g1; omega) (.slice A7 (st.2.length + 1) c7));clear ov6 ou6 kf6 kr6 hlit6 hown7 hbb7 hg7 hob7 kf7 kr7 ov7 b7 hL7 h71 h72 hw6 bw6
                   ))
              exact ⟨⟨j + 1, _, _, by omega, by go_num, Hd (by
                rw [hone.out];unfold oneF;rw [hVis.out];refine ⟨kr8.out, kf8.out, ?_, by rw [List.length_append]; exact ou8.out, b8.out, by have := hok4.out; unfold oneF at this; rw [hVis.out] at this; exact this, I3.out.l0, I3.out.l1⟩
                show World.ownsRow _ _ _ _ _ (addV st.1 o.2.1).length (encS.all (addV st.1 o.2.1))
                rw [hadd.out];have h := ov8.out
                first | exact h | (rw [List.length_append]; exact h)), Hd (hH0.out.below b8.out)⟩, by simp [intOf]; omega⟩
            · have hadd : Hid (addV st.1 o.2.1 = st.1) := Hd (addV_old (by rw [← hV]; exact hV0))
              have hVis : Hid (findZ (addV st.1 o.2.1) o.2.1 = V) := Hd (by rw [addV_find, if_neg (by rw [← hV]; exact hV0), hV]);rw [hVis.out] at hitok;replace hV := Hd hV;have ov5 := I3.out.ov;have ou5 := I3.out.ou;have kf5 := I3.out.f;have kr5 := I3.out.r;have b5 := I3.out.b;obtain ⟨W6, hW6⟩ : ∃ W, W = Wo.alloc (.cells #[.int .i64 (k : Int), .int .i64 (j : Int), .bool o.1, .int .i64 V, .int .i64 o.2.2] 43) := ⟨_, rfl⟩;have b6 : Below Wo.heap.size Wo W6 := by rw [hW6]; exact (Below.refl _ _).alloc (Nat.le_refl _) _
              have hlit6 : LAt encT W6 (some ⟨Wo.heap.size, 0, none⟩) 1 [⟨k, j, o.1, V, o.2.2⟩] := by rw [hW6]; exact LAt.lit1 (E := encT) Wo _ ⟨k, j, o.1, V, o.2.2⟩ hitok.out
              have ov6 := Hd (oBl ov5 b6);have ou6 := Hd (oBl ou5 b6);have kf6 := Hd (kf5.below b6 kf5.lt);have kr6 := Hd (kr5.below b6 kr5.lt);have hw6 : w.heap.size ≤ W6.heap.size := Nat.le_trans b5.size b6.size;have bw6 := Hd (bT2 b5 b6);replace hlit6 := Hd hlit6;clear ov5 ou5 kf5 kr5 b5 b6;go_wp2_with (
                rw [← hW6];clear hW6
                at_builtin
                refine wpAL (E := encT) rfl (.tmp 53) (.tmp 62) _ rfl w.heap.size 43 j0 _ 40 Tryz.underlying26 ji.out jz0.out jz1.out jz2.out rfl _ st.2.length st.2 (by rfl) ou6.out _ 1 1 _ rfl hlit6.out (by unfold maxLen; omega) (by omega) hw6 ?_;intro v7 w7 hown7 hbb7 hg7 hob7;obtain ⟨A7, c7, rfl, h71, h72, hL7⟩ := LAt.of_own hown7 (fun x hx => (List.mem_append.1 hx).elim (I3.out.ok.i x) (fun h => by rw [List.mem_singleton.1 h]; exact hitok.out)) (by simp);have kf7 := kf6.out.kept hg7 (kf6.out.not_row (by decide) ou6.out);have kr7 := kr6.out.kept hg7 (kr6.out.not_row (by decide) ou6.out);have ov7 := own_grown ov6.out ou6.out (by decide) hg7;have b7 : Below w.heap.size w w7 := bw6.out.trans hbb7;have r0 := kf7.cell 0;have r1 := kf7.cell 1;have r2 := kf7.cell 2;have s1 := kf7.frozen 1;have kf8 := Hd (kf7.set_ 1 (.slice A7 (st.2.length + 1) c7));have kr8 := Hd (kr7.far (p := ⟨g1, 1, none⟩) (by have := I3.out.l1; show g0 ≠ g1; omega) (.slice A7 (st.2.length + 1) c7));have ov8 := Hd (own_farT (i := 1) ov7 kf7 (by decide) (.slice A7 (st.2.length + 1) c7));have ou8 := Hd (own_farT (i := 1) hown7 kf7 (by decide) (.slice A7 (st.2.length + 1) c7));have b8 := Hd (b7.setCell (p := ⟨g1, 1, none⟩) (by have := I3.out.l0; have := I3.out.l1; show w.heap.size ≤ g1; omega) (.slice A7 (st.2.length + 1) c7));clear ov6 ou6 kf6 kr6 hlit6 hown7 hbb7 hg7 hob7 kf7 kr7 ov7 b7 hL7 h71 h72 hw6 bw6
                )
              exact ⟨⟨j + 1, _, _, by omega, by go_num, Hd (by
                rw [hone.out];unfold oneF;rw [hVis.out];refine ⟨kr8.out, kf8.out, ?_, by rw [List.length_append]; exact ou8.out, b8.out, by have := hok4.out; unfold oneF at this; rw [hVis.out] at this; exact this, I3.out.l0, I3.out.l1⟩
                show World.ownsRow _ _ _ _ _ (addV st.1 o.2.1).length (encS.all (addV st.1 o.2.1))
                rw [hadd.out];have h := ov8.out
                first | exact h | (rw [List.length_append]; exact h)), Hd (hH0.out.below b8.out)⟩, by simp [intOf]; omega⟩
          · have hjm' : ¬ (j : Int) < (m' : Int) := by omega
            have htk2 : os'.take j = os' := List.take_of_length_le (by rw [hol.out]; omega);rw [htk2] at hI;have hnx : Hid (hisF (hs.take (k + 1)) = sesF k os' (hisF (hs.take k))) := Hd (by
              rw [htk.out, hisF_snoc, List.length_take, hlen.out, Nat.min_eq_left (by omega)])
            rw [← hnx.out] at hI;clear hjm htk2 hO;go_wp2_with fail;exact ⟨⟨k + 1, _, _, by omega, by go_num, hI, hHr⟩, by simp [intOf]; omega⟩
      · have hkn' : ¬ (k : Int) < (n : Int) := by omega
        rw [show hs.take k = hs from List.take_of_length_le (by rw [hlen.out]; omega)] at hI;obtain ⟨A1, c1, rfl, h11, h12, hLv⟩ := LAt.of_own hI.out.ov hI.out.ok.s rfl;obtain ⟨A2, c2, rfl, h21, h22, hLu⟩ := LAt.of_own hI.out.ou hI.out.ok.i rfl;obtain ⟨N, hN⟩ : ∃ N, N = (hisF hs).1.length := ⟨_, rfl⟩;obtain ⟨M, hM⟩ : ∃ M, M = (hisF hs).2.length := ⟨_, rfl⟩;have kf := hI.out.f;have kr := hI.out.r;rw [← hN] at kf hLv h11;rw [← hM] at kf hLu h21;have q0 := kf.cell 0;have q1 := kf.cell 1;have q2 := kf.cell 2;have s0 := kr.frozen 0;have s1 := kr.frozen 1;have s2 := kr.frozen 2;have p0 := kr.cell 0;have p1 := kr.cell 1;have p2 := kr.cell 2;have k3 := ((kr.set_ 0 (.slice A1 N c1)).set_ 1 (.slice A2 M c2)).set_ 2 (.slice none 0 0);have e0 := k3.cell 0;have e1 := k3.cell 1;have e2 := k3.cell 2;have bl := hI.out.l0;have bS : ∀ i (u : Value) (X : World), Below w.heap.size w X → Below w.heap.size w (X.setCell ⟨g0, i, none⟩ u) := fun i u X h => h.setCell (p := ⟨g0, i, none⟩) bl u;have bE := bS 2 (.slice none 0 0) _ (bS 1 (.slice A2 M c2) _ (bS 0 (.slice A1 N c1) _ hI.out.b));have ovX := own_farT (i := 2) (own_farT (i := 1) (own_farT (i := 0) hI.out.ov kr (by decide) (.slice A1 N c1)) (kr.set_ 0 _) (by decide) (.slice A2 M c2)) ((kr.set_ 0 _).set_ 1 _) (by decide) (.slice none 0 0);have ouX := own_farT (i := 2) (own_farT (i := 1) (own_farT (i := 0) hI.out.ou kr (by decide) (.slice A1 N c1)) (kr.set_ 0 _) (by decide) (.slice A2 M c2)) ((kr.set_ 0 _).set_ 1 _) (by decide) (.slice none 0 0);have hLX := LAt.of_own' ovX hI.out.ok.s rfl;have hUX := LAt.of_own' ouX hI.out.ok.i rfl;rw [← hN] at hLX;rw [← hM] at hUX;replace hLX := Hd hLX;replace hUX := Hd hUX;replace bE := Hd bE;clear ovX ouX bS hLv hLu kf kr k3 hlt hn;replace hI := Hd True.intro;replace hN := Hd hN;replace hM := Hd hM;go_wp2_with fail;refine bodyPost_ret (v := .tuple #[.agg #[.slice A1 N c1, .slice A2 M c2, .slice none 0 0], .int .i64 0]) (by simp [results, Tryz.results17, go_sem, e0, e1, e2]) rfl ⟨⟨A1, N, c1, A2, M, c2, none, 0, 0⟩, rfl, ?_, bE.out⟩;exact ⟨hLX.out, h11, h12, hUX.out, h21, h22, LAt.nil _ _ _, Nat.le_refl _, by simp⟩


def RetIL (xs : List Int) (w : World) (e : Ending) (w' : World) : Prop := ∃ A n c, e = .returned (.slice A n c) ∧ LAt encI w' A n xs ∧ n ≤ c ∧ c ≤ 9223372036854775807 ∧ Below w.heap.size w w'
theorem info_int1 : (Tryz.prog.info? 3).map (fun i => (i.zero, i.size, i.bytes)) = some (some (.int .i64 0), 1, 8) := by kernel_rfl
theorem ref11_From (v : FV) (f : Fac) (w : World) (hF : FactsAt w v f) (hm : v.m ≤ 1048576) :
  Calls Tryz.prog 27 #[.agg #[.slice v.A v.n v.c, .slice v.B v.m v.d, .slice v.C v.k v.e]] w (RetIL (fromF f.items) w) := by
 have hil := hF.is.len;obtain ⟨i0, hi, hz0, hz1, hz2⟩ := info_parts info_int1;replace hi := Hd hi;replace hz0 := Hd hz0;replace hz1 := Hd hz1;replace hz2 := Hd hz2;have hB0 := Hd (FBox.new hF);obtain ⟨g, hg⟩ : ∃ g, g = w.heap.size := ⟨_, rfl⟩;obtain ⟨W0, hW0⟩ : ∃ W, W = w.alloc (.cells #[.slice v.A v.n v.c, .slice v.B v.m v.d, .slice v.C v.k v.e] 29) := ⟨_, rfl⟩;rw [← hW0, ← hg] at hB0;clear hF;have hgW : g < W0.heap.size := hB0.out.k.lt;have p0 := hB0.out.c0;have p1 := hB0.out.c1;have p2 := hB0.out.c2
 go_enter Tryz.func27, Tryz.ntmps27
 go_wp2_with (rw [← hW0, ← hg]; clear hW0 hg);clear p0 p1 p2
 go_loopw [3, 4] (fun u t wr => ∃ k : Nat, k ≤ v.m ∧ t = .int .i64 k ∧ Hid (Below W0.heap.size W0 wr) ∧ Hid (wr.ownsRow W0.heap.size 3 1 u k (encI.all ((fromF f.items).take k)))) (fun _ t _ => v.m - (intOf t).toNat)
 case atStart => exact ⟨0, Nat.zero_le _, rfl, Hd (Below.refl _ _), Hd (World.ownsRow_nil _ _ _ _)⟩
 case round =>
  obtain ⟨k, hk, rfl, hb, hown⟩ := hrel;have hB := Hd (hB0.out.later hb.out);have p0 := hB.out.c0;have p1 := hB.out.c1;have p2 := hB.out.c2;by_cases hlt : k < v.m
  ·have hlt' : (k : Int) < (v.m : Int) := by omega
   obtain ⟨ib, io, x, hxB, hib, hx, hxo, i0', i1, i2, i3, i4⟩ := hB.out.f.is.item hlt;rw [hxB] at p1;have htk := Hd (fromF_take hx);have hone : fromOne f.items x = if x.wr = true then -3 else if x.vl = 0 then -1 else match writeF f.items x.va x.vl with | some w => (w : Int) | none => -2 := rfl
   have hrg := fromOne_range f.items x;obtain ⟨z, hz⟩ : ∃ z, z = fromOne f.items x := ⟨_, rfl⟩;rw [← hz] at htk hone hrg;obtain ⟨xs, xp, xw, xa, xl⟩ := x
   simp only at i0' i1 i2 i3 i4 hone
   obtain ⟨V, hV⟩ : ∃ W, W = wr.alloc (.cells #[.int .i64 xs, .int .i64 xp, .bool xw, .int .i64 xa, .int .i64 xl] 43) := ⟨_, rfl⟩;obtain ⟨gx, hgx⟩ : ∃ g, g = wr.heap.size := ⟨_, rfl⟩;have bV : Below wr.heap.size wr V := by rw [hV]; exact (Below.refl _ _).alloc (Nat.le_refl _) _
   have kIt : Blk V gx 43 [.int .i64 xs, .int .i64 xp, .bool xw, .int .i64 xa, .int .i64 xl] := by rw [hV, hgx]; exact Blk.new wr _ _
   have hBV := Hd (hB.out.later bV);have j3 := kIt.cell 3;have j4 := kIt.cell 4;simp only [gZ, gS] at j3 j4;have w0 := hBV.out.c0;have w1 := hBV.out.c1;have w2 := hBV.out.c2;have cW := ref10_Write v f xa xl V hBV.out.f;unfold RetWrite at cW;obtain ⟨o, ho⟩ : ∃ o, o = writeF f.items xa xl := ⟨_, rfl⟩;rw [← ho] at cW hone;obtain ⟨r1, hr1⟩ : ∃ r : Int, r = ((o.getD 0 : Nat) : Int) := ⟨_, rfl⟩;obtain ⟨r2, hr2⟩ : ∃ r, r = o.isSome := ⟨_, rfl⟩;rw [← hr1, ← hr2] at cW;have hzz : z = if xw = true then -3 else if xl = 0 then -1 else if r2 = true then r1 else -2 := by
    rw [hone, hr1, hr2]
    cases o <;> rfl
   replace cW := Hd cW;replace ho := Hd ho;replace hr1 := Hd hr1;replace hr2 := Hd hr2;replace kIt := Hd kIt;have bW := Hd (bT2 hb.out bV);have hownV := Hd (oBl hown.out bV);clear hone hx hxo hxB hlt hz bV hb hown hB;go_wp2_with (rw [← hV, ← hgx]; clear hV; replace hgx := Hd hgx);refine cW.out.mono ?_; rintro e w3 ⟨rfl, b3⟩;replace kIt := Hd (kIt.out.below b3 kIt.out.lt);replace bW := Hd (bT2 bW.out b3);replace hownV := Hd (oBl hownV.out b3);clear w0 w1 w2 p0 p1 p2 j3 j4 i0' i1 i2 i3 i4 b3 cW hBV;have j2 := kIt.out.cell 2;have j4 := kIt.out.cell 4;simp only [gZ, gS] at j2 j4;obtain ⟨gl, hgl⟩ : ∃ g, g = w3.heap.size := ⟨_, rfl⟩
   cases xw with
   | true =>
    have hzv : z = -3 := by rw [hzz]; rfl
    rw [hzv] at htk hrg;obtain ⟨VL, hVL⟩ : ∃ W, W = w3.alloc (.cells #[.int .i64 (-3)] 3) := ⟨_, rfl⟩;have bL : Below w3.heap.size w3 VL := by rw [hVL]; exact (Below.refl _ _).alloc (Nat.le_refl _) _
    have hlit := Hd (show LAt encI VL (some ⟨gl, 0, none⟩) 1 [(-3 : Int)] from by rw [hVL, hgl]; exact LAt.lit1 (E := encI) w3 3 (-3) ⟨by omega, by omega⟩);have hownL := Hd (oBl hownV.out bL);have bWL := Hd (bT2 bW.out bL);have hbase := Hd bWL.out.size;clear hzv hzz bL hownV bW;go_wp2_with (first
     | (rw [← hVL, ← hgl]; clear hVL hgl)
     | (at_builtin; refine wpAL (E := encI) rfl (.tmp 37) (.tmp 39) _ rfl W0.heap.size 3 i0 _ 8 Tryz.underlying27 hi.out hz0.out hz1.out hz2.out rfl _ k ((fromF f.items).take k) (by rfl) hownL.out _ 1 1 _ rfl hlit.out (by unfold maxLen; omega) (by omega) hbase.out ?_; intro v' w7 hown' hb7 _ _))
    refine ⟨⟨k + 1, by omega, by go_num, Hd (bWL.out.trans hb7), Hd (by rw [htk.out]; exact hown')⟩, by simp [intOf]; omega⟩
   | false =>
    by_cases h0 : xl = 0
    ·have e0 : (xl == 0) = true := by simp [h0]
     replace h0 := Hd h0;have hzv : z = -1 := by rw [hzz]; (rw [if_neg (by simp), if_pos h0.out])
     rw [hzv] at htk hrg;obtain ⟨VL, hVL⟩ : ∃ W, W = w3.alloc (.cells #[.int .i64 (-1)] 3) := ⟨_, rfl⟩;have bL : Below w3.heap.size w3 VL := by rw [hVL]; exact (Below.refl _ _).alloc (Nat.le_refl _) _
     have hlit := Hd (show LAt encI VL (some ⟨gl, 0, none⟩) 1 [(-1 : Int)] from by rw [hVL, hgl]; exact LAt.lit1 (E := encI) w3 3 (-1) ⟨by omega, by omega⟩);have hownL := Hd (oBl hownV.out bL);have bWL := Hd (bT2 bW.out bL);have hbase := Hd bWL.out.size;clear hzv hzz bL hownV bW;go_wp2_with (first
      | (rw [← hVL, ← hgl]; clear hVL hgl)
      | (at_builtin; refine wpAL (E := encI) rfl (.tmp 37) (.tmp 39) _ rfl W0.heap.size 3 i0 _ 8 Tryz.underlying27 hi.out hz0.out hz1.out hz2.out rfl _ k ((fromF f.items).take k) (by rfl) hownL.out _ 1 1 _ rfl hlit.out (by unfold maxLen; omega) (by omega) hbase.out ?_; intro v' w7 hown' hb7 _ _))
     refine ⟨⟨k + 1, by omega, by go_num, Hd (bWL.out.trans hb7), Hd (by rw [htk.out]; exact hown')⟩, by simp [intOf]; omega⟩
    ·have e0 : (xl == 0) = false := by simp [h0]
     replace h0 := Hd h0
     cases r2 with
     | true =>
      have hzv : z = r1 := by rw [hzz]; (rw [if_neg (by simp), if_neg h0.out]; rfl)
      rw [hzv] at htk hrg;obtain ⟨VL, hVL⟩ : ∃ W, W = w3.alloc (.cells #[.int .i64 (r1)] 3) := ⟨_, rfl⟩;have bL : Below w3.heap.size w3 VL := by rw [hVL]; exact (Below.refl _ _).alloc (Nat.le_refl _) _
      have hlit := Hd (show LAt encI VL (some ⟨gl, 0, none⟩) 1 [(r1 : Int)] from by rw [hVL, hgl]; exact LAt.lit1 (E := encI) w3 3 (r1) ⟨by omega, by omega⟩);have hownL := Hd (oBl hownV.out bL);have bWL := Hd (bT2 bW.out bL);have hbase := Hd bWL.out.size;clear hzv hzz bL hownV bW;go_wp2_with (first
       | (rw [← hVL, ← hgl]; clear hVL hgl)
       | (at_builtin; refine wpAL (E := encI) rfl (.tmp 37) (.tmp 39) _ rfl W0.heap.size 3 i0 _ 8 Tryz.underlying27 hi.out hz0.out hz1.out hz2.out rfl _ k ((fromF f.items).take k) (by rfl) hownL.out _ 1 1 _ rfl hlit.out (by unfold maxLen; omega) (by omega) hbase.out ?_; intro v' w7 hown' hb7 _ _))
      refine ⟨⟨k + 1, by omega, by go_num, Hd (bWL.out.trans hb7), Hd (by rw [htk.out]; exact hown')⟩, by simp [intOf]; omega⟩
     | false =>
      have hzv : z = -2 := by rw [hzz]; (rw [if_neg (by simp), if_neg h0.out]; rfl)
      rw [hzv] at htk hrg;obtain ⟨VL, hVL⟩ : ∃ W, W = w3.alloc (.cells #[.int .i64 (-2)] 3) := ⟨_, rfl⟩;have bL : Below w3.heap.size w3 VL := by rw [hVL]; exact (Below.refl _ _).alloc (Nat.le_refl _) _
      have hlit := Hd (show LAt encI VL (some ⟨gl, 0, none⟩) 1 [(-2 : Int)] from by rw [hVL, hgl]; exact LAt.lit1 (E := encI) w3 3 (-2) ⟨by omega, by omega⟩);have hownL := Hd (oBl hownV.out bL);have bWL := Hd (bT2 bW.out bL);have hbase := Hd bWL.out.size;clear hzv hzz bL hownV bW;go_wp2_with (first
       | (rw [← hVL, ← hgl]; clear hVL hgl)
       | (at_builtin; refine wpAL (E := encI) rfl (.tmp 37) (.tmp 39) _ rfl W0.heap.size 3 i0 _ 8 Tryz.underlying27 hi.out hz0.out hz1.out hz2.out rfl _ k ((fromF f.items).take k) (by rfl) hownL.out _ 1 1 _ rfl hlit.out (by unfold maxLen; omega) (by omega) hbase.out ?_; intro v' w7 hown' hb7 _ _))
      refine ⟨⟨k + 1, by omega, by go_num, Hd (bWL.out.trans hb7), Hd (by rw [htk.out]; exact hown')⟩, by simp [intOf]; omega⟩
  ·have hlt' : ¬ (k : Int) < (v.m : Int) := by omega
   have hkm : k = v.m := by omega
   subst hkm;rw [List.take_of_length_le (by rw [fromF_len, hil]; exact Nat.le_refl _)] at hown;obtain ⟨A, c, rfl, hnc, hcm, hL⟩ := LAt.of_own hown.out (fun z hz => by
    obtain ⟨x, _, rfl⟩ := List.mem_map.1 hz;have := fromOne_range f.items x;exact ⟨by omega, by omega⟩) (by rw [fromF_len, hil])
   clear hlt;go_wp2_with fail;go_ret;exact ⟨A, _, c, rfl, hL, hnc, hcm, hB.out.o⟩
theorem ref11_Fill (v : FV) (f : Fac) (w : World) (hF : FactsAt w v f) (hm : v.m ≤ 1048576) :
  Calls Tryz.prog 19 #[.agg #[.slice v.A v.n v.c, .slice v.B v.m v.d, .slice v.C v.k v.e]] w (RetFacts (fillF f) w) := by
 have hB0 := Hd (FBox.new hF);obtain ⟨g, hg⟩ : ∃ g, g = w.heap.size := ⟨_, rfl⟩;obtain ⟨W0, hW0⟩ : ∃ W, W = w.alloc (.cells #[.slice v.A v.n v.c, .slice v.B v.m v.d, .slice v.C v.k v.e] 29) := ⟨_, rfl⟩;rw [← hW0, ← hg] at hB0;clear hF;obtain ⟨gr, hgr⟩ : ∃ g, g = W0.heap.size := ⟨_, rfl⟩;obtain ⟨W1, hW1⟩ : ∃ W, W = W0.alloc (.cells #[.slice none 0 0, .slice none 0 0, .slice none 0 0] 29) := ⟨_, rfl⟩;have b1 : Below W0.heap.size W0 W1 := by rw [hW1]; exact (Below.refl _ _).alloc (Nat.le_refl _) _
 have kR : Blk W1 gr 29 [.slice none 0 0, .slice none 0 0, .slice none 0 0] := by rw [hW1, hgr]; exact Blk.new W0 _ _
 have hB1 := Hd (hB0.out.later b1);have hgw : w.heap.size ≤ gr := by rw [hgr]; exact hB0.out.o.size
 clear hB0 b1
 go_enter Tryz.func19, Tryz.ntmps19
 go_wp2_with (first | (rw [← hW0, ← hg]; clear hW0 hg) | (rw [← hW1, ← hgr]; clear hW1; replace hgr := Hd hgr));refine wpRp 7 [(true, 0), (true, 1), (true, 2), (true, 3), (true, 4), (false, 5), (true, 6)] (by kernel_rfl) (by kernel_rfl) (fun V hV => ?_);have hB := Hd (show FBox w g v f V from by rw [hV.out]; exact hB1.out.later (Below.refl _ _).drew);replace kR := Hd (show Blk V gr 29 [.slice none 0 0, .slice none 0 0, .slice none 0 0] from by rw [hV.out]; exact kR);clear hV hB1;have p0 := hB.out.c0;have p1 := hB.out.c1;have p2 := hB.out.c2;have cF := Hd (ref11_From v f V hB.out.f hm);simp only [List.drop_succ_cons, List.drop_zero]
 iterate 5
  refine wpPf (v := ?_) rfl (by rfl) (fun w' hw' => ?_) (fun K hK => ?_);rotate_left
  ·(go_simp; try with_reducible rfl)
  go_simp;refine hK _ ?_;clear hK K
 refine wpPo rfl (by rfl) (fun K hK => ?_);go_simp;refine cF.out.mono ?_;rintro e w3 ⟨C, k, ce, rfl, hL, hke, hem, b3⟩;refine hK _ _ b3 ?_;clear hK K;replace hB := Hd (hB.out.later b3);replace kR := kR.out.below b3 kR.out.lt
 iterate 1
  refine wpPf (v := ?_) rfl (by rfl) (fun w' hw' => ?_) (fun K hK => ?_);rotate_left
  ·(go_simp; try with_reducible rfl)
  go_simp;refine hK _ ?_;clear hK K
 refine wpPn ?_;have hY := (⟨hB.out.f.vs, hB.out.f.vc, hB.out.f.vm, hB.out.f.is, hB.out.f.ic, hB.out.f.im, hL, hke, hem⟩ : FactsAt w3 ⟨v.A, v.n, v.c, v.B, v.m, v.d, C, k, ce⟩ (fillF f));have hY3 := Hd (hY.put kR (fun u hu => by simp only [List.mem_cons, List.not_mem_nil, or_false] at hu; rcases hu with rfl | rfl | rfl <;> exact ⟨_, _, _, rfl⟩));have k4 := ((kR.set_ 0 (.slice v.A v.n v.c)).set_ 1 (.slice v.B v.m v.d)).set_ 2 (.slice C k ce);have e0 := k4.cell 0;have e1 := k4.cell 1;have e2 := k4.cell 2;have c0 := kR.cell 0;have c1 := kR.cell 1;have c2 := kR.cell 2;have f0 := kR.frozen 0;have f1 := kR.frozen 1;have f2 := kR.frozen 2;have hb3 := Hd (((hB.out.o.setCell (p := ⟨gr, 0, none⟩) hgw (.slice v.A v.n v.c)).setCell (p := ⟨gr, 1, none⟩) hgw (.slice v.B v.m v.d)).setCell (p := ⟨gr, 2, none⟩) hgw (.slice C k ce));clear k4 kR hY hL b3 p0 p1 p2;go_wp2_with fail;refine NoPanic.normal ?_;go_wp2_with fail;exact bodyPost_ret (v := .agg #[.slice v.A v.n v.c, .slice v.B v.m v.d, .slice C k ce]) (by simp [results, Tryz.results19, go_sem, e0, e1, e2]) rfl ⟨⟨v.A, v.n, v.c, v.B, v.m, v.d, C, k, ce⟩, rfl, hY3.out, hb3.out⟩
theorem info_int2 : (Tryz.prog.info? 3).map (fun i => (i.zero, i.size, i.bytes)) = some (some (.int .i64 0), 1, 8) := by kernel_rfl
theorem ref12_Ahead (v : FV) (f : Fac) (i j : Int) (w : World) (hF : FactsAt w v f) :
  Calls Tryz.prog 124 #[.agg #[.slice v.A v.n v.c, .slice v.B v.m v.d, .slice v.C v.k v.e], .int .i64 i, .int .i64 j] w (RetBool (aheadF f.items i j) w) := by
 have hil := hF.is.len;have hB0 := Hd (FBox.new hF);obtain ⟨g, hg⟩ : ∃ g, g = w.heap.size := ⟨_, rfl⟩;obtain ⟨W0, hW0⟩ : ∃ W, W = w.alloc (.cells #[.slice v.A v.n v.c, .slice v.B v.m v.d, .slice v.C v.k v.e] 29) := ⟨_, rfl⟩;rw [← hW0, ← hg] at hB0;clear hF;have p0 := hB0.out.c0;have p1 := hB0.out.c1;have p2 := hB0.out.c2;by_cases hi : 0 ≤ i
 ·have d1 : decide (0 ≤ i) = true := decide_eq_true hi
  by_cases hj : 0 ≤ j
  ·have d2 : decide (0 ≤ j) = true := decide_eq_true hj
   by_cases him : i < (v.m : Int)
   ·have d3 : decide (i < (v.m : Int)) = true := decide_eq_true him
    by_cases hjm : j < (v.m : Int)
    ·have d4 : decide (j < (v.m : Int)) = true := decide_eq_true hjm
     obtain ⟨ib, io, x, hxB, hib, hx, hxo, i0, i1, -, -, -⟩ := hB0.out.f.is.item (show i.toNat < v.m by omega);obtain ⟨jb, jo, y, hyB, hjb, hy, hyo, j0, j1, -, -, -⟩ := hB0.out.f.is.item (show j.toNat < v.m by omega);rw [hxB] at p1 hyB;injection hyB with hyB;injection hyB with h1 h2;subst h1; subst h2;have hres := aheadF_at hi hj hx hy;have bi : 0 ≤ i ∧ i < (v.m : Int) := ⟨hi, him⟩;have bj : 0 ≤ j ∧ j < (v.m : Int) := ⟨hj, hjm⟩;by_cases hse : x.se = y.se
     ·have e1 : (x.se == y.se) = true := by simp [hse]
      rw [decide_eq_true hse, Bool.true_and] at hres;replace hres := Hd hres;replace hse := Hd hse;clear hxB hx hy hxo hyo hib hjb;clear hil
      go_enter Tryz.func124, Tryz.ntmps124
      go_wp2_with (rw [← hW0, ← hg]; clear hW0 hg)
      go_quiet (fail)
      go_wp2_with fail;go_ret;rw [hres.out];exact ⟨rfl, bDN hB0.out.o _⟩
     ·have e1 : (x.se == y.se) = false := by simpa using hse
      rw [decide_eq_false hse, Bool.false_and] at hres;replace hres := Hd hres;replace hse := Hd hse;clear hxB hx hy hxo hyo hib hjb;clear hil
      go_enter Tryz.func124, Tryz.ntmps124
      go_wp2_with (rw [← hW0, ← hg]; clear hW0 hg)
      go_quiet (fail)
      go_wp2_with fail;go_ret;rw [hres.out];exact ⟨rfl, bDN hB0.out.o _⟩
    ·have d4 : decide (j < (v.m : Int)) = false := decide_eq_false hjm
     have hres := Hd (aheadF_out (is := f.items) (i := i) (j := j) (by omega));clear hil
     go_enter Tryz.func124, Tryz.ntmps124
     go_wp2_with (rw [← hW0, ← hg]; clear hW0 hg)
     go_quiet (fail)
     go_wp2_with fail;go_ret;rw [hres.out];exact ⟨rfl, bDN hB0.out.o _⟩
   ·have d3 : decide (i < (v.m : Int)) = false := decide_eq_false him
    have hres := Hd (aheadF_out (is := f.items) (i := i) (j := j) (by omega));clear hil
    go_enter Tryz.func124, Tryz.ntmps124
    go_wp2_with (rw [← hW0, ← hg]; clear hW0 hg)
    go_quiet (fail)
    go_wp2_with fail;go_ret;rw [hres.out];exact ⟨rfl, bDN hB0.out.o _⟩
  ·have d2 : decide (0 ≤ j) = false := decide_eq_false hj
   have hres := Hd (aheadF_out (is := f.items) (i := i) (j := j) (by omega));clear hil
   go_enter Tryz.func124, Tryz.ntmps124
   go_wp2_with (rw [← hW0, ← hg]; clear hW0 hg)
   go_quiet (fail)
   go_wp2_with fail;go_ret;rw [hres.out];exact ⟨rfl, bDN hB0.out.o _⟩
 ·have d1 : decide (0 ≤ i) = false := decide_eq_false hi
  have hres := Hd (aheadF_out (is := f.items) (i := i) (j := j) (by omega));clear hil
  go_enter Tryz.func124, Tryz.ntmps124
  go_wp2_with (rw [← hW0, ← hg]; clear hW0 hg)
  go_quiet (fail)
  go_wp2_with fail;go_ret;rw [hres.out];exact ⟨rfl, bDN hB0.out.o _⟩
theorem info_int3 : (Tryz.prog.info? 3).map (fun i => (i.zero, i.size, i.bytes)) = some (some (.int .i64 0), 1, 8) := by kernel_rfl
theorem ref12_Past (v : FV) (f : Fac) (o : Int) (w : World) (hF : FactsAt w v f) (hm : v.m ≤ 1048576) :
  Calls Tryz.prog 104 #[.agg #[.slice v.A v.n v.c, .slice v.B v.m v.d, .slice v.C v.k v.e], .int .i64 o] w (RetIL (pastF f.items o f.items.length) w) := by
 have hil := hF.is.len;rw [hil];obtain ⟨i0, hi, hz0, hz1, hz2⟩ := info_parts info_int3;replace hi := Hd hi;replace hz0 := Hd hz0;replace hz1 := Hd hz1;replace hz2 := Hd hz2;replace hil := Hd hil;have hB0 := Hd (FBox.new hF);obtain ⟨g, hg⟩ : ∃ g, g = w.heap.size := ⟨_, rfl⟩;obtain ⟨W0, hW0⟩ : ∃ W, W = w.alloc (.cells #[.slice v.A v.n v.c, .slice v.B v.m v.d, .slice v.C v.k v.e] 29) := ⟨_, rfl⟩;rw [← hW0, ← hg] at hB0;clear hF
 go_enter Tryz.func104, Tryz.ntmps104
 go_wp2_with (rw [← hW0, ← hg]; clear hW0 hg)
 go_loopw [5, 6] (fun u t wr => ∃ k : Nat, k ≤ v.m ∧ t = .int .i64 k ∧ Hid (Below W0.heap.size W0 wr) ∧ Hid (wr.ownsRow W0.heap.size 3 1 u (pastF f.items o k).length (encI.all (pastF f.items o k)))) (fun _ t _ => v.m - (intOf t).toNat)
 case atStart => exact ⟨0, Nat.zero_le _, rfl, Hd (Below.refl _ _), Hd (World.ownsRow_nil _ _ _ _)⟩
 case round =>
  obtain ⟨k, hkm, rfl, hb, hown⟩ := hrel;have hB := Hd (hB0.out.later hb.out);have p0 := hB.out.c0;have p1 := hB.out.c1;have p2 := hB.out.c2;have hrl := pastF_len f.items o k;have hrs := pastF_succ f.items o k;obtain ⟨L, hL⟩ : ∃ L, L = (pastF f.items o k).length := ⟨_, rfl⟩;rw [← hL] at hown hrl;replace hL := Hd hL;by_cases hlt : k < v.m
  ·have hlt' : (k : Int) < (v.m : Int) := by omega
   by_cases hko : (k : Int) = o
   ·rw [if_pos (by simp [hko])] at hrs
    have e0 : ((k : Int) == o) = true := by simp [hko]
    replace hrs := Hd hrs;replace hko := Hd hko;clear hlt;obtain ⟨gl, hgl⟩ : ∃ g, g = (wr).heap.size := ⟨_, rfl⟩;obtain ⟨VL, hVL⟩ : ∃ W, W = World.alloc (wr) (.cells #[.int .i64 (k : Int)] 3) := ⟨_, rfl⟩;have bL : Below (wr).heap.size (wr) VL := by rw [hVL]; exact (Below.refl _ _).alloc (Nat.le_refl _) _
    have hlit := Hd (show LAt encI VL (some ⟨gl, 0, none⟩) 1 [(k : Int)] from by rw [hVL, hgl]; exact LAt.lit1 (E := encI) (wr) 3 (k : Int) ⟨by omega, by omega⟩);have hownL := Hd (oBl hown.out bL);have bWL := Hd (bT2 hb.out bL);have hbase := Hd bWL.out.size;clear bL;go_wp2_with (first
     | (rw [← hVL, ← hgl]; clear hVL hgl)
     | (at_builtin; refine wpAL (E := encI) rfl (.tmp 23) (.tmp 25) _ rfl W0.heap.size 3 i0 _ 8 Tryz.underlying27 hi.out hz0.out hz1.out hz2.out rfl _ L (pastF f.items o k) (by rfl) hownL.out _ 1 1 _ rfl hlit.out (by unfold maxLen; omega) (by omega) hbase.out ?_; intro v' w7 hown' hb7 _ _))
    refine ⟨⟨k + 1, by omega, by go_num, Hd (bWL.out.trans hb7), Hd (by rw [hrs.out, List.length_append, ← hL.out]; exact hown')⟩, by simp [intOf]; omega⟩
   ·have e0 : ((k : Int) == o) = false := by simpa using hko
    rw [decide_eq_false hko, Bool.false_or] at hrs;have cA := ref12_Ahead v f k o wr hB.out.f;replace hko := Hd hko
    cases ha : aheadF f.items k o with
    | true =>
     rw [ha] at cA;rw [ha, if_pos rfl] at hrs;replace hrs := Hd hrs;replace cA := Hd cA;clear hlt ha;go_wp2_with fail;refine cA.out.mono ?_; rintro e w3 ⟨rfl, b3⟩;have hown3 := Hd (oBl hown.out b3);have hb3 := Hd (bT2 hb.out b3);clear b3 cA p0 p1 p2;obtain ⟨gl, hgl⟩ : ∃ g, g = (w3).heap.size := ⟨_, rfl⟩;obtain ⟨VL, hVL⟩ : ∃ W, W = World.alloc (w3) (.cells #[.int .i64 (k : Int)] 3) := ⟨_, rfl⟩;have bL : Below (w3).heap.size (w3) VL := by rw [hVL]; exact (Below.refl _ _).alloc (Nat.le_refl _) _
     have hlit := Hd (show LAt encI VL (some ⟨gl, 0, none⟩) 1 [(k : Int)] from by rw [hVL, hgl]; exact LAt.lit1 (E := encI) (w3) 3 (k : Int) ⟨by omega, by omega⟩);have hownL := Hd (oBl hown3.out bL);have bWL := Hd (bT2 hb3.out bL);have hbase := Hd bWL.out.size;clear bL;go_wp2_with (first
      | (rw [← hVL, ← hgl]; clear hVL hgl)
      | (at_builtin; refine wpAL (E := encI) rfl (.tmp 23) (.tmp 25) _ rfl W0.heap.size 3 i0 _ 8 Tryz.underlying27 hi.out hz0.out hz1.out hz2.out rfl _ L (pastF f.items o k) (by rfl) hownL.out _ 1 1 _ rfl hlit.out (by unfold maxLen; omega) (by omega) hbase.out ?_; intro v' w7 hown' hb7 _ _))
     refine ⟨⟨k + 1, by omega, by go_num, Hd (bWL.out.trans hb7), Hd (by rw [hrs.out, List.length_append, ← hL.out]; exact hown')⟩, by simp [intOf]; omega⟩
    | false =>
     rw [ha] at cA;rw [ha, if_neg (by simp)] at hrs;replace hrs := Hd hrs;replace cA := Hd cA;clear hlt ha;go_wp2_with fail;refine cA.out.mono ?_; rintro e w3 ⟨rfl, b3⟩;have hown3 := Hd (oBl hown.out b3);have hb3 := Hd (bT2 hb.out b3);clear b3 cA p0 p1 p2;go_wp2_with fail;exact ⟨⟨k + 1, by omega, by go_num, hb3, Hd (by rw [hrs.out, ← hL.out]; exact hown3.out)⟩, by simp [intOf]; omega⟩
  ·have hlt' : ¬ (k : Int) < (v.m : Int) := by omega
   have hkm : k = v.m := by omega
   subst hkm;obtain ⟨A, c, rfl, hnc, hcm, hLA⟩ := LAt.of_own hown.out (fun z hz => by
    have := pastF_ok f.items o v.m z hz;exact ⟨by omega, by omega⟩) hL.out.symm
   clear hlt;go_wp2_with fail;go_ret;exact ⟨A, L, c, rfl, hLA, hnc, hcm, hB.out.o⟩
structure MV (wr : World) (M n : Nat) (A : Option Addr) (c : Nat) (xss : List (List Nat)) : Prop where
 loc : MatB wr M 57 (n : Int) A n c
 rows : RowsAt wr A n xss
 cap : n ≤ c
 far : 0 < n → ∀ ad, A = some ad → ad.block ≠ M
theorem MV.later {wr w' : World} {M n c : Nat} {A : Option Addr} {xss : List (List Nat)} (h : MV wr M n A c xss) (hb : Below wr.heap.size wr w') : MV w' M n A c xss := ⟨h.loc.below_ hb, h.rows.below hb, h.cap, h.far⟩
theorem MV.put {wr w' : World} {M n c : Nat} {A : Option Addr} {xss : List (List Nat)} (h : MV wr M n A c xss) (hb : Below wr.heap.size wr w') {C : Option Addr} {d : Nat} {yss : List (List Nat)} (hr : RowsAt w' C n yss) (hd : n ≤ d) (hf : ∀ ad, C = some ad → wr.heap.size ≤ ad.block) :
  MV ((w'.setCell ⟨M, 0, none⟩ (.int .i64 (n : Int))).setCell ⟨M, 1, none⟩ (.slice C n d)) M n C d yss := by
 have hM := h.loc.lt;refine ⟨(h.loc.below_ hb).put _ _ _ _, hr.putB (h.loc.below_ hb) (fun _ ad e => by have := hf ad e; omega) _ _, hd, fun _ ad e => by have := hf ad e; omega⟩
theorem poM_len {n : Nat} (hn : n ≤ 4096) (ps : List (Int × Int)) : ∀ xs ∈ foldP n ps, xs.length ≤ 1024 := fun xs hxs => by
 obtain ⟨i, hi⟩ := List.getElem?_of_mem hxs;have := (DimM.fold n ps).2 i xs hi;have := words_le hn
 omega
def RetMat1F (N : Int) (xss : List (List Nat)) (w : World) (e : Ending) (w' : World) : Prop :=
 ∃ A n c, e = .returned (.agg #[.int .i64 N, .slice A n c]) ∧ RowsAt w' A n xss ∧ n ≤ c ∧ Below w.heap.size w w' ∧ ∀ ad, A = some ad → w.heap.size ≤ ad.block
theorem ref12_Po (v : FV) (f : Fac) (w : World) (hF : FactsAt w v f) (hm : v.m ≤ 4096) :
  Calls Tryz.prog 96 #[.agg #[.slice v.A v.n v.c, .slice v.B v.m v.d, .slice v.C v.k v.e]] w (RetMat1F (v.m : Int) (poM f.items) w) := by
 have hil := hF.is.len;unfold poM;rw [hil];have cN := Hd (ref3_NewF v.m hm);replace hil := Hd hil;have hB0 := Hd (FBox.new hF);obtain ⟨g, hg⟩ : ∃ g, g = w.heap.size := ⟨_, rfl⟩;obtain ⟨W0, hW0⟩ : ∃ W, W = w.alloc (.cells #[.slice v.A v.n v.c, .slice v.B v.m v.d, .slice v.C v.k v.e] 29) := ⟨_, rfl⟩;rw [← hW0, ← hg] at hB0;clear hF;obtain ⟨gr, hgr⟩ : ∃ g, g = W0.heap.size := ⟨_, rfl⟩;obtain ⟨W1, hW1⟩ : ∃ W, W = W0.alloc (.cells #[.int .i64 0, .slice none 0 0] 57) := ⟨_, rfl⟩;have b1 : Below W0.heap.size W0 W1 := by rw [hW1]; exact (Below.refl _ _).alloc (Nat.le_refl _) _
 have kR : MatB W1 gr 57 0 none 0 0 := by rw [hW1, hgr]; exact MatB.new W0 _
 have hB1 := Hd (hB0.out.later b1);have p0 := hB1.out.c0;have p1 := hB1.out.c1;have p2 := hB1.out.c2
 go_enter Tryz.func96, Tryz.ntmps96
 go_wp2_with (first | (rw [← hW0, ← hg]; clear hW0 hg) | (rw [← hW1, ← hgr]; clear hW1));refine (cN.out _).mono ?_; rintro e w2 ⟨C, p, q, rfl, hrows, hcap, b2, hfar⟩;have hpn : p = v.m := by rw [← hrows.len]; exact (DimM.new v.m).1
 subst hpn;obtain ⟨M, hM⟩ : ∃ M, M = w2.heap.size := ⟨_, rfl⟩;obtain ⟨W2, hW2⟩ : ∃ W2, W2 = w2.alloc (.cells #[.int .i64 v.m, .slice C v.m q] 57) := ⟨_, rfl⟩;have b3 : Below w2.heap.size w2 W2 := by rw [hW2]; exact (Below.refl _ _).alloc (Nat.le_refl _) _
 have hbb := Hd (bT2 (bT2 b1 b2) b3);have hMV := Hd (show MV W2 M v.m C q (foldP v.m (uptoPo f.items v.m 0)) from ⟨by rw [hW2, hM]; exact MatB.new w2 _, by rw [show uptoPo f.items v.m 0 = [] from rfl, foldP_nil]; exact hrows.below b3, hcap, fun h0 ad e => by have := hrows.block_lt h0 ad e; omega⟩);have hgrM : gr < M := by have := kR.lt; have := b2.size; omega
 have kR2 := Hd ((kR.below_ b2).below_ b3);have hgW : W0.heap.size ≤ gr := by omega
 have hAf := Hd (show ∀ ad, C = some ad → gr < ad.block from fun ad e => by have := hfar ad e; have := kR.lt; omega);replace hgr := Hd hgr;clear hrows hcap b2 b3 hfar kR b1 hB1 p0 p1 p2 cN;go_wp2_with (rw [← hW2, ← hM]; clear hW2; replace hM := Hd hM)
 go_loopw [5] (fun t wr => ∃ (i : Nat) (A : Option Addr) (c : Nat), i ≤ v.m ∧ t = .int .i64 i ∧ Hid (Below W0.heap.size W0 wr) ∧ Hid (MatB wr gr 57 0 none 0 0) ∧ Hid (MV wr M v.m A c (foldP v.m (uptoPo f.items v.m i))) ∧ Hid (∀ ad, A = some ad → gr < ad.block)) (fun t _ => v.m - (intOf t).toNat)
 case atStart => exact ⟨0, _, _, Nat.zero_le _, rfl, hbb, kR2, hMV, hAf⟩
 case round =>
  clear hbb kR2 hMV hAf;obtain ⟨i, A, c, hi, rfl, hbb, kR, hMV, hAf⟩ := hrel;have hB := Hd (hB0.out.later hbb.out);by_cases hlt : i < v.m
  ·have hlt' : (i : Int) < (v.m : Int) := by omega
   have p1 := hB.out.c1;go_wp2_with fail;clear p1 hB;obtain ⟨Wo, rfl⟩ : ∃ Wo, Wo = wr := ⟨_, rfl⟩
   go_loopw [6] (fun t wr => ∃ (j : Nat) (A : Option Addr) (c : Nat), j ≤ v.m ∧ t = .int .i64 j ∧ Hid (Below W0.heap.size W0 wr) ∧ Hid (MatB wr gr 57 0 none 0 0) ∧ Hid (MV wr M v.m A c (foldP v.m (uptoPo f.items v.m i ++ rowPo f.items i j))) ∧ Hid (∀ ad, A = some ad → gr < ad.block)) (fun t _ => v.m - (intOf t).toNat)
   case atStart => exact ⟨0, _, _, Nat.zero_le _, rfl, hbb, kR, Hd (by rw [show rowPo f.items i 0 = [] from rfl, List.append_nil]; exact hMV.out), hAf⟩
   case round =>
    clear hbb kR hMV hAf;obtain ⟨j, A, c, hj, rfl, hbb, kR, hMV, hAf⟩ := hrel;have hB := Hd (hB0.out.later hbb.out);have p0 := hB.out.c0;have p1 := hB.out.c1;have p2 := hB.out.c2;by_cases hlj : j < v.m
    ·have hlj' : (j : Int) < (v.m : Int) := by omega
     have cA := ref12_Ahead v f i j wr hB.out.f;have hrs := rowPo_succ f.items i j
     cases ha : aheadF f.items i j with
     | false =>
      rw [ha] at cA;rw [ha, if_neg (by simp)] at hrs;replace cA := Hd cA;replace hrs := Hd hrs;clear ha hlj;go_wp2_with fail;refine cA.out.mono ?_; rintro e w3 ⟨rfl, b3⟩;have hbb3 := Hd (bT2 hbb.out b3);have kR3 := Hd (kR.out.below_ b3);have hMV3 := Hd (hMV.out.later b3);clear p0 p1 p2 b3 cA;go_wp2_with fail;exact ⟨⟨j + 1, A, c, by omega, by go_num, hbb3, kR3, Hd (by rw [hrs.out]; exact hMV3.out), hAf⟩, by simp [intOf]; omega⟩
     | true =>
      rw [ha] at cA;rw [ha, if_pos rfl] at hrs;replace cA := Hd cA;replace hrs := Hd hrs;clear ha;go_wp2_with fail;refine cA.out.mono ?_; rintro e w3 ⟨rfl, b3⟩;have hbb3 := Hd (bT2 hbb.out b3);have kR3 := Hd (kR.out.below_ b3);have hMV3 := Hd (hMV.out.later b3);clear p0 p1 p2 b3 cA;have cS := Hd (ref3_SetF (v.m : Int) A v.m c _ (i : Int) (j : Int) w3 hMV3.out.rows rfl hm (poM_len hm _) (by unfold inM; simp; omega));have m0 := hMV3.out.loc.c0;have m1 := hMV3.out.loc.c1;go_wp2_with fail;refine cS.out.mono ?_; rintro e w4 ⟨C2, n2, c2, rfl, hrows2, hcap2, b4, hfar2⟩;have hn2 : n2 = v.m := by
       have h1 := hrows2.len;rw [← foldP_last v.m (uptoPo f.items v.m i ++ rowPo f.items i j) ((i : Int), (j : Int))] at h1;rw [← h1]; exact (DimM.fold v.m _).1
      subst hn2;have hMV4 := Hd (hMV3.out.put b4 hrows2 hcap2 hfar2);have hAf4 := Hd (show ∀ ad, C2 = some ad → gr < ad.block from fun ad e => by have := hfar2 ad e; have := kR3.out.lt; omega);have kM := hMV3.out.loc.below_ b4;have hbb4 := Hd (((bT2 hbb3.out b4).setCell (p := ⟨M, 0, none⟩) (by show W0.heap.size ≤ M; omega) (.int .i64 (v.m : Int))).setCell (p := ⟨M, 1, none⟩) (by show W0.heap.size ≤ M; omega) (.slice C2 v.m c2));have kR4 := Hd (((kR3.out.below_ b4).farB (p := ⟨M, 0, none⟩) (by show gr ≠ M; omega) (.int .i64 (v.m : Int))).farB (p := ⟨M, 1, none⟩) (by show gr ≠ M; omega) (.slice C2 v.m c2));clear m0 m1 cS hrows2 hfar2 b4 hlj;have m0 := kM.c0;have m1 := kM.c1;have g0 := kM.frozen 0;have g1 := kM.frozen 1;clear kM;go_wp2_with fail;exact ⟨⟨j + 1, C2, c2, by omega, by go_num, hbb4, kR4, Hd (by rw [hrs.out, ← List.append_assoc, foldP_last]; exact hMV4.out), hAf4⟩, by simp [intOf]; omega⟩
    ·have hlj' : ¬ (j : Int) < (v.m : Int) := by omega
     have hjm : j = v.m := by omega
     have hus := uptoPo_succ f.items v.m i;rw [hjm] at hMV;clear hlj;replace hus := Hd hus;replace hjm := Hd hjm;go_wp2_with fail;exact ⟨⟨i + 1, A, c, by omega, by go_num, hbb, kR, Hd (by rw [hus.out]; exact hMV.out), hAf⟩, by simp [intOf]; omega⟩
  ·have hlt' : ¬ (i : Int) < (v.m : Int) := by omega
   have him : i = v.m := by omega
   rw [him] at hMV;replace him := Hd him;have p1 := hB.out.c1;have m0 := hMV.out.loc.c0;have m1 := hMV.out.loc.c1;have f0 := kR.out.c0;have f1 := kR.out.c1;have g0 := kR.out.frozen 0;have g1 := kR.out.frozen 1;have hcc := kR.out.two (.int .i64 (v.m : Int)) (.slice A v.m c);have hc1 := Hd hcc.1;have hc2 := Hd hcc.2;have hrf := Hd (show RowsAt ((wr.setCell ⟨gr, 0, none⟩ (.int .i64 (v.m : Int))).setCell ⟨gr, 1, none⟩ (.slice A v.m c)) A v.m (foldP v.m (uptoPo f.items v.m v.m)) from hMV.out.rows.putB kR.out (fun h0 ad e hb => by have := hAf.out ad e; omega) _ _);have hbf := Hd (((bT2 hB0.out.o hbb.out).setCell (p := ⟨gr, 0, none⟩) (by have := hB0.out.o.size; show w.heap.size ≤ gr; omega) (.int .i64 (v.m : Int))).setCell (p := ⟨gr, 1, none⟩) (by have := hB0.out.o.size; show w.heap.size ≤ gr; omega) (.slice A v.m c));clear hcc hlt;go_wp2_with fail;exact bodyPost_ret (v := .agg #[.int .i64 (v.m : Int), .slice A v.m c]) (by simp [results, Tryz.results96, go_sem, hc1.out, hc2.out]) rfl ⟨A, v.m, c, rfl, hrf.out, hMV.out.cap, hbf.out, fun ad e => by have := hAf.out ad e; have := hB0.out.o.size; omega⟩
end Go.Proofs.YtjhjojklfdjmdaaGreat
