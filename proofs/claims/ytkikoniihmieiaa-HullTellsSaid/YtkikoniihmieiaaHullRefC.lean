/- Contract of the document's own answer: Within. -/
import Derived.Test.YtkikoniihmieiaaHullRefB
import Derived.Test.YtkikoniihmieiaaMatRefI
namespace Go.Proofs.Ytkikoniihmieiaa
open Go.RowKit
set_option linter.unusedVariables false

theorem PairsAt.farB {w : World} {A : Option Addr} {m g : Nat} {ps : List (Int × Int)} {t : TypeId} {N : Int} {B : Option Addr} {n c : Nat} (h : PairsAt w A m ps) (hM : MatB w g t N B n c) : 0 < m → ∀ ad, A = some ad → ad.block ≠ g := by
  intro h0 ad e
  obtain ⟨b, off, p, e2, _, _, _, c0, c1⟩ := h.at_ h0
  rw [e] at e2
  cases e2
  intro hb
  have hb' : b = g := hb
  subst hb'
  rw [Blk.cell hM] at c0 c1
  match off + 0 * 2, c0, c1 with
  | 0, c0, c1 => simp at c1
  | 1, c0, c1 => simp at c0
  | k + 2, c0, c1 => simp at c0
theorem PairsAt.setCell {w : World} {A : Option Addr} {m : Nat} {ps : List (Int × Int)} {p : Addr} (h : PairsAt w A m ps) (hne : 0 < m → ∀ ad, A = some ad → ad.block ≠ p.block) (u : Value) : PairsAt (w.setCell p u) A m ps :=
  ⟨h.1, h.2.1, fun hn => by
    obtain ⟨b, off, e, hb, hc⟩ := h.2.2 hn
    have hbp := hne hn _ e
    refine ⟨b, off, e, by simpa using hb, fun j q hq => ?_⟩
    obtain ⟨h1, h2⟩ := hc j q hq
    exact ⟨by rw [World.cell?_setCell_other w p ⟨b, off + j * 2, none⟩ u (fun e => hbp (by rw [e]))]; exact h1, by rw [World.cell?_setCell_other w p ⟨b, off + j * 2 + 1, none⟩ u (fun e => hbp (by rw [e]))]; exact h2⟩⟩
/-- both numbers are among l -/
def bothIn (l : List Int) (p : Int × Int) : Bool := decide (p.1 ∈ l) && decide (p.2 ∈ l)
def withinM (n : Nat) (a : List (List Nat)) (l : List Int) : List (List Nat) := foldP n ((pairsM a).filter (bothIn l))
theorem foldP_app (n : Nat) (ps : List (Int × Int)) (p : Int × Int) : foldP n (ps ++ [p]) = setM (foldP n ps) p.1 p.2 := by
  unfold foldP; rw [List.foldl_append]; rfl
theorem within_facts {n : Nat} {a : List (List Nat)} (hG : Good n a) (l : List Int) : Good n (withinM n a l) ∧ ∀ x y : Nat, Rel (withinM n a l) x y ↔ Rel a x y ∧ (x : Int) ∈ l ∧ (y : Int) ∈ l := by
  have h := foldP_facts hG.le ((pairsM a).filter (bothIn l)) (fun x hx => hG.ok x (List.mem_filter.1 hx).1)
  refine ⟨h.1, fun x y => ?_⟩
  unfold Rel withinM
  rw [h.2 x y, decide_eq_true_eq, List.mem_filter, mem_pairsM]
  unfold bothIn
  simp
set_option maxRecDepth 100000 in
set_option maxHeartbeats 4000000 in
theorem ref4_Within (A L : Option Addr) (n c m d : Nat) (a : List (List Nat)) (zs : List Int) (w : World) (hr : RowsAt w A n a) (hG : Good n a) (hn64 : n < 64) (hz : Ints w L m zs) (hm : m ≤ 1073741824) :
    Calls Try.prog 39 #[.agg #[.int .i64 (n : Int), .slice A n c], .slice L m d] w (RetMat1 (n : Int) (withinM n a zs) w) := by
  have hnn : n ≤ 4096 := hG.le
  obtain ⟨W0, hW0⟩ : ∃ W0, W0 = (w.alloc (.cells #[.int .i64 n, .slice A n c] 24)).alloc (.cells #[.int .i64 0, .slice none 0 0] 24) := ⟨_, rfl⟩
  have bb := Lib.hid (show Below w.heap.size w W0 by rw [hW0]; exact ((Below.refl _ _).alloc (Nat.le_refl _) _).alloc (by simp) _)
  have k1 := Lib.hid (show MatK W0 w.heap.size 24 n A n c a by rw [hW0]; exact (MatK.new w _ hr).below (below_alloc _ _))
  have m2 := Lib.hid (show MatB W0 (w.heap.size + 1) 24 0 none 0 0 by rw [hW0]; exact MatB.new1 w _ _)
  have cN := Lib.hid (fun W => ref3_New n hnn W)
  have cP := Lib.hid (fun W hW => ref3_Pairs A n c a W hW hnn (fun k xs hx => by have := hG.small xs (List.mem_of_getElem? hx); omega))
  have cH := Lib.hid (fun x W (hW : Ints W L m zs) => ref4_has L m d zs x W hW hm)
  have cS := Lib.hid (fun i j (h3 : inM (n : Int) i j = true) C e X (hX : Good n X) W (hW : RowsAt W C n X) => ref3_Set (n : Int) C n e X i j W hW rfl hnn (fun xs hx => by have := hX.small xs hx; omega) h3)
  have hpl := Lib.hid (show (pairsM a).length ≤ 16777216 from by
    rw [pairs_sum hG]
    have h1 : ∀ k, sumF k (fun i => sumF n fun j => (hasM a (i : Int) (j : Int)).toNat) ≤ k * n := by
      intro k
      induction k with
      | zero => simp [sumF]
      | succ k ih =>
        have h2 : ∀ q, sumF q (fun j => (hasM a (k : Int) (j : Int)).toNat) ≤ q := by
          intro q
          induction q with
          | zero => simp [sumF]
          | succ q ih2 => rw [sumF_succ]; have := Bool.toNat_le (hasM a (k : Int) (q : Int)); omega
        rw [sumF_succ, Nat.add_mul, Nat.one_mul]
        have := h2 n
        omega
    have h3 := h1 n
    have h4 : n * n ≤ 64 * 64 := Nat.mul_le_mul (by omega) (by omega)
    omega)
  have hF := Lib.hid (fun (k : Nat) => foldP_facts hnn (((pairsM a).take k).filter (bothIn zs)) (fun x hx => hG.ok x (List.mem_of_mem_take (List.mem_filter.1 hx).1)))
  have hok := Lib.hid hG.ok
  replace hG := Lib.hid hG
  replace hz := Lib.hid hz
  clear hr
  have qk10 := k1.out.1.c0
  have qk11 := k1.out.1.c1
  go_enter Try.func39, Try.ntmps39
  go_wp2_with fail
  rw [← hW0]
  clear hW0
  go_wp2_with fail
  refine (cN.out W0).mono ?_; rintro e w1 ⟨A3, n3, c3, rfl, r3, hc3, b⟩
  obtain rfl : n = n3 := by have := r3.len; simp [newM] at this; omega
  replace m2 := Lib.hid (m2.out.below b)
  obtain ⟨W1, hW1⟩ : ∃ W1, W1 = w1.alloc (.cells #[.int .i64 n, .slice A3 n c3] 24) := ⟨_, rfl⟩
  obtain ⟨G3, hG3⟩ : ∃ G, G = w1.heap.size := ⟨_, rfl⟩
  have ba : Below w1.heap.size w1 W1 := by rw [hW1]; exact below_alloc _ _
  have k3 := Lib.hid (show MatK W1 G3 24 n A3 n c3 (newM n) from ⟨by rw [hW1, hG3]; exact MatB.new _ _, r3.below ba⟩)
  have hlt := m2.out.lt
  have h23 : w.heap.size + 1 < G3 := by omega
  replace m2 := Lib.hid (m2.out.below ba)
  replace b := below_trans2 b ba
  replace k1 := Lib.hid (k1.out.below b)
  replace qk10 := k1.out.1.c0
  replace qk11 := k1.out.1.c1
  replace bb := Lib.hid (below_trans2 bb.out b)
  clear b
  rw [hW1] at qk10 qk11
  clear ba r3 hlt
  go_wp2_with fail
  rw [← hW1, ← hG3]
  rw [← hW1] at qk10 qk11
  clear hW1 hG3
  refine (cP.out W1 k1.out.2).mono ?_; rintro e w2 ⟨P, mp, dp, rfl, hP, b⟩
  have hmp : mp ≤ 16777216 := by have := hpl.out; have := hP.1; omega
  have hpm := Lib.hid hP.1
  replace m2 := Lib.hid (m2.out.below b)
  replace k1 := Lib.hid (k1.out.below b)
  replace qk10 := k1.out.1.c0
  replace qk11 := k1.out.1.c1
  replace k3 := Lib.hid (k3.out.below b)
  replace qk30 := k3.out.1.c0
  replace qk31 := k3.out.1.c1
  replace bb := Lib.hid (below_trans2 bb.out b)
  clear b
  replace hP := Lib.hid hP
  clear qk10 qk11 qk30 qk31
  go_wp2_with fail
  go_loopw [8] (fun t wr => ∃ (k : Nat) (A3 : Option Addr) (c3 : Nat), k ≤ mp ∧ t = .int .i64 k ∧ Hid (n ≤ c3) ∧ Hid (MatB wr (w.heap.size + 1) 24 0 none 0 0) ∧ Hid (MatK wr G3 24 n A3 n c3 (foldP n (((pairsM a).take k).filter (bothIn zs)))) ∧ Hid (Below w.heap.size w wr) ∧ Hid (PairsAt wr P mp (pairsM a))) (fun t _ => mp - (intOf t).toNat)
  case atStart => exact ⟨0, A3, c3, Nat.zero_le _, rfl, Lib.hid hc3, m2, k3, bb, hP⟩
  case round =>
    clear k1 m2 k3 bb hP
    obtain ⟨k, A3, c3, hk, rfl, hc3', m2, k3, bb, hP⟩ := hrel
    by_cases hlt : k < mp
    · obtain ⟨b4, o4, ⟨x, y⟩, rfl, hb4, hx, hxy, c4, c5⟩ := hP.out.at_ hlt
      simp only at c4 c5
      have h3 := hok.out _ (List.mem_of_getElem? hx)
      have hfk := (hF.out k).1
      have cHx := Lib.hid (cH.out x wr (hz.out.below bb.out))
      have cHy := Lib.hid (cH.out y wr (hz.out.below bb.out))
      have cSk := Lib.hid (cS.out x y h3 A3 c3 _ hfk)
      have hn0 : 0 < n := by
        obtain ⟨i, j, _, hi, _⟩ := okP_nat h3
        omega
      have htake : (pairsM a).take (k + 1) = (pairsM a).take k ++ [(x, y)] := by
        rw [List.take_succ_eq_append_getElem (List.getElem?_eq_some_iff.1 hx).1, (List.getElem?_eq_some_iff.1 hx).2]
      have hk0 : (0 : Int) ≤ (k : Int) := by omega
      have hkm' : (k : Int) < (mp : Int) := by omega
      have hF1 := Lib.hid (hF.out (k + 1)).1.len
      clear hx hxy hfk
      replace h3 := Lib.hid h3
      cases hx1 : decide (x ∈ zs) with
      | false =>
        have hst : Hid (((pairsM a).take (k + 1)).filter (bothIn zs) = ((pairsM a).take k).filter (bothIn zs)) := Lib.hid (by
          rw [htake, List.filter_append]
          simp [bothIn, hx1])
        clear htake
        go_wp2_with fail
        refine cHx.out.mono ?_; rintro e w' ⟨rfl, rfl⟩
        rw [hx1]
        clear hx1
        go_wp2_with fail
        go_roundw
        case rel => exact ⟨k + 1, A3, c3, by omega, by go_num, hc3', m2, Lib.hid (by rw [hst.out]; exact k3.out), bb, hP⟩
        case measure => simp [intOf]; omega
      | true =>
        cases hy1 : decide (y ∈ zs) with
        | false =>
          have hst : Hid (((pairsM a).take (k + 1)).filter (bothIn zs) = ((pairsM a).take k).filter (bothIn zs)) := Lib.hid (by
            rw [htake, List.filter_append]
            simp [bothIn, hy1])
          clear htake
          replace hx1 := Lib.hid hx1
          replace hy1 := Lib.hid hy1
          go_wp2_with fail
          refine cHx.out.mono ?_; rintro e w' ⟨rfl, rfl⟩
          rw [hx1.out]
          go_wp2_with fail
          refine cHy.out.mono ?_; rintro e w' ⟨rfl, rfl⟩
          rw [hy1.out]
          go_wp2_with fail
          go_roundw
          case rel => exact ⟨k + 1, A3, c3, by omega, by go_num, hc3', m2, Lib.hid (by rw [hst.out]; exact k3.out), bb, hP⟩
          case measure => simp [intOf]; omega
        | true =>
          have hst : Hid (foldP n (((pairsM a).take (k + 1)).filter (bothIn zs)) = setM (foldP n (((pairsM a).take k).filter (bothIn zs))) x y) := Lib.hid (by
            rw [htake, List.filter_append, show [(x, y)].filter (bothIn zs) = [(x, y)] by simp [bothIn, of_decide_eq_true hx1, of_decide_eq_true hy1], foldP_app])
          clear htake
          replace hx1 := Lib.hid hx1
          replace hy1 := Lib.hid hy1
          go_wp2_with fail
          refine cHx.out.mono ?_; rintro e w' ⟨rfl, rfl⟩
          rw [hx1.out]
          go_wp2_with fail
          refine cHy.out.mono ?_; rintro e w' ⟨rfl, rfl⟩
          rw [hy1.out]
          go_wp2_with fail
          refine wp_region_planT 13 [(true, 0), (true, 1), (true, 2), (true, 3), (true, 4), (true, 5), (true, 6), (true, 7), (true, 8), (true, 9), (true, 10), (false, 11), (true, 12)] 15 [13, 14] (by kernel_rfl) (by kernel_rfl) (fun W1 hW1 => ?_)
          replace k3 := Lib.hid (show MatK W1 G3 24 n A3 n c3 (foldP n (((pairsM a).take k).filter (bothIn zs))) by rw [hW1.out]; exact k3.out.drew)
          replace m2 := Lib.hid (show MatB W1 (w.heap.size + 1) 24 0 none 0 0 by rw [hW1.out]; exact Blk.drew m2.out)
          replace bb := Lib.hid (show Below w.heap.size w W1 by rw [hW1.out]; exact bb.out.drew)
          replace hP := Lib.hid (show PairsAt W1 (some ⟨b4, o4, none⟩) mp (pairsM a) by rw [hW1.out]; exact hP.out)
          replace c4 : W1.cell? ⟨b4, o4 + k * 2, none⟩ = some (.int .i64 x) := by rw [hW1.out]; exact c4
          replace c5 : W1.cell? ⟨b4, o4 + k * 2 + 1, none⟩ = some (.int .i64 y) := by rw [hW1.out]; exact c5
          clear hW1 cHx cHy
          simp only [List.drop_succ_cons, List.drop_zero]
          have qk30 := k3.out.1.c0
          have qk31 := k3.out.1.c1
          iterate 11
            refine wpPlanE_float (v := ?_) rfl (by rfl) (fun w' hw' => ?_) (fun K hK => ?_)
            rotate_left
            · (go_simp; try with_reducible rfl)
            go_simp
            refine hK _ ?_
            clear hK K
          clear c4 c5 qk30 qk31
          refine wpPlanE_only rfl (by rfl) (fun K hK => ?_)
          go_simp
          refine (cSk.out W1 k3.out.2).mono ?_
          rintro e w3 ⟨D, nn, dd, rfl, rD, hcD, b⟩
          obtain rfl : n = nn := by have := rD.len; have := hF1.out; rw [hst.out] at this; omega
          refine hK _ _ b ?_
          clear hK K cSk
          replace m2 := Lib.hid (m2.out.below b)
          replace hP := Lib.hid (hP.out.below b)
          replace k3 := Lib.hid (k3.out.below b)
          replace bb := Lib.hid (below_trans2 bb.out b)
          replace rD := Lib.hid rD
          replace hcD := Lib.hid hcD
          clear b
          iterate 1
            refine wpPlanE_float (v := ?_) rfl (by rfl) (fun w' hw' => ?_) (fun K hK => ?_)
            rotate_left
            · (go_simp; try with_reducible rfl)
            go_simp
            refine hK _ ?_
            clear hK K
          refine wpPlanE_nil ?_
          iterate 2
            refine wpPlanT_float (v := ?_) rfl (by rfl) (fun w' => ?_) (fun K hK => ?_)
            rotate_left
            · (go_simp; try with_reducible rfl)
            go_simp
            refine hK _ ?_
            clear hK K
          refine wpPlanT_nil ?_
          have qk30 := k3.out.1.c0
          have qk31 := k3.out.1.c1
          have f0 := k3.out.1.frozen 0
          have f1 := k3.out.1.frozen 1
          go_wp2_with fail
          refine NoPanic.normal ?_
          clear f0 f1 qk30 qk31
          obtain ⟨Wz, hWz⟩ : ∃ X : World, X = (w3.setCell ⟨G3, 0, none⟩ (.int .i64 n)).setCell ⟨G3, 1, none⟩ (.slice D n dd) := ⟨_, rfl⟩
          rw [← hWz]
          have k3' := Lib.hid (show MatK Wz G3 24 n D n dd (setM (foldP n (((pairsM a).take k).filter (bothIn zs))) x y) by rw [hWz]; exact ⟨k3.out.1.put n D n dd, rD.out.putB k3.out.1 (rD.out.farK k3.out hn0) _ _⟩)
          have m2' := Lib.hid (show MatB Wz (w.heap.size + 1) 24 0 none 0 0 by rw [hWz]; exact (m2.out.farB (p := ⟨G3, 0, none⟩) (by simp <;> omega) _).farB (p := ⟨G3, 1, none⟩) (by simp <;> omega) _)
          have hP' := Lib.hid (show PairsAt Wz (some ⟨b4, o4, none⟩) mp (pairsM a) by rw [hWz]; exact (hP.out.setCell (p := ⟨G3, 0, none⟩) (hP.out.farB k3.out.1) _).setCell (p := ⟨G3, 1, none⟩) (hP.out.farB k3.out.1) _)
          replace bb := Lib.hid (show Below w.heap.size w Wz by rw [hWz]; exact (bb.out.setCell (p := ⟨G3, 0, none⟩) (by simp <;> omega) _).setCell (p := ⟨G3, 1, none⟩) (by simp <;> omega) _)
          clear hWz k3 m2 hP rD
          go_wp2_with fail
          go_roundw
          case rel => exact ⟨k + 1, D, dd, by omega, by go_num, hcD, m2', Lib.hid (by rw [hst.out]; exact k3'.out), bb, hP'⟩
          case measure => simp [intOf]; omega
    · obtain rfl : k = mp := by omega
      have he : Hid (foldP n (((pairsM a).take k).filter (bothIn zs)) = withinM n a zs) := Lib.hid (by rw [List.take_of_length_le (by rw [hpm.out]; exact Nat.le_refl _)]; rfl)
      have hone := Lib.hid ((within_facts hG.out zs).1.one hn64)
      rw [he.out] at k3
      have qk30 := k3.out.1.c0
      have qk31 := k3.out.1.c1
      have f0 := m2.out.c0
      have f1 := m2.out.c1
      have g0 := m2.out.frozen 0
      have g1 := m2.out.frozen 1
      go_wp2_with fail
      have hcc := m2.out.two (.int .i64 n) (.slice A3 n c3)
      have hc1 := hcc.1
      have hc2 := hcc.2
      clear hcc f0 f1 g0 g1
      exact bodyPost_ret (v := .agg #[.int .i64 n, .slice A3 n c3]) (by simp [results, Try.results39, go_sem, hc1, hc2]) rfl ⟨_, _, _, rfl, k3.out.2.putB m2.out (k3.out.2.farM m2.out hone.out) _ _, hc3'.out, (bb.out.setCell (p := ⟨w.heap.size + 1, 0, none⟩) (by simp) _).setCell (p := ⟨w.heap.size + 1, 1, none⟩) (by simp) _⟩

end Go.Proofs.Ytkikoniihmieiaa
