/- The law HullTells. -/
import Derived.Test.YtkikoniihmieiaaLaw4A
import Derived.Test.YtkikoniihmieiaaHullD
import Derived.Test.YtkikoniihmieiaaPlanS
import Derived.Test.YtkikoniihmieiaaOpen3
namespace Go.Proofs.Ytkikoniihmieiaa
open Go.RowKit
set_option linter.unusedVariables false

section
open Go.ChangeShapes Go.WideShapes Go.Deep Go.Joins
variable {H : Type} {enc : TypeId × Value → H} {P : Program} {w : World} {base : Nat} {spare : Nat → Bool} {held : Bool}
theorem open_intsC {t e : TypeId} {fuel : Nat} {A : Option Addr} {len cap : Nat} {x : DataW H × List MemPlace} (ht : P.underlying t = some (.slice e)) (hi : P.underlying e = some (.int .i64))
    (ce : P.cellsOf e = 1) (h : DataW.trod enc P w base spare held fuel t [.slice A len cap] = some x) : ∃ zs, Ints w A len zs ∧ len ≤ 9223372036854775807 := by
  rcases open_slice ht h with ⟨hcs, _⟩ | ⟨⟨b, off, spot⟩, l, c, m, n, D, Pl, hcs, hb, hl, hm, hmm, hx, hel⟩
  · injection hcs with hcs
    injection hcs with h1 h2 h3
    subst h1 h2 h3
    exact ⟨[], Ints.nil _ _, by omega⟩
  · injection hcs with hcs
    injection hcs with h1 h2 h3
    subst h1 h2 h3
    have hlm : len ≤ m := by rw [hmm]; split <;> omega
    have hat : ∀ k, k < len → ∃ x : Int, w.cell? ((⟨b, off, spot⟩ : Addr).add k) = some (.int .i64 x) ∧ (-9223372036854775808 ≤ x ∧ x < 9223372036854775808) := by
      intro k hk
      obtain ⟨cs', hc, ht'⟩ := hel k (by omega)
      rw [ce, Nat.mul_one] at hc
      obtain ⟨_, hcl, hcat⟩ := World.cells?_some hc
      match cs', hcl with
      | [u], _ =>
        obtain ⟨n0, e0, _, w0⟩ := DataW.trod_int hi ht'
        simp at e0
        subst e0
        have c0 := hcat 0 (by omega)
        have hz : ∀ a : Addr, a.add 0 = a := fun a => by obtain ⟨b, o, s⟩ := a; unfold Addr.add; split <;> simp_all
        rw [hz] at c0
        have := bounds_i64 w0
        exact ⟨n0, by simpa using c0, by omega⟩
    by_cases h0 : len = 0
    · subst h0
      exact ⟨[], Ints.nil _ _, by omega⟩
    · obtain ⟨_, hc0, _⟩ := hat 0 (by omega)
      have hspot : spot = none := by
        have h := World.cell?_spot hc0
        cases spot with
        | none => rfl
        | some s => unfold Addr.add at h; simp at h
      subst hspot
      have hblt : b < w.heap.size := by
        have := World.block_lt_of_cell? w _ hc0
        rwa [addr_add] at this
      have hall : ∀ k, k ≤ len → ∃ zs : List Int, zs.length = k ∧ (∀ x ∈ zs, -9223372036854775808 ≤ x ∧ x < 9223372036854775808) ∧ ∀ (j : Nat) (z : Int), zs[j]? = some z → w.cell? ⟨b, off + j, none⟩ = some (.int .i64 z) := by
        intro k
        induction k with
        | zero => exact fun _ => ⟨[], rfl, by simp, fun j p h => by simp at h⟩
        | succ k ih =>
          intro hk
          obtain ⟨zs, p1, p2, p3⟩ := ih (by omega)
          obtain ⟨x, cx, wx⟩ := hat k (by omega)
          rw [addr_add] at cx
          refine ⟨zs ++ [x], by simp [p1], fun p hp => ?_, fun j p hj => ?_⟩
          · rcases List.mem_append.1 hp with hp | hp
            · exact p2 p hp
            · rw [List.mem_singleton.1 hp]; exact wx
          · rcases Nat.lt_or_ge j zs.length with hlt | hge
            · rw [List.getElem?_append_left hlt] at hj; exact p3 j p hj
            · rw [List.getElem?_append_right hge] at hj
              have hjk : j = k := by
                have := (List.getElem?_eq_some_iff.1 hj).1
                simp at this; omega
              subst hjk
              rw [p1, Nat.sub_self] at hj
              simp at hj
              subst hj
              exact cx
      obtain ⟨zs, p1, p2, p3⟩ := hall len (Nat.le_refl _)
      refine ⟨zs, ⟨⟨by simpa using p1, fun _ => ⟨b, off, rfl, hblt, fun j u hu => ?_⟩⟩, p2⟩, by unfold maxLen at hm; omega⟩
      rw [List.getElem?_map] at hu
      cases hh : zs[j]? with
      | none => rw [hh] at hu; cases hu
      | some z =>
        rw [hh] at hu
        rw [p3 j z hh]
        simpa [i64v] using hu
end
set_option maxRecDepth 100000 in
set_option maxHeartbeats 16000000 in
theorem law_HullTells (N : Int) (A L : Option Addr) (n c m d : Nat) (a : List (List Nat)) (i j : Int) (zs : List Int) (w : World) (hr : RowsAt w A n a) (hz : Ints w L m zs) (hn : n ≤ 9223372036854775807) (hm : m ≤ 9223372036854775807)
    (hl : ∀ (k : Nat) (xs : List Nat), a[k]? = some xs → xs.length ≤ 9223372036854775807)
    (i0 : -9223372036854775808 ≤ i) (i1 : i < 9223372036854775808) (j0 : -9223372036854775808 ≤ j) (j1 : j < 9223372036854775808) :
    Calls Try.prog 4 #[.agg #[.int .i64 N, .slice A n c, .int .i64 i, .int .i64 j, .slice L m d]] w (RetB true w) := by
  have cM := Lib.hid (fun W hW => law4_may N A n c a W hW hn hl)
  have hla := hr.len
  have hw64 := hr.w64
  obtain ⟨W0, hW0⟩ : ∃ W0, W0 = w.alloc (.cells #[.int .i64 N, .slice A n c, .int .i64 i, .int .i64 j, .slice L m d] 43) := ⟨_, rfl⟩
  have ha : Below w.heap.size w W0 := by rw [hW0]; exact below_alloc _ _
  have hB := Lib.hid (show Blk W0 w.heap.size 43 [.int .i64 N, .slice A n c, .int .i64 i, .int .i64 j, .slice L m d] by rw [hW0]; exact Blk.new w _ _)
  have hr0 := Lib.hid (hr.below ha)
  replace ha := Lib.hid ha
  replace hz := Lib.hid hz
  clear hr
  go_enter Try.func4, Try.ntmps4
  go_wp2_with fail
  rw [← hW0]
  clear hW0
  refine wp_region_tree (.flt 0 (.flt 1 (.flt 2 (.flt 3 (.flt 4 (.flt 5 (.flt 6 (.flt 7 (.one 8 (.one 9 (.flt 10 (.flt 11 (.flt 12 .done))))))))))))) (by kernel_rfl) (by kernel_rfl) (fun W hW => ?_)
  have hBW : Blk W w.heap.size 43 [.int .i64 N, .slice A n c, .int .i64 i, .int .i64 j, .slice L m d] := by rw [hW.out]; exact Blk.drew hB.out
  have p0 := Blk.cell hBW 0
  have p1 := Blk.cell hBW 1
  have p2 := Blk.cell hBW 2
  have p3 := Blk.cell hBW 3
  have p4 := Blk.cell hBW 4
  simp only [List.getElem?_cons_zero, List.getElem?_cons_succ] at p0 p1 p2 p3 p4
  have hbW := Lib.hid (show Below w.heap.size w W by rw [hW.out]; exact ha.out.drew)
  have hrW := Lib.hid (show RowsAt W A n a by rw [hW.out]; exact hr0.out)
  clear hBW hB ha hr0 hW
  iterate 8
    refine wpPT_float (v := ?_) rfl (by rfl) (fun w' hw' => ?_) (fun K hK => ?_)
    rotate_left
    · (go_simp; try with_reducible rfl)
    go_simp
    refine hK _ ?_
    clear hK K
  clear p0 p1 p2 p3 p4
  refine wpPT_one rfl (by rfl) (fun K hK => ?_)
  go_simp
  obtain ⟨G3, hG⟩ : ∃ G, G = W.heap.size := ⟨_, rfl⟩
  obtain ⟨v1, hw⟩ : ∃ X : World, X = W.alloc (.cells #[.int .i64 0, .slice none 0 0] 24) := ⟨_, rfl⟩
  rw [← hw, ← hG]
  have b1 : Below W.heap.size W v1 := by rw [hw]; exact below_alloc _ _
  refine hK _ _ b1 ?_
  clear hK K
  have m3 := Lib.hid (show MatB v1 G3 24 0 none 0 0 by rw [hw, hG]; exact MatB.new _ _)
  have hWG : W.heap.size ≤ G3 := by omega
  clear hw hG
  have f0 := m3.out.c0
  have f1 := m3.out.c1
  have g0 := m3.out.frozen 0
  have g1 := m3.out.frozen 1
  refine wpPT_one rfl (by rfl) (fun K hK => ?_)
  go_simp
  obtain ⟨v2, hw⟩ : ∃ X : World, X = (v1.setCell ⟨G3, 0, none⟩ (.int .i64 N)).setCell ⟨G3, 1, none⟩ (.slice A n c) := ⟨_, rfl⟩
  rw [← hw]
  have b2 : Below W.heap.size W v2 := by rw [hw]; exact (b1.setCell (p := ⟨G3, 0, none⟩) (by simpa using hWG) _).setCell (p := ⟨G3, 1, none⟩) (by simpa using hWG) _
  refine hK _ _ b2 ?_
  clear hK K f0 f1 g0 g1
  have k3 := Lib.hid (show MatK v2 G3 24 N A n c a by rw [hw]; exact ⟨m3.out.put N A n c, (hrW.out.below b1).putB m3.out (fun h0 ad e => by have := hrW.out.block_lt h0 ad e; omega) _ _⟩)
  have bb := Lib.hid (below_trans2 hbW.out b2)
  clear hw m3 b1 b2 hWG
  iterate 3
    refine wpPT_float (v := ?_) rfl (by rfl) (fun w' hw' => ?_) (fun K hK => ?_)
    rotate_left
    · (go_simp; try with_reducible rfl)
    go_simp
    refine hK _ ?_
    clear hK K
  refine wpPT_done (NoPanic.normal ?_)
  clear hrW hbW
  have qk30 := k3.out.1.c0
  have qk31 := k3.out.1.c1
  go_wp2_with fail
  refine (cM.out v2 k3.out.2).mono ?_; rintro e w1 ⟨rfl, b⟩
  replace k3 := Lib.hid (k3.out.below b)
  replace qk30 := k3.out.1.c0
  replace qk31 := k3.out.1.c1
  replace bb := Lib.hid (below_trans2 bb.out b)
  clear b
  cases hma : smallM a 16 && rightM N a with
  | false =>
    go_wp2_with fail
    refine (law4_awake w1).mono ?_; rintro e wz ⟨rfl, b⟩
    have bz := below_trans2 bb.out b
    clear b bb
    go_wp2_with fail
    go_ret
    exact ⟨rfl, bz⟩
  | true =>
    by_cases h40 : 40 < m
    · have h40' : (40 : Int) < (m : Int) := by omega
      replace hma := Lib.hid hma
      go_wp2_with fail
      refine (law4_awake w1).mono ?_; rintro e wz ⟨rfl, b⟩
      have bz := below_trans2 bb.out b
      clear b bb
      go_wp2_with fail
      go_ret
      exact ⟨rfl, bz⟩
    · have h40' : ¬ (40 : Int) < (m : Int) := by omega
      rw [Bool.and_eq_true] at hma
      obtain ⟨p, rfl, hG⟩ := Good.of hma.2 hw64
      obtain rfl : n = p := by have := hG.len; omega
      have hn64 : n < 64 := by have := (smallM_len hma.1).1; omega
      have hH := closeK_hull hG
      have hcl := hH.closed
      have s64 : ∀ {X : List (List Nat)}, Good n X → ∀ (k : Nat) (xs : List Nat), X[k]? = some xs → xs.length ≤ 64 := fun hX k xs hx => hX.small xs (List.mem_of_getElem? hx)
      have cC := Lib.hid (fun W hW => hull_Close A n c a W hW hG)
      have cC4 := Lib.hid (fun W hW => ref4_Close A n c a W hW hG hn64)
      have cL := Lib.hid (fun W hW => hull_Loop A n c a W hW hG.le (fun xs hx => by have := hG.small xs hx; omega))
      have cL4 := Lib.hid (fun W hW => ref4_Loop A n c a W hW hG)
      have cD := Lib.hid (fun W hW => hull_Closed A n c a W hW hG)
      have cD4 := Lib.hid (fun W hW => ref4_Closed A n c a W hW hG)
      have cW := Lib.hid (fun W hW (hZ : Ints W L m zs) => hull_Within A L n c m d a zs W hW hG hZ (by omega))
      have cW4 := Lib.hid (fun W hW (hZ : Ints W L m zs) => ref4_Within A L n c m d a zs W hW hG hn64 hZ (by omega))
      obtain ⟨sN, sM, sE, cA, cA4, hs1, hs2⟩ : ∃ (sN : Int) (sM : List (List Nat)) (sE : Int), Hid (∀ C x W, RowsAt W C n (closeK a n) → Calls Try.prog 34 #[.agg #[.int .i64 (n : Int), .slice C n x], .int .i64 i, .int .i64 j] W (RetMat sN sM sE W)) ∧
          Hid (∀ C x W, RowsAt W C n (closeK a n) → Calls Try.prog 35 #[.agg #[.int .i64 (n : Int), .slice C n x], .int .i64 i, .int .i64 j] W (RetMat sN sM sE W)) ∧ sM.length ≤ 4096 ∧ ∀ (k : Nat) (xs : List Nat), sM[k]? = some xs → xs.length ≤ 64 := by
        cases h3 : inM (n : Int) i j with
        | true =>
          obtain ⟨p, q, he, hp, hq⟩ := okP_nat (x := (i, j)) h3
          simp only [Prod.mk.injEq] at he
          obtain ⟨rfl, rfl⟩ := he
          have hX := closeK_hull (hH.1.set hp hq)
          exact ⟨_, _, _, Lib.hid (fun C x W hW => hull_Add C n x (closeK a n) p q W hW hH.1 hcl hp hq), Lib.hid (fun C x W hW => ref4_Add C n x (closeK a n) p q W hW hH.1 hn64 hp hq), by have := hX.1.len; omega, s64 hX.1⟩
        | false =>
          refine ⟨0, [], 1, Lib.hid (fun C x W hW => hull_Add_no C n x i j W hG.le ?_ i0 i1 j0 j1), Lib.hid (fun C x W hW => ref4_Add_no C n x (closeK a n) i j W hW h3), by simp, by simp⟩
          rcases inM_cases h3 with h | ⟨_, h⟩
          · exact .inl (belowZ_no h)
          · exact .inr (belowZ_no h)
      have hcll := Lib.hid hH.1.len
      have hc64 := Lib.hid (s64 hH.1)
      have hwn := (within_facts hG zs).1
      have hwl := Lib.hid (show (withinM n a zs).length ≤ 4096 by rw [hwn.len]; exact hwn.le)
      have hw2 := Lib.hid (s64 hwn)
      have hcl4 := Lib.hid (show (closeK a n).length ≤ 4096 by rw [hH.1.len]; exact hH.1.le)
      have ceq := Lib.hid (fun K P n1 n2 d1 d2 zss W (h1 : RowsAt W P n1 zss) E2 (h2 : RowsAt W E2 n2 zss) (hz : zss.length ≤ 4096) (hzz : ∀ (k : Nat) (xs : List Nat), zss[k]? = some xs → xs.length ≤ 64) => by
        have l1 := h1.len
        have l2 := h2.len
        have h := ref3_Equal K K P E2 n1 n2 d1 d2 zss zss W h1 h2 (by omega) (by omega) (fun k xs hx => by have := hzz k xs hx; omega) (fun k xs hx => by have := hzz k xs hx; omega)
        rw [equalM_self'] at h
        exact h)
      replace hs1 := Lib.hid hs1
      replace hs2 := Lib.hid hs2
      clear hG hH hcl s64 hwn hma hw64 hla hl hn hn64 cM i0 i1 j0 j1
      go_wp2_with fail
      refine (cC.out w1 k3.out.2).mono ?_; rintro e w2 ⟨C7, nn, c7, rfl, r7, _, b⟩
      obtain rfl : n = nn := by have := r7.len; have := hcll.out; omega
      obtain ⟨w3, hw3⟩ : ∃ W, W = w2.alloc (.cells #[.int .i64 n, .slice C7 n c7] 24) := ⟨_, rfl⟩
      obtain ⟨G7, hG7⟩ : ∃ G, G = w2.heap.size := ⟨_, rfl⟩
      have ba : Below w2.heap.size w2 w3 := by rw [hw3]; exact below_alloc _ _
      have k7 := Lib.hid (show MatK w3 G7 24 n C7 n c7 (closeK a n) from ⟨by rw [hw3, hG7]; exact MatB.new _ _, r7.below ba⟩)
      replace b := below_trans2 b ba
      clear ba r7
      replace k3 := Lib.hid (k3.out.below b)
      replace qk30 := k3.out.1.c0
      replace qk31 := k3.out.1.c1
      replace bb := Lib.hid (below_trans2 bb.out b)
      clear b
      rw [hw3] at qk30 qk31
      go_wp2_with fail
      rw [← hw3, ← hG7]
      rw [← hw3] at qk30 qk31
      clear hw3 hG7
      have qk70 := k7.out.1.c0
      have qk71 := k7.out.1.c1
      refine (cC4.out w3 k3.out.2).mono ?_; rintro e w4 ⟨C8, nn, c8, rfl, r8, _, b⟩
      obtain rfl : n = nn := by have := r8.len; have := hcll.out; omega
      obtain ⟨w5, hw5⟩ : ∃ W, W = w4.alloc (.cells #[.int .i64 n, .slice C8 n c8] 24) := ⟨_, rfl⟩
      obtain ⟨G8, hG8⟩ : ∃ G, G = w4.heap.size := ⟨_, rfl⟩
      have ba : Below w4.heap.size w4 w5 := by rw [hw5]; exact below_alloc _ _
      have k8 := Lib.hid (show MatK w5 G8 24 n C8 n c8 (closeK a n) from ⟨by rw [hw5, hG8]; exact MatB.new _ _, r8.below ba⟩)
      replace b := below_trans2 b ba
      clear ba r8
      replace k3 := Lib.hid (k3.out.below b)
      replace qk30 := k3.out.1.c0
      replace qk31 := k3.out.1.c1
      replace k7 := Lib.hid (k7.out.below b)
      replace qk70 := k7.out.1.c0
      replace qk71 := k7.out.1.c1
      replace bb := Lib.hid (below_trans2 bb.out b)
      clear b
      rw [hw5] at qk30 qk31 qk70 qk71
      go_wp2_with fail
      rw [← hw5, ← hG8]
      rw [← hw5] at qk30 qk31 qk70 qk71
      clear hw5 hG8
      have qk80 := k8.out.1.c0
      have qk81 := k8.out.1.c1
      refine (cL.out w5 k3.out.2).mono ?_; rintro e w6 ⟨lr, lb, rfl, hlp, b⟩
      replace k3 := Lib.hid (k3.out.below b)
      replace qk30 := k3.out.1.c0
      replace qk31 := k3.out.1.c1
      replace k7 := Lib.hid (k7.out.below b)
      replace qk70 := k7.out.1.c0
      replace qk71 := k7.out.1.c1
      replace k8 := Lib.hid (k8.out.below b)
      replace qk80 := k8.out.1.c0
      replace qk81 := k8.out.1.c1
      replace bb := Lib.hid (below_trans2 bb.out b)
      clear b
      replace hlp := Lib.hid hlp
      go_wp2_with fail
      refine (cL4.out w6 k3.out.2).mono ?_; rintro e w7 ⟨lr2, lb2, rfl, hlp2, b⟩
      obtain ⟨rfl, rfl⟩ := hlp.out.unique hlp2
      replace k3 := Lib.hid (k3.out.below b)
      replace qk30 := k3.out.1.c0
      replace qk31 := k3.out.1.c1
      replace k7 := Lib.hid (k7.out.below b)
      replace qk70 := k7.out.1.c0
      replace qk71 := k7.out.1.c1
      replace k8 := Lib.hid (k8.out.below b)
      replace qk80 := k8.out.1.c0
      replace qk81 := k8.out.1.c1
      replace bb := Lib.hid (below_trans2 bb.out b)
      clear b
      clear hlp hlp2
      go_wp2_with fail
      refine (cA.out C8 c8 w7 k8.out.2).mono ?_; rintro e w8 ⟨C13, n13, c13, rfl, r13, _, b⟩
      obtain ⟨w9, hw9⟩ : ∃ W, W = w8.alloc (.cells #[.int .i64 sN, .slice C13 n13 c13] 24) := ⟨_, rfl⟩
      obtain ⟨G13, hG13⟩ : ∃ G, G = w8.heap.size := ⟨_, rfl⟩
      have ba : Below w8.heap.size w8 w9 := by rw [hw9]; exact below_alloc _ _
      have k13 := Lib.hid (show MatK w9 G13 24 sN C13 n13 c13 sM from ⟨by rw [hw9, hG13]; exact MatB.new _ _, r13.below ba⟩)
      replace b := below_trans2 b ba
      clear ba r13
      replace k3 := Lib.hid (k3.out.below b)
      replace qk30 := k3.out.1.c0
      replace qk31 := k3.out.1.c1
      replace k7 := Lib.hid (k7.out.below b)
      replace qk70 := k7.out.1.c0
      replace qk71 := k7.out.1.c1
      replace k8 := Lib.hid (k8.out.below b)
      replace qk80 := k8.out.1.c0
      replace qk81 := k8.out.1.c1
      replace bb := Lib.hid (below_trans2 bb.out b)
      clear b
      rw [hw9] at qk30 qk31 qk70 qk71 qk80 qk81
      go_wp2_with fail
      rw [← hw9, ← hG13]
      rw [← hw9] at qk30 qk31 qk70 qk71 qk80 qk81
      clear hw9 hG13
      have qk130 := k13.out.1.c0
      have qk131 := k13.out.1.c1
      refine (cA4.out C8 c8 w9 k8.out.2).mono ?_; rintro e w10 ⟨C15, n15, c15, rfl, r15, _, b⟩
      obtain ⟨w11, hw11⟩ : ∃ W, W = w10.alloc (.cells #[.int .i64 sN, .slice C15 n15 c15] 24) := ⟨_, rfl⟩
      obtain ⟨G15, hG15⟩ : ∃ G, G = w10.heap.size := ⟨_, rfl⟩
      have ba : Below w10.heap.size w10 w11 := by rw [hw11]; exact below_alloc _ _
      have k15 := Lib.hid (show MatK w11 G15 24 sN C15 n15 c15 sM from ⟨by rw [hw11, hG15]; exact MatB.new _ _, r15.below ba⟩)
      replace b := below_trans2 b ba
      clear ba r15
      replace k3 := Lib.hid (k3.out.below b)
      replace qk30 := k3.out.1.c0
      replace qk31 := k3.out.1.c1
      replace k7 := Lib.hid (k7.out.below b)
      replace qk70 := k7.out.1.c0
      replace qk71 := k7.out.1.c1
      replace k8 := Lib.hid (k8.out.below b)
      replace qk80 := k8.out.1.c0
      replace qk81 := k8.out.1.c1
      replace k13 := Lib.hid (k13.out.below b)
      replace qk130 := k13.out.1.c0
      replace qk131 := k13.out.1.c1
      replace bb := Lib.hid (below_trans2 bb.out b)
      clear b
      rw [hw11] at qk30 qk31 qk70 qk71 qk80 qk81 qk130 qk131
      go_wp2_with fail
      rw [← hw11, ← hG15]
      rw [← hw11] at qk30 qk31 qk70 qk71 qk80 qk81 qk130 qk131
      clear hw11 hG15
      have qk150 := k15.out.1.c0
      have qk151 := k15.out.1.c1
      refine wp_region_plan 43 [(false, 0), (true, 1), (true, 2), (true, 3), (false, 4), (true, 5), (true, 6), (true, 7), (true, 9), (false, 8), (false, 10), (true, 11), (true, 12), (true, 13), (true, 14), (true, 15), (true, 16), (true, 17), (true, 18), (true, 19), (true, 20), (true, 21), (true, 22), (true, 23), (true, 24), (true, 25), (false, 26), (true, 27), (true, 28), (true, 29), (true, 30), (true, 31), (true, 32), (true, 33), (true, 34), (true, 35), (true, 37), (true, 38), (false, 36), (false, 39), (false, 40), (true, 41), (true, 42)] (by kernel_rfl) (by kernel_rfl) (fun W12 hW12 => ?_)
      replace k3 := Lib.hid (show MatK W12 G3 24 n A n c a by rw [hW12.out]; exact k3.out.drew)
      replace k7 := Lib.hid (show MatK W12 G7 24 n C7 n c7 (closeK a n) by rw [hW12.out]; exact k7.out.drew)
      replace k8 := Lib.hid (show MatK W12 G8 24 n C8 n c8 (closeK a n) by rw [hW12.out]; exact k8.out.drew)
      replace k13 := Lib.hid (show MatK W12 G13 24 sN C13 n13 c13 sM by rw [hW12.out]; exact k13.out.drew)
      replace k15 := Lib.hid (show MatK W12 G15 24 sN C15 n15 c15 sM by rw [hW12.out]; exact k15.out.drew)
      replace bb := Lib.hid (show Below w.heap.size w W12 by rw [hW12.out]; exact bb.out.drew)
      clear hW12 qk30 qk31 qk70 qk71 qk80 qk81 qk130 qk131 qk150 qk151
      simp only [List.drop_succ_cons, List.drop_nil]
      have qk30 := k3.out.1.c0
      have qk31 := k3.out.1.c1
      have qk70 := k7.out.1.c0
      have qk71 := k7.out.1.c1
      have qk80 := k8.out.1.c0
      have qk81 := k8.out.1.c1
      have qk130 := k13.out.1.c0
      have qk131 := k13.out.1.c1
      have qk150 := k15.out.1.c0
      have qk151 := k15.out.1.c1
      refine wpPlan_only rfl (by rfl) (fun K hK => ?_)
      go_simp
      refine (law4_awake W12).mono ?_
      rintro e w12 ⟨rfl, b⟩
      refine hK _ _ b ?_
      clear hK K
      replace k3 := Lib.hid (k3.out.below b)
      replace qk30 := k3.out.1.c0
      replace qk31 := k3.out.1.c1
      replace k7 := Lib.hid (k7.out.below b)
      replace qk70 := k7.out.1.c0
      replace qk71 := k7.out.1.c1
      replace k8 := Lib.hid (k8.out.below b)
      replace qk80 := k8.out.1.c0
      replace qk81 := k8.out.1.c1
      replace k13 := Lib.hid (k13.out.below b)
      replace qk130 := k13.out.1.c0
      replace qk131 := k13.out.1.c1
      replace k15 := Lib.hid (k15.out.below b)
      replace qk150 := k15.out.1.c0
      replace qk151 := k15.out.1.c1
      replace bb := Lib.hid (below_trans2 bb.out b)
      clear b
      iterate 3
        refine wpPlan_float (v := ?_) rfl (by rfl) (fun w' hw' => ?_) (fun K hK => ?_)
        rotate_left
        · (go_simp; try with_reducible rfl)
        go_simp
        refine hK _ ?_
        clear hK K
      refine wpPlan_only rfl (by rfl) (fun K hK => ?_)
      go_simp
      refine (ceq.out (n : Int) _ _ _ _ _ (closeK a n) w12 k7.out.2 _ k8.out.2 hcl4.out hc64.out).mono ?_
      rintro e w13 ⟨rfl, b⟩
      refine hK _ _ b ?_
      clear hK K
      replace k3 := Lib.hid (k3.out.below b)
      replace qk30 := k3.out.1.c0
      replace qk31 := k3.out.1.c1
      replace k13 := Lib.hid (k13.out.below b)
      replace qk130 := k13.out.1.c0
      replace qk131 := k13.out.1.c1
      replace k15 := Lib.hid (k15.out.below b)
      replace qk150 := k15.out.1.c0
      replace qk151 := k15.out.1.c1
      replace bb := Lib.hid (below_trans2 bb.out b)
      clear b
      clear k7 k8 qk70 qk71 qk80 qk81
      iterate 4
        refine wpPlan_float (v := ?_) rfl (by rfl) (fun w' hw' => ?_) (fun K hK => ?_)
        rotate_left
        · (go_simp; try with_reducible rfl)
        go_simp
        refine hK _ ?_
        clear hK K
      refine wpPlan_only rfl (by rfl) (fun K hK => ?_)
      go_simp
      refine (cD.out w13 k3.out.2).mono ?_
      rintro e w14 ⟨rfl, b⟩
      refine hK _ _ b ?_
      clear hK K
      replace k3 := Lib.hid (k3.out.below b)
      replace qk30 := k3.out.1.c0
      replace qk31 := k3.out.1.c1
      replace k13 := Lib.hid (k13.out.below b)
      replace qk130 := k13.out.1.c0
      replace qk131 := k13.out.1.c1
      replace k15 := Lib.hid (k15.out.below b)
      replace qk150 := k15.out.1.c0
      replace qk151 := k15.out.1.c1
      replace bb := Lib.hid (below_trans2 bb.out b)
      clear b
      refine wpPlan_only rfl (by rfl) (fun K hK => ?_)
      go_simp
      refine (cD4.out w14 k3.out.2).mono ?_
      rintro e w15 ⟨rfl, b⟩
      refine hK _ _ b ?_
      clear hK K
      replace k3 := Lib.hid (k3.out.below b)
      replace qk30 := k3.out.1.c0
      replace qk31 := k3.out.1.c1
      replace k13 := Lib.hid (k13.out.below b)
      replace qk130 := k13.out.1.c0
      replace qk131 := k13.out.1.c1
      replace k15 := Lib.hid (k15.out.below b)
      replace qk150 := k15.out.1.c0
      replace qk151 := k15.out.1.c1
      replace bb := Lib.hid (below_trans2 bb.out b)
      clear b
      iterate 15
        refine wpPlan_float (v := ?_) rfl (by rfl) (fun w' hw' => ?_) (fun K hK => ?_)
        rotate_left
        · (go_simp; try with_reducible rfl)
        go_simp
        refine hK _ ?_
        clear hK K
      refine wpPlan_only rfl (by rfl) (fun K hK => ?_)
      go_simp
      refine (ceq.out sN _ _ _ _ _ sM w15 k13.out.2 _ k15.out.2 hs1.out hs2.out).mono ?_
      rintro e w16 ⟨rfl, b⟩
      refine hK _ _ b ?_
      clear hK K
      replace k3 := Lib.hid (k3.out.below b)
      replace qk30 := k3.out.1.c0
      replace qk31 := k3.out.1.c1
      replace bb := Lib.hid (below_trans2 bb.out b)
      clear b
      clear k13 k15 qk130 qk131 qk150 qk151
      iterate 11
        refine wpPlan_float (v := ?_) rfl (by rfl) (fun w' hw' => ?_) (fun K hK => ?_)
        rotate_left
        · (go_simp; try with_reducible rfl)
        go_simp
        refine hK _ ?_
        clear hK K
      refine wpPlan_only rfl (by rfl) (fun K hK => ?_)
      go_simp
      refine (cW.out w16 k3.out.2 (hz.out.below bb.out)).mono ?_
      rintro e w17 ⟨T1, t1, u1, rfl, rt1, _, b⟩
      refine hK _ _ b ?_
      clear hK K
      replace k3 := Lib.hid (k3.out.below b)
      replace qk30 := k3.out.1.c0
      replace qk31 := k3.out.1.c1
      replace bb := Lib.hid (below_trans2 bb.out b)
      clear b
      replace rt1 := Lib.hid rt1
      refine wpPlan_only rfl (by rfl) (fun K hK => ?_)
      go_simp
      refine (cW4.out w17 k3.out.2 (hz.out.below bb.out)).mono ?_
      rintro e w18 ⟨T2, t2, u2, rfl, rt2, _, b⟩
      have hqq := Lib.hid (ceq.out (n : Int) T1 t1 t2 u1 u2 _ w18 (rt1.out.below b) T2 rt2 hwl.out hw2.out)
      refine hK _ _ b ?_
      clear hK K rt1 rt2
      replace k3 := Lib.hid (k3.out.below b)
      replace qk30 := k3.out.1.c0
      replace qk31 := k3.out.1.c1
      replace bb := Lib.hid (below_trans2 bb.out b)
      clear b
      refine wpPlan_only rfl (by rfl) (fun K hK => ?_)
      go_simp
      refine (hqq.out).mono ?_
      rintro e w19 ⟨rfl, b⟩
      refine hK _ _ b ?_
      clear hK K
      replace bb := Lib.hid (below_trans2 bb.out b)
      clear b
      clear hqq
      iterate 2
        refine wpPlan_float (v := ?_) rfl (by rfl) (fun w' hw' => ?_) (fun K hK => ?_)
        rotate_left
        · (go_simp; try with_reducible rfl)
        go_simp
        refine hK _ ?_
        clear hK K
      refine wpPlan_nil (NoPanic.normal ?_)
      go_wp2_with fail
      go_ret
      exact ⟨rfl, bb.out⟩

end Go.Proofs.Ytkikoniihmieiaa
