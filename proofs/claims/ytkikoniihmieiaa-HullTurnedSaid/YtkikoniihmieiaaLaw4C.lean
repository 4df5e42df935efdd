/- The law HullTurned. -/
import Derived.Test.YtkikoniihmieiaaLaw4A
import Derived.Test.YtkikoniihmieiaaPlanS
import Derived.Test.YtkikoniihmieiaaLaw3C
import Derived.Test.YtkikoniihmieiaaMatRefI
namespace Go.Proofs.Ytkikoniihmieiaa
open Go.RowKit
set_option linter.unusedVariables false

theorem cut_four {T1 T2 T3 T4 : Type} {Goal F : T1 → T2 → T3 → T4 → Prop} {R : Prop} (h1 : (∀ a b c d, F a b c d → Goal a b c d) → R) (h2 : ∀ a b c d, F a b c d → Goal a b c d) : R := h1 h2
theorem close_turn {n : Nat} {a : List (List Nat)} (h : Good n a) (hn : n < 64) : closeK (turnM a) n = turnM (closeK a n) :=
  (closeK_hull (h.turn hn)).unique ((closeK_hull h).turn h hn) fun _ _ => Iff.rfl
theorem close_more {n : Nat} {a : List (List Nat)} (h : Good n a) {i j : Nat} (hi : i < n) (hj : j < n) : subM (closeK a n) (closeK (setM a (i : Int) (j : Int)) n) = true := by
  have hb := h.set hi hj
  refine (closeK_hull h).least h (closeK_hull hb).1 (closeK_hull hb).closed ((sub_rel h (closeK_hull hb).1).2 fun x y hxy => ?_)
  rw [(closeK_hull hb).2]
  exact .one ((rel_set h hi hj x y).2 (.inl hxy))
set_option maxRecDepth 100000 in
set_option maxHeartbeats 16000000 in
theorem law_HullTurned (N : Int) (A : Option Addr) (n c : Nat) (a : List (List Nat)) (i j : Int) (w : World) (hr : RowsAt w A n a) (hn : n ≤ 9223372036854775807) (hl : ∀ (k : Nat) (xs : List Nat), a[k]? = some xs → xs.length ≤ 9223372036854775807)
    (i0 : 0 ≤ i) (i1 : i ≤ 255) (j0 : 0 ≤ j) (j1 : j ≤ 255) :
    Calls Try.prog 7 #[.agg #[.int .i64 N, .slice A n c], .int .u8 i, .int .u8 j] w (RetB true w) := by
  have cM := Lib.hid (fun W hW => law4_may N A n c a W hW hn hl)
  have hla := hr.len
  have hw64 := hr.w64
  obtain ⟨W0, hW0⟩ : ∃ W0, W0 = w.alloc (.cells #[.int .i64 N, .slice A n c] 24) := ⟨_, rfl⟩
  have ha : Below w.heap.size w W0 := by rw [hW0]; exact below_alloc _ _
  have k3 := Lib.hid (show MatK W0 w.heap.size 24 N A n c a by rw [hW0]; exact MatK.new w _ hr)
  have bb := Lib.hid ha
  clear ha hr
  have qk30 := k3.out.1.c0
  have qk31 := k3.out.1.c1
  go_enter Try.func7, Try.ntmps7
  go_wp2_with fail
  rw [← hW0]
  clear hW0
  go_wp2_with fail
  refine (cM.out W0 k3.out.2).mono ?_; rintro e w1 ⟨rfl, b⟩
  replace k3 := Lib.hid (k3.out.below b)
  replace qk30 := k3.out.1.c0
  replace qk31 := k3.out.1.c1
  replace bb := Lib.hid (below_trans2 bb.out b)
  clear b
  cases hma : smallM a 16 && rightM N a with
  | false =>
    go_wp2_with fail
    refine (law4_awake w1).mono ?_; rintro e wz ⟨rfl, b⟩
    have bz := below_trans2 bb.out b
    clear b bb
    go_wp2_with fail
    go_ret
    exact ⟨rfl, bz⟩
  | true =>
    rw [Bool.and_eq_true] at hma
    obtain ⟨p, rfl, hG⟩ := Good.of hma.2 hw64
    obtain rfl : n = p := by have := hG.len; omega
    by_cases hz : n = 0
    · have hz2 : ((n : Int) == 0) = true := by simp [hz]
      replace hz := Lib.hid hz
      clear hma
      go_wp2_with fail
      clear hz2
      refine (law4_awake w1).mono ?_; rintro e wz ⟨rfl, b⟩
      have bz := below_trans2 bb.out b
      clear b bb
      go_wp2_with fail
      go_ret
      exact ⟨rfl, bz⟩
    · have hz' : ¬ (n : Int) = 0 := by omega
      have hn64 : n < 64 := by have := (smallM_len hma.1).1; omega
      obtain ⟨ia, hia, hi⟩ := rem_nat i n (by omega) i0 i1
      obtain ⟨ja, hja, hj⟩ := rem_nat j n (by omega) j0 j1
      have hGs := hG.set hi hj
      have hH := closeK_hull hG
      have hHs := closeK_hull hGs
      have hGt := hG.turn hn64
      have cSet := Lib.hid (fun W hW => ref3_Set (n : Int) A n c a (ia : Int) (ja : Int) W hW rfl hG.le (fun xs hx => by have := hG.small xs hx; omega) (by unfold inM; simp; omega))
      have hsl : Hid ((setM a (ia : Int) (ja : Int)).length = n) := Lib.hid hGs.len
      have hcl : Hid ((closeK a n).length = n) := Lib.hid hH.1.len
      have onea := Lib.hid (hG.one hn64)
      have ones := Lib.hid (hGs.one hn64)
      have cC := Lib.hid (fun W hW => hull_Close A n c a W hW hG)
      have cT := Lib.hid (fun W hW => by
        have h := ref3_Turn A n c a W hW hG.le (fun k xs hx => by have := hG.small xs (List.mem_of_getElem? hx); omega) hG.okT
        rw [show turned (pairsM a) = (pairsM a).map (fun x => (x.2, x.1)) from rfl, fold_turned hG hn64] at h
        exact h)
      have cTc := Lib.hid (fun C x W hW => by
        have h := ref3_Turn C n x (closeK a n) W hW hG.le (fun k xs hx => by have := hH.1.small xs (List.mem_of_getElem? hx); omega) hH.1.okT
        rw [show turned (pairsM (closeK a n)) = (pairsM (closeK a n)).map (fun x => (x.2, x.1)) from rfl, fold_turned hH.1 hn64] at h
        exact h)
      have cCt := Lib.hid (fun C x W hW => by
        have h := hull_Close C n x (turnM a) W hW hGt
        rw [close_turn hG hn64] at h
        exact h)
      have cCs := Lib.hid (fun C x W hW => hull_Close C n x (setM a (ia : Int) (ja : Int)) W hW hGs)
      have s64t : ∀ (k : Nat) (xs : List Nat), (turnM (closeK a n))[k]? = some xs → xs.length ≤ 1073741824 := fun k xs hx => by have := (hH.1.turn hn64).small xs (List.mem_of_getElem? hx); omega
      have s64c : ∀ (k : Nat) (xs : List Nat), (closeK a n)[k]? = some xs → xs.length ≤ 1073741824 := fun k xs hx => by have := hH.1.small xs (List.mem_of_getElem? hx); omega
      have s64s : ∀ (k : Nat) (xs : List Nat), (closeK (setM a (ia : Int) (ja : Int)) n)[k]? = some xs → xs.length ≤ 1073741824 := fun k xs hx => by have := hHs.1.small xs (List.mem_of_getElem? hx); omega
      have cQ := Lib.hid (fun C D x y W hW hV => by
        have h := ref3_Equal (n : Int) (n : Int) C D n n x y (turnM (closeK a n)) (turnM (closeK a n)) W hW hV (by omega) (by omega) s64t s64t
        rw [equalM_self'] at h
        exact h)
      have cS := Lib.hid (fun C D x y W hW hV => by
        have h := ref3_Sub C D n x y (closeK a n) (closeK (setM a (ia : Int) (ja : Int)) n) W hW hV (by omega) s64c s64s
        rw [close_more hG hi hj] at h
        exact h)
      have htl : Hid ((turnM a).length = n) := Lib.hid hGt.len
      have htcl : Hid ((turnM (closeK a n)).length = n) := Lib.hid (hH.1.turn hn64).len
      have hcsl : Hid ((closeK (setM a (ia : Int) (ja : Int)) n).length = n) := Lib.hid hHs.1.len
      clear s64t s64c s64s hGs hH hHs hGt hG hma hw64 hla hl hn cM
      go_wp2_with fail
      refine wp_region_tree (.flt 0 (.flt 1 (.flt 2 (.flt 3 (.flt 4 (.flt 5 (.flt 6 (.flt 7 (.flt 8 (.flt 9 (.flt 10 (.two 11 15 (.flt 12 (.flt 13 (.flt 14 (.one 15 (.one 16 (.flt 17 .done)))))) (.one 11 (.flt 12 (.flt 13 (.flt 14 (.one 16 (.flt 17 .done)))))))))))))))))) (by kernel_rfl) (by kernel_rfl) (fun W hW => ?_)
      have z3 := Lib.hid (show MatK W w.heap.size 24 n A n c a by rw [hW.out]; exact k3.out.drew)
      have bbW := Lib.hid (show Below w.heap.size w W by rw [hW.out]; exact bb.out.drew)
      have bW : Below W.heap.size W W := Below.refl _ _
      clear hW k3 bb qk30 qk31
      have l3 : w.heap.size < W.heap.size := z3.out.1.lt
      replace hia := Lib.hid hia
      replace hja := Lib.hid hja
      apply cut_four (F := fun (G7 : Nat) (w9 : World) (C : Option Addr) (cc : Nat) => MatK w9 w.heap.size 24 n A n c a ∧ MatK w9 G7 24 n C n cc (setM a (ia : Int) (ja : Int)) ∧ Below w.heap.size w w9)
      · intro key
        have qa0 := z3.out.1.c0
        have qa1 := z3.out.1.c1
        iterate 11
          refine wpPT_float (v := ?_) rfl (by rfl) (fun w' hw' => ?_) (fun K hK => ?_)
          rotate_left
          · (go_simp; try with_reducible rfl)
          go_simp
          refine hK _ ?_
          clear hK K
        clear qa0 qa1
        refine wpPT_two rfl (by rfl) rfl (by rfl) (fun K hK => ?_) (fun K hK => ?_)
        · go_simp
          rw [hia.out, hja.out]
          go_simp
          refine (cSet.out W z3.out.2).mono ?_; rintro e v1 ⟨C, nn, cc, rfl, rC, _, b⟩
          obtain rfl : n = nn := by have := rC.len; have := hsl.out; omega
          replace bW := below_trans2 bW b
          refine hK _ _ bW ?_
          clear hK K
          replace z3 := Lib.hid (z3.out.below b)
          replace rC := Lib.hid rC
          clear b
          iterate 3
            refine wpPT_float (v := ?_) rfl (by rfl) (fun w' hw' => ?_) (fun K hK => ?_)
            rotate_left
            · (go_simp; try with_reducible rfl)
            go_simp
            refine hK _ ?_
            clear hK K
          refine wpPT_one rfl (by rfl) (fun K hK => ?_)
          go_simp
          obtain ⟨G7, hG⟩ : ∃ G, G = v1.heap.size := ⟨_, rfl⟩
          obtain ⟨v2, hw⟩ : ∃ X : World, X = v1.alloc (.cells #[.int .i64 0, .slice none 0 0] 24) := ⟨_, rfl⟩
          rw [← hw, ← hG]
          have b : Below v1.heap.size v1 v2 := by rw [hw]; exact below_alloc _ _
          have hW7 : W.heap.size ≤ G7 := by rw [hG]; exact bW.size
          replace bW := below_trans2 bW b
          refine hK _ _ bW ?_
          clear hK K
          have m7 := Lib.hid (show MatB v2 G7 24 0 none 0 0 by rw [hw, hG]; exact MatB.new _ _)
          clear hw hG
          replace z3 := Lib.hid (z3.out.below b)
          replace rC := Lib.hid (rC.out.below b)
          clear b
          have f0 := m7.out.c0
          have f1 := m7.out.c1
          have g0 := m7.out.frozen 0
          have g1 := m7.out.frozen 1
          refine wpPT_one rfl (by rfl) (fun K hK => ?_)
          go_simp
          obtain ⟨v9, hw⟩ : ∃ X : World, X = (v2.setCell ⟨G7, 0, none⟩ (.int .i64 n)).setCell ⟨G7, 1, none⟩ (.slice C n cc) := ⟨_, rfl⟩
          rw [← hw]
          replace bW : Below W.heap.size W v9 := by rw [hw]; exact (bW.setCell (p := ⟨G7, 0, none⟩) (by simpa using hW7) _).setCell (p := ⟨G7, 1, none⟩) (by simpa using hW7) _
          refine hK _ _ bW ?_
          clear hK K f0 f1 g0 g1
          replace z3 := Lib.hid (show MatK v9 w.heap.size 24 n A n c a by rw [hw]; exact MatK.put m7.out z3.out (by omega) (z3.out.2.farM m7.out onea.out) _ _)
          have n7 := Lib.hid (show MatK v9 G7 24 n C n cc (setM a (ia : Int) (ja : Int)) by rw [hw]; exact ⟨m7.out.put n C n cc, rC.out.putB m7.out (rC.out.farM m7.out ones.out) _ _⟩)
          clear hw m7 rC
          iterate 1
            refine wpPT_float (v := ?_) rfl (by rfl) (fun w' hw' => ?_) (fun K hK => ?_)
            rotate_left
            · (go_simp; try with_reducible rfl)
            go_simp
            refine hK _ ?_
            clear hK K
          refine wpPT_done (NoPanic.normal ?_)
          exact key G7 v9 C cc ⟨z3.out, n7.out, below_trans2 bbW.out bW⟩
        · go_simp
          obtain ⟨G7, hG⟩ : ∃ G, G = W.heap.size := ⟨_, rfl⟩
          obtain ⟨v1, hw⟩ : ∃ X : World, X = W.alloc (.cells #[.int .i64 0, .slice none 0 0] 24) := ⟨_, rfl⟩
          rw [← hw, ← hG]
          have b : Below W.heap.size W v1 := by rw [hw]; exact below_alloc _ _
          have hW7 : W.heap.size ≤ G7 := by rw [hG]; exact bW.size
          replace bW := below_trans2 bW b
          refine hK _ _ bW ?_
          clear hK K
          have m7 := Lib.hid (show MatB v1 G7 24 0 none 0 0 by rw [hw, hG]; exact MatB.new _ _)
          clear hw hG
          replace z3 := Lib.hid (z3.out.below b)
          clear b
          refine wpPT_one rfl (by rfl) (fun K hK => ?_)
          go_simp
          rw [hia.out, hja.out]
          go_simp
          refine (cSet.out v1 z3.out.2).mono ?_; rintro e v2 ⟨C, nn, cc, rfl, rC, _, b⟩
          obtain rfl : n = nn := by have := rC.len; have := hsl.out; omega
          replace bW := below_trans2 bW b
          refine hK _ _ bW ?_
          clear hK K
          replace z3 := Lib.hid (z3.out.below b)
          replace rC := Lib.hid rC
          replace m7 := Lib.hid (m7.out.below b)
          clear b
          iterate 3
            refine wpPT_float (v := ?_) rfl (by rfl) (fun w' hw' => ?_) (fun K hK => ?_)
            rotate_left
            · (go_simp; try with_reducible rfl)
            go_simp
            refine hK _ ?_
            clear hK K
          have f0 := m7.out.c0
          have f1 := m7.out.c1
          have g0 := m7.out.frozen 0
          have g1 := m7.out.frozen 1
          refine wpPT_one rfl (by rfl) (fun K hK => ?_)
          go_simp
          obtain ⟨v9, hw⟩ : ∃ X : World, X = (v2.setCell ⟨G7, 0, none⟩ (.int .i64 n)).setCell ⟨G7, 1, none⟩ (.slice C n cc) := ⟨_, rfl⟩
          rw [← hw]
          replace bW : Below W.heap.size W v9 := by rw [hw]; exact (bW.setCell (p := ⟨G7, 0, none⟩) (by simpa using hW7) _).setCell (p := ⟨G7, 1, none⟩) (by simpa using hW7) _
          refine hK _ _ bW ?_
          clear hK K f0 f1 g0 g1
          replace z3 := Lib.hid (show MatK v9 w.heap.size 24 n A n c a by rw [hw]; exact MatK.put m7.out z3.out (by omega) (z3.out.2.farM m7.out onea.out) _ _)
          have n7 := Lib.hid (show MatK v9 G7 24 n C n cc (setM a (ia : Int) (ja : Int)) by rw [hw]; exact ⟨m7.out.put n C n cc, rC.out.putB m7.out (rC.out.farM m7.out ones.out) _ _⟩)
          clear hw m7 rC
          iterate 1
            refine wpPT_float (v := ?_) rfl (by rfl) (fun w' hw' => ?_) (fun K hK => ?_)
            rotate_left
            · (go_simp; try with_reducible rfl)
            go_simp
            refine hK _ ?_
            clear hK K
          refine wpPT_done (NoPanic.normal ?_)
          exact key G7 v9 C cc ⟨z3.out, n7.out, below_trans2 bbW.out bW⟩
      · intro G7 w9 C cc hk
        have k3 := Lib.hid hk.1
        have k7 := Lib.hid hk.2.1
        have bb := Lib.hid hk.2.2
        clear hk l3 z3 bbW bW cSet onea ones hsl hia hja
        have qk30 := k3.out.1.c0
        have qk31 := k3.out.1.c1
        have qk70 := k7.out.1.c0
        have qk71 := k7.out.1.c1
        go_wp2_with fail
        refine (cC.out w9 k3.out.2).mono ?_; rintro e w10 ⟨C9, nn, c9, rfl, r9, _, b⟩
        obtain rfl : n = nn := by have := r9.len; have := hcl.out; omega
        obtain ⟨W11, hW11⟩ : ∃ W, W = w10.alloc (.cells #[.int .i64 n, .slice C9 n c9] 24) := ⟨_, rfl⟩
        obtain ⟨G9, hG9⟩ : ∃ G, G = w10.heap.size := ⟨_, rfl⟩
        have ba : Below w10.heap.size w10 W11 := by rw [hW11]; exact below_alloc _ _
        have k9 := Lib.hid (show MatK W11 G9 24 n C9 n c9 (closeK a n) from ⟨by rw [hW11, hG9]; exact MatB.new _ _, r9.below ba⟩)
        replace b := below_trans2 b ba
        clear ba r9
        replace k3 := Lib.hid (k3.out.below b)
        replace qk30 := k3.out.1.c0
        replace qk31 := k3.out.1.c1
        replace k7 := Lib.hid (k7.out.below b)
        replace qk70 := k7.out.1.c0
        replace qk71 := k7.out.1.c1
        replace bb := Lib.hid (below_trans2 bb.out b)
        clear b
        rw [hW11] at qk30 qk31 qk70 qk71
        go_wp2_with fail
        rw [← hW11, ← hG9]
        rw [← hW11] at qk30 qk31 qk70 qk71
        clear hW11 hG9
        have qk90 := k9.out.1.c0
        have qk91 := k9.out.1.c1
        refine wp_region_plan 16 [(false, 0), (true, 1), (true, 2), (true, 5), (false, 3), (false, 4), (false, 6), (false, 7), (true, 8), (true, 9), (true, 10), (true, 11), (false, 12), (false, 13), (true, 14), (true, 15)] (by kernel_rfl) (by kernel_rfl) (fun W1 hW1 => ?_)
        replace k3 := Lib.hid (show MatK W1 w.heap.size 24 n A n c a by rw [hW1.out]; exact k3.out.drew)
        replace k7 := Lib.hid (show MatK W1 G7 24 n C n cc (setM a (ia : Int) (ja : Int)) by rw [hW1.out]; exact k7.out.drew)
        replace k9 := Lib.hid (show MatK W1 G9 24 n C9 n c9 (closeK a n) by rw [hW1.out]; exact k9.out.drew)
        replace bb := Lib.hid (show Below w.heap.size w W1 by rw [hW1.out]; exact bb.out.drew)
        clear hW1 qk30 qk31 qk70 qk71 qk90 qk91
        simp only [List.drop_succ_cons, List.drop_nil]
        have qk30 := k3.out.1.c0
        have qk31 := k3.out.1.c1
        have qk70 := k7.out.1.c0
        have qk71 := k7.out.1.c1
        have qk90 := k9.out.1.c0
        have qk91 := k9.out.1.c1
        refine wpPlan_only rfl (by rfl) (fun K hK => ?_)
        go_simp
        refine (law4_awake W1).mono ?_
        rintro e w12 ⟨rfl, b⟩
        refine hK _ _ b ?_
        clear hK K
        replace k3 := Lib.hid (k3.out.below b)
        replace qk30 := k3.out.1.c0
        replace qk31 := k3.out.1.c1
        replace k7 := Lib.hid (k7.out.below b)
        replace qk70 := k7.out.1.c0
        replace qk71 := k7.out.1.c1
        replace k9 := Lib.hid (k9.out.below b)
        replace qk90 := k9.out.1.c0
        replace qk91 := k9.out.1.c1
        replace bb := Lib.hid (below_trans2 bb.out b)
        clear b
        iterate 3
          refine wpPlan_float (v := ?_) rfl (by rfl) (fun w' hw' => ?_) (fun K hK => ?_)
          rotate_left
          · (go_simp; try with_reducible rfl)
          go_simp
          refine hK _ ?_
          clear hK K
        refine wpPlan_only rfl (by rfl) (fun K hK => ?_)
        go_simp
        refine (cT.out w12 k3.out.2).mono ?_
        rintro e w13 ⟨T1, nn, t1, rfl, rT, _, b⟩
        obtain rfl : n = nn := by have := rT.len; have := htl.out; omega
        refine hK _ _ b ?_
        clear hK K
        replace k3 := Lib.hid (k3.out.below b)
        replace qk30 := k3.out.1.c0
        replace qk31 := k3.out.1.c1
        replace k7 := Lib.hid (k7.out.below b)
        replace qk70 := k7.out.1.c0
        replace qk71 := k7.out.1.c1
        replace k9 := Lib.hid (k9.out.below b)
        replace qk90 := k9.out.1.c0
        replace qk91 := k9.out.1.c1
        replace bb := Lib.hid (below_trans2 bb.out b)
        clear b
        have hq := Lib.hid (cCt.out T1 t1 w13 rT)
        clear rT
        refine wpPlan_only rfl (by rfl) (fun K hK => ?_)
        go_simp
        refine hq.out.mono ?_
        rintro e w14 ⟨T2, nn, t2, rfl, rT2, _, b⟩
        obtain rfl : n = nn := by have := rT2.len; have := htcl.out; omega
        refine hK _ _ b ?_
        clear hK K hq
        replace k3 := Lib.hid (k3.out.below b)
        replace qk30 := k3.out.1.c0
        replace qk31 := k3.out.1.c1
        replace k7 := Lib.hid (k7.out.below b)
        replace qk70 := k7.out.1.c0
        replace qk71 := k7.out.1.c1
        replace k9 := Lib.hid (k9.out.below b)
        replace qk90 := k9.out.1.c0
        replace qk91 := k9.out.1.c1
        replace bb := Lib.hid (below_trans2 bb.out b)
        clear b
        replace rT2 := Lib.hid rT2
        refine wpPlan_only rfl (by rfl) (fun K hK => ?_)
        go_simp
        refine (cTc.out C9 c9 w14 k9.out.2).mono ?_
        rintro e w15 ⟨T3, nn, t3, rfl, rT3, _, b⟩
        obtain rfl : n = nn := by have := rT3.len; have := htcl.out; omega
        refine hK _ _ b ?_
        clear hK K
        have hq := Lib.hid (cQ.out T2 T3 t2 t3 w15 (rT2.out.below b) rT3)
        replace k3 := Lib.hid (k3.out.below b)
        replace qk30 := k3.out.1.c0
        replace qk31 := k3.out.1.c1
        replace k7 := Lib.hid (k7.out.below b)
        replace qk70 := k7.out.1.c0
        replace qk71 := k7.out.1.c1
        replace k9 := Lib.hid (k9.out.below b)
        replace qk90 := k9.out.1.c0
        replace qk91 := k9.out.1.c1
        replace bb := Lib.hid (below_trans2 bb.out b)
        clear b
        clear rT3 rT2
        refine wpPlan_only rfl (by rfl) (fun K hK => ?_)
        go_simp
        refine (hq.out).mono ?_
        rintro e w16 ⟨rfl, b⟩
        refine hK _ _ b ?_
        clear hK K
        replace k3 := Lib.hid (k3.out.below b)
        replace qk30 := k3.out.1.c0
        replace qk31 := k3.out.1.c1
        replace k7 := Lib.hid (k7.out.below b)
        replace qk70 := k7.out.1.c0
        replace qk71 := k7.out.1.c1
        replace k9 := Lib.hid (k9.out.below b)
        replace qk90 := k9.out.1.c0
        replace qk91 := k9.out.1.c1
        replace bb := Lib.hid (below_trans2 bb.out b)
        clear b
        clear hq
        iterate 4
          refine wpPlan_float (v := ?_) rfl (by rfl) (fun w' hw' => ?_) (fun K hK => ?_)
          rotate_left
          · (go_simp; try with_reducible rfl)
          go_simp
          refine hK _ ?_
          clear hK K
        refine wpPlan_only rfl (by rfl) (fun K hK => ?_)
        go_simp
        refine (cCs.out C cc w16 k7.out.2).mono ?_
        rintro e w17 ⟨T4, nn, t4, rfl, rT4, _, b⟩
        obtain rfl : n = nn := by have := rT4.len; have := hcsl.out; omega
        refine hK _ _ b ?_
        clear hK K
        replace k3 := Lib.hid (k3.out.below b)
        replace qk30 := k3.out.1.c0
        replace qk31 := k3.out.1.c1
        replace k7 := Lib.hid (k7.out.below b)
        replace qk70 := k7.out.1.c0
        replace qk71 := k7.out.1.c1
        replace k9 := Lib.hid (k9.out.below b)
        replace qk90 := k9.out.1.c0
        replace qk91 := k9.out.1.c1
        replace bb := Lib.hid (below_trans2 bb.out b)
        clear b
        have hq := Lib.hid (cS.out C9 T4 c9 t4 w17 k9.out.2 rT4)
        clear rT4
        refine wpPlan_only rfl (by rfl) (fun K hK => ?_)
        go_simp
        refine (hq.out).mono ?_
        rintro e w18 ⟨rfl, b⟩
        refine hK _ _ b ?_
        clear hK K
        replace bb := Lib.hid (below_trans2 bb.out b)
        clear b
        clear hq
        iterate 2
          refine wpPlan_float (v := ?_) rfl (by rfl) (fun w' hw' => ?_) (fun K hK => ?_)
          rotate_left
          · (go_simp; try with_reducible rfl)
          go_simp
          refine hK _ ?_
          clear hK K
        refine wpPlan_nil (NoPanic.normal ?_)
        go_wp2_with fail
        go_ret
        exact ⟨rfl, bb.out⟩

end Go.Proofs.Ytkikoniihmieiaa
