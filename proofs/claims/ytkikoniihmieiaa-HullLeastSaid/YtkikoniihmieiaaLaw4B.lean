/- The law HullLeast. -/
import Derived.Test.YtkikoniihmieiaaLaw4A
import Derived.Test.YtkikoniihmieiaaPlanS
namespace Go.Proofs.Ytkikoniihmieiaa
open Go.RowKit
set_option linter.unusedVariables false

theorem closed_close {n : Nat} {a : List (List Nat)} (h : Good n a) : closedB (closeK a n) = true := (closedB_iff (closeK_hull h).1).2 (closeK_hull h).closed
theorem close_close {n : Nat} {a : List (List Nat)} (h : Good n a) : closeK (closeK a n) n = closeK a n :=
  (closeK_hull (closeK_hull h).1).unique (IsHull.self (closeK_hull h).1 (closeK_hull h).closed) fun _ _ => Iff.rfl
theorem close_least {n : Nat} {a b : List (List Nat)} (ha : Good n a) (hb : Good n b) (h : subM a (closeK b n) = true) : subM (closeK a n) (closeK b n) = true :=
  (closeK_hull ha).least ha (closeK_hull hb).1 (closeK_hull hb).closed h
set_option maxRecDepth 100000 in
set_option maxHeartbeats 16000000 in
theorem law_HullLeast (N M : Int) (A B : Option Addr) (n c m d : Nat) (a b : List (List Nat)) (w : World) (hr : RowsAt w A n a) (hs : RowsAt w B m b) (hn : n ≤ 9223372036854775807) (hm : m ≤ 9223372036854775807)
    (hl : ∀ (k : Nat) (xs : List Nat), a[k]? = some xs → xs.length ≤ 9223372036854775807) (hl2 : ∀ (k : Nat) (xs : List Nat), b[k]? = some xs → xs.length ≤ 9223372036854775807) :
    Calls Try.prog 5 #[.agg #[.int .i64 N, .slice A n c], .agg #[.int .i64 M, .slice B m d]] w (RetB true w) := by
  have cMa := Lib.hid (fun W hW => law4_may N A n c a W hW hn hl)
  have cMb := Lib.hid (fun W hW => law4_may M B m d b W hW hm hl2)
  have hla := hr.len
  have hlb := hs.len
  have hw64a := hr.w64
  have hw64b := hs.w64
  obtain ⟨W0, hW0⟩ : ∃ W0, W0 = (w.alloc (.cells #[.int .i64 N, .slice A n c] 24)).alloc (.cells #[.int .i64 M, .slice B m d] 24) := ⟨_, rfl⟩
  have ha : Below w.heap.size w W0 := by rw [hW0]; exact ((Below.refl _ _).alloc (Nat.le_refl _) _).alloc (by simp) _
  have k2 := Lib.hid (show MatK W0 w.heap.size 24 N A n c a by rw [hW0]; exact (MatK.new w _ hr).below (below_alloc _ _))
  have k3 := Lib.hid (show MatK W0 (w.heap.size + 1) 24 M B m d b from ⟨by rw [hW0]; exact MatB.new1 w _ _, hs.below ha⟩)
  have bb := Lib.hid ha
  clear ha hr hs
  have qk20 := k2.out.1.c0
  have qk21 := k2.out.1.c1
  have qk30 := k3.out.1.c0
  have qk31 := k3.out.1.c1
  go_enter Try.func5, Try.ntmps5
  go_wp2_with fail
  rw [← hW0]
  clear hW0
  go_wp2_with fail
  refine (cMa.out W0 k2.out.2).mono ?_; rintro e w1 ⟨rfl, b⟩
  replace k2 := Lib.hid (k2.out.below b)
  replace qk20 := k2.out.1.c0
  replace qk21 := k2.out.1.c1
  replace k3 := Lib.hid (k3.out.below b)
  replace qk30 := k3.out.1.c0
  replace qk31 := k3.out.1.c1
  replace bb := Lib.hid (below_trans2 bb.out b)
  clear b
  cases hma : smallM a 16 && rightM N a with
  | false =>
    go_wp2_with fail
    refine (law4_awake w1).mono ?_; rintro e wz ⟨rfl, b⟩
    have bz := below_trans2 bb.out b
    clear b bb
    go_wp2_with fail
    go_ret
    exact ⟨rfl, bz⟩
  | true =>
    go_wp2_with fail
    refine (cMb.out w1 k3.out.2).mono ?_; rintro e w2 ⟨rfl, b⟩
    replace k2 := Lib.hid (k2.out.below b)
    replace qk20 := k2.out.1.c0
    replace qk21 := k2.out.1.c1
    replace k3 := Lib.hid (k3.out.below b)
    replace qk30 := k3.out.1.c0
    replace qk31 := k3.out.1.c1
    replace bb := Lib.hid (below_trans2 bb.out b)
    clear b
    cases hmb : smallM b 16 && rightM M b with
    | false =>
      go_wp2_with fail
      refine (law4_awake w2).mono ?_; rintro e wz ⟨rfl, b⟩
      have bz := below_trans2 bb.out b
      clear b bb
      go_wp2_with fail
      go_ret
      exact ⟨rfl, bz⟩
    | true =>
      rw [Bool.and_eq_true] at hma hmb
      obtain ⟨p, rfl, hGa⟩ := Good.of hma.2 hw64a
      obtain rfl : n = p := by have := hGa.len; omega
      obtain ⟨q, rfl, hGb⟩ := Good.of hmb.2 hw64b
      obtain rfl : m = q := by have := hGb.len; omega
      have hn64 : n < 64 := by have := (smallM_len hma.1).1; omega
      have hm64 : m < 64 := by have := (smallM_len hmb.1).1; omega
      have hHa := closeK_hull hGa
      have hHb := closeK_hull hGb
      have cCa := Lib.hid (fun W hW => hull_Close A n c a W hW hGa)
      have cCb := Lib.hid (fun W hW => hull_Close B m d b W hW hGb)
      have hcla : Hid ((closeK a n).length = n) := Lib.hid hHa.1.len
      have hclb : Hid ((closeK b m).length = m) := Lib.hid hHb.1.len
      have onea := Lib.hid (hGa.one hn64)
      have oneb := Lib.hid (hGb.one hm64)
      have oneca := Lib.hid (hHa.1.one hn64)
      have onecb := Lib.hid (hHb.1.one hm64)
      have cD := Lib.hid (fun C c W hW => by
        have h := hull_Closed C n c (closeK a n) W hW hHa.1
        rw [closed_close hGa] at h
        exact h)
      have cE := Lib.hid (fun C c W hW => by
        have h := ref4_Closed C n c (closeK a n) W hW hHa.1
        rw [closed_close hGa] at h
        exact h)
      have s64a : ∀ (k : Nat) (xs : List Nat), a[k]? = some xs → xs.length ≤ 1073741824 := fun k xs hx => by have := hGa.small xs (List.mem_of_getElem? hx); omega
      have s64ca : ∀ (k : Nat) (xs : List Nat), (closeK a n)[k]? = some xs → xs.length ≤ 1073741824 := fun k xs hx => by have := hHa.1.small xs (List.mem_of_getElem? hx); omega
      have s64cb : ∀ (k : Nat) (xs : List Nat), (closeK b m)[k]? = some xs → xs.length ≤ 1073741824 := fun k xs hx => by have := hHb.1.small xs (List.mem_of_getElem? hx); omega
      have cS := Lib.hid (fun C x W (hW : RowsAt W A n a) hV => by
        have h := ref3_Sub A C n c x a (closeK a n) W hW hV (by omega) s64a s64ca
        rw [hHa.sub hGa] at h
        exact h)
      have cC2 := Lib.hid (fun C c W hW => by
        have h := hull_Close C n c (closeK a n) W hW hHa.1
        rw [close_close hGa] at h
        exact h)
      have cQ := Lib.hid (fun C D x y W hW hV => by
        have h := ref3_Equal (n : Int) (n : Int) C D n n x y (closeK a n) (closeK a n) W hW hV (by omega) (by omega) s64ca s64ca
        rw [equalM_self'] at h
        exact h)
      obtain ⟨sb, cT, cU⟩ : ∃ sb : Bool, Hid (∀ C x W, RowsAt W A n a → RowsAt W C m (closeK b m) → Calls Try.prog 25 #[.agg #[.int .i64 (n : Int), .slice A n c], .agg #[.int .i64 (m : Int), .slice C m x]] W (RetB sb W)) ∧
          Hid (sb = true → ∀ C D x y W, RowsAt W C n (closeK a n) → RowsAt W D m (closeK b m) → Calls Try.prog 25 #[.agg #[.int .i64 (n : Int), .slice C n x], .agg #[.int .i64 (m : Int), .slice D m y]] W (RetB true W)) := by
        by_cases hnm : n = m
        · subst hnm
          refine ⟨_, Lib.hid (fun C x W h1 h2 => ref3_Sub A C n c x a (closeK b n) W h1 h2 (by omega) s64a s64cb), Lib.hid (fun hsb C D x y W h1 h2 => ?_)⟩
          have h := ref3_Sub C D n x y (closeK a n) (closeK b n) W h1 h2 (by omega) s64ca s64cb
          rw [close_least hGa hGb hsb] at h
          exact h
        · exact ⟨false, Lib.hid (fun C x W h1 h2 => ref3_Sub_no (n : Int) (m : Int) A C n m c x W (by omega) (by omega)), Lib.hid (fun h => by cases h)⟩
      clear s64a s64ca s64cb hHa hHb hGa hGb hn64 hm64 hma hmb hw64a hw64b hla hlb hl hl2 hn hm cMa cMb
      go_wp2_with fail
      refine wp_region_tree (.flt 0 (.flt 2 (.three 1 4 5 (.three 3 4 5 (.two 4 5 (.one 5 (.one 6 (.one 7 .done))) (.one 4 (.one 6 (.one 7 .done)))) (.two 3 5 (.one 5 (.one 6 (.one 7 .done))) (.one 3 (.one 6 (.one 7 .done)))) (.two 3 4 (.one 4 (.one 6 (.one 7 .done))) (.one 3 (.one 6 (.one 7 .done))))) (.two 1 5 (.two 3 5 (.one 5 (.one 6 (.one 7 .done))) (.one 3 (.one 6 (.one 7 .done)))) (.one 1 (.one 3 (.one 6 (.one 7 .done))))) (.two 1 4 (.two 3 4 (.one 4 (.one 6 (.one 7 .done))) (.one 3 (.one 6 (.one 7 .done)))) (.one 1 (.one 3 (.one 6 (.one 7 .done)))))))) (by kernel_rfl) (by kernel_rfl) (fun W hW => ?_)
      have z2 := Lib.hid (show MatK W w.heap.size 24 n A n c a by rw [hW.out]; exact k2.out.drew)
      have z3 := Lib.hid (show MatK W (w.heap.size + 1) 24 m B m d b by rw [hW.out]; exact k3.out.drew)
      have bbW := Lib.hid (show Below w.heap.size w W by rw [hW.out]; exact bb.out.drew)
      have bW : Below W.heap.size W W := Below.refl _ _
      clear hW k2 k3 bb qk20 qk21 qk30 qk31
      have l2 : w.heap.size < W.heap.size := z2.out.1.lt
      have l3 : w.heap.size + 1 < W.heap.size := z3.out.1.lt
      apply cut_seven (F := fun (G5 G6 : Nat) (w9 : World) (C1 : Option Addr) (c1 : Nat) (C3 : Option Addr) (c3 : Nat) => MatK w9 w.heap.size 24 n A n c a ∧ MatK w9 (w.heap.size + 1) 24 m B m d b ∧ MatK w9 G5 24 n C1 n c1 (closeK a n) ∧ MatK w9 G6 24 m C3 m c3 (closeK b m) ∧ Below w.heap.size w w9)
      · intro key
        have qa0 := z2.out.1.c0
        have qa1 := z2.out.1.c1
        have qb0 := z3.out.1.c0
        have qb1 := z3.out.1.c1
        iterate 2
          refine wpPT_float (v := ?_) rfl (by rfl) (fun w' hw' => ?_) (fun K hK => ?_)
          rotate_left
          · (go_simp; try with_reducible rfl)
          go_simp
          refine hK _ ?_
          clear hK K
        refine wpPT_three rfl (by rfl) rfl (by rfl) rfl (by rfl) (fun K hK => ?_) (fun K hK => ?_) (fun K hK => ?_)
        · go_simp
          refine (cCa.out W z2.out.2).mono ?_; rintro e v1 ⟨C1, nn, c1, rfl, rC1, _, b⟩
          obtain rfl : n = nn := by have := rC1.len; have := hcla.out; omega
          replace bW := below_trans2 bW b
          refine hK _ _ bW ?_
          clear hK K
          replace z2 := Lib.hid (z2.out.below b)
          replace z3 := Lib.hid (z3.out.below b)
          replace rC1 := Lib.hid rC1
          clear b
          refine wpPT_three rfl (by rfl) rfl (by rfl) rfl (by rfl) (fun K hK => ?_) (fun K hK => ?_) (fun K hK => ?_)
          · go_simp
            refine (cCb.out v1 z3.out.2).mono ?_; rintro e v2 ⟨C3, nn, c3, rfl, rC3, _, b⟩
            obtain rfl : m = nn := by have := rC3.len; have := hclb.out; omega
            replace bW := below_trans2 bW b
            refine hK _ _ bW ?_
            clear hK K
            replace z2 := Lib.hid (z2.out.below b)
            replace z3 := Lib.hid (z3.out.below b)
            replace rC1 := Lib.hid (rC1.out.below b)
            replace rC3 := Lib.hid rC3
            clear b
            refine wpPT_two rfl (by rfl) rfl (by rfl) (fun K hK => ?_) (fun K hK => ?_)
            · go_simp
              obtain ⟨G5, hG⟩ : ∃ G, G = v2.heap.size := ⟨_, rfl⟩
              obtain ⟨v3, hw⟩ : ∃ X : World, X = v2.alloc (.cells #[.int .i64 0, .slice none 0 0] 24) := ⟨_, rfl⟩
              rw [← hw, ← hG]
              have b : Below v2.heap.size v2 v3 := by rw [hw]; exact below_alloc _ _
              have hW5 : W.heap.size ≤ G5 := by rw [hG]; exact bW.size
              replace bW := below_trans2 bW b
              refine hK _ _ bW ?_
              clear hK K
              have m5 := Lib.hid (show MatB v3 G5 24 0 none 0 0 by rw [hw, hG]; exact MatB.new _ _)
              clear hw hG
              replace z2 := Lib.hid (z2.out.below b)
              replace z3 := Lib.hid (z3.out.below b)
              replace rC1 := Lib.hid (rC1.out.below b)
              replace rC3 := Lib.hid (rC3.out.below b)
              clear b
              refine wpPT_one rfl (by rfl) (fun K hK => ?_)
              go_simp
              obtain ⟨G6, hG⟩ : ∃ G, G = v3.heap.size := ⟨_, rfl⟩
              obtain ⟨v4, hw⟩ : ∃ X : World, X = v3.alloc (.cells #[.int .i64 0, .slice none 0 0] 24) := ⟨_, rfl⟩
              rw [← hw, ← hG]
              have b : Below v3.heap.size v3 v4 := by rw [hw]; exact below_alloc _ _
              have hW6 : W.heap.size ≤ G6 := by rw [hG]; exact bW.size
              have hne : G5 ≠ G6 := by have := m5.out.lt; omega
              replace bW := below_trans2 bW b
              refine hK _ _ bW ?_
              clear hK K
              have m6 := Lib.hid (show MatB v4 G6 24 0 none 0 0 by rw [hw, hG]; exact MatB.new _ _)
              clear hw hG
              replace z2 := Lib.hid (z2.out.below b)
              replace z3 := Lib.hid (z3.out.below b)
              replace rC1 := Lib.hid (rC1.out.below b)
              replace rC3 := Lib.hid (rC3.out.below b)
              replace m5 := Lib.hid (m5.out.below b)
              clear b
              have f0 := m5.out.c0
              have f1 := m5.out.c1
              have g0 := m5.out.frozen 0
              have g1 := m5.out.frozen 1
              refine wpPT_one rfl (by rfl) (fun K hK => ?_)
              go_simp
              obtain ⟨v5, hw⟩ : ∃ X : World, X = (v4.setCell ⟨G5, 0, none⟩ (.int .i64 n)).setCell ⟨G5, 1, none⟩ (.slice C1 n c1) := ⟨_, rfl⟩
              rw [← hw]
              replace bW : Below W.heap.size W v5 := by rw [hw]; exact (bW.setCell (p := ⟨G5, 0, none⟩) (by simpa using hW5) _).setCell (p := ⟨G5, 1, none⟩) (by simpa using hW5) _
              refine hK _ _ bW ?_
              clear hK K f0 f1 g0 g1
              replace z2 := Lib.hid (show MatK v5 w.heap.size 24 n A n c a by rw [hw]; exact MatK.put m5.out z2.out (by omega) (z2.out.2.farM m5.out onea.out) _ _)
              replace z3 := Lib.hid (show MatK v5 (w.heap.size + 1) 24 m B m d b by rw [hw]; exact MatK.put m5.out z3.out (by omega) (z3.out.2.farM m5.out oneb.out) _ _)
              have n5 := Lib.hid (show MatK v5 G5 24 n C1 n c1 (closeK a n) by rw [hw]; exact ⟨m5.out.put n C1 n c1, rC1.out.putB m5.out (rC1.out.farM m5.out oneca.out) _ _⟩)
              replace rC3 := Lib.hid (show RowsAt v5 C3 m (closeK b m) by rw [hw]; exact rC3.out.putB m5.out (rC3.out.farM m5.out onecb.out) _ _)
              replace m6 := Lib.hid (show MatB v5 G6 24 0 none 0 0 by rw [hw]; exact (m6.out.farB (p := ⟨G5, 0, none⟩) (by simp <;> omega) _).farB (p := ⟨G5, 1, none⟩) (by simp <;> omega) _)
              clear hw m5 rC1
              have f0 := m6.out.c0
              have f1 := m6.out.c1
              have g0 := m6.out.frozen 0
              have g1 := m6.out.frozen 1
              refine wpPT_one rfl (by rfl) (fun K hK => ?_)
              go_simp
              obtain ⟨v6, hw⟩ : ∃ X : World, X = (v5.setCell ⟨G6, 0, none⟩ (.int .i64 m)).setCell ⟨G6, 1, none⟩ (.slice C3 m c3) := ⟨_, rfl⟩
              rw [← hw]
              replace bW : Below W.heap.size W v6 := by rw [hw]; exact (bW.setCell (p := ⟨G6, 0, none⟩) (by simpa using hW6) _).setCell (p := ⟨G6, 1, none⟩) (by simpa using hW6) _
              refine hK _ _ bW ?_
              clear hK K f0 f1 g0 g1
              replace z2 := Lib.hid (show MatK v6 w.heap.size 24 n A n c a by rw [hw]; exact MatK.put m6.out z2.out (by omega) (z2.out.2.farM m6.out onea.out) _ _)
              replace z3 := Lib.hid (show MatK v6 (w.heap.size + 1) 24 m B m d b by rw [hw]; exact MatK.put m6.out z3.out (by omega) (z3.out.2.farM m6.out oneb.out) _ _)
              replace n5 := Lib.hid (show MatK v6 G5 24 n C1 n c1 (closeK a n) by rw [hw]; exact MatK.put m6.out n5.out (by omega) (n5.out.2.farM m6.out oneca.out) _ _)
              have n6 := Lib.hid (show MatK v6 G6 24 m C3 m c3 (closeK b m) by rw [hw]; exact ⟨m6.out.put m C3 m c3, rC3.out.putB m6.out (rC3.out.farM m6.out onecb.out) _ _⟩)
              clear hw m6 rC3
              refine wpPT_done (NoPanic.normal ?_)
              exact key G5 G6 v6 C1 c1 C3 c3 ⟨z2.out, z3.out, n5.out, n6.out, below_trans2 bbW.out bW⟩
            · go_simp
              obtain ⟨G6, hG⟩ : ∃ G, G = v2.heap.size := ⟨_, rfl⟩
              obtain ⟨v7, hw⟩ : ∃ X : World, X = v2.alloc (.cells #[.int .i64 0, .slice none 0 0] 24) := ⟨_, rfl⟩
              rw [← hw, ← hG]
              have b : Below v2.heap.size v2 v7 := by rw [hw]; exact below_alloc _ _
              have hW6 : W.heap.size ≤ G6 := by rw [hG]; exact bW.size
              replace bW := below_trans2 bW b
              refine hK _ _ bW ?_
              clear hK K
              have m6 := Lib.hid (show MatB v7 G6 24 0 none 0 0 by rw [hw, hG]; exact MatB.new _ _)
              clear hw hG
              replace z2 := Lib.hid (z2.out.below b)
              replace z3 := Lib.hid (z3.out.below b)
              replace rC1 := Lib.hid (rC1.out.below b)
              replace rC3 := Lib.hid (rC3.out.below b)
              clear b
              refine wpPT_one rfl (by rfl) (fun K hK => ?_)
              go_simp
              obtain ⟨G5, hG⟩ : ∃ G, G = v7.heap.size := ⟨_, rfl⟩
              obtain ⟨v8, hw⟩ : ∃ X : World, X = v7.alloc (.cells #[.int .i64 0, .slice none 0 0] 24) := ⟨_, rfl⟩
              rw [← hw, ← hG]
              have b : Below v7.heap.size v7 v8 := by rw [hw]; exact below_alloc _ _
              have hW5 : W.heap.size ≤ G5 := by rw [hG]; exact bW.size
              have hne : G5 ≠ G6 := by have := m6.out.lt; omega
              replace bW := below_trans2 bW b
              refine hK _ _ bW ?_
              clear hK K
              have m5 := Lib.hid (show MatB v8 G5 24 0 none 0 0 by rw [hw, hG]; exact MatB.new _ _)
              clear hw hG
              replace z2 := Lib.hid (z2.out.below b)
              replace z3 := Lib.hid (z3.out.below b)
              replace rC1 := Lib.hid (rC1.out.below b)
              replace rC3 := Lib.hid (rC3.out.below b)
              replace m6 := Lib.hid (m6.out.below b)
              clear b
              have f0 := m5.out.c0
              have f1 := m5.out.c1
              have g0 := m5.out.frozen 0
              have g1 := m5.out.frozen 1
              refine wpPT_one rfl (by rfl) (fun K hK => ?_)
              go_simp
              obtain ⟨v9, hw⟩ : ∃ X : World, X = (v8.setCell ⟨G5, 0, none⟩ (.int .i64 n)).setCell ⟨G5, 1, none⟩ (.slice C1 n c1) := ⟨_, rfl⟩
              rw [← hw]
              replace bW : Below W.heap.size W v9 := by rw [hw]; exact (bW.setCell (p := ⟨G5, 0, none⟩) (by simpa using hW5) _).setCell (p := ⟨G5, 1, none⟩) (by simpa using hW5) _
              refine hK _ _ bW ?_
              clear hK K f0 f1 g0 g1
              replace z2 := Lib.hid (show MatK v9 w.heap.size 24 n A n c a by rw [hw]; exact MatK.put m5.out z2.out (by omega) (z2.out.2.farM m5.out onea.out) _ _)
              replace z3 := Lib.hid (show MatK v9 (w.heap.size + 1) 24 m B m d b by rw [hw]; exact MatK.put m5.out z3.out (by omega) (z3.out.2.farM m5.out oneb.out) _ _)
              have n5 := Lib.hid (show MatK v9 G5 24 n C1 n c1 (closeK a n) by rw [hw]; exact ⟨m5.out.put n C1 n c1, rC1.out.putB m5.out (rC1.out.farM m5.out oneca.out) _ _⟩)
              replace rC3 := Lib.hid (show RowsAt v9 C3 m (closeK b m) by rw [hw]; exact rC3.out.putB m5.out (rC3.out.farM m5.out onecb.out) _ _)
              replace m6 := Lib.hid (show MatB v9 G6 24 0 none 0 0 by rw [hw]; exact (m6.out.farB (p := ⟨G5, 0, none⟩) (by simp <;> omega) _).farB (p := ⟨G5, 1, none⟩) (by simp <;> omega) _)
              clear hw m5 rC1
              have f0 := m6.out.c0
              have f1 := m6.out.c1
              have g0 := m6.out.frozen 0
              have g1 := m6.out.frozen 1
              refine wpPT_one rfl (by rfl) (fun K hK => ?_)
              go_simp
              obtain ⟨v10, hw⟩ : ∃ X : World, X = (v9.setCell ⟨G6, 0, none⟩ (.int .i64 m)).setCell ⟨G6, 1, none⟩ (.slice C3 m c3) := ⟨_, rfl⟩
              rw [← hw]
              replace bW : Below W.heap.size W v10 := by rw [hw]; exact (bW.setCell (p := ⟨G6, 0, none⟩) (by simpa using hW6) _).setCell (p := ⟨G6, 1, none⟩) (by simpa using hW6) _
              refine hK _ _ bW ?_
              clear hK K f0 f1 g0 g1
              replace z2 := Lib.hid (show MatK v10 w.heap.size 24 n A n c a by rw [hw]; exact MatK.put m6.out z2.out (by omega) (z2.out.2.farM m6.out onea.out) _ _)
              replace z3 := Lib.hid (show MatK v10 (w.heap.size + 1) 24 m B m d b by rw [hw]; exact MatK.put m6.out z3.out (by omega) (z3.out.2.farM m6.out oneb.out) _ _)
              replace n5 := Lib.hid (show MatK v10 G5 24 n C1 n c1 (closeK a n) by rw [hw]; exact MatK.put m6.out n5.out (by omega) (n5.out.2.farM m6.out oneca.out) _ _)
              have n6 := Lib.hid (show MatK v10 G6 24 m C3 m c3 (closeK b m) by rw [hw]; exact ⟨m6.out.put m C3 m c3, rC3.out.putB m6.out (rC3.out.farM m6.out onecb.out) _ _⟩)
              clear hw m6 rC3
              refine wpPT_done (NoPanic.normal ?_)
              exact key G5 G6 v10 C1 c1 C3 c3 ⟨z2.out, z3.out, n5.out, n6.out, below_trans2 bbW.out bW⟩
          · go_simp
            obtain ⟨G5, hG⟩ : ∃ G, G = v1.heap.size := ⟨_, rfl⟩
            obtain ⟨v11, hw⟩ : ∃ X : World, X = v1.alloc (.cells #[.int .i64 0, .slice none 0 0] 24) := ⟨_, rfl⟩
            rw [← hw, ← hG]
            have b : Below v1.heap.size v1 v11 := by rw [hw]; exact below_alloc _ _
            have hW5 : W.heap.size ≤ G5 := by rw [hG]; exact bW.size
            replace bW := below_trans2 bW b
            refine hK _ _ bW ?_
            clear hK K
            have m5 := Lib.hid (show MatB v11 G5 24 0 none 0 0 by rw [hw, hG]; exact MatB.new _ _)
            clear hw hG
            replace z2 := Lib.hid (z2.out.below b)
            replace z3 := Lib.hid (z3.out.below b)
            replace rC1 := Lib.hid (rC1.out.below b)
            clear b
            refine wpPT_two rfl (by rfl) rfl (by rfl) (fun K hK => ?_) (fun K hK => ?_)
            · go_simp
              refine (cCb.out v11 z3.out.2).mono ?_; rintro e v12 ⟨C3, nn, c3, rfl, rC3, _, b⟩
              obtain rfl : m = nn := by have := rC3.len; have := hclb.out; omega
              replace bW := below_trans2 bW b
              refine hK _ _ bW ?_
              clear hK K
              replace z2 := Lib.hid (z2.out.below b)
              replace z3 := Lib.hid (z3.out.below b)
              replace rC1 := Lib.hid (rC1.out.below b)
              replace m5 := Lib.hid (m5.out.below b)
              replace rC3 := Lib.hid rC3
              clear b
              refine wpPT_one rfl (by rfl) (fun K hK => ?_)
              go_simp
              obtain ⟨G6, hG⟩ : ∃ G, G = v12.heap.size := ⟨_, rfl⟩
              obtain ⟨v13, hw⟩ : ∃ X : World, X = v12.alloc (.cells #[.int .i64 0, .slice none 0 0] 24) := ⟨_, rfl⟩
              rw [← hw, ← hG]
              have b : Below v12.heap.size v12 v13 := by rw [hw]; exact below_alloc _ _
              have hW6 : W.heap.size ≤ G6 := by rw [hG]; exact bW.size
              have hne : G5 ≠ G6 := by have := m5.out.lt; omega
              replace bW := below_trans2 bW b
              refine hK _ _ bW ?_
              clear hK K
              have m6 := Lib.hid (show MatB v13 G6 24 0 none 0 0 by rw [hw, hG]; exact MatB.new _ _)
              clear hw hG
              replace z2 := Lib.hid (z2.out.below b)
              replace z3 := Lib.hid (z3.out.below b)
              replace rC1 := Lib.hid (rC1.out.below b)
              replace m5 := Lib.hid (m5.out.below b)
              replace rC3 := Lib.hid (rC3.out.below b)
              clear b
              have f0 := m5.out.c0
              have f1 := m5.out.c1
              have g0 := m5.out.frozen 0
              have g1 := m5.out.frozen 1
              refine wpPT_one rfl (by rfl) (fun K hK => ?_)
              go_simp
              obtain ⟨v14, hw⟩ : ∃ X : World, X = (v13.setCell ⟨G5, 0, none⟩ (.int .i64 n)).setCell ⟨G5, 1, none⟩ (.slice C1 n c1) := ⟨_, rfl⟩
              rw [← hw]
              replace bW : Below W.heap.size W v14 := by rw [hw]; exact (bW.setCell (p := ⟨G5, 0, none⟩) (by simpa using hW5) _).setCell (p := ⟨G5, 1, none⟩) (by simpa using hW5) _
              refine hK _ _ bW ?_
              clear hK K f0 f1 g0 g1
              replace z2 := Lib.hid (show MatK v14 w.heap.size 24 n A n c a by rw [hw]; exact MatK.put m5.out z2.out (by omega) (z2.out.2.farM m5.out onea.out) _ _)
              replace z3 := Lib.hid (show MatK v14 (w.heap.size + 1) 24 m B m d b by rw [hw]; exact MatK.put m5.out z3.out (by omega) (z3.out.2.farM m5.out oneb.out) _ _)
              have n5 := Lib.hid (show MatK v14 G5 24 n C1 n c1 (closeK a n) by rw [hw]; exact ⟨m5.out.put n C1 n c1, rC1.out.putB m5.out (rC1.out.farM m5.out oneca.out) _ _⟩)
              replace rC3 := Lib.hid (show RowsAt v14 C3 m (closeK b m) by rw [hw]; exact rC3.out.putB m5.out (rC3.out.farM m5.out onecb.out) _ _)
              replace m6 := Lib.hid (show MatB v14 G6 24 0 none 0 0 by rw [hw]; exact (m6.out.farB (p := ⟨G5, 0, none⟩) (by simp <;> omega) _).farB (p := ⟨G5, 1, none⟩) (by simp <;> omega) _)
              clear hw m5 rC1
              have f0 := m6.out.c0
              have f1 := m6.out.c1
              have g0 := m6.out.frozen 0
              have g1 := m6.out.frozen 1
              refine wpPT_one rfl (by rfl) (fun K hK => ?_)
              go_simp
              obtain ⟨v15, hw⟩ : ∃ X : World, X = (v14.setCell ⟨G6, 0, none⟩ (.int .i64 m)).setCell ⟨G6, 1, none⟩ (.slice C3 m c3) := ⟨_, rfl⟩
              rw [← hw]
              replace bW : Below W.heap.size W v15 := by rw [hw]; exact (bW.setCell (p := ⟨G6, 0, none⟩) (by simpa using hW6) _).setCell (p := ⟨G6, 1, none⟩) (by simpa using hW6) _
              refine hK _ _ bW ?_
              clear hK K f0 f1 g0 g1
              replace z2 := Lib.hid (show MatK v15 w.heap.size 24 n A n c a by rw [hw]; exact MatK.put m6.out z2.out (by omega) (z2.out.2.farM m6.out onea.out) _ _)
              replace z3 := Lib.hid (show MatK v15 (w.heap.size + 1) 24 m B m d b by rw [hw]; exact MatK.put m6.out z3.out (by omega) (z3.out.2.farM m6.out oneb.out) _ _)
              replace n5 := Lib.hid (show MatK v15 G5 24 n C1 n c1 (closeK a n) by rw [hw]; exact MatK.put m6.out n5.out (by omega) (n5.out.2.farM m6.out oneca.out) _ _)
              have n6 := Lib.hid (show MatK v15 G6 24 m C3 m c3 (closeK b m) by rw [hw]; exact ⟨m6.out.put m C3 m c3, rC3.out.putB m6.out (rC3.out.farM m6.out onecb.out) _ _⟩)
              clear hw m6 rC3
              refine wpPT_done (NoPanic.normal ?_)
              exact key G5 G6 v15 C1 c1 C3 c3 ⟨z2.out, z3.out, n5.out, n6.out, below_trans2 bbW.out bW⟩
            · go_simp
              obtain ⟨G6, hG⟩ : ∃ G, G = v11.heap.size := ⟨_, rfl⟩
              obtain ⟨v16, hw⟩ : ∃ X : World, X = v11.alloc (.cells #[.int .i64 0, .slice none 0 0] 24) := ⟨_, rfl⟩
              rw [← hw, ← hG]
              have b : Below v11.heap.size v11 v16 := by rw [hw]; exact below_alloc _ _
              have hW6 : W.heap.size ≤ G6 := by rw [hG]; exact bW.size
              have hne : G5 ≠ G6 := by have := m5.out.lt; omega
              replace bW := below_trans2 bW b
              refine hK _ _ bW ?_
              clear hK K
              have m6 := Lib.hid (show MatB v16 G6 24 0 none 0 0 by rw [hw, hG]; exact MatB.new _ _)
              clear hw hG
              replace z2 := Lib.hid (z2.out.below b)
              replace z3 := Lib.hid (z3.out.below b)
              replace rC1 := Lib.hid (rC1.out.below b)
              replace m5 := Lib.hid (m5.out.below b)
              clear b
              refine wpPT_one rfl (by rfl) (fun K hK => ?_)
              go_simp
              refine (cCb.out v16 z3.out.2).mono ?_; rintro e v17 ⟨C3, nn, c3, rfl, rC3, _, b⟩
              obtain rfl : m = nn := by have := rC3.len; have := hclb.out; omega
              replace bW := below_trans2 bW b
              refine hK _ _ bW ?_
              clear hK K
              replace z2 := Lib.hid (z2.out.below b)
              replace z3 := Lib.hid (z3.out.below b)
              replace rC1 := Lib.hid (rC1.out.below b)
              replace m5 := Lib.hid (m5.out.below b)
              replace m6 := Lib.hid (m6.out.below b)
              replace rC3 := Lib.hid rC3
              clear b
              have f0 := m5.out.c0
              have f1 := m5.out.c1
              have g0 := m5.out.frozen 0
              have g1 := m5.out.frozen 1
              refine wpPT_one rfl (by rfl) (fun K hK => ?_)
              go_simp
              obtain ⟨v18, hw⟩ : ∃ X : World, X = (v17.setCell ⟨G5, 0, none⟩ (.int .i64 n)).setCell ⟨G5, 1, none⟩ (.slice C1 n c1) := ⟨_, rfl⟩
              rw [← hw]
              replace bW : Below W.heap.size W v18 := by rw [hw]; exact (bW.setCell (p := ⟨G5, 0, none⟩) (by simpa using hW5) _).setCell (p := ⟨G5, 1, none⟩) (by simpa using hW5) _
              refine hK _ _ bW ?_
              clear hK K f0 f1 g0 g1
              replace z2 := Lib.hid (show MatK v18 w.heap.size 24 n A n c a by rw [hw]; exact MatK.put m5.out z2.out (by omega) (z2.out.2.farM m5.out onea.out) _ _)
              replace z3 := Lib.hid (show MatK v18 (w.heap.size + 1) 24 m B m d b by rw [hw]; exact MatK.put m5.out z3.out (by omega) (z3.out.2.farM m5.out oneb.out) _ _)
              have n5 := Lib.hid (show MatK v18 G5 24 n C1 n c1 (closeK a n) by rw [hw]; exact ⟨m5.out.put n C1 n c1, rC1.out.putB m5.out (rC1.out.farM m5.out oneca.out) _ _⟩)
              replace rC3 := Lib.hid (show RowsAt v18 C3 m (closeK b m) by rw [hw]; exact rC3.out.putB m5.out (rC3.out.farM m5.out onecb.out) _ _)
              replace m6 := Lib.hid (show MatB v18 G6 24 0 none 0 0 by rw [hw]; exact (m6.out.farB (p := ⟨G5, 0, none⟩) (by simp <;> omega) _).farB (p := ⟨G5, 1, none⟩) (by simp <;> omega) _)
              clear hw m5 rC1
              have f0 := m6.out.c0
              have f1 := m6.out.c1
              have g0 := m6.out.frozen 0
              have g1 := m6.out.frozen 1
              refine wpPT_one rfl (by rfl) (fun K hK => ?_)
              go_simp
              obtain ⟨v19, hw⟩ : ∃ X : World, X = (v18.setCell ⟨G6, 0, none⟩ (.int .i64 m)).setCell ⟨G6, 1, none⟩ (.slice C3 m c3) := ⟨_, rfl⟩
              rw [← hw]
              replace bW : Below W.heap.size W v19 := by rw [hw]; exact (bW.setCell (p := ⟨G6, 0, none⟩) (by simpa using hW6) _).setCell (p := ⟨G6, 1, none⟩) (by simpa using hW6) _
              refine hK _ _ bW ?_
              clear hK K f0 f1 g0 g1
              replace z2 := Lib.hid (show MatK v19 w.heap.size 24 n A n c a by rw [hw]; exact MatK.put m6.out z2.out (by omega) (z2.out.2.farM m6.out onea.out) _ _)
              replace z3 := Lib.hid (show MatK v19 (w.heap.size + 1) 24 m B m d b by rw [hw]; exact MatK.put m6.out z3.out (by omega) (z3.out.2.farM m6.out oneb.out) _ _)
              replace n5 := Lib.hid (show MatK v19 G5 24 n C1 n c1 (closeK a n) by rw [hw]; exact MatK.put m6.out n5.out (by omega) (n5.out.2.farM m6.out oneca.out) _ _)
              have n6 := Lib.hid (show MatK v19 G6 24 m C3 m c3 (closeK b m) by rw [hw]; exact ⟨m6.out.put m C3 m c3, rC3.out.putB m6.out (rC3.out.farM m6.out onecb.out) _ _⟩)
              clear hw m6 rC3
              refine wpPT_done (NoPanic.normal ?_)
              exact key G5 G6 v19 C1 c1 C3 c3 ⟨z2.out, z3.out, n5.out, n6.out, below_trans2 bbW.out bW⟩
          · go_simp
            obtain ⟨G6, hG⟩ : ∃ G, G = v1.heap.size := ⟨_, rfl⟩
            obtain ⟨v20, hw⟩ : ∃ X : World, X = v1.alloc (.cells #[.int .i64 0, .slice none 0 0] 24) := ⟨_, rfl⟩
            rw [← hw, ← hG]
            have b : Below v1.heap.size v1 v20 := by rw [hw]; exact below_alloc _ _
            have hW6 : W.heap.size ≤ G6 := by rw [hG]; exact bW.size
            replace bW := below_trans2 bW b
            refine hK _ _ bW ?_
            clear hK K
            have m6 := Lib.hid (show MatB v20 G6 24 0 none 0 0 by rw [hw, hG]; exact MatB.new _ _)
            clear hw hG
            replace z2 := Lib.hid (z2.out.below b)
            replace z3 := Lib.hid (z3.out.below b)
            replace rC1 := Lib.hid (rC1.out.below b)
            clear b
            refine wpPT_two rfl (by rfl) rfl (by rfl) (fun K hK => ?_) (fun K hK => ?_)
            · go_simp
              refine (cCb.out v20 z3.out.2).mono ?_; rintro e v21 ⟨C3, nn, c3, rfl, rC3, _, b⟩
              obtain rfl : m = nn := by have := rC3.len; have := hclb.out; omega
              replace bW := below_trans2 bW b
              refine hK _ _ bW ?_
              clear hK K
              replace z2 := Lib.hid (z2.out.below b)
              replace z3 := Lib.hid (z3.out.below b)
              replace rC1 := Lib.hid (rC1.out.below b)
              replace m6 := Lib.hid (m6.out.below b)
              replace rC3 := Lib.hid rC3
              clear b
              refine wpPT_one rfl (by rfl) (fun K hK => ?_)
              go_simp
              obtain ⟨G5, hG⟩ : ∃ G, G = v21.heap.size := ⟨_, rfl⟩
              obtain ⟨v22, hw⟩ : ∃ X : World, X = v21.alloc (.cells #[.int .i64 0, .slice none 0 0] 24) := ⟨_, rfl⟩
              rw [← hw, ← hG]
              have b : Below v21.heap.size v21 v22 := by rw [hw]; exact below_alloc _ _
              have hW5 : W.heap.size ≤ G5 := by rw [hG]; exact bW.size
              have hne : G5 ≠ G6 := by have := m6.out.lt; omega
              replace bW := below_trans2 bW b
              refine hK _ _ bW ?_
              clear hK K
              have m5 := Lib.hid (show MatB v22 G5 24 0 none 0 0 by rw [hw, hG]; exact MatB.new _ _)
              clear hw hG
              replace z2 := Lib.hid (z2.out.below b)
              replace z3 := Lib.hid (z3.out.below b)
              replace rC1 := Lib.hid (rC1.out.below b)
              replace m6 := Lib.hid (m6.out.below b)
              replace rC3 := Lib.hid (rC3.out.below b)
              clear b
              have f0 := m5.out.c0
              have f1 := m5.out.c1
              have g0 := m5.out.frozen 0
              have g1 := m5.out.frozen 1
              refine wpPT_one rfl (by rfl) (fun K hK => ?_)
              go_simp
              obtain ⟨v23, hw⟩ : ∃ X : World, X = (v22.setCell ⟨G5, 0, none⟩ (.int .i64 n)).setCell ⟨G5, 1, none⟩ (.slice C1 n c1) := ⟨_, rfl⟩
              rw [← hw]
              replace bW : Below W.heap.size W v23 := by rw [hw]; exact (bW.setCell (p := ⟨G5, 0, none⟩) (by simpa using hW5) _).setCell (p := ⟨G5, 1, none⟩) (by simpa using hW5) _
              refine hK _ _ bW ?_
              clear hK K f0 f1 g0 g1
              replace z2 := Lib.hid (show MatK v23 w.heap.size 24 n A n c a by rw [hw]; exact MatK.put m5.out z2.out (by omega) (z2.out.2.farM m5.out onea.out) _ _)
              replace z3 := Lib.hid (show MatK v23 (w.heap.size + 1) 24 m B m d b by rw [hw]; exact MatK.put m5.out z3.out (by omega) (z3.out.2.farM m5.out oneb.out) _ _)
              have n5 := Lib.hid (show MatK v23 G5 24 n C1 n c1 (closeK a n) by rw [hw]; exact ⟨m5.out.put n C1 n c1, rC1.out.putB m5.out (rC1.out.farM m5.out oneca.out) _ _⟩)
              replace rC3 := Lib.hid (show RowsAt v23 C3 m (closeK b m) by rw [hw]; exact rC3.out.putB m5.out (rC3.out.farM m5.out onecb.out) _ _)
              replace m6 := Lib.hid (show MatB v23 G6 24 0 none 0 0 by rw [hw]; exact (m6.out.farB (p := ⟨G5, 0, none⟩) (by simp <;> omega) _).farB (p := ⟨G5, 1, none⟩) (by simp <;> omega) _)
              clear hw m5 rC1
              have f0 := m6.out.c0
              have f1 := m6.out.c1
              have g0 := m6.out.frozen 0
              have g1 := m6.out.frozen 1
              refine wpPT_one rfl (by rfl) (fun K hK => ?_)
              go_simp
              obtain ⟨v24, hw⟩ : ∃ X : World, X = (v23.setCell ⟨G6, 0, none⟩ (.int .i64 m)).setCell ⟨G6, 1, none⟩ (.slice C3 m c3) := ⟨_, rfl⟩
              rw [← hw]
              replace bW : Below W.heap.size W v24 := by rw [hw]; exact (bW.setCell (p := ⟨G6, 0, none⟩) (by simpa using hW6) _).setCell (p := ⟨G6, 1, none⟩) (by simpa using hW6) _
              refine hK _ _ bW ?_
              clear hK K f0 f1 g0 g1
              replace z2 := Lib.hid (show MatK v24 w.heap.size 24 n A n c a by rw [hw]; exact MatK.put m6.out z2.out (by omega) (z2.out.2.farM m6.out onea.out) _ _)
              replace z3 := Lib.hid (show MatK v24 (w.heap.size + 1) 24 m B m d b by rw [hw]; exact MatK.put m6.out z3.out (by omega) (z3.out.2.farM m6.out oneb.out) _ _)
              replace n5 := Lib.hid (show MatK v24 G5 24 n C1 n c1 (closeK a n) by rw [hw]; exact MatK.put m6.out n5.out (by omega) (n5.out.2.farM m6.out oneca.out) _ _)
              have n6 := Lib.hid (show MatK v24 G6 24 m C3 m c3 (closeK b m) by rw [hw]; exact ⟨m6.out.put m C3 m c3, rC3.out.putB m6.out (rC3.out.farM m6.out onecb.out) _ _⟩)
              clear hw m6 rC3
              refine wpPT_done (NoPanic.normal ?_)
              exact key G5 G6 v24 C1 c1 C3 c3 ⟨z2.out, z3.out, n5.out, n6.out, below_trans2 bbW.out bW⟩
            · go_simp
              obtain ⟨G5, hG⟩ : ∃ G, G = v20.heap.size := ⟨_, rfl⟩
              obtain ⟨v25, hw⟩ : ∃ X : World, X = v20.alloc (.cells #[.int .i64 0, .slice none 0 0] 24) := ⟨_, rfl⟩
              rw [← hw, ← hG]
              have b : Below v20.heap.size v20 v25 := by rw [hw]; exact below_alloc _ _
              have hW5 : W.heap.size ≤ G5 := by rw [hG]; exact bW.size
              have hne : G5 ≠ G6 := by have := m6.out.lt; omega
              replace bW := below_trans2 bW b
              refine hK _ _ bW ?_
              clear hK K
              have m5 := Lib.hid (show MatB v25 G5 24 0 none 0 0 by rw [hw, hG]; exact MatB.new _ _)
              clear hw hG
              replace z2 := Lib.hid (z2.out.below b)
              replace z3 := Lib.hid (z3.out.below b)
              replace rC1 := Lib.hid (rC1.out.below b)
              replace m6 := Lib.hid (m6.out.below b)
              clear b
              refine wpPT_one rfl (by rfl) (fun K hK => ?_)
              go_simp
              refine (cCb.out v25 z3.out.2).mono ?_; rintro e v26 ⟨C3, nn, c3, rfl, rC3, _, b⟩
              obtain rfl : m = nn := by have := rC3.len; have := hclb.out; omega
              replace bW := below_trans2 bW b
              refine hK _ _ bW ?_
              clear hK K
              replace z2 := Lib.hid (z2.out.below b)
              replace z3 := Lib.hid (z3.out.below b)
              replace rC1 := Lib.hid (rC1.out.below b)
              replace m6 := Lib.hid (m6.out.below b)
              replace m5 := Lib.hid (m5.out.below b)
              replace rC3 := Lib.hid rC3
              clear b
              have f0 := m5.out.c0
              have f1 := m5.out.c1
              have g0 := m5.out.frozen 0
              have g1 := m5.out.frozen 1
              refine wpPT_one rfl (by rfl) (fun K hK => ?_)
              go_simp
              obtain ⟨v27, hw⟩ : ∃ X : World, X = (v26.setCell ⟨G5, 0, none⟩ (.int .i64 n)).setCell ⟨G5, 1, none⟩ (.slice C1 n c1) := ⟨_, rfl⟩
              rw [← hw]
              replace bW : Below W.heap.size W v27 := by rw [hw]; exact (bW.setCell (p := ⟨G5, 0, none⟩) (by simpa using hW5) _).setCell (p := ⟨G5, 1, none⟩) (by simpa using hW5) _
              refine hK _ _ bW ?_
              clear hK K f0 f1 g0 g1
              replace z2 := Lib.hid (show MatK v27 w.heap.size 24 n A n c a by rw [hw]; exact MatK.put m5.out z2.out (by omega) (z2.out.2.farM m5.out onea.out) _ _)
              replace z3 := Lib.hid (show MatK v27 (w.heap.size + 1) 24 m B m d b by rw [hw]; exact MatK.put m5.out z3.out (by omega) (z3.out.2.farM m5.out oneb.out) _ _)
              have n5 := Lib.hid (show MatK v27 G5 24 n C1 n c1 (closeK a n) by rw [hw]; exact ⟨m5.out.put n C1 n c1, rC1.out.putB m5.out (rC1.out.farM m5.out oneca.out) _ _⟩)
              replace rC3 := Lib.hid (show RowsAt v27 C3 m (closeK b m) by rw [hw]; exact rC3.out.putB m5.out (rC3.out.farM m5.out onecb.out) _ _)
              replace m6 := Lib.hid (show MatB v27 G6 24 0 none 0 0 by rw [hw]; exact (m6.out.farB (p := ⟨G5, 0, none⟩) (by simp <;> omega) _).farB (p := ⟨G5, 1, none⟩) (by simp <;> omega) _)
              clear hw m5 rC1
              have f0 := m6.out.c0
              have f1 := m6.out.c1
              have g0 := m6.out.frozen 0
              have g1 := m6.out.frozen 1
              refine wpPT_one rfl (by rfl) (fun K hK => ?_)
              go_simp
              obtain ⟨v28, hw⟩ : ∃ X : World, X = (v27.setCell ⟨G6, 0, none⟩ (.int .i64 m)).setCell ⟨G6, 1, none⟩ (.slice C3 m c3) := ⟨_, rfl⟩
              rw [← hw]
              replace bW : Below W.heap.size W v28 := by rw [hw]; exact (bW.setCell (p := ⟨G6, 0, none⟩) (by simpa using hW6) _).setCell (p := ⟨G6, 1, none⟩) (by simpa using hW6) _
              refine hK _ _ bW ?_
              clear hK K f0 f1 g0 g1
              replace z2 := Lib.hid (show MatK v28 w.heap.size 24 n A n c a by rw [hw]; exact MatK.put m6.out z2.out (by omega) (z2.out.2.farM m6.out onea.out) _ _)
              replace z3 := Lib.hid (show MatK v28 (w.heap.size + 1) 24 m B m d b by rw [hw]; exact MatK.put m6.out z3.out (by omega) (z3.out.2.farM m6.out oneb.out) _ _)
              replace n5 := Lib.hid (show MatK v28 G5 24 n C1 n c1 (closeK a n) by rw [hw]; exact MatK.put m6.out n5.out (by omega) (n5.out.2.farM m6.out oneca.out) _ _)
              have n6 := Lib.hid (show MatK v28 G6 24 m C3 m c3 (closeK b m) by rw [hw]; exact ⟨m6.out.put m C3 m c3, rC3.out.putB m6.out (rC3.out.farM m6.out onecb.out) _ _⟩)
              clear hw m6 rC3
              refine wpPT_done (NoPanic.normal ?_)
              exact key G5 G6 v28 C1 c1 C3 c3 ⟨z2.out, z3.out, n5.out, n6.out, below_trans2 bbW.out bW⟩
        · go_simp
          obtain ⟨G5, hG⟩ : ∃ G, G = W.heap.size := ⟨_, rfl⟩
          obtain ⟨v29, hw⟩ : ∃ X : World, X = W.alloc (.cells #[.int .i64 0, .slice none 0 0] 24) := ⟨_, rfl⟩
          rw [← hw, ← hG]
          have b : Below W.heap.size W v29 := by rw [hw]; exact below_alloc _ _
          have hW5 : W.heap.size ≤ G5 := by rw [hG]; exact bW.size
          replace bW := below_trans2 bW b
          refine hK _ _ bW ?_
          clear hK K
          have m5 := Lib.hid (show MatB v29 G5 24 0 none 0 0 by rw [hw, hG]; exact MatB.new _ _)
          clear hw hG
          replace z2 := Lib.hid (z2.out.below b)
          replace z3 := Lib.hid (z3.out.below b)
          clear b
          refine wpPT_two rfl (by rfl) rfl (by rfl) (fun K hK => ?_) (fun K hK => ?_)
          · go_simp
            refine (cCa.out v29 z2.out.2).mono ?_; rintro e v30 ⟨C1, nn, c1, rfl, rC1, _, b⟩
            obtain rfl : n = nn := by have := rC1.len; have := hcla.out; omega
            replace bW := below_trans2 bW b
            refine hK _ _ bW ?_
            clear hK K
            replace z2 := Lib.hid (z2.out.below b)
            replace z3 := Lib.hid (z3.out.below b)
            replace m5 := Lib.hid (m5.out.below b)
            replace rC1 := Lib.hid rC1
            clear b
            refine wpPT_two rfl (by rfl) rfl (by rfl) (fun K hK => ?_) (fun K hK => ?_)
            · go_simp
              refine (cCb.out v30 z3.out.2).mono ?_; rintro e v31 ⟨C3, nn, c3, rfl, rC3, _, b⟩
              obtain rfl : m = nn := by have := rC3.len; have := hclb.out; omega
              replace bW := below_trans2 bW b
              refine hK _ _ bW ?_
              clear hK K
              replace z2 := Lib.hid (z2.out.below b)
              replace z3 := Lib.hid (z3.out.below b)
              replace m5 := Lib.hid (m5.out.below b)
              replace rC1 := Lib.hid (rC1.out.below b)
              replace rC3 := Lib.hid rC3
              clear b
              refine wpPT_one rfl (by rfl) (fun K hK => ?_)
              go_simp
              obtain ⟨G6, hG⟩ : ∃ G, G = v31.heap.size := ⟨_, rfl⟩
              obtain ⟨v32, hw⟩ : ∃ X : World, X = v31.alloc (.cells #[.int .i64 0, .slice none 0 0] 24) := ⟨_, rfl⟩
              rw [← hw, ← hG]
              have b : Below v31.heap.size v31 v32 := by rw [hw]; exact below_alloc _ _
              have hW6 : W.heap.size ≤ G6 := by rw [hG]; exact bW.size
              have hne : G5 ≠ G6 := by have := m5.out.lt; omega
              replace bW := below_trans2 bW b
              refine hK _ _ bW ?_
              clear hK K
              have m6 := Lib.hid (show MatB v32 G6 24 0 none 0 0 by rw [hw, hG]; exact MatB.new _ _)
              clear hw hG
              replace z2 := Lib.hid (z2.out.below b)
              replace z3 := Lib.hid (z3.out.below b)
              replace m5 := Lib.hid (m5.out.below b)
              replace rC1 := Lib.hid (rC1.out.below b)
              replace rC3 := Lib.hid (rC3.out.below b)
              clear b
              have f0 := m5.out.c0
              have f1 := m5.out.c1
              have g0 := m5.out.frozen 0
              have g1 := m5.out.frozen 1
              refine wpPT_one rfl (by rfl) (fun K hK => ?_)
              go_simp
              obtain ⟨v33, hw⟩ : ∃ X : World, X = (v32.setCell ⟨G5, 0, none⟩ (.int .i64 n)).setCell ⟨G5, 1, none⟩ (.slice C1 n c1) := ⟨_, rfl⟩
              rw [← hw]
              replace bW : Below W.heap.size W v33 := by rw [hw]; exact (bW.setCell (p := ⟨G5, 0, none⟩) (by simpa using hW5) _).setCell (p := ⟨G5, 1, none⟩) (by simpa using hW5) _
              refine hK _ _ bW ?_
              clear hK K f0 f1 g0 g1
              replace z2 := Lib.hid (show MatK v33 w.heap.size 24 n A n c a by rw [hw]; exact MatK.put m5.out z2.out (by omega) (z2.out.2.farM m5.out onea.out) _ _)
              replace z3 := Lib.hid (show MatK v33 (w.heap.size + 1) 24 m B m d b by rw [hw]; exact MatK.put m5.out z3.out (by omega) (z3.out.2.farM m5.out oneb.out) _ _)
              have n5 := Lib.hid (show MatK v33 G5 24 n C1 n c1 (closeK a n) by rw [hw]; exact ⟨m5.out.put n C1 n c1, rC1.out.putB m5.out (rC1.out.farM m5.out oneca.out) _ _⟩)
              replace rC3 := Lib.hid (show RowsAt v33 C3 m (closeK b m) by rw [hw]; exact rC3.out.putB m5.out (rC3.out.farM m5.out onecb.out) _ _)
              replace m6 := Lib.hid (show MatB v33 G6 24 0 none 0 0 by rw [hw]; exact (m6.out.farB (p := ⟨G5, 0, none⟩) (by simp <;> omega) _).farB (p := ⟨G5, 1, none⟩) (by simp <;> omega) _)
              clear hw m5 rC1
              have f0 := m6.out.c0
              have f1 := m6.out.c1
              have g0 := m6.out.frozen 0
              have g1 := m6.out.frozen 1
              refine wpPT_one rfl (by rfl) (fun K hK => ?_)
              go_simp
              obtain ⟨v34, hw⟩ : ∃ X : World, X = (v33.setCell ⟨G6, 0, none⟩ (.int .i64 m)).setCell ⟨G6, 1, none⟩ (.slice C3 m c3) := ⟨_, rfl⟩
              rw [← hw]
              replace bW : Below W.heap.size W v34 := by rw [hw]; exact (bW.setCell (p := ⟨G6, 0, none⟩) (by simpa using hW6) _).setCell (p := ⟨G6, 1, none⟩) (by simpa using hW6) _
              refine hK _ _ bW ?_
              clear hK K f0 f1 g0 g1
              replace z2 := Lib.hid (show MatK v34 w.heap.size 24 n A n c a by rw [hw]; exact MatK.put m6.out z2.out (by omega) (z2.out.2.farM m6.out onea.out) _ _)
              replace z3 := Lib.hid (show MatK v34 (w.heap.size + 1) 24 m B m d b by rw [hw]; exact MatK.put m6.out z3.out (by omega) (z3.out.2.farM m6.out oneb.out) _ _)
              replace n5 := Lib.hid (show MatK v34 G5 24 n C1 n c1 (closeK a n) by rw [hw]; exact MatK.put m6.out n5.out (by omega) (n5.out.2.farM m6.out oneca.out) _ _)
              have n6 := Lib.hid (show MatK v34 G6 24 m C3 m c3 (closeK b m) by rw [hw]; exact ⟨m6.out.put m C3 m c3, rC3.out.putB m6.out (rC3.out.farM m6.out onecb.out) _ _⟩)
              clear hw m6 rC3
              refine wpPT_done (NoPanic.normal ?_)
              exact key G5 G6 v34 C1 c1 C3 c3 ⟨z2.out, z3.out, n5.out, n6.out, below_trans2 bbW.out bW⟩
            · go_simp
              obtain ⟨G6, hG⟩ : ∃ G, G = v30.heap.size := ⟨_, rfl⟩
              obtain ⟨v35, hw⟩ : ∃ X : World, X = v30.alloc (.cells #[.int .i64 0, .slice none 0 0] 24) := ⟨_, rfl⟩
              rw [← hw, ← hG]
              have b : Below v30.heap.size v30 v35 := by rw [hw]; exact below_alloc _ _
              have hW6 : W.heap.size ≤ G6 := by rw [hG]; exact bW.size
              have hne : G5 ≠ G6 := by have := m5.out.lt; omega
              replace bW := below_trans2 bW b
              refine hK _ _ bW ?_
              clear hK K
              have m6 := Lib.hid (show MatB v35 G6 24 0 none 0 0 by rw [hw, hG]; exact MatB.new _ _)
              clear hw hG
              replace z2 := Lib.hid (z2.out.below b)
              replace z3 := Lib.hid (z3.out.below b)
              replace m5 := Lib.hid (m5.out.below b)
              replace rC1 := Lib.hid (rC1.out.below b)
              clear b
              refine wpPT_one rfl (by rfl) (fun K hK => ?_)
              go_simp
              refine (cCb.out v35 z3.out.2).mono ?_; rintro e v36 ⟨C3, nn, c3, rfl, rC3, _, b⟩
              obtain rfl : m = nn := by have := rC3.len; have := hclb.out; omega
              replace bW := below_trans2 bW b
              refine hK _ _ bW ?_
              clear hK K
              replace z2 := Lib.hid (z2.out.below b)
              replace z3 := Lib.hid (z3.out.below b)
              replace m5 := Lib.hid (m5.out.below b)
              replace rC1 := Lib.hid (rC1.out.below b)
              replace m6 := Lib.hid (m6.out.below b)
              replace rC3 := Lib.hid rC3
              clear b
              have f0 := m5.out.c0
              have f1 := m5.out.c1
              have g0 := m5.out.frozen 0
              have g1 := m5.out.frozen 1
              refine wpPT_one rfl (by rfl) (fun K hK => ?_)
              go_simp
              obtain ⟨v37, hw⟩ : ∃ X : World, X = (v36.setCell ⟨G5, 0, none⟩ (.int .i64 n)).setCell ⟨G5, 1, none⟩ (.slice C1 n c1) := ⟨_, rfl⟩
              rw [← hw]
              replace bW : Below W.heap.size W v37 := by rw [hw]; exact (bW.setCell (p := ⟨G5, 0, none⟩) (by simpa using hW5) _).setCell (p := ⟨G5, 1, none⟩) (by simpa using hW5) _
              refine hK _ _ bW ?_
              clear hK K f0 f1 g0 g1
              replace z2 := Lib.hid (show MatK v37 w.heap.size 24 n A n c a by rw [hw]; exact MatK.put m5.out z2.out (by omega) (z2.out.2.farM m5.out onea.out) _ _)
              replace z3 := Lib.hid (show MatK v37 (w.heap.size + 1) 24 m B m d b by rw [hw]; exact MatK.put m5.out z3.out (by omega) (z3.out.2.farM m5.out oneb.out) _ _)
              have n5 := Lib.hid (show MatK v37 G5 24 n C1 n c1 (closeK a n) by rw [hw]; exact ⟨m5.out.put n C1 n c1, rC1.out.putB m5.out (rC1.out.farM m5.out oneca.out) _ _⟩)
              replace rC3 := Lib.hid (show RowsAt v37 C3 m (closeK b m) by rw [hw]; exact rC3.out.putB m5.out (rC3.out.farM m5.out onecb.out) _ _)
              replace m6 := Lib.hid (show MatB v37 G6 24 0 none 0 0 by rw [hw]; exact (m6.out.farB (p := ⟨G5, 0, none⟩) (by simp <;> omega) _).farB (p := ⟨G5, 1, none⟩) (by simp <;> omega) _)
              clear hw m5 rC1
              have f0 := m6.out.c0
              have f1 := m6.out.c1
              have g0 := m6.out.frozen 0
              have g1 := m6.out.frozen 1
              refine wpPT_one rfl (by rfl) (fun K hK => ?_)
              go_simp
              obtain ⟨v38, hw⟩ : ∃ X : World, X = (v37.setCell ⟨G6, 0, none⟩ (.int .i64 m)).setCell ⟨G6, 1, none⟩ (.slice C3 m c3) := ⟨_, rfl⟩
              rw [← hw]
              replace bW : Below W.heap.size W v38 := by rw [hw]; exact (bW.setCell (p := ⟨G6, 0, none⟩) (by simpa using hW6) _).setCell (p := ⟨G6, 1, none⟩) (by simpa using hW6) _
              refine hK _ _ bW ?_
              clear hK K f0 f1 g0 g1
              replace z2 := Lib.hid (show MatK v38 w.heap.size 24 n A n c a by rw [hw]; exact MatK.put m6.out z2.out (by omega) (z2.out.2.farM m6.out onea.out) _ _)
              replace z3 := Lib.hid (show MatK v38 (w.heap.size + 1) 24 m B m d b by rw [hw]; exact MatK.put m6.out z3.out (by omega) (z3.out.2.farM m6.out oneb.out) _ _)
              replace n5 := Lib.hid (show MatK v38 G5 24 n C1 n c1 (closeK a n) by rw [hw]; exact MatK.put m6.out n5.out (by omega) (n5.out.2.farM m6.out oneca.out) _ _)
              have n6 := Lib.hid (show MatK v38 G6 24 m C3 m c3 (closeK b m) by rw [hw]; exact ⟨m6.out.put m C3 m c3, rC3.out.putB m6.out (rC3.out.farM m6.out onecb.out) _ _⟩)
              clear hw m6 rC3
              refine wpPT_done (NoPanic.normal ?_)
              exact key G5 G6 v38 C1 c1 C3 c3 ⟨z2.out, z3.out, n5.out, n6.out, below_trans2 bbW.out bW⟩
          · go_simp
            obtain ⟨G6, hG⟩ : ∃ G, G = v29.heap.size := ⟨_, rfl⟩
            obtain ⟨v39, hw⟩ : ∃ X : World, X = v29.alloc (.cells #[.int .i64 0, .slice none 0 0] 24) := ⟨_, rfl⟩
            rw [← hw, ← hG]
            have b : Below v29.heap.size v29 v39 := by rw [hw]; exact below_alloc _ _
            have hW6 : W.heap.size ≤ G6 := by rw [hG]; exact bW.size
            have hne : G5 ≠ G6 := by have := m5.out.lt; omega
            replace bW := below_trans2 bW b
            refine hK _ _ bW ?_
            clear hK K
            have m6 := Lib.hid (show MatB v39 G6 24 0 none 0 0 by rw [hw, hG]; exact MatB.new _ _)
            clear hw hG
            replace z2 := Lib.hid (z2.out.below b)
            replace z3 := Lib.hid (z3.out.below b)
            replace m5 := Lib.hid (m5.out.below b)
            clear b
            refine wpPT_one rfl (by rfl) (fun K hK => ?_)
            go_simp
            refine (cCa.out v39 z2.out.2).mono ?_; rintro e v40 ⟨C1, nn, c1, rfl, rC1, _, b⟩
            obtain rfl : n = nn := by have := rC1.len; have := hcla.out; omega
            replace bW := below_trans2 bW b
            refine hK _ _ bW ?_
            clear hK K
            replace z2 := Lib.hid (z2.out.below b)
            replace z3 := Lib.hid (z3.out.below b)
            replace m5 := Lib.hid (m5.out.below b)
            replace m6 := Lib.hid (m6.out.below b)
            replace rC1 := Lib.hid rC1
            clear b
            refine wpPT_one rfl (by rfl) (fun K hK => ?_)
            go_simp
            refine (cCb.out v40 z3.out.2).mono ?_; rintro e v41 ⟨C3, nn, c3, rfl, rC3, _, b⟩
            obtain rfl : m = nn := by have := rC3.len; have := hclb.out; omega
            replace bW := below_trans2 bW b
            refine hK _ _ bW ?_
            clear hK K
            replace z2 := Lib.hid (z2.out.below b)
            replace z3 := Lib.hid (z3.out.below b)
            replace m5 := Lib.hid (m5.out.below b)
            replace m6 := Lib.hid (m6.out.below b)
            replace rC1 := Lib.hid (rC1.out.below b)
            replace rC3 := Lib.hid rC3
            clear b
            have f0 := m5.out.c0
            have f1 := m5.out.c1
            have g0 := m5.out.frozen 0
            have g1 := m5.out.frozen 1
            refine wpPT_one rfl (by rfl) (fun K hK => ?_)
            go_simp
            obtain ⟨v42, hw⟩ : ∃ X : World, X = (v41.setCell ⟨G5, 0, none⟩ (.int .i64 n)).setCell ⟨G5, 1, none⟩ (.slice C1 n c1) := ⟨_, rfl⟩
            rw [← hw]
            replace bW : Below W.heap.size W v42 := by rw [hw]; exact (bW.setCell (p := ⟨G5, 0, none⟩) (by simpa using hW5) _).setCell (p := ⟨G5, 1, none⟩) (by simpa using hW5) _
            refine hK _ _ bW ?_
            clear hK K f0 f1 g0 g1
            replace z2 := Lib.hid (show MatK v42 w.heap.size 24 n A n c a by rw [hw]; exact MatK.put m5.out z2.out (by omega) (z2.out.2.farM m5.out onea.out) _ _)
            replace z3 := Lib.hid (show MatK v42 (w.heap.size + 1) 24 m B m d b by rw [hw]; exact MatK.put m5.out z3.out (by omega) (z3.out.2.farM m5.out oneb.out) _ _)
            have n5 := Lib.hid (show MatK v42 G5 24 n C1 n c1 (closeK a n) by rw [hw]; exact ⟨m5.out.put n C1 n c1, rC1.out.putB m5.out (rC1.out.farM m5.out oneca.out) _ _⟩)
            replace rC3 := Lib.hid (show RowsAt v42 C3 m (closeK b m) by rw [hw]; exact rC3.out.putB m5.out (rC3.out.farM m5.out onecb.out) _ _)
            replace m6 := Lib.hid (show MatB v42 G6 24 0 none 0 0 by rw [hw]; exact (m6.out.farB (p := ⟨G5, 0, none⟩) (by simp <;> omega) _).farB (p := ⟨G5, 1, none⟩) (by simp <;> omega) _)
            clear hw m5 rC1
            have f0 := m6.out.c0
            have f1 := m6.out.c1
            have g0 := m6.out.frozen 0
            have g1 := m6.out.frozen 1
            refine wpPT_one rfl (by rfl) (fun K hK => ?_)
            go_simp
            obtain ⟨v43, hw⟩ : ∃ X : World, X = (v42.setCell ⟨G6, 0, none⟩ (.int .i64 m)).setCell ⟨G6, 1, none⟩ (.slice C3 m c3) := ⟨_, rfl⟩
            rw [← hw]
            replace bW : Below W.heap.size W v43 := by rw [hw]; exact (bW.setCell (p := ⟨G6, 0, none⟩) (by simpa using hW6) _).setCell (p := ⟨G6, 1, none⟩) (by simpa using hW6) _
            refine hK _ _ bW ?_
            clear hK K f0 f1 g0 g1
            replace z2 := Lib.hid (show MatK v43 w.heap.size 24 n A n c a by rw [hw]; exact MatK.put m6.out z2.out (by omega) (z2.out.2.farM m6.out onea.out) _ _)
            replace z3 := Lib.hid (show MatK v43 (w.heap.size + 1) 24 m B m d b by rw [hw]; exact MatK.put m6.out z3.out (by omega) (z3.out.2.farM m6.out oneb.out) _ _)
            replace n5 := Lib.hid (show MatK v43 G5 24 n C1 n c1 (closeK a n) by rw [hw]; exact MatK.put m6.out n5.out (by omega) (n5.out.2.farM m6.out oneca.out) _ _)
            have n6 := Lib.hid (show MatK v43 G6 24 m C3 m c3 (closeK b m) by rw [hw]; exact ⟨m6.out.put m C3 m c3, rC3.out.putB m6.out (rC3.out.farM m6.out onecb.out) _ _⟩)
            clear hw m6 rC3
            refine wpPT_done (NoPanic.normal ?_)
            exact key G5 G6 v43 C1 c1 C3 c3 ⟨z2.out, z3.out, n5.out, n6.out, below_trans2 bbW.out bW⟩
        · go_simp
          obtain ⟨G6, hG⟩ : ∃ G, G = W.heap.size := ⟨_, rfl⟩
          obtain ⟨v44, hw⟩ : ∃ X : World, X = W.alloc (.cells #[.int .i64 0, .slice none 0 0] 24) := ⟨_, rfl⟩
          rw [← hw, ← hG]
          have b : Below W.heap.size W v44 := by rw [hw]; exact below_alloc _ _
          have hW6 : W.heap.size ≤ G6 := by rw [hG]; exact bW.size
          replace bW := below_trans2 bW b
          refine hK _ _ bW ?_
          clear hK K
          have m6 := Lib.hid (show MatB v44 G6 24 0 none 0 0 by rw [hw, hG]; exact MatB.new _ _)
          clear hw hG
          replace z2 := Lib.hid (z2.out.below b)
          replace z3 := Lib.hid (z3.out.below b)
          clear b
          refine wpPT_two rfl (by rfl) rfl (by rfl) (fun K hK => ?_) (fun K hK => ?_)
          · go_simp
            refine (cCa.out v44 z2.out.2).mono ?_; rintro e v45 ⟨C1, nn, c1, rfl, rC1, _, b⟩
            obtain rfl : n = nn := by have := rC1.len; have := hcla.out; omega
            replace bW := below_trans2 bW b
            refine hK _ _ bW ?_
            clear hK K
            replace z2 := Lib.hid (z2.out.below b)
            replace z3 := Lib.hid (z3.out.below b)
            replace m6 := Lib.hid (m6.out.below b)
            replace rC1 := Lib.hid rC1
            clear b
            refine wpPT_two rfl (by rfl) rfl (by rfl) (fun K hK => ?_) (fun K hK => ?_)
            · go_simp
              refine (cCb.out v45 z3.out.2).mono ?_; rintro e v46 ⟨C3, nn, c3, rfl, rC3, _, b⟩
              obtain rfl : m = nn := by have := rC3.len; have := hclb.out; omega
              replace bW := below_trans2 bW b
              refine hK _ _ bW ?_
              clear hK K
              replace z2 := Lib.hid (z2.out.below b)
              replace z3 := Lib.hid (z3.out.below b)
              replace m6 := Lib.hid (m6.out.below b)
              replace rC1 := Lib.hid (rC1.out.below b)
              replace rC3 := Lib.hid rC3
              clear b
              refine wpPT_one rfl (by rfl) (fun K hK => ?_)
              go_simp
              obtain ⟨G5, hG⟩ : ∃ G, G = v46.heap.size := ⟨_, rfl⟩
              obtain ⟨v47, hw⟩ : ∃ X : World, X = v46.alloc (.cells #[.int .i64 0, .slice none 0 0] 24) := ⟨_, rfl⟩
              rw [← hw, ← hG]
              have b : Below v46.heap.size v46 v47 := by rw [hw]; exact below_alloc _ _
              have hW5 : W.heap.size ≤ G5 := by rw [hG]; exact bW.size
              have hne : G5 ≠ G6 := by have := m6.out.lt; omega
              replace bW := below_trans2 bW b
              refine hK _ _ bW ?_
              clear hK K
              have m5 := Lib.hid (show MatB v47 G5 24 0 none 0 0 by rw [hw, hG]; exact MatB.new _ _)
              clear hw hG
              replace z2 := Lib.hid (z2.out.below b)
              replace z3 := Lib.hid (z3.out.below b)
              replace m6 := Lib.hid (m6.out.below b)
              replace rC1 := Lib.hid (rC1.out.below b)
              replace rC3 := Lib.hid (rC3.out.below b)
              clear b
              have f0 := m5.out.c0
              have f1 := m5.out.c1
              have g0 := m5.out.frozen 0
              have g1 := m5.out.frozen 1
              refine wpPT_one rfl (by rfl) (fun K hK => ?_)
              go_simp
              obtain ⟨v48, hw⟩ : ∃ X : World, X = (v47.setCell ⟨G5, 0, none⟩ (.int .i64 n)).setCell ⟨G5, 1, none⟩ (.slice C1 n c1) := ⟨_, rfl⟩
              rw [← hw]
              replace bW : Below W.heap.size W v48 := by rw [hw]; exact (bW.setCell (p := ⟨G5, 0, none⟩) (by simpa using hW5) _).setCell (p := ⟨G5, 1, none⟩) (by simpa using hW5) _
              refine hK _ _ bW ?_
              clear hK K f0 f1 g0 g1
              replace z2 := Lib.hid (show MatK v48 w.heap.size 24 n A n c a by rw [hw]; exact MatK.put m5.out z2.out (by omega) (z2.out.2.farM m5.out onea.out) _ _)
              replace z3 := Lib.hid (show MatK v48 (w.heap.size + 1) 24 m B m d b by rw [hw]; exact MatK.put m5.out z3.out (by omega) (z3.out.2.farM m5.out oneb.out) _ _)
              have n5 := Lib.hid (show MatK v48 G5 24 n C1 n c1 (closeK a n) by rw [hw]; exact ⟨m5.out.put n C1 n c1, rC1.out.putB m5.out (rC1.out.farM m5.out oneca.out) _ _⟩)
              replace rC3 := Lib.hid (show RowsAt v48 C3 m (closeK b m) by rw [hw]; exact rC3.out.putB m5.out (rC3.out.farM m5.out onecb.out) _ _)
              replace m6 := Lib.hid (show MatB v48 G6 24 0 none 0 0 by rw [hw]; exact (m6.out.farB (p := ⟨G5, 0, none⟩) (by simp <;> omega) _).farB (p := ⟨G5, 1, none⟩) (by simp <;> omega) _)
              clear hw m5 rC1
              have f0 := m6.out.c0
              have f1 := m6.out.c1
              have g0 := m6.out.frozen 0
              have g1 := m6.out.frozen 1
              refine wpPT_one rfl (by rfl) (fun K hK => ?_)
              go_simp
              obtain ⟨v49, hw⟩ : ∃ X : World, X = (v48.setCell ⟨G6, 0, none⟩ (.int .i64 m)).setCell ⟨G6, 1, none⟩ (.slice C3 m c3) := ⟨_, rfl⟩
              rw [← hw]
              replace bW : Below W.heap.size W v49 := by rw [hw]; exact (bW.setCell (p := ⟨G6, 0, none⟩) (by simpa using hW6) _).setCell (p := ⟨G6, 1, none⟩) (by simpa using hW6) _
              refine hK _ _ bW ?_
              clear hK K f0 f1 g0 g1
              replace z2 := Lib.hid (show MatK v49 w.heap.size 24 n A n c a by rw [hw]; exact MatK.put m6.out z2.out (by omega) (z2.out.2.farM m6.out onea.out) _ _)
              replace z3 := Lib.hid (show MatK v49 (w.heap.size + 1) 24 m B m d b by rw [hw]; exact MatK.put m6.out z3.out (by omega) (z3.out.2.farM m6.out oneb.out) _ _)
              replace n5 := Lib.hid (show MatK v49 G5 24 n C1 n c1 (closeK a n) by rw [hw]; exact MatK.put m6.out n5.out (by omega) (n5.out.2.farM m6.out oneca.out) _ _)
              have n6 := Lib.hid (show MatK v49 G6 24 m C3 m c3 (closeK b m) by rw [hw]; exact ⟨m6.out.put m C3 m c3, rC3.out.putB m6.out (rC3.out.farM m6.out onecb.out) _ _⟩)
              clear hw m6 rC3
              refine wpPT_done (NoPanic.normal ?_)
              exact key G5 G6 v49 C1 c1 C3 c3 ⟨z2.out, z3.out, n5.out, n6.out, below_trans2 bbW.out bW⟩
            · go_simp
              obtain ⟨G5, hG⟩ : ∃ G, G = v45.heap.size := ⟨_, rfl⟩
              obtain ⟨v50, hw⟩ : ∃ X : World, X = v45.alloc (.cells #[.int .i64 0, .slice none 0 0] 24) := ⟨_, rfl⟩
              rw [← hw, ← hG]
              have b : Below v45.heap.size v45 v50 := by rw [hw]; exact below_alloc _ _
              have hW5 : W.heap.size ≤ G5 := by rw [hG]; exact bW.size
              have hne : G5 ≠ G6 := by have := m6.out.lt; omega
              replace bW := below_trans2 bW b
              refine hK _ _ bW ?_
              clear hK K
              have m5 := Lib.hid (show MatB v50 G5 24 0 none 0 0 by rw [hw, hG]; exact MatB.new _ _)
              clear hw hG
              replace z2 := Lib.hid (z2.out.below b)
              replace z3 := Lib.hid (z3.out.below b)
              replace m6 := Lib.hid (m6.out.below b)
              replace rC1 := Lib.hid (rC1.out.below b)
              clear b
              refine wpPT_one rfl (by rfl) (fun K hK => ?_)
              go_simp
              refine (cCb.out v50 z3.out.2).mono ?_; rintro e v51 ⟨C3, nn, c3, rfl, rC3, _, b⟩
              obtain rfl : m = nn := by have := rC3.len; have := hclb.out; omega
              replace bW := below_trans2 bW b
              refine hK _ _ bW ?_
              clear hK K
              replace z2 := Lib.hid (z2.out.below b)
              replace z3 := Lib.hid (z3.out.below b)
              replace m6 := Lib.hid (m6.out.below b)
              replace rC1 := Lib.hid (rC1.out.below b)
              replace m5 := Lib.hid (m5.out.below b)
              replace rC3 := Lib.hid rC3
              clear b
              have f0 := m5.out.c0
              have f1 := m5.out.c1
              have g0 := m5.out.frozen 0
              have g1 := m5.out.frozen 1
              refine wpPT_one rfl (by rfl) (fun K hK => ?_)
              go_simp
              obtain ⟨v52, hw⟩ : ∃ X : World, X = (v51.setCell ⟨G5, 0, none⟩ (.int .i64 n)).setCell ⟨G5, 1, none⟩ (.slice C1 n c1) := ⟨_, rfl⟩
              rw [← hw]
              replace bW : Below W.heap.size W v52 := by rw [hw]; exact (bW.setCell (p := ⟨G5, 0, none⟩) (by simpa using hW5) _).setCell (p := ⟨G5, 1, none⟩) (by simpa using hW5) _
              refine hK _ _ bW ?_
              clear hK K f0 f1 g0 g1
              replace z2 := Lib.hid (show MatK v52 w.heap.size 24 n A n c a by rw [hw]; exact MatK.put m5.out z2.out (by omega) (z2.out.2.farM m5.out onea.out) _ _)
              replace z3 := Lib.hid (show MatK v52 (w.heap.size + 1) 24 m B m d b by rw [hw]; exact MatK.put m5.out z3.out (by omega) (z3.out.2.farM m5.out oneb.out) _ _)
              have n5 := Lib.hid (show MatK v52 G5 24 n C1 n c1 (closeK a n) by rw [hw]; exact ⟨m5.out.put n C1 n c1, rC1.out.putB m5.out (rC1.out.farM m5.out oneca.out) _ _⟩)
              replace rC3 := Lib.hid (show RowsAt v52 C3 m (closeK b m) by rw [hw]; exact rC3.out.putB m5.out (rC3.out.farM m5.out onecb.out) _ _)
              replace m6 := Lib.hid (show MatB v52 G6 24 0 none 0 0 by rw [hw]; exact (m6.out.farB (p := ⟨G5, 0, none⟩) (by simp <;> omega) _).farB (p := ⟨G5, 1, none⟩) (by simp <;> omega) _)
              clear hw m5 rC1
              have f0 := m6.out.c0
              have f1 := m6.out.c1
              have g0 := m6.out.frozen 0
              have g1 := m6.out.frozen 1
              refine wpPT_one rfl (by rfl) (fun K hK => ?_)
              go_simp
              obtain ⟨v53, hw⟩ : ∃ X : World, X = (v52.setCell ⟨G6, 0, none⟩ (.int .i64 m)).setCell ⟨G6, 1, none⟩ (.slice C3 m c3) := ⟨_, rfl⟩
              rw [← hw]
              replace bW : Below W.heap.size W v53 := by rw [hw]; exact (bW.setCell (p := ⟨G6, 0, none⟩) (by simpa using hW6) _).setCell (p := ⟨G6, 1, none⟩) (by simpa using hW6) _
              refine hK _ _ bW ?_
              clear hK K f0 f1 g0 g1
              replace z2 := Lib.hid (show MatK v53 w.heap.size 24 n A n c a by rw [hw]; exact MatK.put m6.out z2.out (by omega) (z2.out.2.farM m6.out onea.out) _ _)
              replace z3 := Lib.hid (show MatK v53 (w.heap.size + 1) 24 m B m d b by rw [hw]; exact MatK.put m6.out z3.out (by omega) (z3.out.2.farM m6.out oneb.out) _ _)
              replace n5 := Lib.hid (show MatK v53 G5 24 n C1 n c1 (closeK a n) by rw [hw]; exact MatK.put m6.out n5.out (by omega) (n5.out.2.farM m6.out oneca.out) _ _)
              have n6 := Lib.hid (show MatK v53 G6 24 m C3 m c3 (closeK b m) by rw [hw]; exact ⟨m6.out.put m C3 m c3, rC3.out.putB m6.out (rC3.out.farM m6.out onecb.out) _ _⟩)
              clear hw m6 rC3
              refine wpPT_done (NoPanic.normal ?_)
              exact key G5 G6 v53 C1 c1 C3 c3 ⟨z2.out, z3.out, n5.out, n6.out, below_trans2 bbW.out bW⟩
          · go_simp
            obtain ⟨G5, hG⟩ : ∃ G, G = v44.heap.size := ⟨_, rfl⟩
            obtain ⟨v54, hw⟩ : ∃ X : World, X = v44.alloc (.cells #[.int .i64 0, .slice none 0 0] 24) := ⟨_, rfl⟩
            rw [← hw, ← hG]
            have b : Below v44.heap.size v44 v54 := by rw [hw]; exact below_alloc _ _
            have hW5 : W.heap.size ≤ G5 := by rw [hG]; exact bW.size
            have hne : G5 ≠ G6 := by have := m6.out.lt; omega
            replace bW := below_trans2 bW b
            refine hK _ _ bW ?_
            clear hK K
            have m5 := Lib.hid (show MatB v54 G5 24 0 none 0 0 by rw [hw, hG]; exact MatB.new _ _)
            clear hw hG
            replace z2 := Lib.hid (z2.out.below b)
            replace z3 := Lib.hid (z3.out.below b)
            replace m6 := Lib.hid (m6.out.below b)
            clear b
            refine wpPT_one rfl (by rfl) (fun K hK => ?_)
            go_simp
            refine (cCa.out v54 z2.out.2).mono ?_; rintro e v55 ⟨C1, nn, c1, rfl, rC1, _, b⟩
            obtain rfl : n = nn := by have := rC1.len; have := hcla.out; omega
            replace bW := below_trans2 bW b
            refine hK _ _ bW ?_
            clear hK K
            replace z2 := Lib.hid (z2.out.below b)
            replace z3 := Lib.hid (z3.out.below b)
            replace m6 := Lib.hid (m6.out.below b)
            replace m5 := Lib.hid (m5.out.below b)
            replace rC1 := Lib.hid rC1
            clear b
            refine wpPT_one rfl (by rfl) (fun K hK => ?_)
            go_simp
            refine (cCb.out v55 z3.out.2).mono ?_; rintro e v56 ⟨C3, nn, c3, rfl, rC3, _, b⟩
            obtain rfl : m = nn := by have := rC3.len; have := hclb.out; omega
            replace bW := below_trans2 bW b
            refine hK _ _ bW ?_
            clear hK K
            replace z2 := Lib.hid (z2.out.below b)
            replace z3 := Lib.hid (z3.out.below b)
            replace m6 := Lib.hid (m6.out.below b)
            replace m5 := Lib.hid (m5.out.below b)
            replace rC1 := Lib.hid (rC1.out.below b)
            replace rC3 := Lib.hid rC3
            clear b
            have f0 := m5.out.c0
            have f1 := m5.out.c1
            have g0 := m5.out.frozen 0
            have g1 := m5.out.frozen 1
            refine wpPT_one rfl (by rfl) (fun K hK => ?_)
            go_simp
            obtain ⟨v57, hw⟩ : ∃ X : World, X = (v56.setCell ⟨G5, 0, none⟩ (.int .i64 n)).setCell ⟨G5, 1, none⟩ (.slice C1 n c1) := ⟨_, rfl⟩
            rw [← hw]
            replace bW : Below W.heap.size W v57 := by rw [hw]; exact (bW.setCell (p := ⟨G5, 0, none⟩) (by simpa using hW5) _).setCell (p := ⟨G5, 1, none⟩) (by simpa using hW5) _
            refine hK _ _ bW ?_
            clear hK K f0 f1 g0 g1
            replace z2 := Lib.hid (show MatK v57 w.heap.size 24 n A n c a by rw [hw]; exact MatK.put m5.out z2.out (by omega) (z2.out.2.farM m5.out onea.out) _ _)
            replace z3 := Lib.hid (show MatK v57 (w.heap.size + 1) 24 m B m d b by rw [hw]; exact MatK.put m5.out z3.out (by omega) (z3.out.2.farM m5.out oneb.out) _ _)
            have n5 := Lib.hid (show MatK v57 G5 24 n C1 n c1 (closeK a n) by rw [hw]; exact ⟨m5.out.put n C1 n c1, rC1.out.putB m5.out (rC1.out.farM m5.out oneca.out) _ _⟩)
            replace rC3 := Lib.hid (show RowsAt v57 C3 m (closeK b m) by rw [hw]; exact rC3.out.putB m5.out (rC3.out.farM m5.out onecb.out) _ _)
            replace m6 := Lib.hid (show MatB v57 G6 24 0 none 0 0 by rw [hw]; exact (m6.out.farB (p := ⟨G5, 0, none⟩) (by simp <;> omega) _).farB (p := ⟨G5, 1, none⟩) (by simp <;> omega) _)
            clear hw m5 rC1
            have f0 := m6.out.c0
            have f1 := m6.out.c1
            have g0 := m6.out.frozen 0
            have g1 := m6.out.frozen 1
            refine wpPT_one rfl (by rfl) (fun K hK => ?_)
            go_simp
            obtain ⟨v58, hw⟩ : ∃ X : World, X = (v57.setCell ⟨G6, 0, none⟩ (.int .i64 m)).setCell ⟨G6, 1, none⟩ (.slice C3 m c3) := ⟨_, rfl⟩
            rw [← hw]
            replace bW : Below W.heap.size W v58 := by rw [hw]; exact (bW.setCell (p := ⟨G6, 0, none⟩) (by simpa using hW6) _).setCell (p := ⟨G6, 1, none⟩) (by simpa using hW6) _
            refine hK _ _ bW ?_
            clear hK K f0 f1 g0 g1
            replace z2 := Lib.hid (show MatK v58 w.heap.size 24 n A n c a by rw [hw]; exact MatK.put m6.out z2.out (by omega) (z2.out.2.farM m6.out onea.out) _ _)
            replace z3 := Lib.hid (show MatK v58 (w.heap.size + 1) 24 m B m d b by rw [hw]; exact MatK.put m6.out z3.out (by omega) (z3.out.2.farM m6.out oneb.out) _ _)
            replace n5 := Lib.hid (show MatK v58 G5 24 n C1 n c1 (closeK a n) by rw [hw]; exact MatK.put m6.out n5.out (by omega) (n5.out.2.farM m6.out oneca.out) _ _)
            have n6 := Lib.hid (show MatK v58 G6 24 m C3 m c3 (closeK b m) by rw [hw]; exact ⟨m6.out.put m C3 m c3, rC3.out.putB m6.out (rC3.out.farM m6.out onecb.out) _ _⟩)
            clear hw m6 rC3
            refine wpPT_done (NoPanic.normal ?_)
            exact key G5 G6 v58 C1 c1 C3 c3 ⟨z2.out, z3.out, n5.out, n6.out, below_trans2 bbW.out bW⟩
      · intro G5 G6 w9 C1 c1 C3 c3 hk
        have k2 := Lib.hid hk.1
        have k3 := Lib.hid hk.2.1
        have k5 := Lib.hid hk.2.2.1
        have k6 := Lib.hid hk.2.2.2.1
        have bb := Lib.hid hk.2.2.2.2
        clear hk l2 l3 z2 z3 bbW bW cCa cCb onea oneb oneca onecb
        have qk20 := k2.out.1.c0
        have qk21 := k2.out.1.c1
        have qk50 := k5.out.1.c0
        have qk51 := k5.out.1.c1
        have qk60 := k6.out.1.c0
        have qk61 := k6.out.1.c1
        go_wp2_with fail
        refine wp_region_plan 21 [(true, 0), (false, 1), (true, 2), (true, 3), (true, 4), (false, 5), (true, 6), (true, 7), (true, 8), (true, 9), (true, 10), (false, 11), (true, 12), (true, 13), (true, 14), (true, 15), (true, 17), (false, 16), (false, 18), (true, 19), (true, 20)] (by kernel_rfl) (by kernel_rfl) (fun W1 hW1 => ?_)
        replace k2 := Lib.hid (show MatK W1 w.heap.size 24 n A n c a by rw [hW1.out]; exact k2.out.drew)
        replace k5 := Lib.hid (show MatK W1 G5 24 n C1 n c1 (closeK a n) by rw [hW1.out]; exact k5.out.drew)
        replace k6 := Lib.hid (show MatK W1 G6 24 m C3 m c3 (closeK b m) by rw [hW1.out]; exact k6.out.drew)
        replace bb := Lib.hid (show Below w.heap.size w W1 by rw [hW1.out]; exact bb.out.drew)
        clear hW1 qk20 qk21 qk50 qk51 qk60 qk61 k3
        have qk20 := k2.out.1.c0
        have qk21 := k2.out.1.c1
        have qk50 := k5.out.1.c0
        have qk51 := k5.out.1.c1
        have qk60 := k6.out.1.c0
        have qk61 := k6.out.1.c1
        simp only [List.drop_succ_cons, List.drop_nil]
        iterate 1
          refine wpPlan_float (v := ?_) rfl (by rfl) (fun w' hw' => ?_) (fun K hK => ?_)
          rotate_left
          · (go_simp; try with_reducible rfl)
          go_simp
          refine hK _ ?_
          clear hK K
        refine wpPlan_only rfl (by rfl) (fun K hK => ?_)
        go_simp
        refine (cD.out C1 c1 W1 k5.out.2).mono ?_
        rintro e w10 ⟨rfl, b⟩
        refine hK _ _ b ?_
        clear hK K
        replace k2 := Lib.hid (k2.out.below b)
        replace qk20 := k2.out.1.c0
        replace qk21 := k2.out.1.c1
        replace k5 := Lib.hid (k5.out.below b)
        replace qk50 := k5.out.1.c0
        replace qk51 := k5.out.1.c1
        replace k6 := Lib.hid (k6.out.below b)
        replace qk60 := k6.out.1.c0
        replace qk61 := k6.out.1.c1
        replace bb := Lib.hid (below_trans2 bb.out b)
        clear b
        iterate 3
          refine wpPlan_float (v := ?_) rfl (by rfl) (fun w' hw' => ?_) (fun K hK => ?_)
          rotate_left
          · (go_simp; try with_reducible rfl)
          go_simp
          refine hK _ ?_
          clear hK K
        refine wpPlan_only rfl (by rfl) (fun K hK => ?_)
        go_simp
        refine (cE.out C1 c1 w10 k5.out.2).mono ?_
        rintro e w11 ⟨rfl, b⟩
        refine hK _ _ b ?_
        clear hK K
        replace k2 := Lib.hid (k2.out.below b)
        replace qk20 := k2.out.1.c0
        replace qk21 := k2.out.1.c1
        replace k5 := Lib.hid (k5.out.below b)
        replace qk50 := k5.out.1.c0
        replace qk51 := k5.out.1.c1
        replace k6 := Lib.hid (k6.out.below b)
        replace qk60 := k6.out.1.c0
        replace qk61 := k6.out.1.c1
        replace bb := Lib.hid (below_trans2 bb.out b)
        clear b
        iterate 5
          refine wpPlan_float (v := ?_) rfl (by rfl) (fun w' hw' => ?_) (fun K hK => ?_)
          rotate_left
          · (go_simp; try with_reducible rfl)
          go_simp
          refine hK _ ?_
          clear hK K
        refine wpPlan_only rfl (by rfl) (fun K hK => ?_)
        go_simp
        refine (cS.out C1 c1 w11 k2.out.2 k5.out.2).mono ?_
        rintro e w12 ⟨rfl, b⟩
        refine hK _ _ b ?_
        clear hK K
        replace k2 := Lib.hid (k2.out.below b)
        replace qk20 := k2.out.1.c0
        replace qk21 := k2.out.1.c1
        replace k5 := Lib.hid (k5.out.below b)
        replace qk50 := k5.out.1.c0
        replace qk51 := k5.out.1.c1
        replace k6 := Lib.hid (k6.out.below b)
        replace qk60 := k6.out.1.c0
        replace qk61 := k6.out.1.c1
        replace bb := Lib.hid (below_trans2 bb.out b)
        clear b
        iterate 5
          refine wpPlan_float (v := ?_) rfl (by rfl) (fun w' hw' => ?_) (fun K hK => ?_)
          rotate_left
          · (go_simp; try with_reducible rfl)
          go_simp
          refine hK _ ?_
          clear hK K
        refine wpPlan_only rfl (by rfl) (fun K hK => ?_)
        go_simp
        refine (cC2.out C1 c1 w12 k5.out.2).mono ?_
        rintro e w13 ⟨D, nn, dd, rfl, rD, _, b⟩
        obtain rfl : n = nn := by have := rD.len; have := hcla.out; omega
        refine hK _ _ b ?_
        clear hK K
        replace k2 := Lib.hid (k2.out.below b)
        replace qk20 := k2.out.1.c0
        replace qk21 := k2.out.1.c1
        replace k5 := Lib.hid (k5.out.below b)
        replace qk50 := k5.out.1.c0
        replace qk51 := k5.out.1.c1
        replace k6 := Lib.hid (k6.out.below b)
        replace qk60 := k6.out.1.c0
        replace qk61 := k6.out.1.c1
        replace bb := Lib.hid (below_trans2 bb.out b)
        clear b
        have hq := Lib.hid (cQ.out D C1 dd c1 w13 rD k5.out.2)
        clear rD
        refine wpPlan_only rfl (by rfl) (fun K hK => ?_)
        go_simp
        refine (hq.out).mono ?_
        rintro e w14 ⟨rfl, b⟩
        refine hK _ _ b ?_
        clear hK K
        replace k2 := Lib.hid (k2.out.below b)
        replace qk20 := k2.out.1.c0
        replace qk21 := k2.out.1.c1
        replace k5 := Lib.hid (k5.out.below b)
        replace qk50 := k5.out.1.c0
        replace qk51 := k5.out.1.c1
        replace k6 := Lib.hid (k6.out.below b)
        replace qk60 := k6.out.1.c0
        replace qk61 := k6.out.1.c1
        replace bb := Lib.hid (below_trans2 bb.out b)
        clear b
        clear hq
        iterate 2
          refine wpPlan_float (v := ?_) rfl (by rfl) (fun w' hw' => ?_) (fun K hK => ?_)
          rotate_left
          · (go_simp; try with_reducible rfl)
          go_simp
          refine hK _ ?_
          clear hK K
        refine wpPlan_nil (NoPanic.normal ?_)
        go_wp2_with fail
        refine (law4_awake w14).mono ?_; rintro e w15 ⟨rfl, b⟩
        replace k2 := Lib.hid (k2.out.below b)
        replace qk20 := k2.out.1.c0
        replace qk21 := k2.out.1.c1
        replace k5 := Lib.hid (k5.out.below b)
        replace qk50 := k5.out.1.c0
        replace qk51 := k5.out.1.c1
        replace k6 := Lib.hid (k6.out.below b)
        replace qk60 := k6.out.1.c0
        replace qk61 := k6.out.1.c1
        replace bb := Lib.hid (below_trans2 bb.out b)
        clear b
        go_wp2_with fail
        refine (cT.out C3 c3 w15 k2.out.2 k6.out.2).mono ?_; rintro e w16 ⟨rfl, b⟩
        replace k2 := Lib.hid (k2.out.below b)
        replace qk20 := k2.out.1.c0
        replace qk21 := k2.out.1.c1
        replace k5 := Lib.hid (k5.out.below b)
        replace qk50 := k5.out.1.c0
        replace qk51 := k5.out.1.c1
        replace k6 := Lib.hid (k6.out.below b)
        replace qk60 := k6.out.1.c0
        replace qk61 := k6.out.1.c1
        replace bb := Lib.hid (below_trans2 bb.out b)
        clear b
        cases sb with
        | false =>
          go_wp2_with fail
          go_ret
          exact ⟨rfl, bb.out⟩
        | true =>
          go_wp2_with fail
          refine (cU.out (by simp) C1 C3 c1 c3 w16 k5.out.2 k6.out.2).mono ?_; rintro e w17 ⟨rfl, b⟩
          replace k2 := Lib.hid (k2.out.below b)
          replace qk20 := k2.out.1.c0
          replace qk21 := k2.out.1.c1
          replace k5 := Lib.hid (k5.out.below b)
          replace qk50 := k5.out.1.c0
          replace qk51 := k5.out.1.c1
          replace k6 := Lib.hid (k6.out.below b)
          replace qk60 := k6.out.1.c0
          replace qk61 := k6.out.1.c1
          replace bb := Lib.hid (below_trans2 bb.out b)
          clear b
          go_wp2_with fail
          go_ret
          exact ⟨rfl, bb.out⟩

end Go.Proofs.Ytkikoniihmieiaa
