/- Layer 11's law OriginTells, walked (where what comes in is of no more than 2^40 operations). -/
import Derived.Test.YtcdfpodhiogpiaaLaw11A
import Derived.Test.YtcdfpodhiogpiaaPlanS
namespace Go.Proofs.Ytcdfpodhiogpiaa
open Go.RowKit
set_option linter.unusedVariables false
theorem cut_facts {Goal F : Nat → Nat → World → FV → FV → Prop} {R : Prop} (h1 : (∀ a b c d e, F a b c d e → Goal a b c d e) → R) (h2 : ∀ a b c d e, F a b c d e → Goal a b c d e) : R := h1 h2
set_option maxRecDepth 100000 in
set_option maxHeartbeats 4000000 in
theorem law11_OriginTells (A B : Option Addr) (n c m d : Nat) (x : Int) (hs : List (List OpT)) (frm : List Int) (w : World) (hX : HistAt w A n hs) (hnc : n ≤ c) (hc : c ≤ 1099511627776) (hF : (allO hs).length ≤ 1099511627776)
    (hL : LAt encI w B m frm) (hmd : m ≤ d) (hd : d ≤ 9223372036854775807) :
    Calls Try.prog 3 #[.slice A n c, .slice B m d, .int .i64 x] w (RetBool true w) := by
  have c1 := Lib.hid (law11_facts A n c hs w hX hnc hc hF)
  go_enter Try.func3, Try.ntmps3
  go_wp2_with fail
  refine c1.out.mono ?_; rintro e w3 ⟨v, rfl, hG, b3⟩
  obtain ⟨V, hV⟩ : ∃ W, W = w3.alloc (.cells #[.slice v.A v.n v.c, .slice v.B v.m v.d, .slice v.C v.k v.e] 27) := ⟨_, rfl⟩
  obtain ⟨g, hg⟩ : ∃ g, g = w3.heap.size := ⟨_, rfl⟩
  have bV : Below w3.heap.size w3 V := by rw [hV]; exact (Below.refl _ _).alloc (Nat.le_refl _) _
  cases hok : okF11 hs with
  | false =>
    rw [hok] at hG
    have bb := Lib.hid (below_trans2 b3 bV)
    clear hG b3 bV
    go_wp2_with (rw [← hV, ← hg]; clear hV; replace hg := Lib.hid hg)
    refine (law11_awake V).mono ?_; rintro e w9 ⟨rfl, b9⟩
    go_wp2_with fail
    go_ret
    exact ⟨rfl, below_trans2 bb.out b9⟩
  | true =>
    obtain ⟨f, hf⟩ : ∃ f : Fac, f = facO hs := ⟨_, rfl⟩
    have hGf := hG hok
    rw [← hf] at hGf
    have hm60 : v.m ≤ 40 := by
      obtain ⟨-, hFx, -⟩ := smallL_says (okF11_says hok).1
      rw [← hGf.is.len, hf]
      show (hisF hs).2.length ≤ 40
      rw [hisF_len]; omega
    have hdf := Lib.hid (okF11_says hok).2.2
    rw [← hf] at hdf
    have hn60 : v.n ≤ 4294967296 := by
      obtain ⟨-, hFx, -⟩ := smallL_says (okF11_says hok).1
      rw [← hGf.vs.len, hf]
      have := hisF_vars hs
      show (hisF hs).1.length ≤ 4294967296
      omega
    have hB := Lib.hid ((FBox.new hGf).from_ b3)
    rw [← hV, ← hg] at hB
    have hLV := Lib.hid ((hL.below b3).below bV)
    replace hok := Lib.hid hok
    replace hf := Lib.hid hf
    clear hG hGf b3 bV hL hX c1
    by_cases hmf : (m : Int) ≤ 60
    · have h60 : ¬ (60 : Int) < (m : Int) := by omega
      have p0 := hB.out.c0
      have p1 := hB.out.c1
      have p2 := hB.out.c2
      go_wp2_with (rw [← hV, ← hg]; clear hV; replace hg := Lib.hid hg)
      obtain ⟨fa, hfa⟩ : ∃ fa, fa = fillF f := ⟨_, rfl⟩
      have cCa := fun W hW => origin_Fill v f W hW (by omega) hn60 hdf.out
      have cCb := fun W hW => ref11_Fill v f W hW (by omega)
      rw [← hfa] at cCa cCb
      replace cCa := Lib.hid cCa
      replace cCb := Lib.hid cCb
      obtain ⟨fb, hfb⟩ : ∃ fb, fb = fa := ⟨_, rfl⟩
      rw [← hfb] at cCb
      replace hfa := Lib.hid hfa
      refine wp_region_tree (.flt 0 (.flt 2 (.three 1 4 5 (.three 3 4 5 (.two 4 5 (.one 5 (.one 6 (.one 7 .done))) (.one 4 (.one 6 (.one 7 .done)))) (.two 3 5 (.one 5 (.one 6 (.one 7 .done))) (.one 3 (.one 6 (.one 7 .done)))) (.two 3 4 (.one 4 (.one 6 (.one 7 .done))) (.one 3 (.one 6 (.one 7 .done))))) (.two 1 5 (.two 3 5 (.one 5 (.one 6 (.one 7 .done))) (.one 3 (.one 6 (.one 7 .done)))) (.one 1 (.one 3 (.one 6 (.one 7 .done))))) (.two 1 4 (.two 3 4 (.one 4 (.one 6 (.one 7 .done))) (.one 3 (.one 6 (.one 7 .done)))) (.one 1 (.one 3 (.one 6 (.one 7 .done)))))))) (by kernel_rfl) (by kernel_rfl) (fun U hU => ?_)
      have hBU := Lib.hid (show FBox w g v f U from by rw [hU.out]; exact hB.out.later (Below.refl _ _).drew)
      have hLU := Lib.hid (show LAt encI U B m frm from by rw [hU.out]; exact hLV.out.below (Below.refl _ _).drew)
      have bW : Below U.heap.size U U := Below.refl _ _
      clear hU hB hLV p0 p1 p2
      have p0 := hBU.out.c0
      have p1 := hBU.out.c1
      have p2 := hBU.out.c2
      apply cut_facts (F := fun (G5 G6 : Nat) (wz : World) (ya yb : FV) => InVar wz G5 ya fa ∧ InVar wz G6 yb fb ∧ Below U.heap.size U wz)
      · intro key
        iterate 2
          refine wpPT_float (v := ?_) rfl (by rfl) (fun w' hw' => ?_) (fun K hK => ?_)
          rotate_left
          · (go_simp; try with_reducible rfl)
          go_simp
          refine hK _ ?_
          clear hK K
        refine wpPT_three rfl (by rfl) rfl (by rfl) rfl (by rfl) (fun K hK => ?_) (fun K hK => ?_) (fun K hK => ?_)
        · go_simp
          refine (cCa.out U (hBU.out.later bW).f).mono ?_; rintro e v1 ⟨ya, rfl, rYa, b⟩
          replace bW := below_trans2 bW b
          refine hK _ _ bW ?_
          clear hK K
          replace rYa := Lib.hid rYa
          clear b
          refine wpPT_three rfl (by rfl) rfl (by rfl) rfl (by rfl) (fun K hK => ?_) (fun K hK => ?_) (fun K hK => ?_)
          · go_simp
            refine (cCb.out v1 (hBU.out.later bW).f).mono ?_; rintro e v2 ⟨yb, rfl, rYb, b⟩
            replace bW := below_trans2 bW b
            refine hK _ _ bW ?_
            clear hK K
            replace rYa := Lib.hid (rYa.out.below b)
            replace rYb := Lib.hid rYb
            clear b
            refine wpPT_two rfl (by rfl) rfl (by rfl) (fun K hK => ?_) (fun K hK => ?_)
            · go_simp
              obtain ⟨G5, hG⟩ : ∃ G, G = v2.heap.size := ⟨_, rfl⟩
              obtain ⟨v3, hw⟩ : ∃ X : World, X = v2.alloc (.cells #[.slice none 0 0, .slice none 0 0, .slice none 0 0] 27) := ⟨_, rfl⟩
              rw [← hw, ← hG]
              have b : Below v2.heap.size v2 v3 := by rw [hw]; exact (Below.refl _ _).alloc (Nat.le_refl _) _
              have hW5 : U.heap.size ≤ G5 := by rw [hG]; exact bW.size
              replace bW := below_trans2 bW b
              refine hK _ _ bW ?_
              clear hK K
              have m5 := Lib.hid (show Blk v3 G5 27 zF from by rw [hw, hG]; exact Blk.new _ _ _)
              clear hw hG
              replace rYa := Lib.hid (rYa.out.below b)
              replace rYb := Lib.hid (rYb.out.below b)
              clear b
              refine wpPT_one rfl (by rfl) (fun K hK => ?_)
              go_simp
              obtain ⟨G6, hG⟩ : ∃ G, G = v3.heap.size := ⟨_, rfl⟩
              obtain ⟨v4, hw⟩ : ∃ X : World, X = v3.alloc (.cells #[.slice none 0 0, .slice none 0 0, .slice none 0 0] 27) := ⟨_, rfl⟩
              rw [← hw, ← hG]
              have b : Below v3.heap.size v3 v4 := by rw [hw]; exact (Below.refl _ _).alloc (Nat.le_refl _) _
              have hW6 : U.heap.size ≤ G6 := by rw [hG]; exact bW.size
              have hne : G5 ≠ G6 := by have := m5.out.lt; omega
              replace bW := below_trans2 bW b
              refine hK _ _ bW ?_
              clear hK K
              have m6 := Lib.hid (show Blk v4 G6 27 zF from by rw [hw, hG]; exact Blk.new _ _ _)
              clear hw hG
              replace rYa := Lib.hid (rYa.out.below b)
              replace rYb := Lib.hid (rYb.out.below b)
              replace m5 := Lib.hid (show Blk v4 G5 27 zF from m5.out.below b m5.out.lt)
              clear b
              have f0 := m5.out.cell 0
              have f1 := m5.out.cell 1
              have f2 := m5.out.cell 2
              simp only [zF, List.getElem?_cons_zero, List.getElem?_cons_succ] at f0 f1 f2
              have g0 := m5.out.frozen 0
              have g1 := m5.out.frozen 1
              have g2 := m5.out.frozen 2
              refine wpPT_one rfl (by rfl) (fun K hK => ?_)
              go_simp
              obtain ⟨v5, hw⟩ : ∃ X : World, X = putF v4 G5 ya := ⟨_, rfl⟩
              have hw' := hw
              unfold putF at hw'
              rw [← hw']
              replace bW : Below U.heap.size U v5 := by rw [hw]; exact putF_below bW hW5 _
              refine hK _ _ bW ?_
              clear hK K f0 f1 f2 g0 g1 g2
              have n5 := Lib.hid (show InVar v5 G5 ya fa from by rw [hw]; exact ⟨putF_facts rYa.out m5.out _, putF_blk m5.out _⟩)
              replace rYb := Lib.hid (show FactsAt v5 yb fb from by rw [hw]; exact putF_facts rYb.out m5.out _)
              replace m6 := Lib.hid (show Blk v5 G6 27 zF from by rw [hw]; exact putF_far m6.out (fun h => hne h.symm) _)
              clear hw hw' m5 rYa
              have f0 := m6.out.cell 0
              have f1 := m6.out.cell 1
              have f2 := m6.out.cell 2
              simp only [zF, List.getElem?_cons_zero, List.getElem?_cons_succ] at f0 f1 f2
              have g0 := m6.out.frozen 0
              have g1 := m6.out.frozen 1
              have g2 := m6.out.frozen 2
              refine wpPT_one rfl (by rfl) (fun K hK => ?_)
              go_simp
              obtain ⟨v6, hw⟩ : ∃ X : World, X = putF v5 G6 yb := ⟨_, rfl⟩
              have hw' := hw
              unfold putF at hw'
              rw [← hw']
              replace bW : Below U.heap.size U v6 := by rw [hw]; exact putF_below bW hW6 _
              refine hK _ _ bW ?_
              clear hK K f0 f1 f2 g0 g1 g2
              replace n5 := Lib.hid (show InVar v6 G5 ya fa from by rw [hw]; exact ⟨putF_facts n5.out.1 m6.out _, putF_far n5.out.2 hne _⟩)
              have n6 := Lib.hid (show InVar v6 G6 yb fb from by rw [hw]; exact ⟨putF_facts rYb.out m6.out _, putF_blk m6.out _⟩)
              clear hw hw' m6 rYb
              refine wpPT_done (NoPanic.normal ?_)
              exact key G5 G6 v6 ya yb ⟨n5.out, n6.out, bW⟩
            · go_simp
              obtain ⟨G6, hG⟩ : ∃ G, G = v2.heap.size := ⟨_, rfl⟩
              obtain ⟨v7, hw⟩ : ∃ X : World, X = v2.alloc (.cells #[.slice none 0 0, .slice none 0 0, .slice none 0 0] 27) := ⟨_, rfl⟩
              rw [← hw, ← hG]
              have b : Below v2.heap.size v2 v7 := by rw [hw]; exact (Below.refl _ _).alloc (Nat.le_refl _) _
              have hW6 : U.heap.size ≤ G6 := by rw [hG]; exact bW.size
              replace bW := below_trans2 bW b
              refine hK _ _ bW ?_
              clear hK K
              have m6 := Lib.hid (show Blk v7 G6 27 zF from by rw [hw, hG]; exact Blk.new _ _ _)
              clear hw hG
              replace rYa := Lib.hid (rYa.out.below b)
              replace rYb := Lib.hid (rYb.out.below b)
              clear b
              refine wpPT_one rfl (by rfl) (fun K hK => ?_)
              go_simp
              obtain ⟨G5, hG⟩ : ∃ G, G = v7.heap.size := ⟨_, rfl⟩
              obtain ⟨v8, hw⟩ : ∃ X : World, X = v7.alloc (.cells #[.slice none 0 0, .slice none 0 0, .slice none 0 0] 27) := ⟨_, rfl⟩
              rw [← hw, ← hG]
              have b : Below v7.heap.size v7 v8 := by rw [hw]; exact (Below.refl _ _).alloc (Nat.le_refl _) _
              have hW5 : U.heap.size ≤ G5 := by rw [hG]; exact bW.size
              have hne : G5 ≠ G6 := by have := m6.out.lt; omega
              replace bW := below_trans2 bW b
              refine hK _ _ bW ?_
              clear hK K
              have m5 := Lib.hid (show Blk v8 G5 27 zF from by rw [hw, hG]; exact Blk.new _ _ _)
              clear hw hG
              replace rYa := Lib.hid (rYa.out.below b)
              replace rYb := Lib.hid (rYb.out.below b)
              replace m6 := Lib.hid (show Blk v8 G6 27 zF from m6.out.below b m6.out.lt)
              clear b
              have f0 := m5.out.cell 0
              have f1 := m5.out.cell 1
              have f2 := m5.out.cell 2
              simp only [zF, List.getElem?_cons_zero, List.getElem?_cons_succ] at f0 f1 f2
              have g0 := m5.out.frozen 0
              have g1 := m5.out.frozen 1
              have g2 := m5.out.frozen 2
              refine wpPT_one rfl (by rfl) (fun K hK => ?_)
              go_simp
              obtain ⟨v9, hw⟩ : ∃ X : World, X = putF v8 G5 ya := ⟨_, rfl⟩
              have hw' := hw
              unfold putF at hw'
              rw [← hw']
              replace bW : Below U.heap.size U v9 := by rw [hw]; exact putF_below bW hW5 _
              refine hK _ _ bW ?_
              clear hK K f0 f1 f2 g0 g1 g2
              have n5 := Lib.hid (show InVar v9 G5 ya fa from by rw [hw]; exact ⟨putF_facts rYa.out m5.out _, putF_blk m5.out _⟩)
              replace rYb := Lib.hid (show FactsAt v9 yb fb from by rw [hw]; exact putF_facts rYb.out m5.out _)
              replace m6 := Lib.hid (show Blk v9 G6 27 zF from by rw [hw]; exact putF_far m6.out (fun h => hne h.symm) _)
              clear hw hw' m5 rYa
              have f0 := m6.out.cell 0
              have f1 := m6.out.cell 1
              have f2 := m6.out.cell 2
              simp only [zF, List.getElem?_cons_zero, List.getElem?_cons_succ] at f0 f1 f2
              have g0 := m6.out.frozen 0
              have g1 := m6.out.frozen 1
              have g2 := m6.out.frozen 2
              refine wpPT_one rfl (by rfl) (fun K hK => ?_)
              go_simp
              obtain ⟨v10, hw⟩ : ∃ X : World, X = putF v9 G6 yb := ⟨_, rfl⟩
              have hw' := hw
              unfold putF at hw'
              rw [← hw']
              replace bW : Below U.heap.size U v10 := by rw [hw]; exact putF_below bW hW6 _
              refine hK _ _ bW ?_
              clear hK K f0 f1 f2 g0 g1 g2
              replace n5 := Lib.hid (show InVar v10 G5 ya fa from by rw [hw]; exact ⟨putF_facts n5.out.1 m6.out _, putF_far n5.out.2 hne _⟩)
              have n6 := Lib.hid (show InVar v10 G6 yb fb from by rw [hw]; exact ⟨putF_facts rYb.out m6.out _, putF_blk m6.out _⟩)
              clear hw hw' m6 rYb
              refine wpPT_done (NoPanic.normal ?_)
              exact key G5 G6 v10 ya yb ⟨n5.out, n6.out, bW⟩
          · go_simp
            obtain ⟨G5, hG⟩ : ∃ G, G = v1.heap.size := ⟨_, rfl⟩
            obtain ⟨v11, hw⟩ : ∃ X : World, X = v1.alloc (.cells #[.slice none 0 0, .slice none 0 0, .slice none 0 0] 27) := ⟨_, rfl⟩
            rw [← hw, ← hG]
            have b : Below v1.heap.size v1 v11 := by rw [hw]; exact (Below.refl _ _).alloc (Nat.le_refl _) _
            have hW5 : U.heap.size ≤ G5 := by rw [hG]; exact bW.size
            replace bW := below_trans2 bW b
            refine hK _ _ bW ?_
            clear hK K
            have m5 := Lib.hid (show Blk v11 G5 27 zF from by rw [hw, hG]; exact Blk.new _ _ _)
            clear hw hG
            replace rYa := Lib.hid (rYa.out.below b)
            clear b
            refine wpPT_two rfl (by rfl) rfl (by rfl) (fun K hK => ?_) (fun K hK => ?_)
            · go_simp
              refine (cCb.out v11 (hBU.out.later bW).f).mono ?_; rintro e v12 ⟨yb, rfl, rYb, b⟩
              replace bW := below_trans2 bW b
              refine hK _ _ bW ?_
              clear hK K
              replace rYa := Lib.hid (rYa.out.below b)
              replace m5 := Lib.hid (m5.out.below b m5.out.lt)
              replace rYb := Lib.hid rYb
              clear b
              refine wpPT_one rfl (by rfl) (fun K hK => ?_)
              go_simp
              obtain ⟨G6, hG⟩ : ∃ G, G = v12.heap.size := ⟨_, rfl⟩
              obtain ⟨v13, hw⟩ : ∃ X : World, X = v12.alloc (.cells #[.slice none 0 0, .slice none 0 0, .slice none 0 0] 27) := ⟨_, rfl⟩
              rw [← hw, ← hG]
              have b : Below v12.heap.size v12 v13 := by rw [hw]; exact (Below.refl _ _).alloc (Nat.le_refl _) _
              have hW6 : U.heap.size ≤ G6 := by rw [hG]; exact bW.size
              have hne : G5 ≠ G6 := by have := m5.out.lt; omega
              replace bW := below_trans2 bW b
              refine hK _ _ bW ?_
              clear hK K
              have m6 := Lib.hid (show Blk v13 G6 27 zF from by rw [hw, hG]; exact Blk.new _ _ _)
              clear hw hG
              replace rYa := Lib.hid (rYa.out.below b)
              replace m5 := Lib.hid (show Blk v13 G5 27 zF from m5.out.below b m5.out.lt)
              replace rYb := Lib.hid (rYb.out.below b)
              clear b
              have f0 := m5.out.cell 0
              have f1 := m5.out.cell 1
              have f2 := m5.out.cell 2
              simp only [zF, List.getElem?_cons_zero, List.getElem?_cons_succ] at f0 f1 f2
              have g0 := m5.out.frozen 0
              have g1 := m5.out.frozen 1
              have g2 := m5.out.frozen 2
              refine wpPT_one rfl (by rfl) (fun K hK => ?_)
              go_simp
              obtain ⟨v14, hw⟩ : ∃ X : World, X = putF v13 G5 ya := ⟨_, rfl⟩
              have hw' := hw
              unfold putF at hw'
              rw [← hw']
              replace bW : Below U.heap.size U v14 := by rw [hw]; exact putF_below bW hW5 _
              refine hK _ _ bW ?_
              clear hK K f0 f1 f2 g0 g1 g2
              have n5 := Lib.hid (show InVar v14 G5 ya fa from by rw [hw]; exact ⟨putF_facts rYa.out m5.out _, putF_blk m5.out _⟩)
              replace rYb := Lib.hid (show FactsAt v14 yb fb from by rw [hw]; exact putF_facts rYb.out m5.out _)
              replace m6 := Lib.hid (show Blk v14 G6 27 zF from by rw [hw]; exact putF_far m6.out (fun h => hne h.symm) _)
              clear hw hw' m5 rYa
              have f0 := m6.out.cell 0
              have f1 := m6.out.cell 1
              have f2 := m6.out.cell 2
              simp only [zF, List.getElem?_cons_zero, List.getElem?_cons_succ] at f0 f1 f2
              have g0 := m6.out.frozen 0
              have g1 := m6.out.frozen 1
              have g2 := m6.out.frozen 2
              refine wpPT_one rfl (by rfl) (fun K hK => ?_)
              go_simp
              obtain ⟨v15, hw⟩ : ∃ X : World, X = putF v14 G6 yb := ⟨_, rfl⟩
              have hw' := hw
              unfold putF at hw'
              rw [← hw']
              replace bW : Below U.heap.size U v15 := by rw [hw]; exact putF_below bW hW6 _
              refine hK _ _ bW ?_
              clear hK K f0 f1 f2 g0 g1 g2
              replace n5 := Lib.hid (show InVar v15 G5 ya fa from by rw [hw]; exact ⟨putF_facts n5.out.1 m6.out _, putF_far n5.out.2 hne _⟩)
              have n6 := Lib.hid (show InVar v15 G6 yb fb from by rw [hw]; exact ⟨putF_facts rYb.out m6.out _, putF_blk m6.out _⟩)
              clear hw hw' m6 rYb
              refine wpPT_done (NoPanic.normal ?_)
              exact key G5 G6 v15 ya yb ⟨n5.out, n6.out, bW⟩
            · go_simp
              obtain ⟨G6, hG⟩ : ∃ G, G = v11.heap.size := ⟨_, rfl⟩
              obtain ⟨v16, hw⟩ : ∃ X : World, X = v11.alloc (.cells #[.slice none 0 0, .slice none 0 0, .slice none 0 0] 27) := ⟨_, rfl⟩
              rw [← hw, ← hG]
              have b : Below v11.heap.size v11 v16 := by rw [hw]; exact (Below.refl _ _).alloc (Nat.le_refl _) _
              have hW6 : U.heap.size ≤ G6 := by rw [hG]; exact bW.size
              have hne : G5 ≠ G6 := by have := m5.out.lt; omega
              replace bW := below_trans2 bW b
              refine hK _ _ bW ?_
              clear hK K
              have m6 := Lib.hid (show Blk v16 G6 27 zF from by rw [hw, hG]; exact Blk.new _ _ _)
              clear hw hG
              replace rYa := Lib.hid (rYa.out.below b)
              replace m5 := Lib.hid (show Blk v16 G5 27 zF from m5.out.below b m5.out.lt)
              clear b
              refine wpPT_one rfl (by rfl) (fun K hK => ?_)
              go_simp
              refine (cCb.out v16 (hBU.out.later bW).f).mono ?_; rintro e v17 ⟨yb, rfl, rYb, b⟩
              replace bW := below_trans2 bW b
              refine hK _ _ bW ?_
              clear hK K
              replace rYa := Lib.hid (rYa.out.below b)
              replace m5 := Lib.hid (m5.out.below b m5.out.lt)
              replace m6 := Lib.hid (m6.out.below b m6.out.lt)
              replace rYb := Lib.hid rYb
              clear b
              have f0 := m5.out.cell 0
              have f1 := m5.out.cell 1
              have f2 := m5.out.cell 2
              simp only [zF, List.getElem?_cons_zero, List.getElem?_cons_succ] at f0 f1 f2
              have g0 := m5.out.frozen 0
              have g1 := m5.out.frozen 1
              have g2 := m5.out.frozen 2
              refine wpPT_one rfl (by rfl) (fun K hK => ?_)
              go_simp
              obtain ⟨v18, hw⟩ : ∃ X : World, X = putF v17 G5 ya := ⟨_, rfl⟩
              have hw' := hw
              unfold putF at hw'
              rw [← hw']
              replace bW : Below U.heap.size U v18 := by rw [hw]; exact putF_below bW hW5 _
              refine hK _ _ bW ?_
              clear hK K f0 f1 f2 g0 g1 g2
              have n5 := Lib.hid (show InVar v18 G5 ya fa from by rw [hw]; exact ⟨putF_facts rYa.out m5.out _, putF_blk m5.out _⟩)
              replace rYb := Lib.hid (show FactsAt v18 yb fb from by rw [hw]; exact putF_facts rYb.out m5.out _)
              replace m6 := Lib.hid (show Blk v18 G6 27 zF from by rw [hw]; exact putF_far m6.out (fun h => hne h.symm) _)
              clear hw hw' m5 rYa
              have f0 := m6.out.cell 0
              have f1 := m6.out.cell 1
              have f2 := m6.out.cell 2
              simp only [zF, List.getElem?_cons_zero, List.getElem?_cons_succ] at f0 f1 f2
              have g0 := m6.out.frozen 0
              have g1 := m6.out.frozen 1
              have g2 := m6.out.frozen 2
              refine wpPT_one rfl (by rfl) (fun K hK => ?_)
              go_simp
              obtain ⟨v19, hw⟩ : ∃ X : World, X = putF v18 G6 yb := ⟨_, rfl⟩
              have hw' := hw
              unfold putF at hw'
              rw [← hw']
              replace bW : Below U.heap.size U v19 := by rw [hw]; exact putF_below bW hW6 _
              refine hK _ _ bW ?_
              clear hK K f0 f1 f2 g0 g1 g2
              replace n5 := Lib.hid (show InVar v19 G5 ya fa from by rw [hw]; exact ⟨putF_facts n5.out.1 m6.out _, putF_far n5.out.2 hne _⟩)
              have n6 := Lib.hid (show InVar v19 G6 yb fb from by rw [hw]; exact ⟨putF_facts rYb.out m6.out _, putF_blk m6.out _⟩)
              clear hw hw' m6 rYb
              refine wpPT_done (NoPanic.normal ?_)
              exact key G5 G6 v19 ya yb ⟨n5.out, n6.out, bW⟩
          · go_simp
            obtain ⟨G6, hG⟩ : ∃ G, G = v1.heap.size := ⟨_, rfl⟩
            obtain ⟨v20, hw⟩ : ∃ X : World, X = v1.alloc (.cells #[.slice none 0 0, .slice none 0 0, .slice none 0 0] 27) := ⟨_, rfl⟩
            rw [← hw, ← hG]
            have b : Below v1.heap.size v1 v20 := by rw [hw]; exact (Below.refl _ _).alloc (Nat.le_refl _) _
            have hW6 : U.heap.size ≤ G6 := by rw [hG]; exact bW.size
            replace bW := below_trans2 bW b
            refine hK _ _ bW ?_
            clear hK K
            have m6 := Lib.hid (show Blk v20 G6 27 zF from by rw [hw, hG]; exact Blk.new _ _ _)
            clear hw hG
            replace rYa := Lib.hid (rYa.out.below b)
            clear b
            refine wpPT_two rfl (by rfl) rfl (by rfl) (fun K hK => ?_) (fun K hK => ?_)
            · go_simp
              refine (cCb.out v20 (hBU.out.later bW).f).mono ?_; rintro e v21 ⟨yb, rfl, rYb, b⟩
              replace bW := below_trans2 bW b
              refine hK _ _ bW ?_
              clear hK K
              replace rYa := Lib.hid (rYa.out.below b)
              replace m6 := Lib.hid (m6.out.below b m6.out.lt)
              replace rYb := Lib.hid rYb
              clear b
              refine wpPT_one rfl (by rfl) (fun K hK => ?_)
              go_simp
              obtain ⟨G5, hG⟩ : ∃ G, G = v21.heap.size := ⟨_, rfl⟩
              obtain ⟨v22, hw⟩ : ∃ X : World, X = v21.alloc (.cells #[.slice none 0 0, .slice none 0 0, .slice none 0 0] 27) := ⟨_, rfl⟩
              rw [← hw, ← hG]
              have b : Below v21.heap.size v21 v22 := by rw [hw]; exact (Below.refl _ _).alloc (Nat.le_refl _) _
              have hW5 : U.heap.size ≤ G5 := by rw [hG]; exact bW.size
              have hne : G5 ≠ G6 := by have := m6.out.lt; omega
              replace bW := below_trans2 bW b
              refine hK _ _ bW ?_
              clear hK K
              have m5 := Lib.hid (show Blk v22 G5 27 zF from by rw [hw, hG]; exact Blk.new _ _ _)
              clear hw hG
              replace rYa := Lib.hid (rYa.out.below b)
              replace m6 := Lib.hid (show Blk v22 G6 27 zF from m6.out.below b m6.out.lt)
              replace rYb := Lib.hid (rYb.out.below b)
              clear b
              have f0 := m5.out.cell 0
              have f1 := m5.out.cell 1
              have f2 := m5.out.cell 2
              simp only [zF, List.getElem?_cons_zero, List.getElem?_cons_succ] at f0 f1 f2
              have g0 := m5.out.frozen 0
              have g1 := m5.out.frozen 1
              have g2 := m5.out.frozen 2
              refine wpPT_one rfl (by rfl) (fun K hK => ?_)
              go_simp
              obtain ⟨v23, hw⟩ : ∃ X : World, X = putF v22 G5 ya := ⟨_, rfl⟩
              have hw' := hw
              unfold putF at hw'
              rw [← hw']
              replace bW : Below U.heap.size U v23 := by rw [hw]; exact putF_below bW hW5 _
              refine hK _ _ bW ?_
              clear hK K f0 f1 f2 g0 g1 g2
              have n5 := Lib.hid (show InVar v23 G5 ya fa from by rw [hw]; exact ⟨putF_facts rYa.out m5.out _, putF_blk m5.out _⟩)
              replace rYb := Lib.hid (show FactsAt v23 yb fb from by rw [hw]; exact putF_facts rYb.out m5.out _)
              replace m6 := Lib.hid (show Blk v23 G6 27 zF from by rw [hw]; exact putF_far m6.out (fun h => hne h.symm) _)
              clear hw hw' m5 rYa
              have f0 := m6.out.cell 0
              have f1 := m6.out.cell 1
              have f2 := m6.out.cell 2
              simp only [zF, List.getElem?_cons_zero, List.getElem?_cons_succ] at f0 f1 f2
              have g0 := m6.out.frozen 0
              have g1 := m6.out.frozen 1
              have g2 := m6.out.frozen 2
              refine wpPT_one rfl (by rfl) (fun K hK => ?_)
              go_simp
              obtain ⟨v24, hw⟩ : ∃ X : World, X = putF v23 G6 yb := ⟨_, rfl⟩
              have hw' := hw
              unfold putF at hw'
              rw [← hw']
              replace bW : Below U.heap.size U v24 := by rw [hw]; exact putF_below bW hW6 _
              refine hK _ _ bW ?_
              clear hK K f0 f1 f2 g0 g1 g2
              replace n5 := Lib.hid (show InVar v24 G5 ya fa from by rw [hw]; exact ⟨putF_facts n5.out.1 m6.out _, putF_far n5.out.2 hne _⟩)
              have n6 := Lib.hid (show InVar v24 G6 yb fb from by rw [hw]; exact ⟨putF_facts rYb.out m6.out _, putF_blk m6.out _⟩)
              clear hw hw' m6 rYb
              refine wpPT_done (NoPanic.normal ?_)
              exact key G5 G6 v24 ya yb ⟨n5.out, n6.out, bW⟩
            · go_simp
              obtain ⟨G5, hG⟩ : ∃ G, G = v20.heap.size := ⟨_, rfl⟩
              obtain ⟨v25, hw⟩ : ∃ X : World, X = v20.alloc (.cells #[.slice none 0 0, .slice none 0 0, .slice none 0 0] 27) := ⟨_, rfl⟩
              rw [← hw, ← hG]
              have b : Below v20.heap.size v20 v25 := by rw [hw]; exact (Below.refl _ _).alloc (Nat.le_refl _) _
              have hW5 : U.heap.size ≤ G5 := by rw [hG]; exact bW.size
              have hne : G5 ≠ G6 := by have := m6.out.lt; omega
              replace bW := below_trans2 bW b
              refine hK _ _ bW ?_
              clear hK K
              have m5 := Lib.hid (show Blk v25 G5 27 zF from by rw [hw, hG]; exact Blk.new _ _ _)
              clear hw hG
              replace rYa := Lib.hid (rYa.out.below b)
              replace m6 := Lib.hid (show Blk v25 G6 27 zF from m6.out.below b m6.out.lt)
              clear b
              refine wpPT_one rfl (by rfl) (fun K hK => ?_)
              go_simp
              refine (cCb.out v25 (hBU.out.later bW).f).mono ?_; rintro e v26 ⟨yb, rfl, rYb, b⟩
              replace bW := below_trans2 bW b
              refine hK _ _ bW ?_
              clear hK K
              replace rYa := Lib.hid (rYa.out.below b)
              replace m6 := Lib.hid (m6.out.below b m6.out.lt)
              replace m5 := Lib.hid (m5.out.below b m5.out.lt)
              replace rYb := Lib.hid rYb
              clear b
              have f0 := m5.out.cell 0
              have f1 := m5.out.cell 1
              have f2 := m5.out.cell 2
              simp only [zF, List.getElem?_cons_zero, List.getElem?_cons_succ] at f0 f1 f2
              have g0 := m5.out.frozen 0
              have g1 := m5.out.frozen 1
              have g2 := m5.out.frozen 2
              refine wpPT_one rfl (by rfl) (fun K hK => ?_)
              go_simp
              obtain ⟨v27, hw⟩ : ∃ X : World, X = putF v26 G5 ya := ⟨_, rfl⟩
              have hw' := hw
              unfold putF at hw'
              rw [← hw']
              replace bW : Below U.heap.size U v27 := by rw [hw]; exact putF_below bW hW5 _
              refine hK _ _ bW ?_
              clear hK K f0 f1 f2 g0 g1 g2
              have n5 := Lib.hid (show InVar v27 G5 ya fa from by rw [hw]; exact ⟨putF_facts rYa.out m5.out _, putF_blk m5.out _⟩)
              replace rYb := Lib.hid (show FactsAt v27 yb fb from by rw [hw]; exact putF_facts rYb.out m5.out _)
              replace m6 := Lib.hid (show Blk v27 G6 27 zF from by rw [hw]; exact putF_far m6.out (fun h => hne h.symm) _)
              clear hw hw' m5 rYa
              have f0 := m6.out.cell 0
              have f1 := m6.out.cell 1
              have f2 := m6.out.cell 2
              simp only [zF, List.getElem?_cons_zero, List.getElem?_cons_succ] at f0 f1 f2
              have g0 := m6.out.frozen 0
              have g1 := m6.out.frozen 1
              have g2 := m6.out.frozen 2
              refine wpPT_one rfl (by rfl) (fun K hK => ?_)
              go_simp
              obtain ⟨v28, hw⟩ : ∃ X : World, X = putF v27 G6 yb := ⟨_, rfl⟩
              have hw' := hw
              unfold putF at hw'
              rw [← hw']
              replace bW : Below U.heap.size U v28 := by rw [hw]; exact putF_below bW hW6 _
              refine hK _ _ bW ?_
              clear hK K f0 f1 f2 g0 g1 g2
              replace n5 := Lib.hid (show InVar v28 G5 ya fa from by rw [hw]; exact ⟨putF_facts n5.out.1 m6.out _, putF_far n5.out.2 hne _⟩)
              have n6 := Lib.hid (show InVar v28 G6 yb fb from by rw [hw]; exact ⟨putF_facts rYb.out m6.out _, putF_blk m6.out _⟩)
              clear hw hw' m6 rYb
              refine wpPT_done (NoPanic.normal ?_)
              exact key G5 G6 v28 ya yb ⟨n5.out, n6.out, bW⟩
        · go_simp
          obtain ⟨G5, hG⟩ : ∃ G, G = U.heap.size := ⟨_, rfl⟩
          obtain ⟨v29, hw⟩ : ∃ X : World, X = U.alloc (.cells #[.slice none 0 0, .slice none 0 0, .slice none 0 0] 27) := ⟨_, rfl⟩
          rw [← hw, ← hG]
          have b : Below U.heap.size U v29 := by rw [hw]; exact (Below.refl _ _).alloc (Nat.le_refl _) _
          have hW5 : U.heap.size ≤ G5 := by rw [hG]; exact bW.size
          replace bW := below_trans2 bW b
          refine hK _ _ bW ?_
          clear hK K
          have m5 := Lib.hid (show Blk v29 G5 27 zF from by rw [hw, hG]; exact Blk.new _ _ _)
          clear hw hG
          clear b
          refine wpPT_two rfl (by rfl) rfl (by rfl) (fun K hK => ?_) (fun K hK => ?_)
          · go_simp
            refine (cCa.out v29 (hBU.out.later bW).f).mono ?_; rintro e v30 ⟨ya, rfl, rYa, b⟩
            replace bW := below_trans2 bW b
            refine hK _ _ bW ?_
            clear hK K
            replace m5 := Lib.hid (m5.out.below b m5.out.lt)
            replace rYa := Lib.hid rYa
            clear b
            refine wpPT_two rfl (by rfl) rfl (by rfl) (fun K hK => ?_) (fun K hK => ?_)
            · go_simp
              refine (cCb.out v30 (hBU.out.later bW).f).mono ?_; rintro e v31 ⟨yb, rfl, rYb, b⟩
              replace bW := below_trans2 bW b
              refine hK _ _ bW ?_
              clear hK K
              replace m5 := Lib.hid (m5.out.below b m5.out.lt)
              replace rYa := Lib.hid (rYa.out.below b)
              replace rYb := Lib.hid rYb
              clear b
              refine wpPT_one rfl (by rfl) (fun K hK => ?_)
              go_simp
              obtain ⟨G6, hG⟩ : ∃ G, G = v31.heap.size := ⟨_, rfl⟩
              obtain ⟨v32, hw⟩ : ∃ X : World, X = v31.alloc (.cells #[.slice none 0 0, .slice none 0 0, .slice none 0 0] 27) := ⟨_, rfl⟩
              rw [← hw, ← hG]
              have b : Below v31.heap.size v31 v32 := by rw [hw]; exact (Below.refl _ _).alloc (Nat.le_refl _) _
              have hW6 : U.heap.size ≤ G6 := by rw [hG]; exact bW.size
              have hne : G5 ≠ G6 := by have := m5.out.lt; omega
              replace bW := below_trans2 bW b
              refine hK _ _ bW ?_
              clear hK K
              have m6 := Lib.hid (show Blk v32 G6 27 zF from by rw [hw, hG]; exact Blk.new _ _ _)
              clear hw hG
              replace m5 := Lib.hid (show Blk v32 G5 27 zF from m5.out.below b m5.out.lt)
              replace rYa := Lib.hid (rYa.out.below b)
              replace rYb := Lib.hid (rYb.out.below b)
              clear b
              have f0 := m5.out.cell 0
              have f1 := m5.out.cell 1
              have f2 := m5.out.cell 2
              simp only [zF, List.getElem?_cons_zero, List.getElem?_cons_succ] at f0 f1 f2
              have g0 := m5.out.frozen 0
              have g1 := m5.out.frozen 1
              have g2 := m5.out.frozen 2
              refine wpPT_one rfl (by rfl) (fun K hK => ?_)
              go_simp
              obtain ⟨v33, hw⟩ : ∃ X : World, X = putF v32 G5 ya := ⟨_, rfl⟩
              have hw' := hw
              unfold putF at hw'
              rw [← hw']
              replace bW : Below U.heap.size U v33 := by rw [hw]; exact putF_below bW hW5 _
              refine hK _ _ bW ?_
              clear hK K f0 f1 f2 g0 g1 g2
              have n5 := Lib.hid (show InVar v33 G5 ya fa from by rw [hw]; exact ⟨putF_facts rYa.out m5.out _, putF_blk m5.out _⟩)
              replace rYb := Lib.hid (show FactsAt v33 yb fb from by rw [hw]; exact putF_facts rYb.out m5.out _)
              replace m6 := Lib.hid (show Blk v33 G6 27 zF from by rw [hw]; exact putF_far m6.out (fun h => hne h.symm) _)
              clear hw hw' m5 rYa
              have f0 := m6.out.cell 0
              have f1 := m6.out.cell 1
              have f2 := m6.out.cell 2
              simp only [zF, List.getElem?_cons_zero, List.getElem?_cons_succ] at f0 f1 f2
              have g0 := m6.out.frozen 0
              have g1 := m6.out.frozen 1
              have g2 := m6.out.frozen 2
              refine wpPT_one rfl (by rfl) (fun K hK => ?_)
              go_simp
              obtain ⟨v34, hw⟩ : ∃ X : World, X = putF v33 G6 yb := ⟨_, rfl⟩
              have hw' := hw
              unfold putF at hw'
              rw [← hw']
              replace bW : Below U.heap.size U v34 := by rw [hw]; exact putF_below bW hW6 _
              refine hK _ _ bW ?_
              clear hK K f0 f1 f2 g0 g1 g2
              replace n5 := Lib.hid (show InVar v34 G5 ya fa from by rw [hw]; exact ⟨putF_facts n5.out.1 m6.out _, putF_far n5.out.2 hne _⟩)
              have n6 := Lib.hid (show InVar v34 G6 yb fb from by rw [hw]; exact ⟨putF_facts rYb.out m6.out _, putF_blk m6.out _⟩)
              clear hw hw' m6 rYb
              refine wpPT_done (NoPanic.normal ?_)
              exact key G5 G6 v34 ya yb ⟨n5.out, n6.out, bW⟩
            · go_simp
              obtain ⟨G6, hG⟩ : ∃ G, G = v30.heap.size := ⟨_, rfl⟩
              obtain ⟨v35, hw⟩ : ∃ X : World, X = v30.alloc (.cells #[.slice none 0 0, .slice none 0 0, .slice none 0 0] 27) := ⟨_, rfl⟩
              rw [← hw, ← hG]
              have b : Below v30.heap.size v30 v35 := by rw [hw]; exact (Below.refl _ _).alloc (Nat.le_refl _) _
              have hW6 : U.heap.size ≤ G6 := by rw [hG]; exact bW.size
              have hne : G5 ≠ G6 := by have := m5.out.lt; omega
              replace bW := below_trans2 bW b
              refine hK _ _ bW ?_
              clear hK K
              have m6 := Lib.hid (show Blk v35 G6 27 zF from by rw [hw, hG]; exact Blk.new _ _ _)
              clear hw hG
              replace m5 := Lib.hid (show Blk v35 G5 27 zF from m5.out.below b m5.out.lt)
              replace rYa := Lib.hid (rYa.out.below b)
              clear b
              refine wpPT_one rfl (by rfl) (fun K hK => ?_)
              go_simp
              refine (cCb.out v35 (hBU.out.later bW).f).mono ?_; rintro e v36 ⟨yb, rfl, rYb, b⟩
              replace bW := below_trans2 bW b
              refine hK _ _ bW ?_
              clear hK K
              replace m5 := Lib.hid (m5.out.below b m5.out.lt)
              replace rYa := Lib.hid (rYa.out.below b)
              replace m6 := Lib.hid (m6.out.below b m6.out.lt)
              replace rYb := Lib.hid rYb
              clear b
              have f0 := m5.out.cell 0
              have f1 := m5.out.cell 1
              have f2 := m5.out.cell 2
              simp only [zF, List.getElem?_cons_zero, List.getElem?_cons_succ] at f0 f1 f2
              have g0 := m5.out.frozen 0
              have g1 := m5.out.frozen 1
              have g2 := m5.out.frozen 2
              refine wpPT_one rfl (by rfl) (fun K hK => ?_)
              go_simp
              obtain ⟨v37, hw⟩ : ∃ X : World, X = putF v36 G5 ya := ⟨_, rfl⟩
              have hw' := hw
              unfold putF at hw'
              rw [← hw']
              replace bW : Below U.heap.size U v37 := by rw [hw]; exact putF_below bW hW5 _
              refine hK _ _ bW ?_
              clear hK K f0 f1 f2 g0 g1 g2
              have n5 := Lib.hid (show InVar v37 G5 ya fa from by rw [hw]; exact ⟨putF_facts rYa.out m5.out _, putF_blk m5.out _⟩)
              replace rYb := Lib.hid (show FactsAt v37 yb fb from by rw [hw]; exact putF_facts rYb.out m5.out _)
              replace m6 := Lib.hid (show Blk v37 G6 27 zF from by rw [hw]; exact putF_far m6.out (fun h => hne h.symm) _)
              clear hw hw' m5 rYa
              have f0 := m6.out.cell 0
              have f1 := m6.out.cell 1
              have f2 := m6.out.cell 2
              simp only [zF, List.getElem?_cons_zero, List.getElem?_cons_succ] at f0 f1 f2
              have g0 := m6.out.frozen 0
              have g1 := m6.out.frozen 1
              have g2 := m6.out.frozen 2
              refine wpPT_one rfl (by rfl) (fun K hK => ?_)
              go_simp
              obtain ⟨v38, hw⟩ : ∃ X : World, X = putF v37 G6 yb := ⟨_, rfl⟩
              have hw' := hw
              unfold putF at hw'
              rw [← hw']
              replace bW : Below U.heap.size U v38 := by rw [hw]; exact putF_below bW hW6 _
              refine hK _ _ bW ?_
              clear hK K f0 f1 f2 g0 g1 g2
              replace n5 := Lib.hid (show InVar v38 G5 ya fa from by rw [hw]; exact ⟨putF_facts n5.out.1 m6.out _, putF_far n5.out.2 hne _⟩)
              have n6 := Lib.hid (show InVar v38 G6 yb fb from by rw [hw]; exact ⟨putF_facts rYb.out m6.out _, putF_blk m6.out _⟩)
              clear hw hw' m6 rYb
              refine wpPT_done (NoPanic.normal ?_)
              exact key G5 G6 v38 ya yb ⟨n5.out, n6.out, bW⟩
          · go_simp
            obtain ⟨G6, hG⟩ : ∃ G, G = v29.heap.size := ⟨_, rfl⟩
            obtain ⟨v39, hw⟩ : ∃ X : World, X = v29.alloc (.cells #[.slice none 0 0, .slice none 0 0, .slice none 0 0] 27) := ⟨_, rfl⟩
            rw [← hw, ← hG]
            have b : Below v29.heap.size v29 v39 := by rw [hw]; exact (Below.refl _ _).alloc (Nat.le_refl _) _
            have hW6 : U.heap.size ≤ G6 := by rw [hG]; exact bW.size
            have hne : G5 ≠ G6 := by have := m5.out.lt; omega
            replace bW := below_trans2 bW b
            refine hK _ _ bW ?_
            clear hK K
            have m6 := Lib.hid (show Blk v39 G6 27 zF from by rw [hw, hG]; exact Blk.new _ _ _)
            clear hw hG
            replace m5 := Lib.hid (show Blk v39 G5 27 zF from m5.out.below b m5.out.lt)
            clear b
            refine wpPT_one rfl (by rfl) (fun K hK => ?_)
            go_simp
            refine (cCa.out v39 (hBU.out.later bW).f).mono ?_; rintro e v40 ⟨ya, rfl, rYa, b⟩
            replace bW := below_trans2 bW b
            refine hK _ _ bW ?_
            clear hK K
            replace m5 := Lib.hid (m5.out.below b m5.out.lt)
            replace m6 := Lib.hid (m6.out.below b m6.out.lt)
            replace rYa := Lib.hid rYa
            clear b
            refine wpPT_one rfl (by rfl) (fun K hK => ?_)
            go_simp
            refine (cCb.out v40 (hBU.out.later bW).f).mono ?_; rintro e v41 ⟨yb, rfl, rYb, b⟩
            replace bW := below_trans2 bW b
            refine hK _ _ bW ?_
            clear hK K
            replace m5 := Lib.hid (m5.out.below b m5.out.lt)
            replace m6 := Lib.hid (m6.out.below b m6.out.lt)
            replace rYa := Lib.hid (rYa.out.below b)
            replace rYb := Lib.hid rYb
            clear b
            have f0 := m5.out.cell 0
            have f1 := m5.out.cell 1
            have f2 := m5.out.cell 2
            simp only [zF, List.getElem?_cons_zero, List.getElem?_cons_succ] at f0 f1 f2
            have g0 := m5.out.frozen 0
            have g1 := m5.out.frozen 1
            have g2 := m5.out.frozen 2
            refine wpPT_one rfl (by rfl) (fun K hK => ?_)
            go_simp
            obtain ⟨v42, hw⟩ : ∃ X : World, X = putF v41 G5 ya := ⟨_, rfl⟩
            have hw' := hw
            unfold putF at hw'
            rw [← hw']
            replace bW : Below U.heap.size U v42 := by rw [hw]; exact putF_below bW hW5 _
            refine hK _ _ bW ?_
            clear hK K f0 f1 f2 g0 g1 g2
            have n5 := Lib.hid (show InVar v42 G5 ya fa from by rw [hw]; exact ⟨putF_facts rYa.out m5.out _, putF_blk m5.out _⟩)
            replace rYb := Lib.hid (show FactsAt v42 yb fb from by rw [hw]; exact putF_facts rYb.out m5.out _)
            replace m6 := Lib.hid (show Blk v42 G6 27 zF from by rw [hw]; exact putF_far m6.out (fun h => hne h.symm) _)
            clear hw hw' m5 rYa
            have f0 := m6.out.cell 0
            have f1 := m6.out.cell 1
            have f2 := m6.out.cell 2
            simp only [zF, List.getElem?_cons_zero, List.getElem?_cons_succ] at f0 f1 f2
            have g0 := m6.out.frozen 0
            have g1 := m6.out.frozen 1
            have g2 := m6.out.frozen 2
            refine wpPT_one rfl (by rfl) (fun K hK => ?_)
            go_simp
            obtain ⟨v43, hw⟩ : ∃ X : World, X = putF v42 G6 yb := ⟨_, rfl⟩
            have hw' := hw
            unfold putF at hw'
            rw [← hw']
            replace bW : Below U.heap.size U v43 := by rw [hw]; exact putF_below bW hW6 _
            refine hK _ _ bW ?_
            clear hK K f0 f1 f2 g0 g1 g2
            replace n5 := Lib.hid (show InVar v43 G5 ya fa from by rw [hw]; exact ⟨putF_facts n5.out.1 m6.out _, putF_far n5.out.2 hne _⟩)
            have n6 := Lib.hid (show InVar v43 G6 yb fb from by rw [hw]; exact ⟨putF_facts rYb.out m6.out _, putF_blk m6.out _⟩)
            clear hw hw' m6 rYb
            refine wpPT_done (NoPanic.normal ?_)
            exact key G5 G6 v43 ya yb ⟨n5.out, n6.out, bW⟩
        · go_simp
          obtain ⟨G6, hG⟩ : ∃ G, G = U.heap.size := ⟨_, rfl⟩
          obtain ⟨v44, hw⟩ : ∃ X : World, X = U.alloc (.cells #[.slice none 0 0, .slice none 0 0, .slice none 0 0] 27) := ⟨_, rfl⟩
          rw [← hw, ← hG]
          have b : Below U.heap.size U v44 := by rw [hw]; exact (Below.refl _ _).alloc (Nat.le_refl _) _
          have hW6 : U.heap.size ≤ G6 := by rw [hG]; exact bW.size
          replace bW := below_trans2 bW b
          refine hK _ _ bW ?_
          clear hK K
          have m6 := Lib.hid (show Blk v44 G6 27 zF from by rw [hw, hG]; exact Blk.new _ _ _)
          clear hw hG
          clear b
          refine wpPT_two rfl (by rfl) rfl (by rfl) (fun K hK => ?_) (fun K hK => ?_)
          · go_simp
            refine (cCa.out v44 (hBU.out.later bW).f).mono ?_; rintro e v45 ⟨ya, rfl, rYa, b⟩
            replace bW := below_trans2 bW b
            refine hK _ _ bW ?_
            clear hK K
            replace m6 := Lib.hid (m6.out.below b m6.out.lt)
            replace rYa := Lib.hid rYa
            clear b
            refine wpPT_two rfl (by rfl) rfl (by rfl) (fun K hK => ?_) (fun K hK => ?_)
            · go_simp
              refine (cCb.out v45 (hBU.out.later bW).f).mono ?_; rintro e v46 ⟨yb, rfl, rYb, b⟩
              replace bW := below_trans2 bW b
              refine hK _ _ bW ?_
              clear hK K
              replace m6 := Lib.hid (m6.out.below b m6.out.lt)
              replace rYa := Lib.hid (rYa.out.below b)
              replace rYb := Lib.hid rYb
              clear b
              refine wpPT_one rfl (by rfl) (fun K hK => ?_)
              go_simp
              obtain ⟨G5, hG⟩ : ∃ G, G = v46.heap.size := ⟨_, rfl⟩
              obtain ⟨v47, hw⟩ : ∃ X : World, X = v46.alloc (.cells #[.slice none 0 0, .slice none 0 0, .slice none 0 0] 27) := ⟨_, rfl⟩
              rw [← hw, ← hG]
              have b : Below v46.heap.size v46 v47 := by rw [hw]; exact (Below.refl _ _).alloc (Nat.le_refl _) _
              have hW5 : U.heap.size ≤ G5 := by rw [hG]; exact bW.size
              have hne : G5 ≠ G6 := by have := m6.out.lt; omega
              replace bW := below_trans2 bW b
              refine hK _ _ bW ?_
              clear hK K
              have m5 := Lib.hid (show Blk v47 G5 27 zF from by rw [hw, hG]; exact Blk.new _ _ _)
              clear hw hG
              replace m6 := Lib.hid (show Blk v47 G6 27 zF from m6.out.below b m6.out.lt)
              replace rYa := Lib.hid (rYa.out.below b)
              replace rYb := Lib.hid (rYb.out.below b)
              clear b
              have f0 := m5.out.cell 0
              have f1 := m5.out.cell 1
              have f2 := m5.out.cell 2
              simp only [zF, List.getElem?_cons_zero, List.getElem?_cons_succ] at f0 f1 f2
              have g0 := m5.out.frozen 0
              have g1 := m5.out.frozen 1
              have g2 := m5.out.frozen 2
              refine wpPT_one rfl (by rfl) (fun K hK => ?_)
              go_simp
              obtain ⟨v48, hw⟩ : ∃ X : World, X = putF v47 G5 ya := ⟨_, rfl⟩
              have hw' := hw
              unfold putF at hw'
              rw [← hw']
              replace bW : Below U.heap.size U v48 := by rw [hw]; exact putF_below bW hW5 _
              refine hK _ _ bW ?_
              clear hK K f0 f1 f2 g0 g1 g2
              have n5 := Lib.hid (show InVar v48 G5 ya fa from by rw [hw]; exact ⟨putF_facts rYa.out m5.out _, putF_blk m5.out _⟩)
              replace rYb := Lib.hid (show FactsAt v48 yb fb from by rw [hw]; exact putF_facts rYb.out m5.out _)
              replace m6 := Lib.hid (show Blk v48 G6 27 zF from by rw [hw]; exact putF_far m6.out (fun h => hne h.symm) _)
              clear hw hw' m5 rYa
              have f0 := m6.out.cell 0
              have f1 := m6.out.cell 1
              have f2 := m6.out.cell 2
              simp only [zF, List.getElem?_cons_zero, List.getElem?_cons_succ] at f0 f1 f2
              have g0 := m6.out.frozen 0
              have g1 := m6.out.frozen 1
              have g2 := m6.out.frozen 2
              refine wpPT_one rfl (by rfl) (fun K hK => ?_)
              go_simp
              obtain ⟨v49, hw⟩ : ∃ X : World, X = putF v48 G6 yb := ⟨_, rfl⟩
              have hw' := hw
              unfold putF at hw'
              rw [← hw']
              replace bW : Below U.heap.size U v49 := by rw [hw]; exact putF_below bW hW6 _
              refine hK _ _ bW ?_
              clear hK K f0 f1 f2 g0 g1 g2
              replace n5 := Lib.hid (show InVar v49 G5 ya fa from by rw [hw]; exact ⟨putF_facts n5.out.1 m6.out _, putF_far n5.out.2 hne _⟩)
              have n6 := Lib.hid (show InVar v49 G6 yb fb from by rw [hw]; exact ⟨putF_facts rYb.out m6.out _, putF_blk m6.out _⟩)
              clear hw hw' m6 rYb
              refine wpPT_done (NoPanic.normal ?_)
              exact key G5 G6 v49 ya yb ⟨n5.out, n6.out, bW⟩
            · go_simp
              obtain ⟨G5, hG⟩ : ∃ G, G = v45.heap.size := ⟨_, rfl⟩
              obtain ⟨v50, hw⟩ : ∃ X : World, X = v45.alloc (.cells #[.slice none 0 0, .slice none 0 0, .slice none 0 0] 27) := ⟨_, rfl⟩
              rw [← hw, ← hG]
              have b : Below v45.heap.size v45 v50 := by rw [hw]; exact (Below.refl _ _).alloc (Nat.le_refl _) _
              have hW5 : U.heap.size ≤ G5 := by rw [hG]; exact bW.size
              have hne : G5 ≠ G6 := by have := m6.out.lt; omega
              replace bW := below_trans2 bW b
              refine hK _ _ bW ?_
              clear hK K
              have m5 := Lib.hid (show Blk v50 G5 27 zF from by rw [hw, hG]; exact Blk.new _ _ _)
              clear hw hG
              replace m6 := Lib.hid (show Blk v50 G6 27 zF from m6.out.below b m6.out.lt)
              replace rYa := Lib.hid (rYa.out.below b)
              clear b
              refine wpPT_one rfl (by rfl) (fun K hK => ?_)
              go_simp
              refine (cCb.out v50 (hBU.out.later bW).f).mono ?_; rintro e v51 ⟨yb, rfl, rYb, b⟩
              replace bW := below_trans2 bW b
              refine hK _ _ bW ?_
              clear hK K
              replace m6 := Lib.hid (m6.out.below b m6.out.lt)
              replace rYa := Lib.hid (rYa.out.below b)
              replace m5 := Lib.hid (m5.out.below b m5.out.lt)
              replace rYb := Lib.hid rYb
              clear b
              have f0 := m5.out.cell 0
              have f1 := m5.out.cell 1
              have f2 := m5.out.cell 2
              simp only [zF, List.getElem?_cons_zero, List.getElem?_cons_succ] at f0 f1 f2
              have g0 := m5.out.frozen 0
              have g1 := m5.out.frozen 1
              have g2 := m5.out.frozen 2
              refine wpPT_one rfl (by rfl) (fun K hK => ?_)
              go_simp
              obtain ⟨v52, hw⟩ : ∃ X : World, X = putF v51 G5 ya := ⟨_, rfl⟩
              have hw' := hw
              unfold putF at hw'
              rw [← hw']
              replace bW : Below U.heap.size U v52 := by rw [hw]; exact putF_below bW hW5 _
              refine hK _ _ bW ?_
              clear hK K f0 f1 f2 g0 g1 g2
              have n5 := Lib.hid (show InVar v52 G5 ya fa from by rw [hw]; exact ⟨putF_facts rYa.out m5.out _, putF_blk m5.out _⟩)
              replace rYb := Lib.hid (show FactsAt v52 yb fb from by rw [hw]; exact putF_facts rYb.out m5.out _)
              replace m6 := Lib.hid (show Blk v52 G6 27 zF from by rw [hw]; exact putF_far m6.out (fun h => hne h.symm) _)
              clear hw hw' m5 rYa
              have f0 := m6.out.cell 0
              have f1 := m6.out.cell 1
              have f2 := m6.out.cell 2
              simp only [zF, List.getElem?_cons_zero, List.getElem?_cons_succ] at f0 f1 f2
              have g0 := m6.out.frozen 0
              have g1 := m6.out.frozen 1
              have g2 := m6.out.frozen 2
              refine wpPT_one rfl (by rfl) (fun K hK => ?_)
              go_simp
              obtain ⟨v53, hw⟩ : ∃ X : World, X = putF v52 G6 yb := ⟨_, rfl⟩
              have hw' := hw
              unfold putF at hw'
              rw [← hw']
              replace bW : Below U.heap.size U v53 := by rw [hw]; exact putF_below bW hW6 _
              refine hK _ _ bW ?_
              clear hK K f0 f1 f2 g0 g1 g2
              replace n5 := Lib.hid (show InVar v53 G5 ya fa from by rw [hw]; exact ⟨putF_facts n5.out.1 m6.out _, putF_far n5.out.2 hne _⟩)
              have n6 := Lib.hid (show InVar v53 G6 yb fb from by rw [hw]; exact ⟨putF_facts rYb.out m6.out _, putF_blk m6.out _⟩)
              clear hw hw' m6 rYb
              refine wpPT_done (NoPanic.normal ?_)
              exact key G5 G6 v53 ya yb ⟨n5.out, n6.out, bW⟩
          · go_simp
            obtain ⟨G5, hG⟩ : ∃ G, G = v44.heap.size := ⟨_, rfl⟩
            obtain ⟨v54, hw⟩ : ∃ X : World, X = v44.alloc (.cells #[.slice none 0 0, .slice none 0 0, .slice none 0 0] 27) := ⟨_, rfl⟩
            rw [← hw, ← hG]
            have b : Below v44.heap.size v44 v54 := by rw [hw]; exact (Below.refl _ _).alloc (Nat.le_refl _) _
            have hW5 : U.heap.size ≤ G5 := by rw [hG]; exact bW.size
            have hne : G5 ≠ G6 := by have := m6.out.lt; omega
            replace bW := below_trans2 bW b
            refine hK _ _ bW ?_
            clear hK K
            have m5 := Lib.hid (show Blk v54 G5 27 zF from by rw [hw, hG]; exact Blk.new _ _ _)
            clear hw hG
            replace m6 := Lib.hid (show Blk v54 G6 27 zF from m6.out.below b m6.out.lt)
            clear b
            refine wpPT_one rfl (by rfl) (fun K hK => ?_)
            go_simp
            refine (cCa.out v54 (hBU.out.later bW).f).mono ?_; rintro e v55 ⟨ya, rfl, rYa, b⟩
            replace bW := below_trans2 bW b
            refine hK _ _ bW ?_
            clear hK K
            replace m6 := Lib.hid (m6.out.below b m6.out.lt)
            replace m5 := Lib.hid (m5.out.below b m5.out.lt)
            replace rYa := Lib.hid rYa
            clear b
            refine wpPT_one rfl (by rfl) (fun K hK => ?_)
            go_simp
            refine (cCb.out v55 (hBU.out.later bW).f).mono ?_; rintro e v56 ⟨yb, rfl, rYb, b⟩
            replace bW := below_trans2 bW b
            refine hK _ _ bW ?_
            clear hK K
            replace m6 := Lib.hid (m6.out.below b m6.out.lt)
            replace m5 := Lib.hid (m5.out.below b m5.out.lt)
            replace rYa := Lib.hid (rYa.out.below b)
            replace rYb := Lib.hid rYb
            clear b
            have f0 := m5.out.cell 0
            have f1 := m5.out.cell 1
            have f2 := m5.out.cell 2
            simp only [zF, List.getElem?_cons_zero, List.getElem?_cons_succ] at f0 f1 f2
            have g0 := m5.out.frozen 0
            have g1 := m5.out.frozen 1
            have g2 := m5.out.frozen 2
            refine wpPT_one rfl (by rfl) (fun K hK => ?_)
            go_simp
            obtain ⟨v57, hw⟩ : ∃ X : World, X = putF v56 G5 ya := ⟨_, rfl⟩
            have hw' := hw
            unfold putF at hw'
            rw [← hw']
            replace bW : Below U.heap.size U v57 := by rw [hw]; exact putF_below bW hW5 _
            refine hK _ _ bW ?_
            clear hK K f0 f1 f2 g0 g1 g2
            have n5 := Lib.hid (show InVar v57 G5 ya fa from by rw [hw]; exact ⟨putF_facts rYa.out m5.out _, putF_blk m5.out _⟩)
            replace rYb := Lib.hid (show FactsAt v57 yb fb from by rw [hw]; exact putF_facts rYb.out m5.out _)
            replace m6 := Lib.hid (show Blk v57 G6 27 zF from by rw [hw]; exact putF_far m6.out (fun h => hne h.symm) _)
            clear hw hw' m5 rYa
            have f0 := m6.out.cell 0
            have f1 := m6.out.cell 1
            have f2 := m6.out.cell 2
            simp only [zF, List.getElem?_cons_zero, List.getElem?_cons_succ] at f0 f1 f2
            have g0 := m6.out.frozen 0
            have g1 := m6.out.frozen 1
            have g2 := m6.out.frozen 2
            refine wpPT_one rfl (by rfl) (fun K hK => ?_)
            go_simp
            obtain ⟨v58, hw⟩ : ∃ X : World, X = putF v57 G6 yb := ⟨_, rfl⟩
            have hw' := hw
            unfold putF at hw'
            rw [← hw']
            replace bW : Below U.heap.size U v58 := by rw [hw]; exact putF_below bW hW6 _
            refine hK _ _ bW ?_
            clear hK K f0 f1 f2 g0 g1 g2
            replace n5 := Lib.hid (show InVar v58 G5 ya fa from by rw [hw]; exact ⟨putF_facts n5.out.1 m6.out _, putF_far n5.out.2 hne _⟩)
            have n6 := Lib.hid (show InVar v58 G6 yb fb from by rw [hw]; exact ⟨putF_facts rYb.out m6.out _, putF_blk m6.out _⟩)
            clear hw hw' m6 rYb
            refine wpPT_done (NoPanic.normal ?_)
            exact key G5 G6 v58 ya yb ⟨n5.out, n6.out, bW⟩
      · intro G5 G6 wz ya yb hk
        subst hfb
        have hB7 := Lib.hid (hBU.out.later hk.2.2)
        have n5 := Lib.hid hk.1
        have n6 := Lib.hid hk.2.1
        have hLz := Lib.hid (hLU.out.below hk.2.2)
        clear hk hBU hLU p0 p1 p2 cCa cCb bW
        have p0 := hB7.out.c0
        have p1 := hB7.out.c1
        have p2 := hB7.out.c2
        -- g := f; g.From = from
        obtain ⟨gk, hgk⟩ : ∃ g, g = wz.heap.size := ⟨_, rfl⟩
        obtain ⟨wx, hwx⟩ : ∃ W, W = wz.alloc (.cells #[.slice v.A v.n v.c, .slice v.B v.m v.d, .slice v.C v.k v.e] 27) := ⟨_, rfl⟩
        have bx : Below wz.heap.size wz wx := by rw [hwx]; exact (Below.refl _ _).alloc (Nat.le_refl _) _
        have kx : Blk wx gk 27 [.slice v.A v.n v.c, .slice v.B v.m v.d, .slice v.C v.k v.e] := by rw [hwx, hgk]; exact Blk.new wz _ _
        obtain ⟨wy, hwy⟩ : ∃ W, W = wx.setCell ⟨gk, 2, none⟩ (.slice B m d) := ⟨_, rfl⟩
        have by_ : Below wz.heap.size wz wy := by rw [hwy]; exact bx.setCell (p := ⟨gk, 2, none⟩) (by rw [hgk]; exact Nat.le_refl _) _
        obtain ⟨fg, hfg⟩ : ∃ fg : Fac, fg = ⟨f.vars, f.items, frm⟩ := ⟨_, rfl⟩
        obtain ⟨vg, hvg⟩ : ∃ vg : FV, vg = ⟨v.A, v.n, v.c, v.B, v.m, v.d, B, m, d⟩ := ⟨_, rfl⟩
        have n7 := Lib.hid (show InVar wy gk vg fg from by
          have hfx : FactsAt wx vg fg := by
            rw [hvg, hfg]
            exact ⟨(hB7.out.f.below bx).vs, hB7.out.f.vc, hB7.out.f.vm, (hB7.out.f.below bx).is, hB7.out.f.ic, hB7.out.f.im, hLz.out.below bx, hmd, hd⟩
          rw [hwy, hvg]
          rw [hvg] at hfx
          exact ⟨hfx.setBlk kx (fun u hu => by simp only [List.mem_cons, List.not_mem_nil, or_false] at hu; rcases hu with rfl | rfl | rfl <;> exact ⟨_, _, _, rfl⟩) _, Blk.set_ kx 2 _⟩)
        have y2 : wx.cell? ⟨gk, 2, none⟩ = some (.slice v.C v.k v.e) := kx.cell 2
        have fz2 := kx.frozen 2
        replace n5 := Lib.hid (n5.out.below by_)
        replace n6 := Lib.hid (n6.out.below by_)
        have bb := Lib.hid (below_trans2 hB7.out.o by_)
        have hvgm : vg.m ≤ 40 := by rw [hvg]; exact hm60
        replace hvg := Lib.hid hvg
        replace hfg := Lib.hid hfg
        clear bx kx by_ hB7 hLz
        go_wp2_with (first | (rw [← hwx, ← hgk]; clear hwx; replace hgk := Lib.hid hgk) | (rw [← hwy]; clear hwy))
        clear p0 p1 p2 y2 fz2
        refine wp_region_plan 23 [(false, 0), (true, 1), (true, 2), (true, 3), (false, 4), (true, 5), (true, 6), (true, 7), (true, 9), (false, 8), (false, 10), (true, 11), (true, 12), (true, 13), (true, 14), (true, 15), (true, 17), (true, 18), (false, 16), (false, 19), (false, 20), (true, 21), (true, 22)] (by kernel_rfl) (by kernel_rfl) (fun X hX => ?_)
        have bX : Below wy.heap.size wy X := by rw [hX.out]; exact (Below.refl _ _).drew
        replace n5 := Lib.hid (n5.out.below bX)
        replace n6 := Lib.hid (n6.out.below bX)
        replace n7 := Lib.hid (n7.out.below bX)
        replace bb := Lib.hid (below_trans2 bb.out bX)
        clear bX hX
        simp only [List.drop_succ_cons, List.drop_nil]
        refine wpPlan_only rfl (by rfl) (fun K hK => ?_)
        go_simp
        refine (law11_awake X).mono ?_
        rintro e x1 ⟨rfl, b⟩
        refine hK _ _ b ?_
        clear hK K
        replace n5 := Lib.hid (n5.out.below b)
        replace n6 := Lib.hid (n6.out.below b)
        replace n7 := Lib.hid (n7.out.below b)
        replace bb := Lib.hid (below_trans2 bb.out b)
        clear b
        have a0 := n5.out.c0
        have a1 := n5.out.c1
        have a2 := n5.out.c2
        have b0 := n6.out.c0
        have b1 := n6.out.c1
        have b2 := n6.out.c2
        iterate 3
          refine wpPlan_float (v := ?_) rfl (by rfl) (fun w' hw' => ?_) (fun K hK => ?_)
          rotate_left
          · (go_simp; try with_reducible rfl)
          go_simp
          refine hK _ ?_
          clear hK K
        have cS := ref9_Same ya yb fb fb x1 n5.out.1 n6.out.1
        rw [decide_eq_true rfl] at cS
        replace cS := Lib.hid cS
        refine wpPlan_only rfl (by rfl) (fun K hK => ?_)
        go_simp
        refine cS.out.mono ?_
        clear a0 a1 a2 b0 b1 b2
        rintro e x2 ⟨rfl, b⟩
        refine hK _ _ b ?_
        clear hK K
        replace n5 := Lib.hid (n5.out.below b)
        replace n6 := Lib.hid (n6.out.below b)
        replace n7 := Lib.hid (n7.out.below b)
        replace bb := Lib.hid (below_trans2 bb.out b)
        clear b
        clear cS
        have a0 := n7.out.c0
        have a1 := n7.out.c1
        have a2 := n7.out.c2
        iterate 4
          refine wpPlan_float (v := ?_) rfl (by rfl) (fun w' hw' => ?_) (fun K hK => ?_)
          rotate_left
          · (go_simp; try with_reducible rfl)
          go_simp
          refine hK _ ?_
          clear hK K
        obtain ⟨ob, hob⟩ : ∃ b, b = decide (fg.frm = fromF fg.items) := ⟨_, rfl⟩
        replace hob := Lib.hid hob
        have cA := origin_Whole vg fg x2 n7.out.1 (by omega) (by rw [hfg.out]; exact hdf.out)
        rw [← hob.out] at cA
        replace cA := Lib.hid cA
        refine wpPlan_only rfl (by rfl) (fun K hK => ?_)
        go_simp
        refine cA.out.mono ?_
        clear a0 a1 a2
        rintro e x3 ⟨rfl, b⟩
        refine hK _ _ b ?_
        clear hK K
        replace n5 := Lib.hid (n5.out.below b)
        replace n6 := Lib.hid (n6.out.below b)
        replace n7 := Lib.hid (n7.out.below b)
        replace bb := Lib.hid (below_trans2 bb.out b)
        clear b
        clear cA
        have cA := ref11_Whole vg fg x3 n7.out.1 (by omega)
        rw [← hob.out] at cA
        replace cA := Lib.hid cA
        refine wpPlan_only rfl (by rfl) (fun K hK => ?_)
        go_simp
        refine cA.out.mono ?_
        rintro e x4 ⟨rfl, b⟩
        refine hK _ _ b ?_
        clear hK K
        replace n5 := Lib.hid (n5.out.below b)
        replace n6 := Lib.hid (n6.out.below b)
        replace n7 := Lib.hid (n7.out.below b)
        replace bb := Lib.hid (below_trans2 bb.out b)
        clear b
        clear cA
        have a0 := n6.out.c0
        have a1 := n6.out.c1
        have a2 := n6.out.c2
        have hbm : Hid (yb.m ≤ 40 ∧ yb.k = yb.m) := Lib.hid (by
          have h1 := n6.out.1.is.len
          have h2 := n6.out.1.fs.len
          rw [hfa.out] at h1 h2
          have h3 : (fillF f).items = f.items := rfl
          have h4 : (fillF f).frm = fromF f.items := rfl
          rw [h3] at h1
          rw [h4, fromF_len] at h2
          have h5 := n7.out.1.is.len
          rw [hfg.out] at h5
          have h6 : (⟨f.vars, f.items, frm⟩ : Fac).items = f.items := rfl
          rw [h6] at h5
          omega)
        refine wpPlan_float (v := .bool true) rfl (by rfl) (fun w' hw' => ?_) (fun K hK => ?_)
        · go_simp
        go_simp
        refine hK _ ?_
        clear hK K
        iterate 6
          refine wpPlan_float (v := ?_) rfl (by rfl) (fun w' hw' => ?_) (fun K hK => ?_)
          rotate_left
          · (go_simp; try with_reducible rfl)
          go_simp
          refine hK _ ?_
          clear hK K
        have cR := origin_Readers yb fb x x4 n6.out.1 (by have := hbm.out.1; omega) (by rw [hfa.out]; rfl)
        have cR2 := fun W hW => ref11_Readers yb fb x W hW (by have := hbm.out.1; omega) hbm.out.2
        obtain ⟨rl, hrl⟩ : ∃ l, l = readF fb.frm x fb.items.length := ⟨_, rfl⟩
        rw [← hrl] at cR cR2
        replace cR := Lib.hid cR
        replace cR2 := Lib.hid cR2
        replace hrl := Lib.hid hrl
        refine wpPlan_only rfl (by rfl) (fun K hK => ?_)
        go_simp
        refine cR.out.mono ?_
        clear a0 a1 a2
        rintro e x5 ⟨A1, n1, c1, rfl, hL1, hn1, hm1, b⟩
        refine hK _ _ b ?_
        clear hK K
        replace n5 := Lib.hid (n5.out.below b)
        replace n6 := Lib.hid (n6.out.below b)
        replace n7 := Lib.hid (n7.out.below b)
        replace bb := Lib.hid (below_trans2 bb.out b)
        clear b
        replace hL1 := Lib.hid hL1
        clear cR
        refine wpPlan_only rfl (by rfl) (fun K hK => ?_)
        go_simp
        refine (cR2.out x5 n6.out.1).mono ?_
        rintro e x6 ⟨A2, n2, c2, rfl, hL2, hn2, hm2, b⟩
        refine hK _ _ b ?_
        clear hK K
        replace bb := Lib.hid (below_trans2 bb.out b)
        have cI := ref2_IntsL A1 A2 n1 c1 n2 c2 rl rl x6 (hL1.out.below b) hL2 (by omega) (by omega)
        rw [decide_eq_true rfl] at cI
        replace cI := Lib.hid cI
        clear b cR2 hL2 hL1
        refine wpPlan_only rfl (by rfl) (fun K hK => ?_)
        go_simp
        refine cI.out.mono ?_
        rintro e x7 ⟨rfl, q, rfl⟩
        refine hK _ _ (below_drewN (Below.refl _ _) q) ?_
        clear hK K
        iterate 2
          refine wpPlan_float (v := ?_) rfl (by rfl) (fun w' hw' => ?_) (fun K hK => ?_)
          rotate_left
          · (go_simp; try with_reducible rfl)
          go_simp
          refine hK _ ?_
          clear hK K
        refine wpPlan_nil (NoPanic.normal ?_)
        go_wp2_with fail
        go_ret
        exact ⟨rfl, below_drewN bb.out q⟩
    · have h60 : (60 : Int) < (m : Int) := by omega
      clear hmf
      go_wp2_with (rw [← hV, ← hg]; clear hV; replace hg := Lib.hid hg)
      refine (law11_awake V).mono ?_; rintro e w9 ⟨rfl, b9⟩
      go_wp2_with fail
      go_ret
      exact ⟨rfl, below_trans2 hB.out.o b9⟩
end Go.Proofs.Ytcdfpodhiogpiaa
