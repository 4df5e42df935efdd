/- Layer 17's law ClashMore, walked (where what comes in is of no more than 2^40 operations). -/
import Derived.Test.YtpbiilhclmcehaaClashMorePk11
import Derived.Test.YtpbiilhclmcehaaClashMorePk6
import Derived.Test.YtpbiilhclmcehaaClashMorePk5
import Derived.Test.YtpbiilhclmcehaaClashMorePk4
import Derived.Test.YtpbiilhclmcehaaClashMorePk8
namespace Go.Proofs.Ytpbiilhclmcehaa
open Go.RowKit
set_option linter.unusedVariables false
theorem Pairs8.nil (w : World) (A : Option Addr) : Pairs8 w A 0 [] := ⟨rfl, fun p h => by simp at h, fun h => absurd h (by omega)⟩
theorem edge_facts {f : Fac} {M : List (List Nat)} {i : Nat} {y : Ed} (h : (edgesF f M)[i]? = some y) : ∃ a b r : Nat, a < f.items.length ∧ b < f.items.length ∧ r < f.items.length ∧ y = ⟨(a : Int), (b : Int), (r : Int)⟩ ∧ a ≠ b ∧
    (∀ u v, f.items[a]? = some u → f.items[b]? = some v → u.wr = true ∧ v.wr = true ∧ u.va = v.va) ∧ f.frm.getD r 0 = (b : Int) ∧ hasM M (a : Int) (r : Int) = true := by
  obtain ⟨a, b, r, h1, h2, h3, h4, h5⟩ := mem_edgesF.1 (List.mem_of_getElem? h)
  unfold clB at h5
  simp only [Bool.and_eq_true, decide_eq_true_eq] at h5
  refine ⟨a, b, r, h1, h2, h3, h4, h5.1.1.1, fun u v hu hv => ?_, h5.1.2, h5.2⟩
  have h6 := h5.1.1.2
  rw [bothW_at hu hv] at h6
  simp only [Bool.and_eq_true, decide_eq_true_eq] at h6
  exact ⟨h6.1.1, h6.1.2, h6.2⟩
theorem take_mem {l : List Ed} {k : Nat} {y x : Ed} (h : l[k]? = some y) : decide (x ∈ l.take (k + 1)) = (decide (x ∈ l.take k) || decide (x = y)) := by
  have hk := (List.getElem?_eq_some_iff.1 h).1
  rw [List.take_succ_eq_append_getElem hk, (List.getElem?_eq_some_iff.1 h).2]
  by_cases h1 : x ∈ l.take k <;> by_cases h2 : x = y <;> simp [h1, h2]
set_option maxRecDepth 100000 in
set_option maxHeartbeats 8000000 in
theorem law17_ClashMore (A B : Option Addr) (n c m d : Nat) (hs : List (List OpT)) (ps : List (Nat × Nat)) (w : World) (hX : HistAt w A n hs) (hP : Pairs8 w B m ps) (hm63 : m ≤ 9223372036854775807) (hnc : n ≤ c) (hc : c ≤ 1099511627776) (hF : (allO hs).length ≤ 1099511627776) :
    Calls Try.prog 4 #[.slice A n c, .slice B m d] w (RetBool true w) := by
  by_cases hm40 : m ≤ 20
  · have hml : decide ((20 : Int) < (m : Int)) = false := decide_eq_false (by omega)
    have hmlt : ¬ (20 : Int) < (m : Int) := by omega
    -- a law of one history hs (at A n c) that guards itself by Small 20, then asks for whole facts: walked to where they lie (hB : FBox w g x f V, V not yet named: hV, hg); f's hf, hw, hm30
    have hXl := Lib.hid hX.len
    have cS := Lib.hid (ref6_Small A n c 20 hs w hX (by omega) (by omega))
    replace hX := Lib.hid hX
    cases hsa : smallL hs 20 with
    | false =>
      rw [hsa] at cS
      clear hsa
      go_enter Try.func4, Try.ntmps4
      go_wp2_with fail
      refine cS.out.mono ?_; rintro e w1 ⟨rfl, b1⟩
      go_wp2_with fail
      refine (law17_awake w1).mono ?_; rintro e w9 ⟨rfl, b9⟩
      go_wp2_with fail
      go_ret
      exact ⟨rfl, below_trans2 b1 b9⟩
    | true =>
      rw [hsa] at cS
      obtain ⟨hnx, hFx, hnm8⟩ := smallL_says hsa
      rw [hXl.out] at hnx
      replace hnm8 := Lib.hid hnm8
      clear hsa
      go_enter Try.func4, Try.ntmps4
      go_wp2_with fail
      refine cS.out.mono ?_; rintro e w1 ⟨rfl, b1⟩
      replace hX := Lib.hid (hX.out.below b1)
      have c1 := Lib.hid (ref11_Of A n c hs w1 hX.out (by omega) (by omega))
      go_wp2_with fail
      refine c1.out.mono ?_; rintro e w3 ⟨x, rfl, hG, b3⟩
      obtain ⟨V, hV⟩ : ∃ W, W = w3.alloc (.cells #[.slice x.A x.n x.c, .slice x.B x.m x.d, .slice x.C x.k x.e] 30) := ⟨_, rfl⟩
      obtain ⟨g, hg⟩ : ∃ g, g = w3.heap.size := ⟨_, rfl⟩
      have bV : Below w3.heap.size w3 V := by rw [hV]; exact (Below.refl _ _).alloc (Nat.le_refl _) _
      cases hok : okO11 hs with
      | false =>
        have bb := Lib.hid (below_trans2 (below_trans2 b1 b3) bV)
        clear hG b1 b3 bV hok c1 cS
        go_wp2_with (rw [← hV, ← hg]; clear hV; replace hg := Lib.hid hg)
        refine (law17_awake V).mono ?_; rintro e w9 ⟨rfl, b9⟩
        go_wp2_with fail
        go_ret
        exact ⟨rfl, below_trans2 bb.out b9⟩
      | true =>
        obtain ⟨f, hf⟩ : ∃ f : Fac, f = fillF (facO hs) := ⟨_, rfl⟩
        have hGf := hG hok
        rw [← hf] at hGf
        have hw : WholeF f := by rw [hf]; exact fillF_whole _
        have hff : f.frm = fromF f.items := by rw [hf]; rfl
        have hm30 : x.m ≤ 20 := by
          rw [← hGf.is.len, hf]
          show (hisF hs).2.length ≤ 20
          rw [hisF_len]; omega
        have hB := Lib.hid ((FBox.new hGf).from_ (below_trans2 b1 b3))
        rw [← hV, ← hg] at hB
        replace hX := Lib.hid ((hX.out.below b3).below bV)
        replace hok := Lib.hid hok
        replace hf := Lib.hid hf
        clear hG hGf b1 b3 bV c1 cS
        clear hX
        replace hml := Lib.hid hml
        replace hmlt := Lib.hid hmlt
        replace hP := Lib.hid (show Pairs8 V B m ps from hP.below hB.out.o)
        have hil := hB.out.f.is.len
        have hkm := Lib.hid (show x.k = x.m from by rw [← hil, ← hB.out.f.fs.len]; exact hw.len)
        have gC : Good x.m (coM f) := by rw [← hil]; exact (coM_hull hw (by omega)).1
        have cOa := fun W hW => law17_order x f none 0 0 [] W hW (Pairs8.nil _ _) (by omega) hw (by omega)
        rw [ordM_nil] at cOa
        have cOb := fun W hW hP => law17_order x f B m d ps W hW hP (by omega) hw (by omega)
        have hmo : ∀ i j, Rel (coM f) i j → Rel (ordM x.m (coM f) ps) i j := fun i j h => ordM_more gC ps h
        have gX := ordM_good gC ps
        obtain ⟨am, ham⟩ : ∃ M, M = coM f := ⟨_, rfl⟩
        obtain ⟨bm, hbm⟩ : ∃ M, M = ordM x.m (coM f) ps := ⟨_, rfl⟩
        rw [← hbm] at cOb hmo gX
        rw [← ham] at cOa hmo gC
        have cEa := fun A c W hW hR hc => clash_Edges x f A c am W hW hR gC (by omega) hc hw hff
        have cEb := fun A c W hW hR hc => clash_Edges x f A c bm W hW hR gX (by omega) hc hw hff
        have cF := fun A c W hW hR hc => clash_Cf x f A c bm W hW hR gX (by omega) hc hw hff
        have hsub : Hid (∀ y ∈ edgesF f am, y ∈ edgesF f bm) := Lib.hid (edgesF_more hmo)
        have hef : Hid (∀ (i : Nat) (y : Ed), (edgesF f bm)[i]? = some y → _) := Lib.hid (fun i y h => edge_facts h)
        have gX' : Good f.items.length bm := by rw [hil]; exact gX
        have hhu := Lib.hid (cfM_hull gX')
        have hedm : Hid (∀ y ∈ edgesF f bm, hasM (cfM f bm) y.w1 y.w2 = true) := Lib.hid (fun y hy => by
          obtain ⟨a, b, r, h1, h2, h3, rfl, h5⟩ := mem_edgesF.1 hy
          exact (hhu.out.2 a b).2 (.one ((cfX_rel gX' a b).2 (.inr (List.mem_map.2 ⟨_, hy, rfl⟩)))))
        have hsb : Hid (subM bm (cfM f bm) = true) := Lib.hid ((sub_rel gX' hhu.out.1).2 fun i j h => (hhu.out.2 i j).2 (.one ((cfX_rel gX' i j).2 (.inl h))))
        have hclo : Hid (closedB (cfM f bm) = true) := Lib.hid ((closedB_iff hhu.out.1).2 hhu.out.closed)
        have gF := hhu.out.1
        rw [hil] at gF
        have hcN : cfN f bm = if cfO f bm = true then 0 else (x.m : Int) := by unfold cfN; rw [hil]
        have hcO : cfO f bm = loopB x.m (cfM f bm) := by unfold cfO; rw [hil]
        replace hcN := Lib.hid hcN
        replace hcO := Lib.hid hcO
        obtain ⟨es, hes⟩ : ∃ l, l = edgesF f am := ⟨_, rfl⟩
        obtain ⟨es2, hes2⟩ : ∃ l, l = edgesF f bm := ⟨_, rfl⟩
        rw [← hes] at cEa hsub
        rw [← hes2] at cEb hsub hef hedm
        have hcla := Lib.hid gC.len
        have hclb := Lib.hid gX.len
        have hpa := Lib.hid (fun xs (hx : xs ∈ am) => rows_len_pos gC (by have := gC.len; have := List.length_pos_of_mem hx; omega) xs hx)
        have hpb := Lib.hid (fun xs (hx : xs ∈ bm) => rows_len_pos gX (by have := gX.len; have := List.length_pos_of_mem hx; omega) xs hx)
        replace cEa := Lib.hid cEa
        replace cEb := Lib.hid cEb
        replace cF := Lib.hid cF
        replace cOa := Lib.hid cOa
        replace cOb := Lib.hid cOb
        replace gX := Lib.hid gX
        replace gF := Lib.hid gF
        replace hil := Lib.hid hil
        clear hmo gC ham hbm gX' hhu hes hes2
        go_wp2_with (rw [← hV, ← hg]; clear hV; replace hg := Lib.hid hg)
        refine wp_region_tree (.flt 0 (.flt 2 (.flt 3 (.three 1 5 6 (.three 4 5 6 (.two 5 6 (.one 6 (.one 7 (.one 8 .done))) (.one 5 (.one 7 (.one 8 .done)))) (.two 4 6 (.one 6 (.one 7 (.one 8 .done))) (.one 4 (.one 7 (.one 8 .done)))) (.two 4 5 (.one 5 (.one 7 (.one 8 .done))) (.one 4 (.one 7 (.one 8 .done))))) (.two 1 6 (.two 4 6 (.one 6 (.one 7 (.one 8 .done))) (.one 4 (.one 7 (.one 8 .done)))) (.one 1 (.one 4 (.one 7 (.one 8 .done))))) (.two 1 5 (.two 4 5 (.one 5 (.one 7 (.one 8 .done))) (.one 4 (.one 7 (.one 8 .done)))) (.one 1 (.one 4 (.one 7 (.one 8 .done))))))))) (by kernel_rfl) (by kernel_rfl) (fun U2 hU => ?_)
        have hbU : Below V.heap.size V U2 := by rw [hU.out]; exact (Below.refl _ _).drew
        replace hB := Lib.hid (hB.out.later hbU)
        replace hP := Lib.hid (hP.out.below hbU)
        clear hU hbU
        obtain ⟨U, hU⟩ : ∃ U, U = U2 := ⟨_, rfl⟩
        subst hU
        have cCa := Lib.hid (fun W (hW : Below U.heap.size U W) => cOa.out W (hB.out.later hW).f)
        have cCb := Lib.hid (fun W (hW : Below U.heap.size U W) => cOb.out W (hB.out.later hW).f (hP.out.below hW))
        have bW : Below U.heap.size U U := Below.refl _ _
        apply cut_seven (F := fun (G5 G6 : Nat) (w9 : World) (Ca : Option Addr) (da : Nat) (Cb : Option Addr) (db : Nat) => MatK w9 G5 35 (x.m : Int) Ca x.m da am ∧ MatK w9 G6 35 (x.m : Int) Cb x.m db bm ∧ (x.m ≤ da ∧ x.m ≤ db) ∧ Below U.heap.size U w9)
        · intro key
          have p0 := hB.out.c0
          have p1 := hB.out.c1
          have p2 := hB.out.c2
          iterate 3
            refine wpPT_float (v := ?_) rfl (by rfl) (fun w' hw' => ?_) (fun K hK => ?_)
            rotate_left
            · (go_simp; try with_reducible rfl)
            go_simp
            refine hK _ ?_
            clear hK K
          refine wpPT_three rfl (by rfl) rfl (by rfl) rfl (by rfl) (fun K hK => ?_) (fun K hK => ?_) (fun K hK => ?_)
          · go_simp
            refine (cCa.out U bW).mono ?_; rintro e v1 ⟨Ca, nn, da, rfl, rCa, hda, b⟩
            obtain rfl : nn = x.m := by rw [← rCa.len]; exact hcla.out
            replace hda := Lib.hid hda
            replace bW := below_trans2 bW b
            refine hK _ _ bW ?_
            clear hK K
            replace rCa := Lib.hid rCa
            clear b
            refine wpPT_three rfl (by rfl) rfl (by rfl) rfl (by rfl) (fun K hK => ?_) (fun K hK => ?_) (fun K hK => ?_)
            · go_simp
              refine (cCb.out v1 bW).mono ?_; rintro e v2 ⟨Cb, nn, db, rfl, rCb, hdb, b⟩
              obtain rfl : nn = x.m := by rw [← rCb.len]; exact hclb.out
              replace hdb := Lib.hid hdb
              replace bW := below_trans2 bW b
              refine hK _ _ bW ?_
              clear hK K
              replace rCa := Lib.hid (rCa.out.below b)
              replace rCb := Lib.hid rCb
              clear b
              refine wpPT_two rfl (by rfl) rfl (by rfl) (fun K hK => ?_) (fun K hK => ?_)
              · go_simp
                obtain ⟨G5, hG⟩ : ∃ G, G = v2.heap.size := ⟨_, rfl⟩
                obtain ⟨v3, hw⟩ : ∃ X : World, X = v2.alloc (.cells #[.int .i64 0, .slice none 0 0] 35) := ⟨_, rfl⟩
                rw [← hw, ← hG]
                have b : Below v2.heap.size v2 v3 := by rw [hw]; exact below_alloc _ _
                have hW5 : U.heap.size ≤ G5 := by rw [hG]; exact bW.size
                replace bW := below_trans2 bW b
                refine hK _ _ bW ?_
                clear hK K
                have m5 := Lib.hid (show MatB v3 G5 35 0 none 0 0 by rw [hw, hG]; exact MatB.new _ _)
                clear hw hG
                replace rCa := Lib.hid (rCa.out.below b)
                replace rCb := Lib.hid (rCb.out.below b)
                clear b
                refine wpPT_one rfl (by rfl) (fun K hK => ?_)
                go_simp
                obtain ⟨G6, hG⟩ : ∃ G, G = v3.heap.size := ⟨_, rfl⟩
                obtain ⟨v4, hw⟩ : ∃ X : World, X = v3.alloc (.cells #[.int .i64 0, .slice none 0 0] 35) := ⟨_, rfl⟩
                rw [← hw, ← hG]
                have b : Below v3.heap.size v3 v4 := by rw [hw]; exact below_alloc _ _
                have hW6 : U.heap.size ≤ G6 := by rw [hG]; exact bW.size
                have hne : G5 ≠ G6 := by have := m5.out.lt; omega
                replace bW := below_trans2 bW b
                refine hK _ _ bW ?_
                clear hK K
                have m6 := Lib.hid (show MatB v4 G6 35 0 none 0 0 by rw [hw, hG]; exact MatB.new _ _)
                clear hw hG
                replace rCa := Lib.hid (rCa.out.below b)
                replace rCb := Lib.hid (rCb.out.below b)
                replace m5 := Lib.hid (m5.out.below_ b)
                clear b
                have f0 := m5.out.c0
                have f1 := m5.out.c1
                have g0 := m5.out.frozen 0
                have g1 := m5.out.frozen 1
                refine wpPT_one rfl (by rfl) (fun K hK => ?_)
                go_simp
                obtain ⟨v5, hw⟩ : ∃ X : World, X = (v4.setCell ⟨G5, 0, none⟩ (.int .i64 (x.m : Int))).setCell ⟨G5, 1, none⟩ (.slice Ca x.m da) := ⟨_, rfl⟩
                rw [← hw]
                replace bW : Below U.heap.size U v5 := by rw [hw]; exact (bW.setCell (p := ⟨G5, 0, none⟩) (by simpa using hW5) _).setCell (p := ⟨G5, 1, none⟩) (by simpa using hW5) _
                refine hK _ _ bW ?_
                clear hK K f0 f1 g0 g1
                have n5 := Lib.hid (show MatK v5 G5 35 (x.m : Int) Ca x.m da am by rw [hw]; exact ⟨m5.out.put (x.m : Int) Ca x.m da, rCa.out.putB m5.out (rCa.out.farZ m5.out hpa.out) _ _⟩)
                replace rCb := Lib.hid (show RowsAt v5 Cb x.m bm by rw [hw]; exact rCb.out.putB m5.out (rCb.out.farZ m5.out hpb.out) _ _)
                replace m6 := Lib.hid (show MatB v5 G6 35 0 none 0 0 by rw [hw]; exact (m6.out.farB (p := ⟨G5, 0, none⟩) (by simp <;> omega) _).farB (p := ⟨G5, 1, none⟩) (by simp <;> omega) _)
                clear hw m5 rCa
                have f0 := m6.out.c0
                have f1 := m6.out.c1
                have g0 := m6.out.frozen 0
                have g1 := m6.out.frozen 1
                refine wpPT_one rfl (by rfl) (fun K hK => ?_)
                go_simp
                obtain ⟨v6, hw⟩ : ∃ X : World, X = (v5.setCell ⟨G6, 0, none⟩ (.int .i64 (x.m : Int))).setCell ⟨G6, 1, none⟩ (.slice Cb x.m db) := ⟨_, rfl⟩
                rw [← hw]
                replace bW : Below U.heap.size U v6 := by rw [hw]; exact (bW.setCell (p := ⟨G6, 0, none⟩) (by simpa using hW6) _).setCell (p := ⟨G6, 1, none⟩) (by simpa using hW6) _
                refine hK _ _ bW ?_
                clear hK K f0 f1 g0 g1
                replace n5 := Lib.hid (show MatK v6 G5 35 (x.m : Int) Ca x.m da am by rw [hw]; exact MatK.put m6.out n5.out (by omega) (n5.out.2.farZ m6.out hpa.out) _ _)
                have n6 := Lib.hid (show MatK v6 G6 35 (x.m : Int) Cb x.m db bm by rw [hw]; exact ⟨m6.out.put (x.m : Int) Cb x.m db, rCb.out.putB m6.out (rCb.out.farZ m6.out hpb.out) _ _⟩)
                clear hw m6 rCb
                refine wpPT_done (NoPanic.normal ?_)
                exact key G5 G6 v6 Ca da Cb db ⟨n5.out, n6.out, ⟨hda.out, hdb.out⟩, bW⟩
              · go_simp
                obtain ⟨G6, hG⟩ : ∃ G, G = v2.heap.size := ⟨_, rfl⟩
                obtain ⟨v7, hw⟩ : ∃ X : World, X = v2.alloc (.cells #[.int .i64 0, .slice none 0 0] 35) := ⟨_, rfl⟩
                rw [← hw, ← hG]
                have b : Below v2.heap.size v2 v7 := by rw [hw]; exact below_alloc _ _
                have hW6 : U.heap.size ≤ G6 := by rw [hG]; exact bW.size
                replace bW := below_trans2 bW b
                refine hK _ _ bW ?_
                clear hK K
                have m6 := Lib.hid (show MatB v7 G6 35 0 none 0 0 by rw [hw, hG]; exact MatB.new _ _)
                clear hw hG
                replace rCa := Lib.hid (rCa.out.below b)
                replace rCb := Lib.hid (rCb.out.below b)
                clear b
                refine wpPT_one rfl (by rfl) (fun K hK => ?_)
                go_simp
                obtain ⟨G5, hG⟩ : ∃ G, G = v7.heap.size := ⟨_, rfl⟩
                obtain ⟨v8, hw⟩ : ∃ X : World, X = v7.alloc (.cells #[.int .i64 0, .slice none 0 0] 35) := ⟨_, rfl⟩
                rw [← hw, ← hG]
                have b : Below v7.heap.size v7 v8 := by rw [hw]; exact below_alloc _ _
                have hW5 : U.heap.size ≤ G5 := by rw [hG]; exact bW.size
                have hne : G5 ≠ G6 := by have := m6.out.lt; omega
                replace bW := below_trans2 bW b
                refine hK _ _ bW ?_
                clear hK K
                have m5 := Lib.hid (show MatB v8 G5 35 0 none 0 0 by rw [hw, hG]; exact MatB.new _ _)
                clear hw hG
                replace rCa := Lib.hid (rCa.out.below b)
                replace rCb := Lib.hid (rCb.out.below b)
                replace m6 := Lib.hid (m6.out.below_ b)
                clear b
                have f0 := m5.out.c0
                have f1 := m5.out.c1
                have g0 := m5.out.frozen 0
                have g1 := m5.out.frozen 1
                refine wpPT_one rfl (by rfl) (fun K hK => ?_)
                go_simp
                obtain ⟨v9, hw⟩ : ∃ X : World, X = (v8.setCell ⟨G5, 0, none⟩ (.int .i64 (x.m : Int))).setCell ⟨G5, 1, none⟩ (.slice Ca x.m da) := ⟨_, rfl⟩
                rw [← hw]
                replace bW : Below U.heap.size U v9 := by rw [hw]; exact (bW.setCell (p := ⟨G5, 0, none⟩) (by simpa using hW5) _).setCell (p := ⟨G5, 1, none⟩) (by simpa using hW5) _
                refine hK _ _ bW ?_
                clear hK K f0 f1 g0 g1
                have n5 := Lib.hid (show MatK v9 G5 35 (x.m : Int) Ca x.m da am by rw [hw]; exact ⟨m5.out.put (x.m : Int) Ca x.m da, rCa.out.putB m5.out (rCa.out.farZ m5.out hpa.out) _ _⟩)
                replace rCb := Lib.hid (show RowsAt v9 Cb x.m bm by rw [hw]; exact rCb.out.putB m5.out (rCb.out.farZ m5.out hpb.out) _ _)
                replace m6 := Lib.hid (show MatB v9 G6 35 0 none 0 0 by rw [hw]; exact (m6.out.farB (p := ⟨G5, 0, none⟩) (by simp <;> omega) _).farB (p := ⟨G5, 1, none⟩) (by simp <;> omega) _)
                clear hw m5 rCa
                have f0 := m6.out.c0
                have f1 := m6.out.c1
                have g0 := m6.out.frozen 0
                have g1 := m6.out.frozen 1
                refine wpPT_one rfl (by rfl) (fun K hK => ?_)
                go_simp
                obtain ⟨v10, hw⟩ : ∃ X : World, X = (v9.setCell ⟨G6, 0, none⟩ (.int .i64 (x.m : Int))).setCell ⟨G6, 1, none⟩ (.slice Cb x.m db) := ⟨_, rfl⟩
                rw [← hw]
                replace bW : Below U.heap.size U v10 := by rw [hw]; exact (bW.setCell (p := ⟨G6, 0, none⟩) (by simpa using hW6) _).setCell (p := ⟨G6, 1, none⟩) (by simpa using hW6) _
                refine hK _ _ bW ?_
                clear hK K f0 f1 g0 g1
                replace n5 := Lib.hid (show MatK v10 G5 35 (x.m : Int) Ca x.m da am by rw [hw]; exact MatK.put m6.out n5.out (by omega) (n5.out.2.farZ m6.out hpa.out) _ _)
                have n6 := Lib.hid (show MatK v10 G6 35 (x.m : Int) Cb x.m db bm by rw [hw]; exact ⟨m6.out.put (x.m : Int) Cb x.m db, rCb.out.putB m6.out (rCb.out.farZ m6.out hpb.out) _ _⟩)
                clear hw m6 rCb
                refine wpPT_done (NoPanic.normal ?_)
                exact key G5 G6 v10 Ca da Cb db ⟨n5.out, n6.out, ⟨hda.out, hdb.out⟩, bW⟩
            · go_simp
              obtain ⟨G5, hG⟩ : ∃ G, G = v1.heap.size := ⟨_, rfl⟩
              obtain ⟨v11, hw⟩ : ∃ X : World, X = v1.alloc (.cells #[.int .i64 0, .slice none 0 0] 35) := ⟨_, rfl⟩
              rw [← hw, ← hG]
              have b : Below v1.heap.size v1 v11 := by rw [hw]; exact below_alloc _ _
              have hW5 : U.heap.size ≤ G5 := by rw [hG]; exact bW.size
              replace bW := below_trans2 bW b
              refine hK _ _ bW ?_
              clear hK K
              have m5 := Lib.hid (show MatB v11 G5 35 0 none 0 0 by rw [hw, hG]; exact MatB.new _ _)
              clear hw hG
              replace rCa := Lib.hid (rCa.out.below b)
              clear b
              refine wpPT_two rfl (by rfl) rfl (by rfl) (fun K hK => ?_) (fun K hK => ?_)
              · go_simp
                refine (cCb.out v11 bW).mono ?_; rintro e v12 ⟨Cb, nn, db, rfl, rCb, hdb, b⟩
                obtain rfl : nn = x.m := by rw [← rCb.len]; exact hclb.out
                replace hdb := Lib.hid hdb
                replace bW := below_trans2 bW b
                refine hK _ _ bW ?_
                clear hK K
                replace rCa := Lib.hid (rCa.out.below b)
                replace m5 := Lib.hid (m5.out.below_ b)
                replace rCb := Lib.hid rCb
                clear b
                refine wpPT_one rfl (by rfl) (fun K hK => ?_)
                go_simp
                obtain ⟨G6, hG⟩ : ∃ G, G = v12.heap.size := ⟨_, rfl⟩
                obtain ⟨v13, hw⟩ : ∃ X : World, X = v12.alloc (.cells #[.int .i64 0, .slice none 0 0] 35) := ⟨_, rfl⟩
                rw [← hw, ← hG]
                have b : Below v12.heap.size v12 v13 := by rw [hw]; exact below_alloc _ _
                have hW6 : U.heap.size ≤ G6 := by rw [hG]; exact bW.size
                have hne : G5 ≠ G6 := by have := m5.out.lt; omega
                replace bW := below_trans2 bW b
                refine hK _ _ bW ?_
                clear hK K
                have m6 := Lib.hid (show MatB v13 G6 35 0 none 0 0 by rw [hw, hG]; exact MatB.new _ _)
                clear hw hG
                replace rCa := Lib.hid (rCa.out.below b)
                replace m5 := Lib.hid (m5.out.below_ b)
                replace rCb := Lib.hid (rCb.out.below b)
                clear b
                have f0 := m5.out.c0
                have f1 := m5.out.c1
                have g0 := m5.out.frozen 0
                have g1 := m5.out.frozen 1
                refine wpPT_one rfl (by rfl) (fun K hK => ?_)
                go_simp
                obtain ⟨v14, hw⟩ : ∃ X : World, X = (v13.setCell ⟨G5, 0, none⟩ (.int .i64 (x.m : Int))).setCell ⟨G5, 1, none⟩ (.slice Ca x.m da) := ⟨_, rfl⟩
                rw [← hw]
                replace bW : Below U.heap.size U v14 := by rw [hw]; exact (bW.setCell (p := ⟨G5, 0, none⟩) (by simpa using hW5) _).setCell (p := ⟨G5, 1, none⟩) (by simpa using hW5) _
                refine hK _ _ bW ?_
                clear hK K f0 f1 g0 g1
                have n5 := Lib.hid (show MatK v14 G5 35 (x.m : Int) Ca x.m da am by rw [hw]; exact ⟨m5.out.put (x.m : Int) Ca x.m da, rCa.out.putB m5.out (rCa.out.farZ m5.out hpa.out) _ _⟩)
                replace rCb := Lib.hid (show RowsAt v14 Cb x.m bm by rw [hw]; exact rCb.out.putB m5.out (rCb.out.farZ m5.out hpb.out) _ _)
                replace m6 := Lib.hid (show MatB v14 G6 35 0 none 0 0 by rw [hw]; exact (m6.out.farB (p := ⟨G5, 0, none⟩) (by simp <;> omega) _).farB (p := ⟨G5, 1, none⟩) (by simp <;> omega) _)
                clear hw m5 rCa
                have f0 := m6.out.c0
                have f1 := m6.out.c1
                have g0 := m6.out.frozen 0
                have g1 := m6.out.frozen 1
                refine wpPT_one rfl (by rfl) (fun K hK => ?_)
                go_simp
                obtain ⟨v15, hw⟩ : ∃ X : World, X = (v14.setCell ⟨G6, 0, none⟩ (.int .i64 (x.m : Int))).setCell ⟨G6, 1, none⟩ (.slice Cb x.m db) := ⟨_, rfl⟩
                rw [← hw]
                replace bW : Below U.heap.size U v15 := by rw [hw]; exact (bW.setCell (p := ⟨G6, 0, none⟩) (by simpa using hW6) _).setCell (p := ⟨G6, 1, none⟩) (by simpa using hW6) _
                refine hK _ _ bW ?_
                clear hK K f0 f1 g0 g1
                replace n5 := Lib.hid (show MatK v15 G5 35 (x.m : Int) Ca x.m da am by rw [hw]; exact MatK.put m6.out n5.out (by omega) (n5.out.2.farZ m6.out hpa.out) _ _)
                have n6 := Lib.hid (show MatK v15 G6 35 (x.m : Int) Cb x.m db bm by rw [hw]; exact ⟨m6.out.put (x.m : Int) Cb x.m db, rCb.out.putB m6.out (rCb.out.farZ m6.out hpb.out) _ _⟩)
                clear hw m6 rCb
                refine wpPT_done (NoPanic.normal ?_)
                exact key G5 G6 v15 Ca da Cb db ⟨n5.out, n6.out, ⟨hda.out, hdb.out⟩, bW⟩
              · go_simp
                obtain ⟨G6, hG⟩ : ∃ G, G = v11.heap.size := ⟨_, rfl⟩
                obtain ⟨v16, hw⟩ : ∃ X : World, X = v11.alloc (.cells #[.int .i64 0, .slice none 0 0] 35) := ⟨_, rfl⟩
                rw [← hw, ← hG]
                have b : Below v11.heap.size v11 v16 := by rw [hw]; exact below_alloc _ _
                have hW6 : U.heap.size ≤ G6 := by rw [hG]; exact bW.size
                have hne : G5 ≠ G6 := by have := m5.out.lt; omega
                replace bW := below_trans2 bW b
                refine hK _ _ bW ?_
                clear hK K
                have m6 := Lib.hid (show MatB v16 G6 35 0 none 0 0 by rw [hw, hG]; exact MatB.new _ _)
                clear hw hG
                replace rCa := Lib.hid (rCa.out.below b)
                replace m5 := Lib.hid (m5.out.below_ b)
                clear b
                refine wpPT_one rfl (by rfl) (fun K hK => ?_)
                go_simp
                refine (cCb.out v16 bW).mono ?_; rintro e v17 ⟨Cb, nn, db, rfl, rCb, hdb, b⟩
                obtain rfl : nn = x.m := by rw [← rCb.len]; exact hclb.out
                replace hdb := Lib.hid hdb
                replace bW := below_trans2 bW b
                refine hK _ _ bW ?_
                clear hK K
                replace rCa := Lib.hid (rCa.out.below b)
                replace m5 := Lib.hid (m5.out.below_ b)
                replace m6 := Lib.hid (m6.out.below_ b)
                replace rCb := Lib.hid rCb
                clear b
                have f0 := m5.out.c0
                have f1 := m5.out.c1
                have g0 := m5.out.frozen 0
                have g1 := m5.out.frozen 1
                refine wpPT_one rfl (by rfl) (fun K hK => ?_)
                go_simp
                obtain ⟨v18, hw⟩ : ∃ X : World, X = (v17.setCell ⟨G5, 0, none⟩ (.int .i64 (x.m : Int))).setCell ⟨G5, 1, none⟩ (.slice Ca x.m da) := ⟨_, rfl⟩
                rw [← hw]
                replace bW : Below U.heap.size U v18 := by rw [hw]; exact (bW.setCell (p := ⟨G5, 0, none⟩) (by simpa using hW5) _).setCell (p := ⟨G5, 1, none⟩) (by simpa using hW5) _
                refine hK _ _ bW ?_
                clear hK K f0 f1 g0 g1
                have n5 := Lib.hid (show MatK v18 G5 35 (x.m : Int) Ca x.m da am by rw [hw]; exact ⟨m5.out.put (x.m : Int) Ca x.m da, rCa.out.putB m5.out (rCa.out.farZ m5.out hpa.out) _ _⟩)
                replace rCb := Lib.hid (show RowsAt v18 Cb x.m bm by rw [hw]; exact rCb.out.putB m5.out (rCb.out.farZ m5.out hpb.out) _ _)
                replace m6 := Lib.hid (show MatB v18 G6 35 0 none 0 0 by rw [hw]; exact (m6.out.farB (p := ⟨G5, 0, none⟩) (by simp <;> omega) _).farB (p := ⟨G5, 1, none⟩) (by simp <;> omega) _)
                clear hw m5 rCa
                have f0 := m6.out.c0
                have f1 := m6.out.c1
                have g0 := m6.out.frozen 0
                have g1 := m6.out.frozen 1
                refine wpPT_one rfl (by rfl) (fun K hK => ?_)
                go_simp
                obtain ⟨v19, hw⟩ : ∃ X : World, X = (v18.setCell ⟨G6, 0, none⟩ (.int .i64 (x.m : Int))).setCell ⟨G6, 1, none⟩ (.slice Cb x.m db) := ⟨_, rfl⟩
                rw [← hw]
                replace bW : Below U.heap.size U v19 := by rw [hw]; exact (bW.setCell (p := ⟨G6, 0, none⟩) (by simpa using hW6) _).setCell (p := ⟨G6, 1, none⟩) (by simpa using hW6) _
                refine hK _ _ bW ?_
                clear hK K f0 f1 g0 g1
                replace n5 := Lib.hid (show MatK v19 G5 35 (x.m : Int) Ca x.m da am by rw [hw]; exact MatK.put m6.out n5.out (by omega) (n5.out.2.farZ m6.out hpa.out) _ _)
                have n6 := Lib.hid (show MatK v19 G6 35 (x.m : Int) Cb x.m db bm by rw [hw]; exact ⟨m6.out.put (x.m : Int) Cb x.m db, rCb.out.putB m6.out (rCb.out.farZ m6.out hpb.out) _ _⟩)
                clear hw m6 rCb
                refine wpPT_done (NoPanic.normal ?_)
                exact key G5 G6 v19 Ca da Cb db ⟨n5.out, n6.out, ⟨hda.out, hdb.out⟩, bW⟩
            · go_simp
              obtain ⟨G6, hG⟩ : ∃ G, G = v1.heap.size := ⟨_, rfl⟩
              obtain ⟨v20, hw⟩ : ∃ X : World, X = v1.alloc (.cells #[.int .i64 0, .slice none 0 0] 35) := ⟨_, rfl⟩
              rw [← hw, ← hG]
              have b : Below v1.heap.size v1 v20 := by rw [hw]; exact below_alloc _ _
              have hW6 : U.heap.size ≤ G6 := by rw [hG]; exact bW.size
              replace bW := below_trans2 bW b
              refine hK _ _ bW ?_
              clear hK K
              have m6 := Lib.hid (show MatB v20 G6 35 0 none 0 0 by rw [hw, hG]; exact MatB.new _ _)
              clear hw hG
              replace rCa := Lib.hid (rCa.out.below b)
              clear b
              refine wpPT_two rfl (by rfl) rfl (by rfl) (fun K hK => ?_) (fun K hK => ?_)
              · go_simp
                refine (cCb.out v20 bW).mono ?_; rintro e v21 ⟨Cb, nn, db, rfl, rCb, hdb, b⟩
                obtain rfl : nn = x.m := by rw [← rCb.len]; exact hclb.out
                replace hdb := Lib.hid hdb
                replace bW := below_trans2 bW b
                refine hK _ _ bW ?_
                clear hK K
                replace rCa := Lib.hid (rCa.out.below b)
                replace m6 := Lib.hid (m6.out.below_ b)
                replace rCb := Lib.hid rCb
                clear b
                refine wpPT_one rfl (by rfl) (fun K hK => ?_)
                go_simp
                obtain ⟨G5, hG⟩ : ∃ G, G = v21.heap.size := ⟨_, rfl⟩
                obtain ⟨v22, hw⟩ : ∃ X : World, X = v21.alloc (.cells #[.int .i64 0, .slice none 0 0] 35) := ⟨_, rfl⟩
                rw [← hw, ← hG]
                have b : Below v21.heap.size v21 v22 := by rw [hw]; exact below_alloc _ _
                have hW5 : U.heap.size ≤ G5 := by rw [hG]; exact bW.size
                have hne : G5 ≠ G6 := by have := m6.out.lt; omega
                replace bW := below_trans2 bW b
                refine hK _ _ bW ?_
                clear hK K
                have m5 := Lib.hid (show MatB v22 G5 35 0 none 0 0 by rw [hw, hG]; exact MatB.new _ _)
                clear hw hG
                replace rCa := Lib.hid (rCa.out.below b)
                replace m6 := Lib.hid (m6.out.below_ b)
                replace rCb := Lib.hid (rCb.out.below b)
                clear b
                have f0 := m5.out.c0
                have f1 := m5.out.c1
                have g0 := m5.out.frozen 0
                have g1 := m5.out.frozen 1
                refine wpPT_one rfl (by rfl) (fun K hK => ?_)
                go_simp
                obtain ⟨v23, hw⟩ : ∃ X : World, X = (v22.setCell ⟨G5, 0, none⟩ (.int .i64 (x.m : Int))).setCell ⟨G5, 1, none⟩ (.slice Ca x.m da) := ⟨_, rfl⟩
                rw [← hw]
                replace bW : Below U.heap.size U v23 := by rw [hw]; exact (bW.setCell (p := ⟨G5, 0, none⟩) (by simpa using hW5) _).setCell (p := ⟨G5, 1, none⟩) (by simpa using hW5) _
                refine hK _ _ bW ?_
                clear hK K f0 f1 g0 g1
                have n5 := Lib.hid (show MatK v23 G5 35 (x.m : Int) Ca x.m da am by rw [hw]; exact ⟨m5.out.put (x.m : Int) Ca x.m da, rCa.out.putB m5.out (rCa.out.farZ m5.out hpa.out) _ _⟩)
                replace rCb := Lib.hid (show RowsAt v23 Cb x.m bm by rw [hw]; exact rCb.out.putB m5.out (rCb.out.farZ m5.out hpb.out) _ _)
                replace m6 := Lib.hid (show MatB v23 G6 35 0 none 0 0 by rw [hw]; exact (m6.out.farB (p := ⟨G5, 0, none⟩) (by simp <;> omega) _).farB (p := ⟨G5, 1, none⟩) (by simp <;> omega) _)
                clear hw m5 rCa
                have f0 := m6.out.c0
                have f1 := m6.out.c1
                have g0 := m6.out.frozen 0
                have g1 := m6.out.frozen 1
                refine wpPT_one rfl (by rfl) (fun K hK => ?_)
                go_simp
                obtain ⟨v24, hw⟩ : ∃ X : World, X = (v23.setCell ⟨G6, 0, none⟩ (.int .i64 (x.m : Int))).setCell ⟨G6, 1, none⟩ (.slice Cb x.m db) := ⟨_, rfl⟩
                rw [← hw]
                replace bW : Below U.heap.size U v24 := by rw [hw]; exact (bW.setCell (p := ⟨G6, 0, none⟩) (by simpa using hW6) _).setCell (p := ⟨G6, 1, none⟩) (by simpa using hW6) _
                refine hK _ _ bW ?_
                clear hK K f0 f1 g0 g1
                replace n5 := Lib.hid (show MatK v24 G5 35 (x.m : Int) Ca x.m da am by rw [hw]; exact MatK.put m6.out n5.out (by omega) (n5.out.2.farZ m6.out hpa.out) _ _)
                have n6 := Lib.hid (show MatK v24 G6 35 (x.m : Int) Cb x.m db bm by rw [hw]; exact ⟨m6.out.put (x.m : Int) Cb x.m db, rCb.out.putB m6.out (rCb.out.farZ m6.out hpb.out) _ _⟩)
                clear hw m6 rCb
                refine wpPT_done (NoPanic.normal ?_)
                exact key G5 G6 v24 Ca da Cb db ⟨n5.out, n6.out, ⟨hda.out, hdb.out⟩, bW⟩
              · go_simp
                obtain ⟨G5, hG⟩ : ∃ G, G = v20.heap.size := ⟨_, rfl⟩
                obtain ⟨v25, hw⟩ : ∃ X : World, X = v20.alloc (.cells #[.int .i64 0, .slice none 0 0] 35) := ⟨_, rfl⟩
                rw [← hw, ← hG]
                have b : Below v20.heap.size v20 v25 := by rw [hw]; exact below_alloc _ _
                have hW5 : U.heap.size ≤ G5 := by rw [hG]; exact bW.size
                have hne : G5 ≠ G6 := by have := m6.out.lt; omega
                replace bW := below_trans2 bW b
                refine hK _ _ bW ?_
                clear hK K
                have m5 := Lib.hid (show MatB v25 G5 35 0 none 0 0 by rw [hw, hG]; exact MatB.new _ _)
                clear hw hG
                replace rCa := Lib.hid (rCa.out.below b)
                replace m6 := Lib.hid (m6.out.below_ b)
                clear b
                refine wpPT_one rfl (by rfl) (fun K hK => ?_)
                go_simp
                refine (cCb.out v25 bW).mono ?_; rintro e v26 ⟨Cb, nn, db, rfl, rCb, hdb, b⟩
                obtain rfl : nn = x.m := by rw [← rCb.len]; exact hclb.out
                replace hdb := Lib.hid hdb
                replace bW := below_trans2 bW b
                refine hK _ _ bW ?_
                clear hK K
                replace rCa := Lib.hid (rCa.out.below b)
                replace m6 := Lib.hid (m6.out.below_ b)
                replace m5 := Lib.hid (m5.out.below_ b)
                replace rCb := Lib.hid rCb
                clear b
                have f0 := m5.out.c0
                have f1 := m5.out.c1
                have g0 := m5.out.frozen 0
                have g1 := m5.out.frozen 1
                refine wpPT_one rfl (by rfl) (fun K hK => ?_)
                go_simp
                obtain ⟨v27, hw⟩ : ∃ X : World, X = (v26.setCell ⟨G5, 0, none⟩ (.int .i64 (x.m : Int))).setCell ⟨G5, 1, none⟩ (.slice Ca x.m da) := ⟨_, rfl⟩
                rw [← hw]
                replace bW : Below U.heap.size U v27 := by rw [hw]; exact (bW.setCell (p := ⟨G5, 0, none⟩) (by simpa using hW5) _).setCell (p := ⟨G5, 1, none⟩) (by simpa using hW5) _
                refine hK _ _ bW ?_
                clear hK K f0 f1 g0 g1
                have n5 := Lib.hid (show MatK v27 G5 35 (x.m : Int) Ca x.m da am by rw [hw]; exact ⟨m5.out.put (x.m : Int) Ca x.m da, rCa.out.putB m5.out (rCa.out.farZ m5.out hpa.out) _ _⟩)
                replace rCb := Lib.hid (show RowsAt v27 Cb x.m bm by rw [hw]; exact rCb.out.putB m5.out (rCb.out.farZ m5.out hpb.out) _ _)
                replace m6 := Lib.hid (show MatB v27 G6 35 0 none 0 0 by rw [hw]; exact (m6.out.farB (p := ⟨G5, 0, none⟩) (by simp <;> omega) _).farB (p := ⟨G5, 1, none⟩) (by simp <;> omega) _)
                clear hw m5 rCa
                have f0 := m6.out.c0
                have f1 := m6.out.c1
                have g0 := m6.out.frozen 0
                have g1 := m6.out.frozen 1
                refine wpPT_one rfl (by rfl) (fun K hK => ?_)
                go_simp
                obtain ⟨v28, hw⟩ : ∃ X : World, X = (v27.setCell ⟨G6, 0, none⟩ (.int .i64 (x.m : Int))).setCell ⟨G6, 1, none⟩ (.slice Cb x.m db) := ⟨_, rfl⟩
                rw [← hw]
                replace bW : Below U.heap.size U v28 := by rw [hw]; exact (bW.setCell (p := ⟨G6, 0, none⟩) (by simpa using hW6) _).setCell (p := ⟨G6, 1, none⟩) (by simpa using hW6) _
                refine hK _ _ bW ?_
                clear hK K f0 f1 g0 g1
                replace n5 := Lib.hid (show MatK v28 G5 35 (x.m : Int) Ca x.m da am by rw [hw]; exact MatK.put m6.out n5.out (by omega) (n5.out.2.farZ m6.out hpa.out) _ _)
                have n6 := Lib.hid (show MatK v28 G6 35 (x.m : Int) Cb x.m db bm by rw [hw]; exact ⟨m6.out.put (x.m : Int) Cb x.m db, rCb.out.putB m6.out (rCb.out.farZ m6.out hpb.out) _ _⟩)
                clear hw m6 rCb
                refine wpPT_done (NoPanic.normal ?_)
                exact key G5 G6 v28 Ca da Cb db ⟨n5.out, n6.out, ⟨hda.out, hdb.out⟩, bW⟩
          · go_simp
            obtain ⟨G5, hG⟩ : ∃ G, G = U.heap.size := ⟨_, rfl⟩
            obtain ⟨v29, hw⟩ : ∃ X : World, X = U.alloc (.cells #[.int .i64 0, .slice none 0 0] 35) := ⟨_, rfl⟩
            rw [← hw, ← hG]
            have b : Below U.heap.size U v29 := by rw [hw]; exact below_alloc _ _
            have hW5 : U.heap.size ≤ G5 := by rw [hG]; exact bW.size
            replace bW := below_trans2 bW b
            refine hK _ _ bW ?_
            clear hK K
            have m5 := Lib.hid (show MatB v29 G5 35 0 none 0 0 by rw [hw, hG]; exact MatB.new _ _)
            clear hw hG
            clear b
            refine wpPT_two rfl (by rfl) rfl (by rfl) (fun K hK => ?_) (fun K hK => ?_)
            · go_simp
              refine (cCa.out v29 bW).mono ?_; rintro e v30 ⟨Ca, nn, da, rfl, rCa, hda, b⟩
              obtain rfl : nn = x.m := by rw [← rCa.len]; exact hcla.out
              replace hda := Lib.hid hda
              replace bW := below_trans2 bW b
              refine hK _ _ bW ?_
              clear hK K
              replace m5 := Lib.hid (m5.out.below_ b)
              replace rCa := Lib.hid rCa
              clear b
              refine wpPT_two rfl (by rfl) rfl (by rfl) (fun K hK => ?_) (fun K hK => ?_)
              · go_simp
                refine (cCb.out v30 bW).mono ?_; rintro e v31 ⟨Cb, nn, db, rfl, rCb, hdb, b⟩
                obtain rfl : nn = x.m := by rw [← rCb.len]; exact hclb.out
                replace hdb := Lib.hid hdb
                replace bW := below_trans2 bW b
                refine hK _ _ bW ?_
                clear hK K
                replace m5 := Lib.hid (m5.out.below_ b)
                replace rCa := Lib.hid (rCa.out.below b)
                replace rCb := Lib.hid rCb
                clear b
                refine wpPT_one rfl (by rfl) (fun K hK => ?_)
                go_simp
                obtain ⟨G6, hG⟩ : ∃ G, G = v31.heap.size := ⟨_, rfl⟩
                obtain ⟨v32, hw⟩ : ∃ X : World, X = v31.alloc (.cells #[.int .i64 0, .slice none 0 0] 35) := ⟨_, rfl⟩
                rw [← hw, ← hG]
                have b : Below v31.heap.size v31 v32 := by rw [hw]; exact below_alloc _ _
                have hW6 : U.heap.size ≤ G6 := by rw [hG]; exact bW.size
                have hne : G5 ≠ G6 := by have := m5.out.lt; omega
                replace bW := below_trans2 bW b
                refine hK _ _ bW ?_
                clear hK K
                have m6 := Lib.hid (show MatB v32 G6 35 0 none 0 0 by rw [hw, hG]; exact MatB.new _ _)
                clear hw hG
                replace m5 := Lib.hid (m5.out.below_ b)
                replace rCa := Lib.hid (rCa.out.below b)
                replace rCb := Lib.hid (rCb.out.below b)
                clear b
                have f0 := m5.out.c0
                have f1 := m5.out.c1
                have g0 := m5.out.frozen 0
                have g1 := m5.out.frozen 1
                refine wpPT_one rfl (by rfl) (fun K hK => ?_)
                go_simp
                obtain ⟨v33, hw⟩ : ∃ X : World, X = (v32.setCell ⟨G5, 0, none⟩ (.int .i64 (x.m : Int))).setCell ⟨G5, 1, none⟩ (.slice Ca x.m da) := ⟨_, rfl⟩
                rw [← hw]
                replace bW : Below U.heap.size U v33 := by rw [hw]; exact (bW.setCell (p := ⟨G5, 0, none⟩) (by simpa using hW5) _).setCell (p := ⟨G5, 1, none⟩) (by simpa using hW5) _
                refine hK _ _ bW ?_
                clear hK K f0 f1 g0 g1
                have n5 := Lib.hid (show MatK v33 G5 35 (x.m : Int) Ca x.m da am by rw [hw]; exact ⟨m5.out.put (x.m : Int) Ca x.m da, rCa.out.putB m5.out (rCa.out.farZ m5.out hpa.out) _ _⟩)
                replace rCb := Lib.hid (show RowsAt v33 Cb x.m bm by rw [hw]; exact rCb.out.putB m5.out (rCb.out.farZ m5.out hpb.out) _ _)
                replace m6 := Lib.hid (show MatB v33 G6 35 0 none 0 0 by rw [hw]; exact (m6.out.farB (p := ⟨G5, 0, none⟩) (by simp <;> omega) _).farB (p := ⟨G5, 1, none⟩) (by simp <;> omega) _)
                clear hw m5 rCa
                have f0 := m6.out.c0
                have f1 := m6.out.c1
                have g0 := m6.out.frozen 0
                have g1 := m6.out.frozen 1
                refine wpPT_one rfl (by rfl) (fun K hK => ?_)
                go_simp
                obtain ⟨v34, hw⟩ : ∃ X : World, X = (v33.setCell ⟨G6, 0, none⟩ (.int .i64 (x.m : Int))).setCell ⟨G6, 1, none⟩ (.slice Cb x.m db) := ⟨_, rfl⟩
                rw [← hw]
                replace bW : Below U.heap.size U v34 := by rw [hw]; exact (bW.setCell (p := ⟨G6, 0, none⟩) (by simpa using hW6) _).setCell (p := ⟨G6, 1, none⟩) (by simpa using hW6) _
                refine hK _ _ bW ?_
                clear hK K f0 f1 g0 g1
                replace n5 := Lib.hid (show MatK v34 G5 35 (x.m : Int) Ca x.m da am by rw [hw]; exact MatK.put m6.out n5.out (by omega) (n5.out.2.farZ m6.out hpa.out) _ _)
                have n6 := Lib.hid (show MatK v34 G6 35 (x.m : Int) Cb x.m db bm by rw [hw]; exact ⟨m6.out.put (x.m : Int) Cb x.m db, rCb.out.putB m6.out (rCb.out.farZ m6.out hpb.out) _ _⟩)
                clear hw m6 rCb
                refine wpPT_done (NoPanic.normal ?_)
                exact key G5 G6 v34 Ca da Cb db ⟨n5.out, n6.out, ⟨hda.out, hdb.out⟩, bW⟩
              · go_simp
                obtain ⟨G6, hG⟩ : ∃ G, G = v30.heap.size := ⟨_, rfl⟩
                obtain ⟨v35, hw⟩ : ∃ X : World, X = v30.alloc (.cells #[.int .i64 0, .slice none 0 0] 35) := ⟨_, rfl⟩
                rw [← hw, ← hG]
                have b : Below v30.heap.size v30 v35 := by rw [hw]; exact below_alloc _ _
                have hW6 : U.heap.size ≤ G6 := by rw [hG]; exact bW.size
                have hne : G5 ≠ G6 := by have := m5.out.lt; omega
                replace bW := below_trans2 bW b
                refine hK _ _ bW ?_
                clear hK K
                have m6 := Lib.hid (show MatB v35 G6 35 0 none 0 0 by rw [hw, hG]; exact MatB.new _ _)
                clear hw hG
                replace m5 := Lib.hid (m5.out.below_ b)
                replace rCa := Lib.hid (rCa.out.below b)
                clear b
                refine wpPT_one rfl (by rfl) (fun K hK => ?_)
                go_simp
                refine (cCb.out v35 bW).mono ?_; rintro e v36 ⟨Cb, nn, db, rfl, rCb, hdb, b⟩
                obtain rfl : nn = x.m := by rw [← rCb.len]; exact hclb.out
                replace hdb := Lib.hid hdb
                replace bW := below_trans2 bW b
                refine hK _ _ bW ?_
                clear hK K
                replace m5 := Lib.hid (m5.out.below_ b)
                replace rCa := Lib.hid (rCa.out.below b)
                replace m6 := Lib.hid (m6.out.below_ b)
                replace rCb := Lib.hid rCb
                clear b
                have f0 := m5.out.c0
                have f1 := m5.out.c1
                have g0 := m5.out.frozen 0
                have g1 := m5.out.frozen 1
                refine wpPT_one rfl (by rfl) (fun K hK => ?_)
                go_simp
                obtain ⟨v37, hw⟩ : ∃ X : World, X = (v36.setCell ⟨G5, 0, none⟩ (.int .i64 (x.m : Int))).setCell ⟨G5, 1, none⟩ (.slice Ca x.m da) := ⟨_, rfl⟩
                rw [← hw]
                replace bW : Below U.heap.size U v37 := by rw [hw]; exact (bW.setCell (p := ⟨G5, 0, none⟩) (by simpa using hW5) _).setCell (p := ⟨G5, 1, none⟩) (by simpa using hW5) _
                refine hK _ _ bW ?_
                clear hK K f0 f1 g0 g1
                have n5 := Lib.hid (show MatK v37 G5 35 (x.m : Int) Ca x.m da am by rw [hw]; exact ⟨m5.out.put (x.m : Int) Ca x.m da, rCa.out.putB m5.out (rCa.out.farZ m5.out hpa.out) _ _⟩)
                replace rCb := Lib.hid (show RowsAt v37 Cb x.m bm by rw [hw]; exact rCb.out.putB m5.out (rCb.out.farZ m5.out hpb.out) _ _)
                replace m6 := Lib.hid (show MatB v37 G6 35 0 none 0 0 by rw [hw]; exact (m6.out.farB (p := ⟨G5, 0, none⟩) (by simp <;> omega) _).farB (p := ⟨G5, 1, none⟩) (by simp <;> omega) _)
                clear hw m5 rCa
                have f0 := m6.out.c0
                have f1 := m6.out.c1
                have g0 := m6.out.frozen 0
                have g1 := m6.out.frozen 1
                refine wpPT_one rfl (by rfl) (fun K hK => ?_)
                go_simp
                obtain ⟨v38, hw⟩ : ∃ X : World, X = (v37.setCell ⟨G6, 0, none⟩ (.int .i64 (x.m : Int))).setCell ⟨G6, 1, none⟩ (.slice Cb x.m db) := ⟨_, rfl⟩
                rw [← hw]
                replace bW : Below U.heap.size U v38 := by rw [hw]; exact (bW.setCell (p := ⟨G6, 0, none⟩) (by simpa using hW6) _).setCell (p := ⟨G6, 1, none⟩) (by simpa using hW6) _
                refine hK _ _ bW ?_
                clear hK K f0 f1 g0 g1
                replace n5 := Lib.hid (show MatK v38 G5 35 (x.m : Int) Ca x.m da am by rw [hw]; exact MatK.put m6.out n5.out (by omega) (n5.out.2.farZ m6.out hpa.out) _ _)
                have n6 := Lib.hid (show MatK v38 G6 35 (x.m : Int) Cb x.m db bm by rw [hw]; exact ⟨m6.out.put (x.m : Int) Cb x.m db, rCb.out.putB m6.out (rCb.out.farZ m6.out hpb.out) _ _⟩)
                clear hw m6 rCb
                refine wpPT_done (NoPanic.normal ?_)
                exact key G5 G6 v38 Ca da Cb db ⟨n5.out, n6.out, ⟨hda.out, hdb.out⟩, bW⟩
            · go_simp
              obtain ⟨G6, hG⟩ : ∃ G, G = v29.heap.size := ⟨_, rfl⟩
              obtain ⟨v39, hw⟩ : ∃ X : World, X = v29.alloc (.cells #[.int .i64 0, .slice none 0 0] 35) := ⟨_, rfl⟩
              rw [← hw, ← hG]
              have b : Below v29.heap.size v29 v39 := by rw [hw]; exact below_alloc _ _
              have hW6 : U.heap.size ≤ G6 := by rw [hG]; exact bW.size
              have hne : G5 ≠ G6 := by have := m5.out.lt; omega
              replace bW := below_trans2 bW b
              refine hK _ _ bW ?_
              clear hK K
              have m6 := Lib.hid (show MatB v39 G6 35 0 none 0 0 by rw [hw, hG]; exact MatB.new _ _)
              clear hw hG
              replace m5 := Lib.hid (m5.out.below_ b)
              clear b
              refine wpPT_one rfl (by rfl) (fun K hK => ?_)
              go_simp
              refine (cCa.out v39 bW).mono ?_; rintro e v40 ⟨Ca, nn, da, rfl, rCa, hda, b⟩
              obtain rfl : nn = x.m := by rw [← rCa.len]; exact hcla.out
              replace hda := Lib.hid hda
              replace bW := below_trans2 bW b
              refine hK _ _ bW ?_
              clear hK K
              replace m5 := Lib.hid (m5.out.below_ b)
              replace m6 := Lib.hid (m6.out.below_ b)
              replace rCa := Lib.hid rCa
              clear b
              refine wpPT_one rfl (by rfl) (fun K hK => ?_)
              go_simp
              refine (cCb.out v40 bW).mono ?_; rintro e v41 ⟨Cb, nn, db, rfl, rCb, hdb, b⟩
              obtain rfl : nn = x.m := by rw [← rCb.len]; exact hclb.out
              replace hdb := Lib.hid hdb
              replace bW := below_trans2 bW b
              refine hK _ _ bW ?_
              clear hK K
              replace m5 := Lib.hid (m5.out.below_ b)
              replace m6 := Lib.hid (m6.out.below_ b)
              replace rCa := Lib.hid (rCa.out.below b)
              replace rCb := Lib.hid rCb
              clear b
              have f0 := m5.out.c0
              have f1 := m5.out.c1
              have g0 := m5.out.frozen 0
              have g1 := m5.out.frozen 1
              refine wpPT_one rfl (by rfl) (fun K hK => ?_)
              go_simp
              obtain ⟨v42, hw⟩ : ∃ X : World, X = (v41.setCell ⟨G5, 0, none⟩ (.int .i64 (x.m : Int))).setCell ⟨G5, 1, none⟩ (.slice Ca x.m da) := ⟨_, rfl⟩
              rw [← hw]
              replace bW : Below U.heap.size U v42 := by rw [hw]; exact (bW.setCell (p := ⟨G5, 0, none⟩) (by simpa using hW5) _).setCell (p := ⟨G5, 1, none⟩) (by simpa using hW5) _
              refine hK _ _ bW ?_
              clear hK K f0 f1 g0 g1
              have n5 := Lib.hid (show MatK v42 G5 35 (x.m : Int) Ca x.m da am by rw [hw]; exact ⟨m5.out.put (x.m : Int) Ca x.m da, rCa.out.putB m5.out (rCa.out.farZ m5.out hpa.out) _ _⟩)
              replace rCb := Lib.hid (show RowsAt v42 Cb x.m bm by rw [hw]; exact rCb.out.putB m5.out (rCb.out.farZ m5.out hpb.out) _ _)
              replace m6 := Lib.hid (show MatB v42 G6 35 0 none 0 0 by rw [hw]; exact (m6.out.farB (p := ⟨G5, 0, none⟩) (by simp <;> omega) _).farB (p := ⟨G5, 1, none⟩) (by simp <;> omega) _)
              clear hw m5 rCa
              have f0 := m6.out.c0
              have f1 := m6.out.c1
              have g0 := m6.out.frozen 0
              have g1 := m6.out.frozen 1
              refine wpPT_one rfl (by rfl) (fun K hK => ?_)
              go_simp
              obtain ⟨v43, hw⟩ : ∃ X : World, X = (v42.setCell ⟨G6, 0, none⟩ (.int .i64 (x.m : Int))).setCell ⟨G6, 1, none⟩ (.slice Cb x.m db) := ⟨_, rfl⟩
              rw [← hw]
              replace bW : Below U.heap.size U v43 := by rw [hw]; exact (bW.setCell (p := ⟨G6, 0, none⟩) (by simpa using hW6) _).setCell (p := ⟨G6, 1, none⟩) (by simpa using hW6) _
              refine hK _ _ bW ?_
              clear hK K f0 f1 g0 g1
              replace n5 := Lib.hid (show MatK v43 G5 35 (x.m : Int) Ca x.m da am by rw [hw]; exact MatK.put m6.out n5.out (by omega) (n5.out.2.farZ m6.out hpa.out) _ _)
              have n6 := Lib.hid (show MatK v43 G6 35 (x.m : Int) Cb x.m db bm by rw [hw]; exact ⟨m6.out.put (x.m : Int) Cb x.m db, rCb.out.putB m6.out (rCb.out.farZ m6.out hpb.out) _ _⟩)
              clear hw m6 rCb
              refine wpPT_done (NoPanic.normal ?_)
              exact key G5 G6 v43 Ca da Cb db ⟨n5.out, n6.out, ⟨hda.out, hdb.out⟩, bW⟩
          · go_simp
            obtain ⟨G6, hG⟩ : ∃ G, G = U.heap.size := ⟨_, rfl⟩
            obtain ⟨v44, hw⟩ : ∃ X : World, X = U.alloc (.cells #[.int .i64 0, .slice none 0 0] 35) := ⟨_, rfl⟩
            rw [← hw, ← hG]
            have b : Below U.heap.size U v44 := by rw [hw]; exact below_alloc _ _
            have hW6 : U.heap.size ≤ G6 := by rw [hG]; exact bW.size
            replace bW := below_trans2 bW b
            refine hK _ _ bW ?_
            clear hK K
            have m6 := Lib.hid (show MatB v44 G6 35 0 none 0 0 by rw [hw, hG]; exact MatB.new _ _)
            clear hw hG
            clear b
            refine wpPT_two rfl (by rfl) rfl (by rfl) (fun K hK => ?_) (fun K hK => ?_)
            · go_simp
              refine (cCa.out v44 bW).mono ?_; rintro e v45 ⟨Ca, nn, da, rfl, rCa, hda, b⟩
              obtain rfl : nn = x.m := by rw [← rCa.len]; exact hcla.out
              replace hda := Lib.hid hda
              replace bW := below_trans2 bW b
              refine hK _ _ bW ?_
              clear hK K
              replace m6 := Lib.hid (m6.out.below_ b)
              replace rCa := Lib.hid rCa
              clear b
              refine wpPT_two rfl (by rfl) rfl (by rfl) (fun K hK => ?_) (fun K hK => ?_)
              · go_simp
                refine (cCb.out v45 bW).mono ?_; rintro e v46 ⟨Cb, nn, db, rfl, rCb, hdb, b⟩
                obtain rfl : nn = x.m := by rw [← rCb.len]; exact hclb.out
                replace hdb := Lib.hid hdb
                replace bW := below_trans2 bW b
                refine hK _ _ bW ?_
                clear hK K
                replace m6 := Lib.hid (m6.out.below_ b)
                replace rCa := Lib.hid (rCa.out.below b)
                replace rCb := Lib.hid rCb
                clear b
                refine wpPT_one rfl (by rfl) (fun K hK => ?_)
                go_simp
                obtain ⟨G5, hG⟩ : ∃ G, G = v46.heap.size := ⟨_, rfl⟩
                obtain ⟨v47, hw⟩ : ∃ X : World, X = v46.alloc (.cells #[.int .i64 0, .slice none 0 0] 35) := ⟨_, rfl⟩
                rw [← hw, ← hG]
                have b : Below v46.heap.size v46 v47 := by rw [hw]; exact below_alloc _ _
                have hW5 : U.heap.size ≤ G5 := by rw [hG]; exact bW.size
                have hne : G5 ≠ G6 := by have := m6.out.lt; omega
                replace bW := below_trans2 bW b
                refine hK _ _ bW ?_
                clear hK K
                have m5 := Lib.hid (show MatB v47 G5 35 0 none 0 0 by rw [hw, hG]; exact MatB.new _ _)
                clear hw hG
                replace m6 := Lib.hid (m6.out.below_ b)
                replace rCa := Lib.hid (rCa.out.below b)
                replace rCb := Lib.hid (rCb.out.below b)
                clear b
                have f0 := m5.out.c0
                have f1 := m5.out.c1
                have g0 := m5.out.frozen 0
                have g1 := m5.out.frozen 1
                refine wpPT_one rfl (by rfl) (fun K hK => ?_)
                go_simp
                obtain ⟨v48, hw⟩ : ∃ X : World, X = (v47.setCell ⟨G5, 0, none⟩ (.int .i64 (x.m : Int))).setCell ⟨G5, 1, none⟩ (.slice Ca x.m da) := ⟨_, rfl⟩
                rw [← hw]
                replace bW : Below U.heap.size U v48 := by rw [hw]; exact (bW.setCell (p := ⟨G5, 0, none⟩) (by simpa using hW5) _).setCell (p := ⟨G5, 1, none⟩) (by simpa using hW5) _
                refine hK _ _ bW ?_
                clear hK K f0 f1 g0 g1
                have n5 := Lib.hid (show MatK v48 G5 35 (x.m : Int) Ca x.m da am by rw [hw]; exact ⟨m5.out.put (x.m : Int) Ca x.m da, rCa.out.putB m5.out (rCa.out.farZ m5.out hpa.out) _ _⟩)
                replace rCb := Lib.hid (show RowsAt v48 Cb x.m bm by rw [hw]; exact rCb.out.putB m5.out (rCb.out.farZ m5.out hpb.out) _ _)
                replace m6 := Lib.hid (show MatB v48 G6 35 0 none 0 0 by rw [hw]; exact (m6.out.farB (p := ⟨G5, 0, none⟩) (by simp <;> omega) _).farB (p := ⟨G5, 1, none⟩) (by simp <;> omega) _)
                clear hw m5 rCa
                have f0 := m6.out.c0
                have f1 := m6.out.c1
                have g0 := m6.out.frozen 0
                have g1 := m6.out.frozen 1
                refine wpPT_one rfl (by rfl) (fun K hK => ?_)
                go_simp
                obtain ⟨v49, hw⟩ : ∃ X : World, X = (v48.setCell ⟨G6, 0, none⟩ (.int .i64 (x.m : Int))).setCell ⟨G6, 1, none⟩ (.slice Cb x.m db) := ⟨_, rfl⟩
                rw [← hw]
                replace bW : Below U.heap.size U v49 := by rw [hw]; exact (bW.setCell (p := ⟨G6, 0, none⟩) (by simpa using hW6) _).setCell (p := ⟨G6, 1, none⟩) (by simpa using hW6) _
                refine hK _ _ bW ?_
                clear hK K f0 f1 g0 g1
                replace n5 := Lib.hid (show MatK v49 G5 35 (x.m : Int) Ca x.m da am by rw [hw]; exact MatK.put m6.out n5.out (by omega) (n5.out.2.farZ m6.out hpa.out) _ _)
                have n6 := Lib.hid (show MatK v49 G6 35 (x.m : Int) Cb x.m db bm by rw [hw]; exact ⟨m6.out.put (x.m : Int) Cb x.m db, rCb.out.putB m6.out (rCb.out.farZ m6.out hpb.out) _ _⟩)
                clear hw m6 rCb
                refine wpPT_done (NoPanic.normal ?_)
                exact key G5 G6 v49 Ca da Cb db ⟨n5.out, n6.out, ⟨hda.out, hdb.out⟩, bW⟩
              · go_simp
                obtain ⟨G5, hG⟩ : ∃ G, G = v45.heap.size := ⟨_, rfl⟩
                obtain ⟨v50, hw⟩ : ∃ X : World, X = v45.alloc (.cells #[.int .i64 0, .slice none 0 0] 35) := ⟨_, rfl⟩
                rw [← hw, ← hG]
                have b : Below v45.heap.size v45 v50 := by rw [hw]; exact below_alloc _ _
                have hW5 : U.heap.size ≤ G5 := by rw [hG]; exact bW.size
                have hne : G5 ≠ G6 := by have := m6.out.lt; omega
                replace bW := below_trans2 bW b
                refine hK _ _ bW ?_
                clear hK K
                have m5 := Lib.hid (show MatB v50 G5 35 0 none 0 0 by rw [hw, hG]; exact MatB.new _ _)
                clear hw hG
                replace m6 := Lib.hid (m6.out.below_ b)
                replace rCa := Lib.hid (rCa.out.below b)
                clear b
                refine wpPT_one rfl (by rfl) (fun K hK => ?_)
                go_simp
                refine (cCb.out v50 bW).mono ?_; rintro e v51 ⟨Cb, nn, db, rfl, rCb, hdb, b⟩
                obtain rfl : nn = x.m := by rw [← rCb.len]; exact hclb.out
                replace hdb := Lib.hid hdb
                replace bW := below_trans2 bW b
                refine hK _ _ bW ?_
                clear hK K
                replace m6 := Lib.hid (m6.out.below_ b)
                replace rCa := Lib.hid (rCa.out.below b)
                replace m5 := Lib.hid (m5.out.below_ b)
                replace rCb := Lib.hid rCb
                clear b
                have f0 := m5.out.c0
                have f1 := m5.out.c1
                have g0 := m5.out.frozen 0
                have g1 := m5.out.frozen 1
                refine wpPT_one rfl (by rfl) (fun K hK => ?_)
                go_simp
                obtain ⟨v52, hw⟩ : ∃ X : World, X = (v51.setCell ⟨G5, 0, none⟩ (.int .i64 (x.m : Int))).setCell ⟨G5, 1, none⟩ (.slice Ca x.m da) := ⟨_, rfl⟩
                rw [← hw]
                replace bW : Below U.heap.size U v52 := by rw [hw]; exact (bW.setCell (p := ⟨G5, 0, none⟩) (by simpa using hW5) _).setCell (p := ⟨G5, 1, none⟩) (by simpa using hW5) _
                refine hK _ _ bW ?_
                clear hK K f0 f1 g0 g1
                have n5 := Lib.hid (show MatK v52 G5 35 (x.m : Int) Ca x.m da am by rw [hw]; exact ⟨m5.out.put (x.m : Int) Ca x.m da, rCa.out.putB m5.out (rCa.out.farZ m5.out hpa.out) _ _⟩)
                replace rCb := Lib.hid (show RowsAt v52 Cb x.m bm by rw [hw]; exact rCb.out.putB m5.out (rCb.out.farZ m5.out hpb.out) _ _)
                replace m6 := Lib.hid (show MatB v52 G6 35 0 none 0 0 by rw [hw]; exact (m6.out.farB (p := ⟨G5, 0, none⟩) (by simp <;> omega) _).farB (p := ⟨G5, 1, none⟩) (by simp <;> omega) _)
                clear hw m5 rCa
                have f0 := m6.out.c0
                have f1 := m6.out.c1
                have g0 := m6.out.frozen 0
                have g1 := m6.out.frozen 1
                refine wpPT_one rfl (by rfl) (fun K hK => ?_)
                go_simp
                obtain ⟨v53, hw⟩ : ∃ X : World, X = (v52.setCell ⟨G6, 0, none⟩ (.int .i64 (x.m : Int))).setCell ⟨G6, 1, none⟩ (.slice Cb x.m db) := ⟨_, rfl⟩
                rw [← hw]
                replace bW : Below U.heap.size U v53 := by rw [hw]; exact (bW.setCell (p := ⟨G6, 0, none⟩) (by simpa using hW6) _).setCell (p := ⟨G6, 1, none⟩) (by simpa using hW6) _
                refine hK _ _ bW ?_
                clear hK K f0 f1 g0 g1
                replace n5 := Lib.hid (show MatK v53 G5 35 (x.m : Int) Ca x.m da am by rw [hw]; exact MatK.put m6.out n5.out (by omega) (n5.out.2.farZ m6.out hpa.out) _ _)
                have n6 := Lib.hid (show MatK v53 G6 35 (x.m : Int) Cb x.m db bm by rw [hw]; exact ⟨m6.out.put (x.m : Int) Cb x.m db, rCb.out.putB m6.out (rCb.out.farZ m6.out hpb.out) _ _⟩)
                clear hw m6 rCb
                refine wpPT_done (NoPanic.normal ?_)
                exact key G5 G6 v53 Ca da Cb db ⟨n5.out, n6.out, ⟨hda.out, hdb.out⟩, bW⟩
            · go_simp
              obtain ⟨G5, hG⟩ : ∃ G, G = v44.heap.size := ⟨_, rfl⟩
              obtain ⟨v54, hw⟩ : ∃ X : World, X = v44.alloc (.cells #[.int .i64 0, .slice none 0 0] 35) := ⟨_, rfl⟩
              rw [← hw, ← hG]
              have b : Below v44.heap.size v44 v54 := by rw [hw]; exact below_alloc _ _
              have hW5 : U.heap.size ≤ G5 := by rw [hG]; exact bW.size
              have hne : G5 ≠ G6 := by have := m6.out.lt; omega
              replace bW := below_trans2 bW b
              refine hK _ _ bW ?_
              clear hK K
              have m5 := Lib.hid (show MatB v54 G5 35 0 none 0 0 by rw [hw, hG]; exact MatB.new _ _)
              clear hw hG
              replace m6 := Lib.hid (m6.out.below_ b)
              clear b
              refine wpPT_one rfl (by rfl) (fun K hK => ?_)
              go_simp
              refine (cCa.out v54 bW).mono ?_; rintro e v55 ⟨Ca, nn, da, rfl, rCa, hda, b⟩
              obtain rfl : nn = x.m := by rw [← rCa.len]; exact hcla.out
              replace hda := Lib.hid hda
              replace bW := below_trans2 bW b
              refine hK _ _ bW ?_
              clear hK K
              replace m6 := Lib.hid (m6.out.below_ b)
              replace m5 := Lib.hid (m5.out.below_ b)
              replace rCa := Lib.hid rCa
              clear b
              refine wpPT_one rfl (by rfl) (fun K hK => ?_)
              go_simp
              refine (cCb.out v55 bW).mono ?_; rintro e v56 ⟨Cb, nn, db, rfl, rCb, hdb, b⟩
              obtain rfl : nn = x.m := by rw [← rCb.len]; exact hclb.out
              replace hdb := Lib.hid hdb
              replace bW := below_trans2 bW b
              refine hK _ _ bW ?_
              clear hK K
              replace m6 := Lib.hid (m6.out.below_ b)
              replace m5 := Lib.hid (m5.out.below_ b)
              replace rCa := Lib.hid (rCa.out.below b)
              replace rCb := Lib.hid rCb
              clear b
              have f0 := m5.out.c0
              have f1 := m5.out.c1
              have g0 := m5.out.frozen 0
              have g1 := m5.out.frozen 1
              refine wpPT_one rfl (by rfl) (fun K hK => ?_)
              go_simp
              obtain ⟨v57, hw⟩ : ∃ X : World, X = (v56.setCell ⟨G5, 0, none⟩ (.int .i64 (x.m : Int))).setCell ⟨G5, 1, none⟩ (.slice Ca x.m da) := ⟨_, rfl⟩
              rw [← hw]
              replace bW : Below U.heap.size U v57 := by rw [hw]; exact (bW.setCell (p := ⟨G5, 0, none⟩) (by simpa using hW5) _).setCell (p := ⟨G5, 1, none⟩) (by simpa using hW5) _
              refine hK _ _ bW ?_
              clear hK K f0 f1 g0 g1
              have n5 := Lib.hid (show MatK v57 G5 35 (x.m : Int) Ca x.m da am by rw [hw]; exact ⟨m5.out.put (x.m : Int) Ca x.m da, rCa.out.putB m5.out (rCa.out.farZ m5.out hpa.out) _ _⟩)
              replace rCb := Lib.hid (show RowsAt v57 Cb x.m bm by rw [hw]; exact rCb.out.putB m5.out (rCb.out.farZ m5.out hpb.out) _ _)
              replace m6 := Lib.hid (show MatB v57 G6 35 0 none 0 0 by rw [hw]; exact (m6.out.farB (p := ⟨G5, 0, none⟩) (by simp <;> omega) _).farB (p := ⟨G5, 1, none⟩) (by simp <;> omega) _)
              clear hw m5 rCa
              have f0 := m6.out.c0
              have f1 := m6.out.c1
              have g0 := m6.out.frozen 0
              have g1 := m6.out.frozen 1
              refine wpPT_one rfl (by rfl) (fun K hK => ?_)
              go_simp
              obtain ⟨v58, hw⟩ : ∃ X : World, X = (v57.setCell ⟨G6, 0, none⟩ (.int .i64 (x.m : Int))).setCell ⟨G6, 1, none⟩ (.slice Cb x.m db) := ⟨_, rfl⟩
              rw [← hw]
              replace bW : Below U.heap.size U v58 := by rw [hw]; exact (bW.setCell (p := ⟨G6, 0, none⟩) (by simpa using hW6) _).setCell (p := ⟨G6, 1, none⟩) (by simpa using hW6) _
              refine hK _ _ bW ?_
              clear hK K f0 f1 g0 g1
              replace n5 := Lib.hid (show MatK v58 G5 35 (x.m : Int) Ca x.m da am by rw [hw]; exact MatK.put m6.out n5.out (by omega) (n5.out.2.farZ m6.out hpa.out) _ _)
              have n6 := Lib.hid (show MatK v58 G6 35 (x.m : Int) Cb x.m db bm by rw [hw]; exact ⟨m6.out.put (x.m : Int) Cb x.m db, rCb.out.putB m6.out (rCb.out.farZ m6.out hpb.out) _ _⟩)
              clear hw m6 rCb
              refine wpPT_done (NoPanic.normal ?_)
              exact key G5 G6 v58 Ca da Cb db ⟨n5.out, n6.out, ⟨hda.out, hdb.out⟩, bW⟩
        · intro G5 G6 w9 Ca da Cb db hk
          have kA := Lib.hid hk.1
          have kB := Lib.hid hk.2.1
          have hda := Lib.hid hk.2.2.1.1
          have hdb := Lib.hid hk.2.2.1.2
          replace hB := Lib.hid (hB.out.later hk.2.2.2)
          clear hk cCa cCb cOa cOb hcla hclb hpa hpb bW hP
          go_wp2_with fail
          refine wp_region_plan 8 [(true, 0), (true, 1), (true, 3), (true, 4), (false, 2), (false, 5), (true, 6), (true, 7)] (by kernel_rfl) (by kernel_rfl) (fun U3 hU => ?_)
          have hU' : Below w9.heap.size w9 U3 := by rw [hU.out]; exact (Below.refl _ _).drew
          replace hB := Lib.hid (hB.out.later hU')
          replace kA := Lib.hid (kA.out.below hU')
          replace kB := Lib.hid (kB.out.below hU')
          clear hU hU'
          simp only [List.drop_succ_cons, List.drop_nil]
          have p0 := hB.out.c0
          have p1 := hB.out.c1
          have p2 := hB.out.c2
          have a0 := kA.out.1.c0
          have a1 := kA.out.1.c1
          have b0 := kB.out.1.c0
          have b1 := kB.out.1.c1
          iterate 4
            refine wpPlan_float (v := ?_) rfl (by rfl) (fun w' hw' => ?_) (fun K hK => ?_)
            rotate_left
            · (go_simp; try with_reducible rfl)
            go_simp
            refine hK _ ?_
            clear hK K
          clear p0 p1 p2 a0 a1 b0 b1
          refine wpPlan_only rfl (by rfl) (fun K hK => ?_)
          go_simp
          refine (cEa.out Ca da U3 hB.out.f kA.out.2 hda.out).mono ?_
          rintro e x1 ⟨E1, k1, e1, rfl, hL1, hk1, he1, b⟩
          refine hK _ _ b ?_
          clear hK K
          replace hB := Lib.hid (hB.out.later b)
          replace kB := Lib.hid (kB.out.below b)
          clear kA b
          refine wpPlan_only rfl (by rfl) (fun K hK => ?_)
          go_simp
          refine (cEb.out Cb db x1 hB.out.f kB.out.2 hdb.out).mono ?_
          rintro e x2 ⟨E2, k2, e2, rfl, hL2, hk2, he2, b⟩
          refine hK _ _ b ?_
          clear hK K
          replace hB := Lib.hid (hB.out.later b)
          replace kB := Lib.hid (kB.out.below b)
          replace hL1 := Lib.hid (hL1.below b)
          replace hL2 := Lib.hid hL2
          clear b cEa cEb
          iterate 2
            refine wpPlan_float (v := ?_) rfl (by rfl) (fun w' hw' => ?_) (fun K hK => ?_)
            rotate_left
            · (go_simp; try with_reducible rfl)
            go_simp
            refine hK _ ?_
            clear hK K
          refine wpPlan_nil (NoPanic.normal ?_)
          go_wp2_with fail
          have cH := Lib.hid (fun (i j : Int) W hW => ref3_HasG Cb x.m db bm gX.out i j W hW)
          have hbb := Lib.hid (Below.refl x2.heap.size x2)
          go_loopw [11] (fun t wr => ∃ i : Nat, i ≤ k2 ∧ t = .int .i64 (i : Int) ∧ Hid (Below x2.heap.size x2 wr)) (fun t _ => k2 - (intOf t).toNat)
          case atStart => exact ⟨0, Nat.zero_le _, rfl, hbb⟩
          case round =>
            clear hbb
            obtain ⟨i, hi, rfl, hb⟩ := hrel
            by_cases hlt : i < k2
            · have hlt' : (i : Int) < (k2 : Int) := by omega
              have bi : 0 ≤ (i : Int) ∧ (i : Int) < (k2 : Int) := by omega
              obtain ⟨eb, eo, y, hE, -, hy, -, y0, y1, y2⟩ := (hL2.out.below hb.out).edge hlt
              obtain ⟨a, b, r, ha, hb', hr, rfl, hne, hit, hfr, hha⟩ := hef.out i y hy
              simp only at y0 y1 y2
              subst hE
              rw [hil.out] at ha hb' hr
              obtain ⟨Y, hY⟩ : ∃ W, W = wr.alloc (.cells #[.int .i64 (a : Int), .int .i64 (b : Int), .int .i64 (r : Int)] 46) := ⟨_, rfl⟩
              obtain ⟨gx, hgx⟩ : ∃ g, g = wr.heap.size := ⟨_, rfl⟩
              have bY : Below wr.heap.size wr Y := by rw [hY]; exact (Below.refl _ _).alloc (Nat.le_refl _) _
              have kY := Lib.hid (show Blk Y gx 46 [.int .i64 (a : Int), .int .i64 (b : Int), .int .i64 (r : Int)] from by rw [hY, hgx]; exact Blk.new wr _ _)
              replace hb := Lib.hid (below_trans2 hb.out bY)
              have hBY := Lib.hid (hB.out.later hb.out)
              have z0 := kY.out.cell 0
              have z1 := kY.out.cell 1
              have z2 := kY.out.cell 2
              simp only [List.getElem?_cons_zero, List.getElem?_cons_succ] at z0 z1 z2
              have p0 := hBY.out.c0
              have p1 := hBY.out.c1
              have p2 := hBY.out.c2
              have q1 : decide ((a : Int) < 0) = false := decide_eq_false (by omega)
              have q2 : decide ((x.m : Int) ≤ (a : Int)) = false := decide_eq_false (by omega)
              have q3 : decide ((b : Int) < 0) = false := decide_eq_false (by omega)
              have q4 : decide ((x.m : Int) ≤ (b : Int)) = false := decide_eq_false (by omega)
              have q5 : decide ((r : Int) < 0) = false := decide_eq_false (by omega)
              have q6 : decide ((x.m : Int) ≤ (r : Int)) = false := decide_eq_false (by omega)
              have r2 : decide (x.m ≤ a) = false := decide_eq_false (by omega)
              have r4 : decide (x.m ≤ b) = false := decide_eq_false (by omega)
              have r6 : decide (x.m ≤ r) = false := decide_eq_false (by omega)
              replace hha := Lib.hid hha
              replace hit := Lib.hid hit
              replace hfr := Lib.hid hfr
              replace hlt := Lib.hid hlt
              replace ha := Lib.hid ha
              replace hb' := Lib.hid hb'
              replace hr := Lib.hid hr
              replace hne := Lib.hid hne
              clear bY hy
              go_wp2_with (rw [← hY, ← hgx]; clear hY; replace hgx := Lib.hid hgx)
              clear p0 p1 p2 z0 z1 z2 q1 q2 q3 q4 q5 q6 y0 y1 y2 r2 r4 r6
              refine wp_region_plan 62 [(true, 0), (true, 1), (true, 2), (true, 3), (true, 4), (true, 5), (true, 6), (true, 7), (true, 8), (true, 9), (true, 10), (true, 11), (true, 12), (true, 13), (true, 14), (true, 15), (true, 16), (true, 17), (true, 18), (true, 19), (true, 20), (true, 21), (true, 22), (true, 23), (true, 24), (true, 25), (true, 26), (true, 27), (true, 28), (true, 29), (true, 30), (true, 31), (true, 32), (true, 33), (true, 34), (true, 35), (true, 36), (true, 37), (true, 38), (true, 39), (true, 40), (true, 41), (true, 42), (true, 43), (true, 44), (true, 45), (true, 46), (true, 47), (true, 48), (true, 49), (true, 50), (true, 51), (true, 52), (true, 53), (true, 54), (true, 55), (true, 56), (true, 57), (true, 58), (false, 59), (true, 60), (true, 61)] (by kernel_rfl) (by kernel_rfl) (fun U hU => ?_)
              have hU' : Below Y.heap.size Y U := by rw [hU.out]; exact (Below.refl _ _).drew
              replace hb := Lib.hid (below_trans2 hb.out hU')
              replace hBY := Lib.hid (hBY.out.later hU')
              have kBU := Lib.hid (kB.out.below hb.out)
              replace kY := Lib.hid (kY.out.below hU' kY.out.lt)
              clear hU hU'
              simp only [List.drop_succ_cons, List.drop_nil]
              have z0 := kY.out.cell 0
              have z1 := kY.out.cell 1
              have z2 := kY.out.cell 2
              simp only [List.getElem?_cons_zero, List.getElem?_cons_succ] at z0 z1 z2
              have p0 := hBY.out.c0
              have p1 := hBY.out.c1
              have p2 := hBY.out.c2
              have b0 := kBU.out.1.c0
              have b1 := kBU.out.1.c1
              obtain ⟨ib, io, u, hxB, -, hu, -, -, -, i2, i3, -⟩ := hBY.out.f.is.item ha.out
              obtain ⟨jb, jo, v, hvB, -, hv, -, -, -, j2, j3, -⟩ := hBY.out.f.is.item hb'.out
              obtain ⟨zb, zo, z, hzC, -, hz, -, k0⟩ := hBY.out.f.fs.int (show r < x.k by have := hkm.out; have := hr.out; omega)
              obtain ⟨hw1, hw2, hva⟩ := hit.out u v hu hv
              rw [hxB] at p1 hvB
              injection hvB with hvB
              injection hvB with h1 h2
              subst h1; subst h2
              rw [hzC] at p2
              obtain rfl : z = (b : Int) := by have := hfr.out; rw [List.getD_eq_getElem?_getD, hz] at this; exact this
              obtain ⟨us, up, uw, ua, ul⟩ := u
              obtain ⟨vs, vp, vw, va, vl⟩ := v
              simp only at i2 i3 j2 j3 hw1 hw2 hva
              subst hw1; subst hw2; subst hva
              have bia : 0 ≤ (a : Int) ∧ (a : Int) < (x.m : Int) := by have := ha.out; omega
              have bib : 0 ≤ (b : Int) ∧ (b : Int) < (x.m : Int) := by have := hb'.out; omega
              have bir : 0 ≤ (r : Int) ∧ (r : Int) < (x.k : Int) := by have := hr.out; have := hkm.out; omega
              have e0 : ((a : Int) == (b : Int)) = false := by rw [beq_eq_false_iff_ne]; have := hne.out; omega
              have e1 : (ua != ua) = false := by simp
              have e2 : ((b : Int) != (b : Int)) = false := by simp
              have cHr := cH.out (a : Int) (r : Int) U kBU.out.2
              rw [hha.out] at cHr
              replace cHr := Lib.hid cHr
              clear hxB hzC hu hv hz
              iterate 59
                refine wpPlan_float (v := ?_) rfl (by rfl) (fun w' hw' => ?_) (fun K hK => ?_)
                rotate_left
                · (go_simp; try with_reducible rfl)
                go_simp
                refine hK _ ?_
                clear hK K
              clear b0 b1 z0 z1 z2 p0 p1 p2 i2 i3 j2 j3 k0
              refine wpPlan_only rfl (by rfl) (fun K hK => ?_)
              go_simp
              refine cHr.out.mono ?_
              rintro e x3 ⟨rfl, bx⟩
              refine hK _ _ bx ?_
              clear hK K
              replace hb := Lib.hid (below_trans2 hb.out bx)
              clear bx
              iterate 2
                refine wpPlan_float (v := ?_) rfl (by rfl) (fun w' hw' => ?_) (fun K hK => ?_)
                rotate_left
                · (go_simp; try with_reducible rfl)
                go_simp
                refine hK _ ?_
                clear hK K
              refine wpPlan_nil (NoPanic.normal ?_)
              go_wp2_with fail
              exact ⟨⟨i + 1, by have := hlt.out; omega, by go_num, hb⟩, by have := hlt.out; simp [intOf]; omega⟩
            · have hlt' : ¬ (i : Int) < (k2 : Int) := by omega
              obtain rfl : i = k2 := by omega
              clear hlt
              go_wp2_with fail
              go_loopw [13] (fun t wr => ∃ q : Nat, q ≤ k1 ∧ t = .int .i64 (q : Int) ∧ Hid (Below x2.heap.size x2 wr)) (fun t _ => k1 - (intOf t).toNat)
              case atStart => exact ⟨0, Nat.zero_le _, rfl, hb⟩
              case round =>
                clear hb
                obtain ⟨q, hq, rfl, hb⟩ := hrel
                by_cases hqk : q < k1
                · have hqk' : (q : Int) < (k1 : Int) := by omega
                  have bq : 0 ≤ (q : Int) ∧ (q : Int) < (k1 : Int) := by omega
                  obtain ⟨-, -, u, -, -, hu, -, -, -, -⟩ := (hL1.out.below hb.out).edge hqk
                  have hme := Lib.hid (hsub.out u (List.mem_of_getElem? hu))
                  replace hu := Lib.hid hu
                  replace hqk := Lib.hid hqk
                  go_wp2_with fail
                  go_loopw [14, 15] (fun s t wr => ∃ k : Nat, k ≤ i ∧ s = .bool (decide (u ∈ es2.take k)) ∧ t = .int .i64 (k : Int) ∧ Hid (Below x2.heap.size x2 wr)) (fun _ t _ => i - (intOf t).toNat)
                  case atStart => exact ⟨0, Nat.zero_le _, by simp, rfl, hb⟩
                  case round =>
                    clear hb
                    obtain ⟨k, hk, rfl, rfl, hb⟩ := hrel
                    by_cases hkk : k < i
                    · have hkk' : (k : Int) < (i : Int) := by omega
                      have bk : 0 ≤ (k : Int) ∧ (k : Int) < (i : Int) := by omega
                      obtain ⟨fb, fo, u', hE1, -, hu', -, u0, u1, u2⟩ := (hL1.out.below hb.out).edge hqk.out
                      obtain ⟨eb, eo, y, hE2, -, hy, -, y0, y1, y2⟩ := (hL2.out.below hb.out).edge hkk
                      obtain rfl : u' = u := by have h := hu.out; rw [hu'] at h; injection h
                      have htm := take_mem (x := u') hy
                      subst hE1
                      subst hE2
                      replace hkk := Lib.hid hkk
                      clear hu' hy
                      obtain ⟨fd, hfd⟩ : ∃ b, b = decide (u' ∈ es2.take k) := ⟨_, rfl⟩
                      rw [← hfd] at htm ⊢
                      clear hfd
                      cases fd with
                      | true =>
                        rw [Bool.true_or] at htm
                        replace htm := Lib.hid htm
                        go_wp2_with fail
                        go_quiet (fail)
                        go_wp2_with fail
                        exact ⟨⟨k + 1, by have := hkk.out; omega, by rw [htm.out], by go_num, Lib.hid (below_drewN hb.out _)⟩, by have := hkk.out; simp [intOf]; omega⟩
                      | false =>
                        rw [Bool.false_or] at htm
                        obtain ⟨ua, ub, ur⟩ := u'
                        obtain ⟨ya, yb, yr⟩ := y
                        simp only at u0 u1 u2 y0 y1 y2
                        by_cases hxy : (⟨ua, ub, ur⟩ : Ed) = ⟨ya, yb, yr⟩
                        · have e0 : (ua == ya) = true := by injection hxy with h1 h2 h3; rw [h1]; simp
                          have e1 : (ub == yb) = true := by injection hxy with h1 h2 h3; rw [h2]; simp
                          have e2 : (ur == yr) = true := by injection hxy with h1 h2 h3; rw [h3]; simp
                          rw [decide_eq_true hxy] at htm
                          replace htm := Lib.hid htm
                          clear hxy
                          go_wp2_with fail
                          go_quiet (fail)
                          go_wp2_with fail
                          exact ⟨⟨k + 1, by have := hkk.out; omega, by rw [htm.out], by go_num, Lib.hid (below_drewN hb.out _)⟩, by have := hkk.out; simp [intOf]; omega⟩
                        · have hcs : (ua == ya) = false ∨ ((ua == ya) = true ∧ (ub == yb) = false) ∨ ((ua == ya) = true ∧ (ub == yb) = true ∧ (ur == yr) = false) := by
                            cases e0 : (ua == ya)
                            · exact .inl rfl
                            · refine .inr ?_
                              cases e1 : (ub == yb)
                              · exact .inl ⟨rfl, rfl⟩
                              · refine .inr ?_
                                cases e2 : (ur == yr)
                                · exact ⟨rfl, rfl, rfl⟩
                                · rw [beq_iff_eq] at e0 e1 e2
                                  exact absurd (by rw [e0, e1, e2]) hxy
                          rw [decide_eq_false hxy] at htm
                          replace htm := Lib.hid htm
                          clear hxy
                          rcases hcs with e0 | ⟨e0, e1⟩ | ⟨e0, e1, e2⟩
                          all_goals (
                            go_wp2_with fail
                            go_quiet (fail)
                            go_wp2_with fail
                            exact ⟨⟨k + 1, by have := hkk.out; omega, by rw [htm.out], by go_num, Lib.hid (below_drewN hb.out _)⟩, by have := hkk.out; simp [intOf]; omega⟩)
                    · have hkk' : ¬ (k : Int) < (i : Int) := by omega
                      obtain rfl : k = i := by omega
                      rw [List.take_of_length_le (by rw [hL2.out.len]; omega), decide_eq_true hme.out]
                      clear hkk
                      go_wp2_with fail
                      exact ⟨⟨q + 1, by have := hqk.out; omega, by go_num, hb⟩, by have := hqk.out; simp [intOf]; omega⟩
                · have hqk' : ¬ (q : Int) < (k1 : Int) := by omega
                  obtain rfl : q = k1 := by omega
                  clear hqk
                  have hBr := Lib.hid (hB.out.later hb.out)
                  have kBr := Lib.hid (kB.out.below hb.out)
                  have p0 := hBr.out.c0
                  have p1 := hBr.out.c1
                  have p2 := hBr.out.c2
                  have b0 := kBr.out.1.c0
                  have b1 := kBr.out.1.c1
                  have cFr := cF.out Cb db wr hBr.out.f kBr.out.2 hdb.out
                  cases hco : cfO f bm with
                  | true =>
                    rw [show cfN f bm = 0 from by rw [hcN.out, hco]; rfl, show cfR f bm = [] from by unfold cfR; rw [hco]; rfl, show cfE f bm = 7 from by unfold cfE; rw [hco]; rfl] at cFr
                    replace cFr := Lib.hid cFr
                    replace hco := Lib.hid hco
                    go_wp2_with fail
                    refine cFr.out.mono ?_; rintro e w5 ⟨A3, n3, d3, rfl, hR, hc3, b⟩
                    -- a call's matrix (N A n c x, hR) laid into a variable: W, g; kC : MatK W g ..
                    obtain ⟨W3, hW3⟩ : ∃ W, W = World.alloc w5 (.cells #[.int .i64 0, .slice A3 n3 d3] 35) := ⟨_, rfl⟩
                    obtain ⟨gc, hgc⟩ : ∃ g, g = (World.heap w5).size := ⟨_, rfl⟩
                    have bW3 : Below (World.heap w5).size w5 W3 := by rw [hW3]; exact below_alloc _ _
                    have kC := Lib.hid (show MatK W3 gc 35 0 A3 n3 d3 [] from by rw [hW3, hgc]; exact MatK.new w5 _ hR)
                    replace hBr := Lib.hid ((hBr.out.later b).later bW3)
                    clear bW3 hR b p0 p1 p2 b0 b1 cFr
                    go_wp2_with (rw [← hW3, ← hgc]; clear hW3; replace hgc := Lib.hid hgc)
                    refine (law17_awake W3).mono ?_; rintro e w9 ⟨rfl, b9⟩
                    replace kC := Lib.hid (kC.out.below b9)
                    have k0 := kC.out.1.c0
                    go_wp2_with fail
                    go_ret
                    exact ⟨rfl, below_trans2 hBr.out.o b9⟩
                  | false =>
                    have hlo : Hid (loopB x.m (cfM f bm) = false) := Lib.hid (by rw [← hcO.out]; exact hco)
                    rw [show cfN f bm = (x.m : Int) from by rw [hcN.out, hco]; rfl, show cfR f bm = cfM f bm from by unfold cfR; rw [hco]; rfl, show cfE f bm = 0 from by unfold cfE; rw [hco]; rfl] at cFr
                    replace cFr := Lib.hid cFr
                    replace hco := Lib.hid hco
                    obtain ⟨cm, hcm⟩ : ∃ M, M = cfM f bm := ⟨_, rfl⟩
                    rw [← hcm] at gF hlo cFr hedm hclo hsb
                    replace hcm := Lib.hid hcm
                    go_wp2_with fail
                    refine cFr.out.mono ?_; rintro e w5 ⟨A3, n3, d3, rfl, hR, hc3, b⟩
                    obtain rfl : n3 = x.m := by rw [← hR.len]; exact gF.out.len
                    -- a call's matrix (N A n c x, hR) laid into a variable: W, g; kC : MatK W g ..
                    obtain ⟨W3, hW3⟩ : ∃ W, W = World.alloc w5 (.cells #[.int .i64 (x.m : Int), .slice A3 x.m d3] 35) := ⟨_, rfl⟩
                    obtain ⟨gc, hgc⟩ : ∃ g, g = (World.heap w5).size := ⟨_, rfl⟩
                    have bW3 : Below (World.heap w5).size w5 W3 := by rw [hW3]; exact below_alloc _ _
                    have kC := Lib.hid (show MatK W3 gc 35 (x.m : Int) A3 x.m d3 cm from by rw [hW3, hgc]; exact MatK.new w5 _ hR)
                    replace hBr := Lib.hid ((hBr.out.later b).later bW3)
                    replace kBr := Lib.hid ((kBr.out.below b).below bW3)
                    replace hL2 := Lib.hid (((hL2.out.below hb.out).below b).below bW3)
                    clear bW3 hR b p0 p1 p2 b0 b1 cFr hb
                    have k0 := kC.out.1.c0
                    have k1' := kC.out.1.c1
                    have cL := Lib.hid (ref4_Loop A3 x.m d3 cm W3 kC.out.2 gF.out)
                    go_wp2_with (rw [← hW3, ← hgc]; clear hW3; replace hgc := Lib.hid hgc)
                    refine cL.out.mono ?_; rintro e w7 ⟨rr, bl, rfl, hLp, b⟩
                    obtain rfl : bl = false := by rw [← hlo.out]; exact hLp.b
                    replace hBr := Lib.hid (hBr.out.later b)
                    replace kBr := Lib.hid (kBr.out.below b)
                    replace kC := Lib.hid (kC.out.below b)
                    replace hL2 := Lib.hid (hL2.out.below b)
                    clear k0 k1' hLp b cL
                    go_wp2_with fail
                    have hb0 := Lib.hid (Below.refl w7.heap.size w7)
                    go_loopw [20] (fun t wr => ∃ j : Nat, j ≤ i ∧ t = .int .i64 (j : Int) ∧ Hid (Below w7.heap.size w7 wr)) (fun t _ => i - (intOf t).toNat)
                    case atStart => exact ⟨0, Nat.zero_le _, rfl, hb0⟩
                    case round =>
                      clear hb0
                      obtain ⟨j, hj, rfl, hb⟩ := hrel
                      by_cases hjl : j < i
                      · have hjl' : (j : Int) < (i : Int) := by omega
                        have bj : 0 ≤ (j : Int) ∧ (j : Int) < (i : Int) := by omega
                        obtain ⟨eb, eo, y, hE2, -, hy, -, y0, y1, y2⟩ := (hL2.out.below hb.out).edge hjl
                        have hha := hedm.out y (List.mem_of_getElem? hy)
                        have kCr := Lib.hid (kC.out.below hb.out)
                        have k0 := kCr.out.1.c0
                        have k1' := kCr.out.1.c1
                        subst hE2
                        obtain ⟨ya, yb, yr⟩ := y
                        simp only at y0 y1 y2 hha
                        replace hjl := Lib.hid hjl
                        clear y2 hy
                        go_wp2_with fail
                        refine wp_region_plan 13 [(true, 0), (true, 1), (true, 2), (true, 3), (true, 4), (true, 5), (true, 6), (true, 7), (true, 8), (true, 9), (true, 10), (false, 11), (true, 12)] (by kernel_rfl) (by kernel_rfl) (fun U hU => ?_)
                        replace y0 : U.cell? ⟨eb, eo + j * 3, none⟩ = some (.int .i64 ya) := by rw [hU.out]; exact y0
                        replace y1 : U.cell? ⟨eb, eo + j * 3 + 1, none⟩ = some (.int .i64 yb) := by rw [hU.out]; exact y1
                        have hU' : Below wr.heap.size wr U := by rw [hU.out]; exact (Below.refl _ _).drew
                        replace hb := Lib.hid (below_trans2 hb.out hU')
                        replace kCr := Lib.hid (kCr.out.below hU')
                        clear hU hU' k0 k1'
                        simp only [List.drop_succ_cons, List.drop_nil]
                        have k0 := kCr.out.1.c0
                        have k1' := kCr.out.1.c1
                        have cH3 := ref3_HasG A3 x.m d3 cm gF.out ya yb U kCr.out.2
                        rw [hha] at cH3
                        replace cH3 := Lib.hid cH3
                        iterate 11
                          refine wpPlan_float (v := ?_) rfl (by rfl) (fun w' hw' => ?_) (fun K hK => ?_)
                          rotate_left
                          · (go_simp; try with_reducible rfl)
                          go_simp
                          refine hK _ ?_
                          clear hK K
                        clear k0 k1' y0 y1
                        refine wpPlan_only rfl (by rfl) (fun K hK => ?_)
                        go_simp
                        refine cH3.out.mono ?_
                        rintro e x5 ⟨rfl, bx⟩
                        refine hK _ _ bx ?_
                        clear hK K
                        replace hb := Lib.hid (below_trans2 hb.out bx)
                        clear bx
                        iterate 1
                          refine wpPlan_float (v := ?_) rfl (by rfl) (fun w' hw' => ?_) (fun K hK => ?_)
                          rotate_left
                          · (go_simp; try with_reducible rfl)
                          go_simp
                          refine hK _ ?_
                          clear hK K
                        refine wpPlan_nil (NoPanic.normal ?_)
                        go_wp2_with fail
                        exact ⟨⟨j + 1, by have := hjl.out; omega, by go_num, hb⟩, by have := hjl.out; simp [intOf]; omega⟩
                      · have hjl' : ¬ (j : Int) < (i : Int) := by omega
                        obtain rfl : j = i := by omega
                        clear hjl
                        replace hBr := Lib.hid (hBr.out.later hb.out)
                        replace kBr := Lib.hid (kBr.out.below hb.out)
                        replace kC := Lib.hid (kC.out.below hb.out)
                        clear hb
                        go_wp2_with fail
                        refine (law17_awake wr).mono ?_; rintro e v1 ⟨rfl, b⟩
                        replace hBr := Lib.hid (hBr.out.later b)
                        replace kBr := Lib.hid (kBr.out.below b)
                        replace kC := Lib.hid (kC.out.below b)
                        have k0 := kC.out.1.c0
                        have k1' := kC.out.1.c1
                        have hlc : Hid (∀ (i : Nat) (xs : List Nat), cm[i]? = some xs → xs.length ≤ 1024) := Lib.hid (fun i xs h => Nat.le_trans (gF.out.small xs (List.mem_of_getElem? h)) (by decide))
                        have hlb : Hid (∀ (i : Nat) (xs : List Nat), bm[i]? = some xs → xs.length ≤ 1024) := Lib.hid (fun i xs h => Nat.le_trans (gX.out.small xs (List.mem_of_getElem? h)) (by decide))
                        have cR := ref3_Right (x.m : Int) A3 x.m d3 cm v1 kC.out.2 (by omega) hlc.out
                        rw [gF.out.right] at cR
                        replace cR := Lib.hid cR
                        clear b
                        go_wp2_with fail
                        refine cR.out.mono ?_; rintro e v2 ⟨rfl, b⟩
                        replace hBr := Lib.hid (hBr.out.later b)
                        replace kBr := Lib.hid (kBr.out.below b)
                        replace kC := Lib.hid (kC.out.below b)
                        clear b k0 k1' cR
                        have k0 := kC.out.1.c0
                        have k1' := kC.out.1.c1
                        have cC := ref4_Closed A3 x.m d3 cm v2 kC.out.2 gF.out
                        rw [hclo.out] at cC
                        replace cC := Lib.hid cC
                        go_wp2_with fail
                        refine cC.out.mono ?_; rintro e v3 ⟨rfl, b⟩
                        replace hBr := Lib.hid (hBr.out.later b)
                        replace kBr := Lib.hid (kBr.out.below b)
                        replace kC := Lib.hid (kC.out.below b)
                        clear b k0 k1' cC
                        have k0 := kC.out.1.c0
                        have k1' := kC.out.1.c1
                        have b0 := kBr.out.1.c0
                        have b1 := kBr.out.1.c1
                        have cS := ref3_Sub Cb A3 x.m db d3 bm cm v3 kBr.out.2 kC.out.2 (by omega) (fun i xs h => Nat.le_trans (hlb.out i xs h) (by decide)) (fun i xs h => Nat.le_trans (hlc.out i xs h) (by decide))
                        rw [hsb.out] at cS
                        replace cS := Lib.hid cS
                        go_wp2_with fail
                        refine cS.out.mono ?_; rintro e v4 ⟨rfl, b⟩
                        replace hBr := Lib.hid (hBr.out.later b)
                        clear b k0 k1' b0 b1 cS
                        go_wp2_with fail
                        go_ret
                        exact ⟨rfl, hBr.out.o⟩
  · have hml : decide ((20 : Int) < (m : Int)) = true := decide_eq_true (by omega)
    have hmlt : (20 : Int) < (m : Int) := by omega
    clear hm40
    -- a law of (h, l) with more than 20 pairs: hml, hmlt say so
    have cS := ref6_Small A n c 20 hs w hX (by omega) (by omega)
    clear hX hP
    obtain ⟨sb, hsb⟩ : ∃ b, b = smallL hs 20 := ⟨_, rfl⟩
    rw [← hsb] at cS
    replace cS := Lib.hid cS
    clear hsb
    cases sb with
    | false =>
      go_enter Try.func4, Try.ntmps4
      go_wp2_with fail
      refine cS.out.mono ?_; rintro e w1 ⟨rfl, b1⟩
      go_wp2_with fail
      refine (law17_awake w1).mono ?_; rintro e w9 ⟨rfl, b9⟩
      go_wp2_with fail
      go_ret
      exact ⟨rfl, below_trans2 b1 b9⟩
    | true =>
      go_enter Try.func4, Try.ntmps4
      go_wp2_with fail
      refine cS.out.mono ?_; rintro e w1 ⟨rfl, b1⟩
      go_wp2_with fail
      refine (law17_awake w1).mono ?_; rintro e w9 ⟨rfl, b9⟩
      go_wp2_with fail
      go_ret
      exact ⟨rfl, below_trans2 b1 b9⟩
end Go.Proofs.Ytpbiilhclmcehaa
