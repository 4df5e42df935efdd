/- Layer 13's law CauseMore, walked (where what comes in is of no more than 2^40 operations). -/
import Derived.Test.YtmgockkjoogcaaaCauseMorePk7
import Derived.Test.YtmgockkjoogcaaaCauseMorePk2
namespace Go.Proofs.Ytmgockkjoogcaaa
open Go.RowKit
set_option linter.unusedVariables false
theorem LAt.off1 {α : Type} {E : Enc α} {w w' : World} {row : Option Nat} {g n : Nat} {xs : List α} (h : LAt E w (some ⟨g, 0, none⟩) n xs) (hg : w.grownBy w' row) (hne : row ≠ some g) : LAt E w' (some ⟨g, 0, none⟩) n xs :=
  ⟨h.1, h.2.1, fun hn => by
    obtain ⟨b, off, e, hb, hc⟩ := h.2.2 hn
    cases e
    exact ⟨g, 0, rfl, Nat.lt_of_lt_of_le hb hg.size, fun j u hu => (World.cell?_of_block (w := w) (hg.block g hb (fun e => hne e.symm))).trans (hc j u hu)⟩⟩
theorem blk_one {w : World} {g : Nat} {t : TypeId} {v : Value} (h : Blk w g t [v]) : ∀ (j : Nat) (u : Value), [v][j]? = some u → w.cell? ((⟨g, 0, none⟩ : Addr).add j) = some u := fun j u hu => by
  cases j with
  | zero =>
    have e1 : (⟨g, 0, none⟩ : Addr).add 0 = ⟨g, 0, none⟩ := rfl
    rw [e1, h.cell 0]; exact hu
  | succ j => simp at hu
theorem conv_at {P : Program} (w : World) (src dst e : TypeId) (g : Nat) (c : UInt8) (h : Blk w g e [.int .u8 (c.toNat : Int)]) (hs : P.underlying src = some (.slice e)) (he : P.underlying e = some (.int .u8)) (hd : P.underlying dst = some .string) :
    (convert src dst (.slice (some ⟨g, 0, none⟩) 1 1)).run P w = .ok (.string ⟨#[c]⟩) w := by
  refine run_convert_bytes_back _ src dst e ⟨g, 0, none⟩ 1 [c] hs he hd (fun j hj => ?_)
  obtain rfl : j = 0 := by simp at hj; exact hj
  exact blk_one h 0 _ rfl
theorem cut_nine {T1 T2 T3 T4 T5 T6 T7 T8 T9 : Type} {Goal F : T1 → T2 → T3 → T4 → T5 → T6 → T7 → T8 → T9 → Prop} {R : Prop} (h1 : (∀ a b c d e f g h i, F a b c d e f g h i → Goal a b c d e f g h i) → R) (h2 : ∀ a b c d e f g h i, F a b c d e f g h i → Goal a b c d e f g h i) : R := h1 h2
theorem own_form {w : World} {base n size : Nat} {e : TypeId} {v : Value} {xs : List Value} (h : w.ownsRow base e size v n xs) : ∃ A c, v = .slice A n c := by
  rcases h.2 with ⟨h1, h2⟩ | ⟨_, _, _, h1, _⟩
  · subst h2; exact ⟨_, _, h1⟩
  · exact ⟨_, _, h1⟩
theorem info_sess13 : (Try.prog.info? 47).map (fun i => (i.zero, i.size, i.bytes)) = some (some (.slice none 0 0), 1, 24) := by kernel_rfl
theorem info_op13 : (Try.prog.info? 50).map (fun i => (i.zero, i.size, i.bytes)) = some (some (.agg #[.bool false, .string .empty, .int .i64 0]), 3, 32) := by kernel_rfl
set_option maxRecDepth 100000 in
set_option maxHeartbeats 4000000 in
theorem law13_CauseMore (A : Option Addr) (n c : Nat) (v val : Int) (hs : List (List OpT)) (w : World) (hX : HistAt w A n hs) (hnc : n ≤ c) (hc : c ≤ 1099511627776) (hF : (allO hs).length ≤ 1099511627776) (v0 : 0 ≤ v) (v1 : v ≤ 255) (u0 : 0 ≤ val) (u1 : val ≤ 255) :
    Calls Try.prog 5 #[.slice A n c, .int .u8 v, .int .u8 val] w (RetBool true w) := by
  have hXl := Lib.hid hX.len
  have cS := Lib.hid (ref6_Small A n c 30 hs w hX (by omega) (by omega))
  replace hX := Lib.hid hX
  cases hsa : smallL hs 30 with
  | false =>
    rw [hsa] at cS
    clear hsa
    go_enter Try.func5, Try.ntmps5
    go_wp2_with fail
    refine cS.out.mono ?_; rintro e w1 ⟨rfl, b1⟩
    go_wp2_with fail
    refine (law13_awake w1).mono ?_; rintro e w9 ⟨rfl, b9⟩
    go_wp2_with fail
    go_ret
    exact ⟨rfl, below_trans2 b1 b9⟩
  | true =>
    rw [hsa] at cS
    obtain ⟨hnx, hFx, hnm8⟩ := smallL_says hsa
    rw [hXl.out] at hnx
    replace hnm8 := Lib.hid hnm8
    clear hsa
    by_cases hn0 : n = 0
    · subst hn0
      go_enter Try.func5, Try.ntmps5
      go_wp2_with fail
      refine cS.out.mono ?_; rintro e w1 ⟨rfl, b1⟩
      go_wp2_with fail
      refine (law13_awake w1).mono ?_; rintro e w9 ⟨rfl, b9⟩
      go_wp2_with fail
      go_ret
      exact ⟨rfl, below_trans2 b1 b9⟩
    · obtain ⟨p, hpn⟩ : ∃ p, p + 1 = n := ⟨n - 1, by omega⟩
      obtain ⟨b0, off, B, m, cc, os, rfl, hbl, hos, hcell, hmc, hm63, hO⟩ := hX.out.at_ (show p < n by omega)
      have hm5 : Hid (m ≤ 30) := Lib.hid (by
        have h1 := baseO_succ hos
        have h2 := allO_take_le hs (p + 1)
        have h3 := hO.len
        unfold baseO at h1
        omega)
      have hp5 : Hid (p ≤ 30) := Lib.hid (by omega)
      have e0 : ((n : Int) == 0) = false := by simpa using hn0
      have e1 : (n : Int) - 1 = (p : Int) := by omega
      have e2 : wrap64 ((n : Int) - 1) = (p : Int) := by rw [e1]; simp [wrap64]; omega
      have hp0 : (0 : Int) ≤ (p : Int) := by omega
      have hpc : (p : Int) ≤ (c : Int) := by omega
      have hpn2 : 0 ≤ (p : Int) ∧ (p : Int) < (n : Int) := by omega
      replace hpn := Lib.hid hpn
      go_enter Try.func5, Try.ntmps5
      go_wp2_with fail
      refine cS.out.mono ?_; rintro e w1 ⟨rfl, b1⟩
      replace hX := Lib.hid (hX.out.below b1)
      have c1 := Lib.hid (ref11_Of (some ⟨b0, off, none⟩) n c hs w1 hX.out (by omega) (by omega))
      go_wp2_with fail
      refine c1.out.mono ?_; rintro e w3 ⟨x, rfl, hG, b3⟩
      obtain ⟨V, hV⟩ : ∃ W, W = w3.alloc (.cells #[.slice x.A x.n x.c, .slice x.B x.m x.d, .slice x.C x.k x.e] 29) := ⟨_, rfl⟩
      obtain ⟨g, hg⟩ : ∃ g, g = w3.heap.size := ⟨_, rfl⟩
      have bV : Below w3.heap.size w3 V := by rw [hV]; exact (Below.refl _ _).alloc (Nat.le_refl _) _
      have hBx : Hid (okO11 hs = true → FBox w g x (fillF (facO hs)) V) := Lib.hid (fun h => by rw [hV, hg]; exact (FBox.new (hG h)).from_ (below_trans2 b1 b3))
      replace hX := Lib.hid ((hX.out.below b3).below bV)
      have bb := Lib.hid (below_trans2 (below_trans2 b1 b3) bV)
      clear hG b1 cS c1
      have hXt := hX.out.take (show p ≤ n by omega)
      obtain ⟨vs, hvr, hvl, hv1, hvs⟩ := hXt.rd
      obtain ⟨i0, hi, hz0, hz1, hz2⟩ := info_parts info_sess13
      replace hi := Lib.hid hi
      replace hz0 := Lib.hid hz0
      replace hz1 := Lib.hid hz1
      replace hz2 := Lib.hid hz2
      obtain ⟨j0, ji, jz0, jz1, jz2⟩ := info_parts info_op13
      replace ji := Lib.hid ji
      replace jz0 := Lib.hid jz0
      replace jz1 := Lib.hid jz1
      replace jz2 := Lib.hid jz2
      obtain ⟨cu, hcc⟩ : ∃ cu : UInt8, cu = UInt8.ofNat (120 + v.toNat % 3) := ⟨_, rfl⟩
      have hcu : Hid (IntKind.u8.wrap (120 + v.tmod 3) = (cu.toNat : Int)) := Lib.hid (by rw [hcc, UInt8.toNat_ofNat', IntKind.wrap_u8, Int.tmod_eq_emod_of_nonneg v0]; omega)
      obtain ⟨vv, hvv⟩ : ∃ vv : Int, vv = val % 8 := ⟨_, rfl⟩
      have hvb : Hid (0 ≤ vv ∧ vv < 8) := Lib.hid (by omega)
      have hq1 : Hid (val.tmod 8 = vv) := Lib.hid (by rw [hvv, Int.tmod_eq_emod_of_nonneg u0])
      have hq2 : Hid (IntKind.i64.wrap vv = vv) := Lib.hid (by rw [IntKind.wrap_i64]; have := hvb.out; omega)
      have hq3 : Hid (wrap64 vv = vv) := Lib.hid (by simp only [wrap64]; have := hvb.out; omega)
      obtain ⟨op, hop⟩ : ∃ op : OpT, op = (false, ⟨#[cu]⟩, vv) := ⟨_, rfl⟩
      have hokop : Hid (encO.ok (false, ⟨#[cu]⟩, vv)) := Lib.hid ⟨by have := hvb.out; simp only; omega, by show (1 : Nat) ≤ 9223372036854775807; decide⟩
      replace hop := Lib.hid hop
      replace hvv := Lib.hid hvv.symm
      replace hcc := Lib.hid hcc
      have hlit : (World.alloc V (.cells #[] 47)).ownsRow (World.heap V).size 47 1 (.slice (some ⟨(World.heap V).size, 0, none⟩) 0 0) 0 [] := by
        have h := World.ownsRow_lit (size := 1) (base := (World.heap V).size) (e := 47) V #[] 0 (Nat.le_refl _) (by omega) (by simp)
        simpa using h
      have hb0 : Below (World.heap V).size V (World.alloc V (.cells #[] 47)) := (Below.refl _ _).alloc (Nat.le_refl _) _
      have hrd := Lib.hid (hvr.below hb0)
      replace hlit := Lib.hid hlit
      replace hb0 := Lib.hid hb0
      replace hv1 := Lib.hid hv1
      replace hvs := Lib.hid hvs
      replace hvl := Lib.hid hvl
      have hvn := Lib.hid hvr.1
      have hcV := Lib.hid ((bb.out.cell (p := ⟨b0, off + p, none⟩) hbl).trans hcell)
      have hbV := Lib.hid (Nat.lt_of_lt_of_le hbl bb.out.size)
      have hOV := Lib.hid (show LAt encO V B m os from hO.below bb.out)
      replace hos := Lib.hid hos
      clear hvr hXt hcell hO hbl
      go_wp2_with (first
        | (rw [← hV, ← hg]; clear hV; replace hg := Lib.hid hg)
        | (at_builtin; refine wpList_append_rd rfl (.tmp 34) (.tmp 37) _ rfl (World.heap V).size 47 i0 _ 24 Try.underlying22 hi.out hz0.out hz1.out hz2.out rfl _ 0 _ (by rfl) hlit.out _ p c _ rfl hrd.out hv1.out (by unfold maxLen; omega) (by omega) hb0.out.size ?_; intro v10 w5 hown1 hbb hform; clear hform; rw [Nat.zero_add, List.nil_append] at hown1; replace hown1 := Lib.hid hown1; replace hb0 := Lib.hid (hb0.out.trans hbb); clear hbb))
      refine wp_region_treeB V.heap.size (.flt 0 (.flt 2 (.flt 3 (.flt 4 (.flt 5 (.flt 7 (.flt 8 (.flt 9 (.flt 12 (.flt 13 (.flt 14 (.two 1 10 (.two 6 10 (.one 10 (.one 11 (.flt 15 (.one 16 (.one 17 (.one 18 (.one 19 (.flt 20 .done)))))))) (.two 6 11 (.one 11 (.flt 15 (.one 16 (.one 17 (.one 18 (.one 19 (.flt 20 .done))))))) (.flt 15 (.two 6 16 (.one 16 (.one 17 (.one 18 (.one 19 (.flt 20 .done))))) (.one 6 (.one 17 (.one 18 (.one 19 (.flt 20 .done))))))))) (.two 1 11 (.two 6 11 (.one 11 (.flt 15 (.one 16 (.one 17 (.one 18 (.one 19 (.flt 20 .done))))))) (.flt 15 (.two 6 16 (.one 16 (.one 17 (.one 18 (.one 19 (.flt 20 .done))))) (.one 6 (.one 17 (.one 18 (.one 19 (.flt 20 .done)))))))) (.flt 15 (.two 1 16 (.two 6 16 (.one 16 (.one 17 (.one 18 (.one 19 (.flt 20 .done))))) (.one 6 (.one 17 (.one 18 (.one 19 (.flt 20 .done)))))) (.one 1 (.one 6 (.one 17 (.one 18 (.one 19 (.flt 20 .done))))))))))))))))))))) (by kernel_rfl) (by kernel_rfl) (fun U hU => ?_)
      have own10 := Lib.hid (show U.ownsRow V.heap.size 47 1 v10 p vs from by rw [hU.out]; exact hown1.out)
      have hVU := Lib.hid (show Below V.heap.size V U from by rw [hU.out]; exact hb0.out.drew)
      have hUV : Hid (V.heap.size ≤ U.heap.size) := Lib.hid hVU.out.size
      have hcU := Lib.hid ((hVU.out.cell (p := ⟨b0, off + p, none⟩) hbV.out).trans hcV.out)
      have hO := Lib.hid (hOV.out.below hVU.out)
      have bW : Below V.heap.size U U := Below.refl _ _
      clear hU hown1 hb0 hlit hrd hv1
      apply cut_nine (F := fun (g1 : Nat) (v45 : Value) (g10 g16 : Nat) (A6 : Option Addr) (c6 : Nat) (g18 : Nat) (v58 : Value) (w9 : World) => w9.ownsRow V.heap.size 47 1 v58 (p + 1) (vs ++ [.slice A6 (m + 1) c6]) ∧ w9.ownsRow V.heap.size 50 3 (.slice A6 (m + 1) c6) (m + 1) (encO.all (os ++ [op])) ∧ Below V.heap.size U w9)
      · intro key
        iterate 11
          refine wpPTB_float (v := ?_) rfl (by rfl) (fun w' hw' => ?_) (fun K hK => ?_)
          rotate_left
          · (have hcl := (hw'.cell (p := ⟨b0, off + p, none⟩) hbV.out).trans hcU.out; clear hw'; go_simp; try with_reducible rfl)
          go_simp
          refine hK _ ?_
          clear hK K
        refine wpPT_two rfl (by rfl) rfl (by rfl) (fun K hK => ?_) (fun K hK => ?_)
        · go_simp
          obtain ⟨g1, hg⟩ : ∃ G, G = U.heap.size := ⟨_, rfl⟩
          obtain ⟨u1, hw⟩ : ∃ X : World, X = U.alloc (.cells #[] 50) := ⟨_, rfl⟩
          rw [← hw, ← hg]
          have b : Below U.heap.size U u1 := by rw [hw]; exact (Below.refl _ _).alloc (Nat.le_refl _) _
          have hVg1 : V.heap.size ≤ g1 := by rw [hg]; have h1 := bW.size; have h2 := hUV.out; omega
          have o40lt : g1 < u1.heap.size := by rw [hw, hg]; simp
          replace bW := bW.trans (b.mono (Nat.le_trans hUV.out bW.size))
          refine hK _ _ bW ?_
          clear hK K
          replace own10 := Lib.hid (own_below own10.out b)
          replace hO := Lib.hid (hO.out.below b)
          have o40 := Lib.hid (show u1.ownsRow V.heap.size 50 3 (.slice (some ⟨g1, 0, none⟩) 0 0) 0 (encO.all []) from by rw [hw, hg]; exact World.ownsRow_lit _ _ 0 (by rw [← hg]; exact hVg1) (by unfold maxLen; omega) rfl)
          clear b hw hg
          refine wpPT_two rfl (by rfl) rfl (by rfl) (fun K hK => ?_) (fun K hK => ?_)
          · refine wp_append_L (E := encO) (.tmp 40) (.tmp 44) _ rfl V.heap.size 50 j0 _ 32 Try.underlying47 ji.out jz0.out jz1.out jz2.out rfl _ 0 [] (by rfl) o40.out _ m cc os (by rfl) hO.out (by unfold maxLen; have := hm5.out; omega) (by have := hm5.out; omega) (Nat.le_trans hUV.out bW.size) ?_
            intro v45 u2 hown hbb hgr hob
            clear hob
            replace bW := bW.trans hbb
            refine hK _ _ bW ?_
            clear hK K
            replace own10 := Lib.hid (own_grown own10.out o40.out (by decide) hgr)
            have o45 := Lib.hid (show u2.ownsRow V.heap.size 50 3 v45 (0 + m) (encO.all ([] ++ os)) from hown)
            rw [Nat.zero_add, List.nil_append] at o45
            clear hown hbb hgr o40 hO o40lt
            refine wpPT_one rfl (by rfl) (fun K hK => ?_)
            go_simp
            rw [hcu.out]
            obtain ⟨g10, hg⟩ : ∃ G, G = u2.heap.size := ⟨_, rfl⟩
            obtain ⟨u3, hw⟩ : ∃ X : World, X = u2.alloc (.cells #[.int .u8 (cu.toNat : Int)] 5) := ⟨_, rfl⟩
            rw [← hw, ← hg]
            have b : Below u2.heap.size u2 u3 := by rw [hw]; exact (Below.refl _ _).alloc (Nat.le_refl _) _
            have hVg10 : V.heap.size ≤ g10 := by rw [hg]; have h1 := bW.size; have h2 := hUV.out; omega
            replace bW := bW.trans (b.mono (Nat.le_trans hUV.out bW.size))
            refine hK _ _ bW ?_
            clear hK K
            replace own10 := Lib.hid (own_below own10.out b)
            replace o45 := Lib.hid (own_below o45.out b)
            have hB10 := Lib.hid (show Blk u3 g10 5 [.int .u8 (cu.toNat : Int)] from by rw [hw, hg]; exact Blk.new _ _ _)
            clear b hw hg
            refine wpPT_one rfl (by rfl) (fun K hK => ?_)
            have hcv := conv_at (P := Try.prog) u3 48 9 5 g10 cu hB10.out (by kernel_rfl) (by kernel_rfl) (by kernel_rfl)
            go_simp
            refine hK _ _ bW ?_
            clear hK K hcv hB10
            iterate 1
              refine wpPTB_float (v := ?_) rfl (by rfl) (fun w' hw' => ?_) (fun K hK => ?_)
              rotate_left
              · (have hcl := (hw'.cell (p := ⟨b0, off + p, none⟩) hbV.out).trans hcU.out; clear hw'; go_simp; try with_reducible rfl)
              go_simp
              refine hK _ ?_
              clear hK K
            refine wpPT_one rfl (by rfl) (fun K hK => ?_)
            go_simp
            rw [hq1.out]
            try rw [hq2.out]
            try rw [hq3.out]
            obtain ⟨g16, hg⟩ : ∃ G, G = u3.heap.size := ⟨_, rfl⟩
            obtain ⟨u5, hw⟩ : ∃ X : World, X = u3.alloc (.cells #[.bool false, .string ⟨#[cu]⟩, .int .i64 vv] 50) := ⟨_, rfl⟩
            rw [← hw, ← hg]
            have b : Below u3.heap.size u3 u5 := by rw [hw]; exact (Below.refl _ _).alloc (Nat.le_refl _) _
            have hVg16 : V.heap.size ≤ g16 := by rw [hg]; have h1 := bW.size; have h2 := hUV.out; omega
            have g16lt : g16 < u5.heap.size := by rw [hw, hg]; simp
            replace bW := bW.trans (b.mono (Nat.le_trans hUV.out bW.size))
            refine hK _ _ bW ?_
            clear hK K
            replace own10 := Lib.hid (own_below own10.out b)
            replace o45 := Lib.hid (own_below o45.out b)
            have l16 := Lib.hid (show LAt encO u5 (some ⟨g16, 0, none⟩) 1 [op] from by rw [hw, hg, hop.out]; exact LAt.lit1 (E := encO) _ _ (false, ⟨#[cu]⟩, vv) hokop.out)
            clear b hw hg
            refine wpPT_one rfl (by rfl) (fun K hK => ?_)
            refine wp_append_L (E := encO) (.tmp 45) (.tmp 55) _ rfl V.heap.size 50 j0 _ 32 Try.underlying47 ji.out jz0.out jz1.out jz2.out rfl _ m os (by rfl) o45.out _ 1 1 [op] (by rfl) l16.out (by unfold maxLen; have := hm5.out; omega) (by have := hm5.out; omega) (Nat.le_trans hUV.out bW.size) ?_
            intro v56 u6 hown hbb hgr hob
            clear hob
            replace bW := bW.trans hbb
            refine hK _ _ bW ?_
            clear hK K
            replace own10 := Lib.hid (own_grown own10.out o45.out (by decide) hgr)
            have o56 := Lib.hid (show u6.ownsRow V.heap.size 50 3 v56 (m + 1) (encO.all (os ++ [op])) from hown)
            obtain ⟨A6, c6, rfl⟩ := own_form hown
            clear hown hbb hgr o45 l16 g16lt
            refine wpPT_one rfl (by rfl) (fun K hK => ?_)
            go_simp
            obtain ⟨g18, hg⟩ : ∃ G, G = u6.heap.size := ⟨_, rfl⟩
            obtain ⟨u7, hw⟩ : ∃ X : World, X = u6.alloc (.cells #[.slice A6 (m + 1) c6] 47) := ⟨_, rfl⟩
            rw [← hw, ← hg]
            have b : Below u6.heap.size u6 u7 := by rw [hw]; exact (Below.refl _ _).alloc (Nat.le_refl _) _
            have hVg18 : V.heap.size ≤ g18 := by rw [hg]; have h1 := bW.size; have h2 := hUV.out; omega
            replace bW := bW.trans (b.mono (Nat.le_trans hUV.out bW.size))
            refine hK _ _ bW ?_
            clear hK K
            replace own10 := Lib.hid (own_below own10.out b)
            replace o56 := Lib.hid (own_below o56.out b)
            have l18 := Lib.hid (show Blk u7 g18 47 [.slice A6 (m + 1) c6] from by rw [hw, hg]; exact Blk.new _ _ _)
            clear b hw hg
            refine wpPT_one rfl (by rfl) (fun K hK => ?_)
            refine wp_append_own _ (.tmp 39) (.tmp 57) _ rfl V.heap.size 47 i0 _ 1 24 Try.underlying22 hi.out hz0.out hz1.out hz2.out rfl (by omega) v10 p vs (by rfl) own10.out ⟨g18, 0, none⟩ 1 1 [.slice A6 (m + 1) c6] (by rfl) rfl (blk_one l18.out) (by intro u hu; rw [List.mem_singleton.1 hu]; rfl) (by unfold maxLen; have := hp5.out; omega) (by have := hp5.out; omega) (Nat.le_trans hUV.out bW.size) ?_
            intro v58 w9 hown hgr hnn
            have b9 := bW.trans ((Below.refl _ _).grown hgr (Nat.le_trans hUV.out bW.size) (own_lt_block own10.out))
            refine hK _ _ b9 ?_
            clear hK K hnn
            iterate 1
              refine wpPTB_float (v := ?_) rfl (by rfl) (fun w' hw' => ?_) (fun K hK => ?_)
              rotate_left
              · (go_simp; try with_reducible rfl)
              go_simp
              refine hK _ ?_
              clear hK K
            refine wpPT_done (NoPanic.normal ?_)
            exact key g1 v45 g10 g16 A6 c6 g18 v58 w9 ⟨hown, own_grown o56.out own10.out (by decide) hgr, b9⟩
          · go_simp
            rw [hcu.out]
            obtain ⟨g10, hg⟩ : ∃ G, G = u1.heap.size := ⟨_, rfl⟩
            obtain ⟨u8, hw⟩ : ∃ X : World, X = u1.alloc (.cells #[.int .u8 (cu.toNat : Int)] 5) := ⟨_, rfl⟩
            rw [← hw, ← hg]
            have b : Below u1.heap.size u1 u8 := by rw [hw]; exact (Below.refl _ _).alloc (Nat.le_refl _) _
            have hVg10 : V.heap.size ≤ g10 := by rw [hg]; have h1 := bW.size; have h2 := hUV.out; omega
            replace bW := bW.trans (b.mono (Nat.le_trans hUV.out bW.size))
            refine hK _ _ bW ?_
            clear hK K
            replace own10 := Lib.hid (own_below own10.out b)
            replace hO := Lib.hid (hO.out.below b)
            replace o40 := Lib.hid (own_below o40.out b)
            replace o40lt := Nat.lt_of_lt_of_le o40lt b.size
            have hB10 := Lib.hid (show Blk u8 g10 5 [.int .u8 (cu.toNat : Int)] from by rw [hw, hg]; exact Blk.new _ _ _)
            clear b hw hg
            refine wpPT_two rfl (by rfl) rfl (by rfl) (fun K hK => ?_) (fun K hK => ?_)
            · refine wp_append_L (E := encO) (.tmp 40) (.tmp 44) _ rfl V.heap.size 50 j0 _ 32 Try.underlying47 ji.out jz0.out jz1.out jz2.out rfl _ 0 [] (by rfl) o40.out _ m cc os (by rfl) hO.out (by unfold maxLen; have := hm5.out; omega) (by have := hm5.out; omega) (Nat.le_trans hUV.out bW.size) ?_
              intro v45 u9 hown hbb hgr hob
              clear hob
              replace bW := bW.trans hbb
              refine hK _ _ bW ?_
              clear hK K
              replace own10 := Lib.hid (own_grown own10.out o40.out (by decide) hgr)
              replace hB10 := Lib.hid (show Blk u9 g10 5 [.int .u8 (cu.toNat : Int)] from (hgr.block g10 hB10.out.lt (fun e => hB10.out.not_row' (by decide) o40.out e.symm)).trans hB10.out)
              have o45 := Lib.hid (show u9.ownsRow V.heap.size 50 3 v45 (0 + m) (encO.all ([] ++ os)) from hown)
              rw [Nat.zero_add, List.nil_append] at o45
              clear hown hbb hgr o40 hO o40lt
              refine wpPT_one rfl (by rfl) (fun K hK => ?_)
              have hcv := conv_at (P := Try.prog) u9 48 9 5 g10 cu hB10.out (by kernel_rfl) (by kernel_rfl) (by kernel_rfl)
              go_simp
              refine hK _ _ bW ?_
              clear hK K hcv hB10
              iterate 1
                refine wpPTB_float (v := ?_) rfl (by rfl) (fun w' hw' => ?_) (fun K hK => ?_)
                rotate_left
                · (have hcl := (hw'.cell (p := ⟨b0, off + p, none⟩) hbV.out).trans hcU.out; clear hw'; go_simp; try with_reducible rfl)
                go_simp
                refine hK _ ?_
                clear hK K
              refine wpPT_one rfl (by rfl) (fun K hK => ?_)
              go_simp
              rw [hq1.out]
              try rw [hq2.out]
              try rw [hq3.out]
              obtain ⟨g16, hg⟩ : ∃ G, G = u9.heap.size := ⟨_, rfl⟩
              obtain ⟨u11, hw⟩ : ∃ X : World, X = u9.alloc (.cells #[.bool false, .string ⟨#[cu]⟩, .int .i64 vv] 50) := ⟨_, rfl⟩
              rw [← hw, ← hg]
              have b : Below u9.heap.size u9 u11 := by rw [hw]; exact (Below.refl _ _).alloc (Nat.le_refl _) _
              have hVg16 : V.heap.size ≤ g16 := by rw [hg]; have h1 := bW.size; have h2 := hUV.out; omega
              have g16lt : g16 < u11.heap.size := by rw [hw, hg]; simp
              replace bW := bW.trans (b.mono (Nat.le_trans hUV.out bW.size))
              refine hK _ _ bW ?_
              clear hK K
              replace own10 := Lib.hid (own_below own10.out b)
              replace o45 := Lib.hid (own_below o45.out b)
              have l16 := Lib.hid (show LAt encO u11 (some ⟨g16, 0, none⟩) 1 [op] from by rw [hw, hg, hop.out]; exact LAt.lit1 (E := encO) _ _ (false, ⟨#[cu]⟩, vv) hokop.out)
              clear b hw hg
              refine wpPT_one rfl (by rfl) (fun K hK => ?_)
              refine wp_append_L (E := encO) (.tmp 45) (.tmp 55) _ rfl V.heap.size 50 j0 _ 32 Try.underlying47 ji.out jz0.out jz1.out jz2.out rfl _ m os (by rfl) o45.out _ 1 1 [op] (by rfl) l16.out (by unfold maxLen; have := hm5.out; omega) (by have := hm5.out; omega) (Nat.le_trans hUV.out bW.size) ?_
              intro v56 u12 hown hbb hgr hob
              clear hob
              replace bW := bW.trans hbb
              refine hK _ _ bW ?_
              clear hK K
              replace own10 := Lib.hid (own_grown own10.out o45.out (by decide) hgr)
              have o56 := Lib.hid (show u12.ownsRow V.heap.size 50 3 v56 (m + 1) (encO.all (os ++ [op])) from hown)
              obtain ⟨A6, c6, rfl⟩ := own_form hown
              clear hown hbb hgr o45 l16 g16lt
              refine wpPT_one rfl (by rfl) (fun K hK => ?_)
              go_simp
              obtain ⟨g18, hg⟩ : ∃ G, G = u12.heap.size := ⟨_, rfl⟩
              obtain ⟨u13, hw⟩ : ∃ X : World, X = u12.alloc (.cells #[.slice A6 (m + 1) c6] 47) := ⟨_, rfl⟩
              rw [← hw, ← hg]
              have b : Below u12.heap.size u12 u13 := by rw [hw]; exact (Below.refl _ _).alloc (Nat.le_refl _) _
              have hVg18 : V.heap.size ≤ g18 := by rw [hg]; have h1 := bW.size; have h2 := hUV.out; omega
              replace bW := bW.trans (b.mono (Nat.le_trans hUV.out bW.size))
              refine hK _ _ bW ?_
              clear hK K
              replace own10 := Lib.hid (own_below own10.out b)
              replace o56 := Lib.hid (own_below o56.out b)
              have l18 := Lib.hid (show Blk u13 g18 47 [.slice A6 (m + 1) c6] from by rw [hw, hg]; exact Blk.new _ _ _)
              clear b hw hg
              refine wpPT_one rfl (by rfl) (fun K hK => ?_)
              refine wp_append_own _ (.tmp 39) (.tmp 57) _ rfl V.heap.size 47 i0 _ 1 24 Try.underlying22 hi.out hz0.out hz1.out hz2.out rfl (by omega) v10 p vs (by rfl) own10.out ⟨g18, 0, none⟩ 1 1 [.slice A6 (m + 1) c6] (by rfl) rfl (blk_one l18.out) (by intro u hu; rw [List.mem_singleton.1 hu]; rfl) (by unfold maxLen; have := hp5.out; omega) (by have := hp5.out; omega) (Nat.le_trans hUV.out bW.size) ?_
              intro v58 w9 hown hgr hnn
              have b9 := bW.trans ((Below.refl _ _).grown hgr (Nat.le_trans hUV.out bW.size) (own_lt_block own10.out))
              refine hK _ _ b9 ?_
              clear hK K hnn
              iterate 1
                refine wpPTB_float (v := ?_) rfl (by rfl) (fun w' hw' => ?_) (fun K hK => ?_)
                rotate_left
                · (go_simp; try with_reducible rfl)
                go_simp
                refine hK _ ?_
                clear hK K
              refine wpPT_done (NoPanic.normal ?_)
              exact key g1 v45 g10 g16 A6 c6 g18 v58 w9 ⟨hown, own_grown o56.out own10.out (by decide) hgr, b9⟩
            · have hcv := conv_at (P := Try.prog) u8 48 9 5 g10 cu hB10.out (by kernel_rfl) (by kernel_rfl) (by kernel_rfl)
              go_simp
              refine hK _ _ bW ?_
              clear hK K hcv hB10
              iterate 1
                refine wpPTB_float (v := ?_) rfl (by rfl) (fun w' hw' => ?_) (fun K hK => ?_)
                rotate_left
                · (have hcl := (hw'.cell (p := ⟨b0, off + p, none⟩) hbV.out).trans hcU.out; clear hw'; go_simp; try with_reducible rfl)
                go_simp
                refine hK _ ?_
                clear hK K
              refine wpPT_two rfl (by rfl) rfl (by rfl) (fun K hK => ?_) (fun K hK => ?_)
              · refine wp_append_L (E := encO) (.tmp 40) (.tmp 44) _ rfl V.heap.size 50 j0 _ 32 Try.underlying47 ji.out jz0.out jz1.out jz2.out rfl _ 0 [] (by rfl) o40.out _ m cc os (by rfl) hO.out (by unfold maxLen; have := hm5.out; omega) (by have := hm5.out; omega) (Nat.le_trans hUV.out bW.size) ?_
                intro v45 u15 hown hbb hgr hob
                clear hob
                replace bW := bW.trans hbb
                refine hK _ _ bW ?_
                clear hK K
                replace own10 := Lib.hid (own_grown own10.out o40.out (by decide) hgr)
                have o45 := Lib.hid (show u15.ownsRow V.heap.size 50 3 v45 (0 + m) (encO.all ([] ++ os)) from hown)
                rw [Nat.zero_add, List.nil_append] at o45
                clear hown hbb hgr o40 hO o40lt
                refine wpPT_one rfl (by rfl) (fun K hK => ?_)
                go_simp
                rw [hq1.out]
                try rw [hq2.out]
                try rw [hq3.out]
                obtain ⟨g16, hg⟩ : ∃ G, G = u15.heap.size := ⟨_, rfl⟩
                obtain ⟨u16, hw⟩ : ∃ X : World, X = u15.alloc (.cells #[.bool false, .string ⟨#[cu]⟩, .int .i64 vv] 50) := ⟨_, rfl⟩
                rw [← hw, ← hg]
                have b : Below u15.heap.size u15 u16 := by rw [hw]; exact (Below.refl _ _).alloc (Nat.le_refl _) _
                have hVg16 : V.heap.size ≤ g16 := by rw [hg]; have h1 := bW.size; have h2 := hUV.out; omega
                have g16lt : g16 < u16.heap.size := by rw [hw, hg]; simp
                replace bW := bW.trans (b.mono (Nat.le_trans hUV.out bW.size))
                refine hK _ _ bW ?_
                clear hK K
                replace own10 := Lib.hid (own_below own10.out b)
                replace o45 := Lib.hid (own_below o45.out b)
                have l16 := Lib.hid (show LAt encO u16 (some ⟨g16, 0, none⟩) 1 [op] from by rw [hw, hg, hop.out]; exact LAt.lit1 (E := encO) _ _ (false, ⟨#[cu]⟩, vv) hokop.out)
                clear b hw hg
                refine wpPT_one rfl (by rfl) (fun K hK => ?_)
                refine wp_append_L (E := encO) (.tmp 45) (.tmp 55) _ rfl V.heap.size 50 j0 _ 32 Try.underlying47 ji.out jz0.out jz1.out jz2.out rfl _ m os (by rfl) o45.out _ 1 1 [op] (by rfl) l16.out (by unfold maxLen; have := hm5.out; omega) (by have := hm5.out; omega) (Nat.le_trans hUV.out bW.size) ?_
                intro v56 u17 hown hbb hgr hob
                clear hob
                replace bW := bW.trans hbb
                refine hK _ _ bW ?_
                clear hK K
                replace own10 := Lib.hid (own_grown own10.out o45.out (by decide) hgr)
                have o56 := Lib.hid (show u17.ownsRow V.heap.size 50 3 v56 (m + 1) (encO.all (os ++ [op])) from hown)
                obtain ⟨A6, c6, rfl⟩ := own_form hown
                clear hown hbb hgr o45 l16 g16lt
                refine wpPT_one rfl (by rfl) (fun K hK => ?_)
                go_simp
                obtain ⟨g18, hg⟩ : ∃ G, G = u17.heap.size := ⟨_, rfl⟩
                obtain ⟨u18, hw⟩ : ∃ X : World, X = u17.alloc (.cells #[.slice A6 (m + 1) c6] 47) := ⟨_, rfl⟩
                rw [← hw, ← hg]
                have b : Below u17.heap.size u17 u18 := by rw [hw]; exact (Below.refl _ _).alloc (Nat.le_refl _) _
                have hVg18 : V.heap.size ≤ g18 := by rw [hg]; have h1 := bW.size; have h2 := hUV.out; omega
                replace bW := bW.trans (b.mono (Nat.le_trans hUV.out bW.size))
                refine hK _ _ bW ?_
                clear hK K
                replace own10 := Lib.hid (own_below own10.out b)
                replace o56 := Lib.hid (own_below o56.out b)
                have l18 := Lib.hid (show Blk u18 g18 47 [.slice A6 (m + 1) c6] from by rw [hw, hg]; exact Blk.new _ _ _)
                clear b hw hg
                refine wpPT_one rfl (by rfl) (fun K hK => ?_)
                refine wp_append_own _ (.tmp 39) (.tmp 57) _ rfl V.heap.size 47 i0 _ 1 24 Try.underlying22 hi.out hz0.out hz1.out hz2.out rfl (by omega) v10 p vs (by rfl) own10.out ⟨g18, 0, none⟩ 1 1 [.slice A6 (m + 1) c6] (by rfl) rfl (blk_one l18.out) (by intro u hu; rw [List.mem_singleton.1 hu]; rfl) (by unfold maxLen; have := hp5.out; omega) (by have := hp5.out; omega) (Nat.le_trans hUV.out bW.size) ?_
                intro v58 w9 hown hgr hnn
                have b9 := bW.trans ((Below.refl _ _).grown hgr (Nat.le_trans hUV.out bW.size) (own_lt_block own10.out))
                refine hK _ _ b9 ?_
                clear hK K hnn
                iterate 1
                  refine wpPTB_float (v := ?_) rfl (by rfl) (fun w' hw' => ?_) (fun K hK => ?_)
                  rotate_left
                  · (go_simp; try with_reducible rfl)
                  go_simp
                  refine hK _ ?_
                  clear hK K
                refine wpPT_done (NoPanic.normal ?_)
                exact key g1 v45 g10 g16 A6 c6 g18 v58 w9 ⟨hown, own_grown o56.out own10.out (by decide) hgr, b9⟩
              · go_simp
                rw [hq1.out]
                try rw [hq2.out]
                try rw [hq3.out]
                obtain ⟨g16, hg⟩ : ∃ G, G = u8.heap.size := ⟨_, rfl⟩
                obtain ⟨u19, hw⟩ : ∃ X : World, X = u8.alloc (.cells #[.bool false, .string ⟨#[cu]⟩, .int .i64 vv] 50) := ⟨_, rfl⟩
                rw [← hw, ← hg]
                have b : Below u8.heap.size u8 u19 := by rw [hw]; exact (Below.refl _ _).alloc (Nat.le_refl _) _
                have hVg16 : V.heap.size ≤ g16 := by rw [hg]; have h1 := bW.size; have h2 := hUV.out; omega
                have hne : g1 ≠ g16 := by have := o40lt; omega
                have g16lt : g16 < u19.heap.size := by rw [hw, hg]; simp
                replace bW := bW.trans (b.mono (Nat.le_trans hUV.out bW.size))
                refine hK _ _ bW ?_
                clear hK K
                replace own10 := Lib.hid (own_below own10.out b)
                replace hO := Lib.hid (hO.out.below b)
                replace o40 := Lib.hid (own_below o40.out b)
                replace o40lt := Nat.lt_of_lt_of_le o40lt b.size
                have l16 := Lib.hid (show LAt encO u19 (some ⟨g16, 0, none⟩) 1 [op] from by rw [hw, hg, hop.out]; exact LAt.lit1 (E := encO) _ _ (false, ⟨#[cu]⟩, vv) hokop.out)
                clear b hw hg
                refine wpPT_one rfl (by rfl) (fun K hK => ?_)
                refine wp_append_L (E := encO) (.tmp 40) (.tmp 44) _ rfl V.heap.size 50 j0 _ 32 Try.underlying47 ji.out jz0.out jz1.out jz2.out rfl _ 0 [] (by rfl) o40.out _ m cc os (by rfl) hO.out (by unfold maxLen; have := hm5.out; omega) (by have := hm5.out; omega) (Nat.le_trans hUV.out bW.size) ?_
                intro v45 u20 hown hbb hgr hob
                clear hob
                replace bW := bW.trans hbb
                refine hK _ _ bW ?_
                clear hK K
                replace own10 := Lib.hid (own_grown own10.out o40.out (by decide) hgr)
                replace l16 := Lib.hid (l16.out.off1 hgr (fun e => hne (by simpa [Value.ownBlock] using e)))
                replace g16lt := Nat.lt_of_lt_of_le g16lt hgr.size
                have o45 := Lib.hid (show u20.ownsRow V.heap.size 50 3 v45 (0 + m) (encO.all ([] ++ os)) from hown)
                rw [Nat.zero_add, List.nil_append] at o45
                clear hown hbb hgr o40 hO o40lt
                refine wpPT_one rfl (by rfl) (fun K hK => ?_)
                refine wp_append_L (E := encO) (.tmp 45) (.tmp 55) _ rfl V.heap.size 50 j0 _ 32 Try.underlying47 ji.out jz0.out jz1.out jz2.out rfl _ m os (by rfl) o45.out _ 1 1 [op] (by rfl) l16.out (by unfold maxLen; have := hm5.out; omega) (by have := hm5.out; omega) (Nat.le_trans hUV.out bW.size) ?_
                intro v56 u21 hown hbb hgr hob
                clear hob
                replace bW := bW.trans hbb
                refine hK _ _ bW ?_
                clear hK K
                replace own10 := Lib.hid (own_grown own10.out o45.out (by decide) hgr)
                have o56 := Lib.hid (show u21.ownsRow V.heap.size 50 3 v56 (m + 1) (encO.all (os ++ [op])) from hown)
                obtain ⟨A6, c6, rfl⟩ := own_form hown
                clear hown hbb hgr o45 l16 g16lt
                refine wpPT_one rfl (by rfl) (fun K hK => ?_)
                go_simp
                obtain ⟨g18, hg⟩ : ∃ G, G = u21.heap.size := ⟨_, rfl⟩
                obtain ⟨u22, hw⟩ : ∃ X : World, X = u21.alloc (.cells #[.slice A6 (m + 1) c6] 47) := ⟨_, rfl⟩
                rw [← hw, ← hg]
                have b : Below u21.heap.size u21 u22 := by rw [hw]; exact (Below.refl _ _).alloc (Nat.le_refl _) _
                have hVg18 : V.heap.size ≤ g18 := by rw [hg]; have h1 := bW.size; have h2 := hUV.out; omega
                replace bW := bW.trans (b.mono (Nat.le_trans hUV.out bW.size))
                refine hK _ _ bW ?_
                clear hK K
                replace own10 := Lib.hid (own_below own10.out b)
                replace o56 := Lib.hid (own_below o56.out b)
                have l18 := Lib.hid (show Blk u22 g18 47 [.slice A6 (m + 1) c6] from by rw [hw, hg]; exact Blk.new _ _ _)
                clear b hw hg
                refine wpPT_one rfl (by rfl) (fun K hK => ?_)
                refine wp_append_own _ (.tmp 39) (.tmp 57) _ rfl V.heap.size 47 i0 _ 1 24 Try.underlying22 hi.out hz0.out hz1.out hz2.out rfl (by omega) v10 p vs (by rfl) own10.out ⟨g18, 0, none⟩ 1 1 [.slice A6 (m + 1) c6] (by rfl) rfl (blk_one l18.out) (by intro u hu; rw [List.mem_singleton.1 hu]; rfl) (by unfold maxLen; have := hp5.out; omega) (by have := hp5.out; omega) (Nat.le_trans hUV.out bW.size) ?_
                intro v58 w9 hown hgr hnn
                have b9 := bW.trans ((Below.refl _ _).grown hgr (Nat.le_trans hUV.out bW.size) (own_lt_block own10.out))
                refine hK _ _ b9 ?_
                clear hK K hnn
                iterate 1
                  refine wpPTB_float (v := ?_) rfl (by rfl) (fun w' hw' => ?_) (fun K hK => ?_)
                  rotate_left
                  · (go_simp; try with_reducible rfl)
                  go_simp
                  refine hK _ ?_
                  clear hK K
                refine wpPT_done (NoPanic.normal ?_)
                exact key g1 v45 g10 g16 A6 c6 g18 v58 w9 ⟨hown, own_grown o56.out own10.out (by decide) hgr, b9⟩
        · go_simp
          rw [hcu.out]
          obtain ⟨g10, hg⟩ : ∃ G, G = U.heap.size := ⟨_, rfl⟩
          obtain ⟨u23, hw⟩ : ∃ X : World, X = U.alloc (.cells #[.int .u8 (cu.toNat : Int)] 5) := ⟨_, rfl⟩
          rw [← hw, ← hg]
          have b : Below U.heap.size U u23 := by rw [hw]; exact (Below.refl _ _).alloc (Nat.le_refl _) _
          have hVg10 : V.heap.size ≤ g10 := by rw [hg]; have h1 := bW.size; have h2 := hUV.out; omega
          replace bW := bW.trans (b.mono (Nat.le_trans hUV.out bW.size))
          refine hK _ _ bW ?_
          clear hK K
          replace own10 := Lib.hid (own_below own10.out b)
          replace hO := Lib.hid (hO.out.below b)
          have hB10 := Lib.hid (show Blk u23 g10 5 [.int .u8 (cu.toNat : Int)] from by rw [hw, hg]; exact Blk.new _ _ _)
          clear b hw hg
          refine wpPT_two rfl (by rfl) rfl (by rfl) (fun K hK => ?_) (fun K hK => ?_)
          · go_simp
            obtain ⟨g1, hg⟩ : ∃ G, G = u23.heap.size := ⟨_, rfl⟩
            obtain ⟨u24, hw⟩ : ∃ X : World, X = u23.alloc (.cells #[] 50) := ⟨_, rfl⟩
            rw [← hw, ← hg]
            have b : Below u23.heap.size u23 u24 := by rw [hw]; exact (Below.refl _ _).alloc (Nat.le_refl _) _
            have hVg1 : V.heap.size ≤ g1 := by rw [hg]; have h1 := bW.size; have h2 := hUV.out; omega
            have o40lt : g1 < u24.heap.size := by rw [hw, hg]; simp
            replace bW := bW.trans (b.mono (Nat.le_trans hUV.out bW.size))
            refine hK _ _ bW ?_
            clear hK K
            replace own10 := Lib.hid (own_below own10.out b)
            replace hO := Lib.hid (hO.out.below b)
            replace hB10 := Lib.hid (hB10.out.below b hB10.out.lt)
            have o40 := Lib.hid (show u24.ownsRow V.heap.size 50 3 (.slice (some ⟨g1, 0, none⟩) 0 0) 0 (encO.all []) from by rw [hw, hg]; exact World.ownsRow_lit _ _ 0 (by rw [← hg]; exact hVg1) (by unfold maxLen; omega) rfl)
            clear b hw hg
            refine wpPT_two rfl (by rfl) rfl (by rfl) (fun K hK => ?_) (fun K hK => ?_)
            · refine wp_append_L (E := encO) (.tmp 40) (.tmp 44) _ rfl V.heap.size 50 j0 _ 32 Try.underlying47 ji.out jz0.out jz1.out jz2.out rfl _ 0 [] (by rfl) o40.out _ m cc os (by rfl) hO.out (by unfold maxLen; have := hm5.out; omega) (by have := hm5.out; omega) (Nat.le_trans hUV.out bW.size) ?_
              intro v45 u25 hown hbb hgr hob
              clear hob
              replace bW := bW.trans hbb
              refine hK _ _ bW ?_
              clear hK K
              replace own10 := Lib.hid (own_grown own10.out o40.out (by decide) hgr)
              replace hB10 := Lib.hid (show Blk u25 g10 5 [.int .u8 (cu.toNat : Int)] from (hgr.block g10 hB10.out.lt (fun e => hB10.out.not_row' (by decide) o40.out e.symm)).trans hB10.out)
              have o45 := Lib.hid (show u25.ownsRow V.heap.size 50 3 v45 (0 + m) (encO.all ([] ++ os)) from hown)
              rw [Nat.zero_add, List.nil_append] at o45
              clear hown hbb hgr o40 hO o40lt
              refine wpPT_one rfl (by rfl) (fun K hK => ?_)
              have hcv := conv_at (P := Try.prog) u25 48 9 5 g10 cu hB10.out (by kernel_rfl) (by kernel_rfl) (by kernel_rfl)
              go_simp
              refine hK _ _ bW ?_
              clear hK K hcv hB10
              iterate 1
                refine wpPTB_float (v := ?_) rfl (by rfl) (fun w' hw' => ?_) (fun K hK => ?_)
                rotate_left
                · (have hcl := (hw'.cell (p := ⟨b0, off + p, none⟩) hbV.out).trans hcU.out; clear hw'; go_simp; try with_reducible rfl)
                go_simp
                refine hK _ ?_
                clear hK K
              refine wpPT_one rfl (by rfl) (fun K hK => ?_)
              go_simp
              rw [hq1.out]
              try rw [hq2.out]
              try rw [hq3.out]
              obtain ⟨g16, hg⟩ : ∃ G, G = u25.heap.size := ⟨_, rfl⟩
              obtain ⟨u27, hw⟩ : ∃ X : World, X = u25.alloc (.cells #[.bool false, .string ⟨#[cu]⟩, .int .i64 vv] 50) := ⟨_, rfl⟩
              rw [← hw, ← hg]
              have b : Below u25.heap.size u25 u27 := by rw [hw]; exact (Below.refl _ _).alloc (Nat.le_refl _) _
              have hVg16 : V.heap.size ≤ g16 := by rw [hg]; have h1 := bW.size; have h2 := hUV.out; omega
              have g16lt : g16 < u27.heap.size := by rw [hw, hg]; simp
              replace bW := bW.trans (b.mono (Nat.le_trans hUV.out bW.size))
              refine hK _ _ bW ?_
              clear hK K
              replace own10 := Lib.hid (own_below own10.out b)
              replace o45 := Lib.hid (own_below o45.out b)
              have l16 := Lib.hid (show LAt encO u27 (some ⟨g16, 0, none⟩) 1 [op] from by rw [hw, hg, hop.out]; exact LAt.lit1 (E := encO) _ _ (false, ⟨#[cu]⟩, vv) hokop.out)
              clear b hw hg
              refine wpPT_one rfl (by rfl) (fun K hK => ?_)
              refine wp_append_L (E := encO) (.tmp 45) (.tmp 55) _ rfl V.heap.size 50 j0 _ 32 Try.underlying47 ji.out jz0.out jz1.out jz2.out rfl _ m os (by rfl) o45.out _ 1 1 [op] (by rfl) l16.out (by unfold maxLen; have := hm5.out; omega) (by have := hm5.out; omega) (Nat.le_trans hUV.out bW.size) ?_
              intro v56 u28 hown hbb hgr hob
              clear hob
              replace bW := bW.trans hbb
              refine hK _ _ bW ?_
              clear hK K
              replace own10 := Lib.hid (own_grown own10.out o45.out (by decide) hgr)
              have o56 := Lib.hid (show u28.ownsRow V.heap.size 50 3 v56 (m + 1) (encO.all (os ++ [op])) from hown)
              obtain ⟨A6, c6, rfl⟩ := own_form hown
              clear hown hbb hgr o45 l16 g16lt
              refine wpPT_one rfl (by rfl) (fun K hK => ?_)
              go_simp
              obtain ⟨g18, hg⟩ : ∃ G, G = u28.heap.size := ⟨_, rfl⟩
              obtain ⟨u29, hw⟩ : ∃ X : World, X = u28.alloc (.cells #[.slice A6 (m + 1) c6] 47) := ⟨_, rfl⟩
              rw [← hw, ← hg]
              have b : Below u28.heap.size u28 u29 := by rw [hw]; exact (Below.refl _ _).alloc (Nat.le_refl _) _
              have hVg18 : V.heap.size ≤ g18 := by rw [hg]; have h1 := bW.size; have h2 := hUV.out; omega
              replace bW := bW.trans (b.mono (Nat.le_trans hUV.out bW.size))
              refine hK _ _ bW ?_
              clear hK K
              replace own10 := Lib.hid (own_below own10.out b)
              replace o56 := Lib.hid (own_below o56.out b)
              have l18 := Lib.hid (show Blk u29 g18 47 [.slice A6 (m + 1) c6] from by rw [hw, hg]; exact Blk.new _ _ _)
              clear b hw hg
              refine wpPT_one rfl (by rfl) (fun K hK => ?_)
              refine wp_append_own _ (.tmp 39) (.tmp 57) _ rfl V.heap.size 47 i0 _ 1 24 Try.underlying22 hi.out hz0.out hz1.out hz2.out rfl (by omega) v10 p vs (by rfl) own10.out ⟨g18, 0, none⟩ 1 1 [.slice A6 (m + 1) c6] (by rfl) rfl (blk_one l18.out) (by intro u hu; rw [List.mem_singleton.1 hu]; rfl) (by unfold maxLen; have := hp5.out; omega) (by have := hp5.out; omega) (Nat.le_trans hUV.out bW.size) ?_
              intro v58 w9 hown hgr hnn
              have b9 := bW.trans ((Below.refl _ _).grown hgr (Nat.le_trans hUV.out bW.size) (own_lt_block own10.out))
              refine hK _ _ b9 ?_
              clear hK K hnn
              iterate 1
                refine wpPTB_float (v := ?_) rfl (by rfl) (fun w' hw' => ?_) (fun K hK => ?_)
                rotate_left
                · (go_simp; try with_reducible rfl)
                go_simp
                refine hK _ ?_
                clear hK K
              refine wpPT_done (NoPanic.normal ?_)
              exact key g1 v45 g10 g16 A6 c6 g18 v58 w9 ⟨hown, own_grown o56.out own10.out (by decide) hgr, b9⟩
            · have hcv := conv_at (P := Try.prog) u24 48 9 5 g10 cu hB10.out (by kernel_rfl) (by kernel_rfl) (by kernel_rfl)
              go_simp
              refine hK _ _ bW ?_
              clear hK K hcv hB10
              iterate 1
                refine wpPTB_float (v := ?_) rfl (by rfl) (fun w' hw' => ?_) (fun K hK => ?_)
                rotate_left
                · (have hcl := (hw'.cell (p := ⟨b0, off + p, none⟩) hbV.out).trans hcU.out; clear hw'; go_simp; try with_reducible rfl)
                go_simp
                refine hK _ ?_
                clear hK K
              refine wpPT_two rfl (by rfl) rfl (by rfl) (fun K hK => ?_) (fun K hK => ?_)
              · refine wp_append_L (E := encO) (.tmp 40) (.tmp 44) _ rfl V.heap.size 50 j0 _ 32 Try.underlying47 ji.out jz0.out jz1.out jz2.out rfl _ 0 [] (by rfl) o40.out _ m cc os (by rfl) hO.out (by unfold maxLen; have := hm5.out; omega) (by have := hm5.out; omega) (Nat.le_trans hUV.out bW.size) ?_
                intro v45 u31 hown hbb hgr hob
                clear hob
                replace bW := bW.trans hbb
                refine hK _ _ bW ?_
                clear hK K
                replace own10 := Lib.hid (own_grown own10.out o40.out (by decide) hgr)
                have o45 := Lib.hid (show u31.ownsRow V.heap.size 50 3 v45 (0 + m) (encO.all ([] ++ os)) from hown)
                rw [Nat.zero_add, List.nil_append] at o45
                clear hown hbb hgr o40 hO o40lt
                refine wpPT_one rfl (by rfl) (fun K hK => ?_)
                go_simp
                rw [hq1.out]
                try rw [hq2.out]
                try rw [hq3.out]
                obtain ⟨g16, hg⟩ : ∃ G, G = u31.heap.size := ⟨_, rfl⟩
                obtain ⟨u32, hw⟩ : ∃ X : World, X = u31.alloc (.cells #[.bool false, .string ⟨#[cu]⟩, .int .i64 vv] 50) := ⟨_, rfl⟩
                rw [← hw, ← hg]
                have b : Below u31.heap.size u31 u32 := by rw [hw]; exact (Below.refl _ _).alloc (Nat.le_refl _) _
                have hVg16 : V.heap.size ≤ g16 := by rw [hg]; have h1 := bW.size; have h2 := hUV.out; omega
                have g16lt : g16 < u32.heap.size := by rw [hw, hg]; simp
                replace bW := bW.trans (b.mono (Nat.le_trans hUV.out bW.size))
                refine hK _ _ bW ?_
                clear hK K
                replace own10 := Lib.hid (own_below own10.out b)
                replace o45 := Lib.hid (own_below o45.out b)
                have l16 := Lib.hid (show LAt encO u32 (some ⟨g16, 0, none⟩) 1 [op] from by rw [hw, hg, hop.out]; exact LAt.lit1 (E := encO) _ _ (false, ⟨#[cu]⟩, vv) hokop.out)
                clear b hw hg
                refine wpPT_one rfl (by rfl) (fun K hK => ?_)
                refine wp_append_L (E := encO) (.tmp 45) (.tmp 55) _ rfl V.heap.size 50 j0 _ 32 Try.underlying47 ji.out jz0.out jz1.out jz2.out rfl _ m os (by rfl) o45.out _ 1 1 [op] (by rfl) l16.out (by unfold maxLen; have := hm5.out; omega) (by have := hm5.out; omega) (Nat.le_trans hUV.out bW.size) ?_
                intro v56 u33 hown hbb hgr hob
                clear hob
                replace bW := bW.trans hbb
                refine hK _ _ bW ?_
                clear hK K
                replace own10 := Lib.hid (own_grown own10.out o45.out (by decide) hgr)
                have o56 := Lib.hid (show u33.ownsRow V.heap.size 50 3 v56 (m + 1) (encO.all (os ++ [op])) from hown)
                obtain ⟨A6, c6, rfl⟩ := own_form hown
                clear hown hbb hgr o45 l16 g16lt
                refine wpPT_one rfl (by rfl) (fun K hK => ?_)
                go_simp
                obtain ⟨g18, hg⟩ : ∃ G, G = u33.heap.size := ⟨_, rfl⟩
                obtain ⟨u34, hw⟩ : ∃ X : World, X = u33.alloc (.cells #[.slice A6 (m + 1) c6] 47) := ⟨_, rfl⟩
                rw [← hw, ← hg]
                have b : Below u33.heap.size u33 u34 := by rw [hw]; exact (Below.refl _ _).alloc (Nat.le_refl _) _
                have hVg18 : V.heap.size ≤ g18 := by rw [hg]; have h1 := bW.size; have h2 := hUV.out; omega
                replace bW := bW.trans (b.mono (Nat.le_trans hUV.out bW.size))
                refine hK _ _ bW ?_
                clear hK K
                replace own10 := Lib.hid (own_below own10.out b)
                replace o56 := Lib.hid (own_below o56.out b)
                have l18 := Lib.hid (show Blk u34 g18 47 [.slice A6 (m + 1) c6] from by rw [hw, hg]; exact Blk.new _ _ _)
                clear b hw hg
                refine wpPT_one rfl (by rfl) (fun K hK => ?_)
                refine wp_append_own _ (.tmp 39) (.tmp 57) _ rfl V.heap.size 47 i0 _ 1 24 Try.underlying22 hi.out hz0.out hz1.out hz2.out rfl (by omega) v10 p vs (by rfl) own10.out ⟨g18, 0, none⟩ 1 1 [.slice A6 (m + 1) c6] (by rfl) rfl (blk_one l18.out) (by intro u hu; rw [List.mem_singleton.1 hu]; rfl) (by unfold maxLen; have := hp5.out; omega) (by have := hp5.out; omega) (Nat.le_trans hUV.out bW.size) ?_
                intro v58 w9 hown hgr hnn
                have b9 := bW.trans ((Below.refl _ _).grown hgr (Nat.le_trans hUV.out bW.size) (own_lt_block own10.out))
                refine hK _ _ b9 ?_
                clear hK K hnn
                iterate 1
                  refine wpPTB_float (v := ?_) rfl (by rfl) (fun w' hw' => ?_) (fun K hK => ?_)
                  rotate_left
                  · (go_simp; try with_reducible rfl)
                  go_simp
                  refine hK _ ?_
                  clear hK K
                refine wpPT_done (NoPanic.normal ?_)
                exact key g1 v45 g10 g16 A6 c6 g18 v58 w9 ⟨hown, own_grown o56.out own10.out (by decide) hgr, b9⟩
              · go_simp
                rw [hq1.out]
                try rw [hq2.out]
                try rw [hq3.out]
                obtain ⟨g16, hg⟩ : ∃ G, G = u24.heap.size := ⟨_, rfl⟩
                obtain ⟨u35, hw⟩ : ∃ X : World, X = u24.alloc (.cells #[.bool false, .string ⟨#[cu]⟩, .int .i64 vv] 50) := ⟨_, rfl⟩
                rw [← hw, ← hg]
                have b : Below u24.heap.size u24 u35 := by rw [hw]; exact (Below.refl _ _).alloc (Nat.le_refl _) _
                have hVg16 : V.heap.size ≤ g16 := by rw [hg]; have h1 := bW.size; have h2 := hUV.out; omega
                have hne : g1 ≠ g16 := by have := o40lt; omega
                have g16lt : g16 < u35.heap.size := by rw [hw, hg]; simp
                replace bW := bW.trans (b.mono (Nat.le_trans hUV.out bW.size))
                refine hK _ _ bW ?_
                clear hK K
                replace own10 := Lib.hid (own_below own10.out b)
                replace hO := Lib.hid (hO.out.below b)
                replace o40 := Lib.hid (own_below o40.out b)
                replace o40lt := Nat.lt_of_lt_of_le o40lt b.size
                have l16 := Lib.hid (show LAt encO u35 (some ⟨g16, 0, none⟩) 1 [op] from by rw [hw, hg, hop.out]; exact LAt.lit1 (E := encO) _ _ (false, ⟨#[cu]⟩, vv) hokop.out)
                clear b hw hg
                refine wpPT_one rfl (by rfl) (fun K hK => ?_)
                refine wp_append_L (E := encO) (.tmp 40) (.tmp 44) _ rfl V.heap.size 50 j0 _ 32 Try.underlying47 ji.out jz0.out jz1.out jz2.out rfl _ 0 [] (by rfl) o40.out _ m cc os (by rfl) hO.out (by unfold maxLen; have := hm5.out; omega) (by have := hm5.out; omega) (Nat.le_trans hUV.out bW.size) ?_
                intro v45 u36 hown hbb hgr hob
                clear hob
                replace bW := bW.trans hbb
                refine hK _ _ bW ?_
                clear hK K
                replace own10 := Lib.hid (own_grown own10.out o40.out (by decide) hgr)
                replace l16 := Lib.hid (l16.out.off1 hgr (fun e => hne (by simpa [Value.ownBlock] using e)))
                replace g16lt := Nat.lt_of_lt_of_le g16lt hgr.size
                have o45 := Lib.hid (show u36.ownsRow V.heap.size 50 3 v45 (0 + m) (encO.all ([] ++ os)) from hown)
                rw [Nat.zero_add, List.nil_append] at o45
                clear hown hbb hgr o40 hO o40lt
                refine wpPT_one rfl (by rfl) (fun K hK => ?_)
                refine wp_append_L (E := encO) (.tmp 45) (.tmp 55) _ rfl V.heap.size 50 j0 _ 32 Try.underlying47 ji.out jz0.out jz1.out jz2.out rfl _ m os (by rfl) o45.out _ 1 1 [op] (by rfl) l16.out (by unfold maxLen; have := hm5.out; omega) (by have := hm5.out; omega) (Nat.le_trans hUV.out bW.size) ?_
                intro v56 u37 hown hbb hgr hob
                clear hob
                replace bW := bW.trans hbb
                refine hK _ _ bW ?_
                clear hK K
                replace own10 := Lib.hid (own_grown own10.out o45.out (by decide) hgr)
                have o56 := Lib.hid (show u37.ownsRow V.heap.size 50 3 v56 (m + 1) (encO.all (os ++ [op])) from hown)
                obtain ⟨A6, c6, rfl⟩ := own_form hown
                clear hown hbb hgr o45 l16 g16lt
                refine wpPT_one rfl (by rfl) (fun K hK => ?_)
                go_simp
                obtain ⟨g18, hg⟩ : ∃ G, G = u37.heap.size := ⟨_, rfl⟩
                obtain ⟨u38, hw⟩ : ∃ X : World, X = u37.alloc (.cells #[.slice A6 (m + 1) c6] 47) := ⟨_, rfl⟩
                rw [← hw, ← hg]
                have b : Below u37.heap.size u37 u38 := by rw [hw]; exact (Below.refl _ _).alloc (Nat.le_refl _) _
                have hVg18 : V.heap.size ≤ g18 := by rw [hg]; have h1 := bW.size; have h2 := hUV.out; omega
                replace bW := bW.trans (b.mono (Nat.le_trans hUV.out bW.size))
                refine hK _ _ bW ?_
                clear hK K
                replace own10 := Lib.hid (own_below own10.out b)
                replace o56 := Lib.hid (own_below o56.out b)
                have l18 := Lib.hid (show Blk u38 g18 47 [.slice A6 (m + 1) c6] from by rw [hw, hg]; exact Blk.new _ _ _)
                clear b hw hg
                refine wpPT_one rfl (by rfl) (fun K hK => ?_)
                refine wp_append_own _ (.tmp 39) (.tmp 57) _ rfl V.heap.size 47 i0 _ 1 24 Try.underlying22 hi.out hz0.out hz1.out hz2.out rfl (by omega) v10 p vs (by rfl) own10.out ⟨g18, 0, none⟩ 1 1 [.slice A6 (m + 1) c6] (by rfl) rfl (blk_one l18.out) (by intro u hu; rw [List.mem_singleton.1 hu]; rfl) (by unfold maxLen; have := hp5.out; omega) (by have := hp5.out; omega) (Nat.le_trans hUV.out bW.size) ?_
                intro v58 w9 hown hgr hnn
                have b9 := bW.trans ((Below.refl _ _).grown hgr (Nat.le_trans hUV.out bW.size) (own_lt_block own10.out))
                refine hK _ _ b9 ?_
                clear hK K hnn
                iterate 1
                  refine wpPTB_float (v := ?_) rfl (by rfl) (fun w' hw' => ?_) (fun K hK => ?_)
                  rotate_left
                  · (go_simp; try with_reducible rfl)
                  go_simp
                  refine hK _ ?_
                  clear hK K
                refine wpPT_done (NoPanic.normal ?_)
                exact key g1 v45 g10 g16 A6 c6 g18 v58 w9 ⟨hown, own_grown o56.out own10.out (by decide) hgr, b9⟩
          · have hcv := conv_at (P := Try.prog) u23 48 9 5 g10 cu hB10.out (by kernel_rfl) (by kernel_rfl) (by kernel_rfl)
            go_simp
            refine hK _ _ bW ?_
            clear hK K hcv hB10
            iterate 1
              refine wpPTB_float (v := ?_) rfl (by rfl) (fun w' hw' => ?_) (fun K hK => ?_)
              rotate_left
              · (have hcl := (hw'.cell (p := ⟨b0, off + p, none⟩) hbV.out).trans hcU.out; clear hw'; go_simp; try with_reducible rfl)
              go_simp
              refine hK _ ?_
              clear hK K
            refine wpPT_two rfl (by rfl) rfl (by rfl) (fun K hK => ?_) (fun K hK => ?_)
            · go_simp
              obtain ⟨g1, hg⟩ : ∃ G, G = u23.heap.size := ⟨_, rfl⟩
              obtain ⟨u40, hw⟩ : ∃ X : World, X = u23.alloc (.cells #[] 50) := ⟨_, rfl⟩
              rw [← hw, ← hg]
              have b : Below u23.heap.size u23 u40 := by rw [hw]; exact (Below.refl _ _).alloc (Nat.le_refl _) _
              have hVg1 : V.heap.size ≤ g1 := by rw [hg]; have h1 := bW.size; have h2 := hUV.out; omega
              have o40lt : g1 < u40.heap.size := by rw [hw, hg]; simp
              replace bW := bW.trans (b.mono (Nat.le_trans hUV.out bW.size))
              refine hK _ _ bW ?_
              clear hK K
              replace own10 := Lib.hid (own_below own10.out b)
              replace hO := Lib.hid (hO.out.below b)
              have o40 := Lib.hid (show u40.ownsRow V.heap.size 50 3 (.slice (some ⟨g1, 0, none⟩) 0 0) 0 (encO.all []) from by rw [hw, hg]; exact World.ownsRow_lit _ _ 0 (by rw [← hg]; exact hVg1) (by unfold maxLen; omega) rfl)
              clear b hw hg
              refine wpPT_two rfl (by rfl) rfl (by rfl) (fun K hK => ?_) (fun K hK => ?_)
              · refine wp_append_L (E := encO) (.tmp 40) (.tmp 44) _ rfl V.heap.size 50 j0 _ 32 Try.underlying47 ji.out jz0.out jz1.out jz2.out rfl _ 0 [] (by rfl) o40.out _ m cc os (by rfl) hO.out (by unfold maxLen; have := hm5.out; omega) (by have := hm5.out; omega) (Nat.le_trans hUV.out bW.size) ?_
                intro v45 u41 hown hbb hgr hob
                clear hob
                replace bW := bW.trans hbb
                refine hK _ _ bW ?_
                clear hK K
                replace own10 := Lib.hid (own_grown own10.out o40.out (by decide) hgr)
                have o45 := Lib.hid (show u41.ownsRow V.heap.size 50 3 v45 (0 + m) (encO.all ([] ++ os)) from hown)
                rw [Nat.zero_add, List.nil_append] at o45
                clear hown hbb hgr o40 hO o40lt
                refine wpPT_one rfl (by rfl) (fun K hK => ?_)
                go_simp
                rw [hq1.out]
                try rw [hq2.out]
                try rw [hq3.out]
                obtain ⟨g16, hg⟩ : ∃ G, G = u41.heap.size := ⟨_, rfl⟩
                obtain ⟨u42, hw⟩ : ∃ X : World, X = u41.alloc (.cells #[.bool false, .string ⟨#[cu]⟩, .int .i64 vv] 50) := ⟨_, rfl⟩
                rw [← hw, ← hg]
                have b : Below u41.heap.size u41 u42 := by rw [hw]; exact (Below.refl _ _).alloc (Nat.le_refl _) _
                have hVg16 : V.heap.size ≤ g16 := by rw [hg]; have h1 := bW.size; have h2 := hUV.out; omega
                have g16lt : g16 < u42.heap.size := by rw [hw, hg]; simp
                replace bW := bW.trans (b.mono (Nat.le_trans hUV.out bW.size))
                refine hK _ _ bW ?_
                clear hK K
                replace own10 := Lib.hid (own_below own10.out b)
                replace o45 := Lib.hid (own_below o45.out b)
                have l16 := Lib.hid (show LAt encO u42 (some ⟨g16, 0, none⟩) 1 [op] from by rw [hw, hg, hop.out]; exact LAt.lit1 (E := encO) _ _ (false, ⟨#[cu]⟩, vv) hokop.out)
                clear b hw hg
                refine wpPT_one rfl (by rfl) (fun K hK => ?_)
                refine wp_append_L (E := encO) (.tmp 45) (.tmp 55) _ rfl V.heap.size 50 j0 _ 32 Try.underlying47 ji.out jz0.out jz1.out jz2.out rfl _ m os (by rfl) o45.out _ 1 1 [op] (by rfl) l16.out (by unfold maxLen; have := hm5.out; omega) (by have := hm5.out; omega) (Nat.le_trans hUV.out bW.size) ?_
                intro v56 u43 hown hbb hgr hob
                clear hob
                replace bW := bW.trans hbb
                refine hK _ _ bW ?_
                clear hK K
                replace own10 := Lib.hid (own_grown own10.out o45.out (by decide) hgr)
                have o56 := Lib.hid (show u43.ownsRow V.heap.size 50 3 v56 (m + 1) (encO.all (os ++ [op])) from hown)
                obtain ⟨A6, c6, rfl⟩ := own_form hown
                clear hown hbb hgr o45 l16 g16lt
                refine wpPT_one rfl (by rfl) (fun K hK => ?_)
                go_simp
                obtain ⟨g18, hg⟩ : ∃ G, G = u43.heap.size := ⟨_, rfl⟩
                obtain ⟨u44, hw⟩ : ∃ X : World, X = u43.alloc (.cells #[.slice A6 (m + 1) c6] 47) := ⟨_, rfl⟩
                rw [← hw, ← hg]
                have b : Below u43.heap.size u43 u44 := by rw [hw]; exact (Below.refl _ _).alloc (Nat.le_refl _) _
                have hVg18 : V.heap.size ≤ g18 := by rw [hg]; have h1 := bW.size; have h2 := hUV.out; omega
                replace bW := bW.trans (b.mono (Nat.le_trans hUV.out bW.size))
                refine hK _ _ bW ?_
                clear hK K
                replace own10 := Lib.hid (own_below own10.out b)
                replace o56 := Lib.hid (own_below o56.out b)
                have l18 := Lib.hid (show Blk u44 g18 47 [.slice A6 (m + 1) c6] from by rw [hw, hg]; exact Blk.new _ _ _)
                clear b hw hg
                refine wpPT_one rfl (by rfl) (fun K hK => ?_)
                refine wp_append_own _ (.tmp 39) (.tmp 57) _ rfl V.heap.size 47 i0 _ 1 24 Try.underlying22 hi.out hz0.out hz1.out hz2.out rfl (by omega) v10 p vs (by rfl) own10.out ⟨g18, 0, none⟩ 1 1 [.slice A6 (m + 1) c6] (by rfl) rfl (blk_one l18.out) (by intro u hu; rw [List.mem_singleton.1 hu]; rfl) (by unfold maxLen; have := hp5.out; omega) (by have := hp5.out; omega) (Nat.le_trans hUV.out bW.size) ?_
                intro v58 w9 hown hgr hnn
                have b9 := bW.trans ((Below.refl _ _).grown hgr (Nat.le_trans hUV.out bW.size) (own_lt_block own10.out))
                refine hK _ _ b9 ?_
                clear hK K hnn
                iterate 1
                  refine wpPTB_float (v := ?_) rfl (by rfl) (fun w' hw' => ?_) (fun K hK => ?_)
                  rotate_left
                  · (go_simp; try with_reducible rfl)
                  go_simp
                  refine hK _ ?_
                  clear hK K
                refine wpPT_done (NoPanic.normal ?_)
                exact key g1 v45 g10 g16 A6 c6 g18 v58 w9 ⟨hown, own_grown o56.out own10.out (by decide) hgr, b9⟩
              · go_simp
                rw [hq1.out]
                try rw [hq2.out]
                try rw [hq3.out]
                obtain ⟨g16, hg⟩ : ∃ G, G = u40.heap.size := ⟨_, rfl⟩
                obtain ⟨u45, hw⟩ : ∃ X : World, X = u40.alloc (.cells #[.bool false, .string ⟨#[cu]⟩, .int .i64 vv] 50) := ⟨_, rfl⟩
                rw [← hw, ← hg]
                have b : Below u40.heap.size u40 u45 := by rw [hw]; exact (Below.refl _ _).alloc (Nat.le_refl _) _
                have hVg16 : V.heap.size ≤ g16 := by rw [hg]; have h1 := bW.size; have h2 := hUV.out; omega
                have hne : g1 ≠ g16 := by have := o40lt; omega
                have g16lt : g16 < u45.heap.size := by rw [hw, hg]; simp
                replace bW := bW.trans (b.mono (Nat.le_trans hUV.out bW.size))
                refine hK _ _ bW ?_
                clear hK K
                replace own10 := Lib.hid (own_below own10.out b)
                replace hO := Lib.hid (hO.out.below b)
                replace o40 := Lib.hid (own_below o40.out b)
                replace o40lt := Nat.lt_of_lt_of_le o40lt b.size
                have l16 := Lib.hid (show LAt encO u45 (some ⟨g16, 0, none⟩) 1 [op] from by rw [hw, hg, hop.out]; exact LAt.lit1 (E := encO) _ _ (false, ⟨#[cu]⟩, vv) hokop.out)
                clear b hw hg
                refine wpPT_one rfl (by rfl) (fun K hK => ?_)
                refine wp_append_L (E := encO) (.tmp 40) (.tmp 44) _ rfl V.heap.size 50 j0 _ 32 Try.underlying47 ji.out jz0.out jz1.out jz2.out rfl _ 0 [] (by rfl) o40.out _ m cc os (by rfl) hO.out (by unfold maxLen; have := hm5.out; omega) (by have := hm5.out; omega) (Nat.le_trans hUV.out bW.size) ?_
                intro v45 u46 hown hbb hgr hob
                clear hob
                replace bW := bW.trans hbb
                refine hK _ _ bW ?_
                clear hK K
                replace own10 := Lib.hid (own_grown own10.out o40.out (by decide) hgr)
                replace l16 := Lib.hid (l16.out.off1 hgr (fun e => hne (by simpa [Value.ownBlock] using e)))
                replace g16lt := Nat.lt_of_lt_of_le g16lt hgr.size
                have o45 := Lib.hid (show u46.ownsRow V.heap.size 50 3 v45 (0 + m) (encO.all ([] ++ os)) from hown)
                rw [Nat.zero_add, List.nil_append] at o45
                clear hown hbb hgr o40 hO o40lt
                refine wpPT_one rfl (by rfl) (fun K hK => ?_)
                refine wp_append_L (E := encO) (.tmp 45) (.tmp 55) _ rfl V.heap.size 50 j0 _ 32 Try.underlying47 ji.out jz0.out jz1.out jz2.out rfl _ m os (by rfl) o45.out _ 1 1 [op] (by rfl) l16.out (by unfold maxLen; have := hm5.out; omega) (by have := hm5.out; omega) (Nat.le_trans hUV.out bW.size) ?_
                intro v56 u47 hown hbb hgr hob
                clear hob
                replace bW := bW.trans hbb
                refine hK _ _ bW ?_
                clear hK K
                replace own10 := Lib.hid (own_grown own10.out o45.out (by decide) hgr)
                have o56 := Lib.hid (show u47.ownsRow V.heap.size 50 3 v56 (m + 1) (encO.all (os ++ [op])) from hown)
                obtain ⟨A6, c6, rfl⟩ := own_form hown
                clear hown hbb hgr o45 l16 g16lt
                refine wpPT_one rfl (by rfl) (fun K hK => ?_)
                go_simp
                obtain ⟨g18, hg⟩ : ∃ G, G = u47.heap.size := ⟨_, rfl⟩
                obtain ⟨u48, hw⟩ : ∃ X : World, X = u47.alloc (.cells #[.slice A6 (m + 1) c6] 47) := ⟨_, rfl⟩
                rw [← hw, ← hg]
                have b : Below u47.heap.size u47 u48 := by rw [hw]; exact (Below.refl _ _).alloc (Nat.le_refl _) _
                have hVg18 : V.heap.size ≤ g18 := by rw [hg]; have h1 := bW.size; have h2 := hUV.out; omega
                replace bW := bW.trans (b.mono (Nat.le_trans hUV.out bW.size))
                refine hK _ _ bW ?_
                clear hK K
                replace own10 := Lib.hid (own_below own10.out b)
                replace o56 := Lib.hid (own_below o56.out b)
                have l18 := Lib.hid (show Blk u48 g18 47 [.slice A6 (m + 1) c6] from by rw [hw, hg]; exact Blk.new _ _ _)
                clear b hw hg
                refine wpPT_one rfl (by rfl) (fun K hK => ?_)
                refine wp_append_own _ (.tmp 39) (.tmp 57) _ rfl V.heap.size 47 i0 _ 1 24 Try.underlying22 hi.out hz0.out hz1.out hz2.out rfl (by omega) v10 p vs (by rfl) own10.out ⟨g18, 0, none⟩ 1 1 [.slice A6 (m + 1) c6] (by rfl) rfl (blk_one l18.out) (by intro u hu; rw [List.mem_singleton.1 hu]; rfl) (by unfold maxLen; have := hp5.out; omega) (by have := hp5.out; omega) (Nat.le_trans hUV.out bW.size) ?_
                intro v58 w9 hown hgr hnn
                have b9 := bW.trans ((Below.refl _ _).grown hgr (Nat.le_trans hUV.out bW.size) (own_lt_block own10.out))
                refine hK _ _ b9 ?_
                clear hK K hnn
                iterate 1
                  refine wpPTB_float (v := ?_) rfl (by rfl) (fun w' hw' => ?_) (fun K hK => ?_)
                  rotate_left
                  · (go_simp; try with_reducible rfl)
                  go_simp
                  refine hK _ ?_
                  clear hK K
                refine wpPT_done (NoPanic.normal ?_)
                exact key g1 v45 g10 g16 A6 c6 g18 v58 w9 ⟨hown, own_grown o56.out own10.out (by decide) hgr, b9⟩
            · go_simp
              rw [hq1.out]
              try rw [hq2.out]
              try rw [hq3.out]
              obtain ⟨g16, hg⟩ : ∃ G, G = u23.heap.size := ⟨_, rfl⟩
              obtain ⟨u49, hw⟩ : ∃ X : World, X = u23.alloc (.cells #[.bool false, .string ⟨#[cu]⟩, .int .i64 vv] 50) := ⟨_, rfl⟩
              rw [← hw, ← hg]
              have b : Below u23.heap.size u23 u49 := by rw [hw]; exact (Below.refl _ _).alloc (Nat.le_refl _) _
              have hVg16 : V.heap.size ≤ g16 := by rw [hg]; have h1 := bW.size; have h2 := hUV.out; omega
              have g16lt : g16 < u49.heap.size := by rw [hw, hg]; simp
              replace bW := bW.trans (b.mono (Nat.le_trans hUV.out bW.size))
              refine hK _ _ bW ?_
              clear hK K
              replace own10 := Lib.hid (own_below own10.out b)
              replace hO := Lib.hid (hO.out.below b)
              have l16 := Lib.hid (show LAt encO u49 (some ⟨g16, 0, none⟩) 1 [op] from by rw [hw, hg, hop.out]; exact LAt.lit1 (E := encO) _ _ (false, ⟨#[cu]⟩, vv) hokop.out)
              clear b hw hg
              refine wpPT_one rfl (by rfl) (fun K hK => ?_)
              go_simp
              obtain ⟨g1, hg⟩ : ∃ G, G = u49.heap.size := ⟨_, rfl⟩
              obtain ⟨u50, hw⟩ : ∃ X : World, X = u49.alloc (.cells #[] 50) := ⟨_, rfl⟩
              rw [← hw, ← hg]
              have b : Below u49.heap.size u49 u50 := by rw [hw]; exact (Below.refl _ _).alloc (Nat.le_refl _) _
              have hVg1 : V.heap.size ≤ g1 := by rw [hg]; have h1 := bW.size; have h2 := hUV.out; omega
              have hne : g1 ≠ g16 := by have := g16lt; omega
              have o40lt : g1 < u50.heap.size := by rw [hw, hg]; simp
              replace bW := bW.trans (b.mono (Nat.le_trans hUV.out bW.size))
              refine hK _ _ bW ?_
              clear hK K
              replace own10 := Lib.hid (own_below own10.out b)
              replace hO := Lib.hid (hO.out.below b)
              replace l16 := Lib.hid (l16.out.below b)
              replace g16lt := Nat.lt_of_lt_of_le g16lt b.size
              have o40 := Lib.hid (show u50.ownsRow V.heap.size 50 3 (.slice (some ⟨g1, 0, none⟩) 0 0) 0 (encO.all []) from by rw [hw, hg]; exact World.ownsRow_lit _ _ 0 (by rw [← hg]; exact hVg1) (by unfold maxLen; omega) rfl)
              clear b hw hg
              refine wpPT_one rfl (by rfl) (fun K hK => ?_)
              refine wp_append_L (E := encO) (.tmp 40) (.tmp 44) _ rfl V.heap.size 50 j0 _ 32 Try.underlying47 ji.out jz0.out jz1.out jz2.out rfl _ 0 [] (by rfl) o40.out _ m cc os (by rfl) hO.out (by unfold maxLen; have := hm5.out; omega) (by have := hm5.out; omega) (Nat.le_trans hUV.out bW.size) ?_
              intro v45 u51 hown hbb hgr hob
              clear hob
              replace bW := bW.trans hbb
              refine hK _ _ bW ?_
              clear hK K
              replace own10 := Lib.hid (own_grown own10.out o40.out (by decide) hgr)
              replace l16 := Lib.hid (l16.out.off1 hgr (fun e => hne (by simpa [Value.ownBlock] using e)))
              replace g16lt := Nat.lt_of_lt_of_le g16lt hgr.size
              have o45 := Lib.hid (show u51.ownsRow V.heap.size 50 3 v45 (0 + m) (encO.all ([] ++ os)) from hown)
              rw [Nat.zero_add, List.nil_append] at o45
              clear hown hbb hgr o40 hO o40lt
              refine wpPT_one rfl (by rfl) (fun K hK => ?_)
              refine wp_append_L (E := encO) (.tmp 45) (.tmp 55) _ rfl V.heap.size 50 j0 _ 32 Try.underlying47 ji.out jz0.out jz1.out jz2.out rfl _ m os (by rfl) o45.out _ 1 1 [op] (by rfl) l16.out (by unfold maxLen; have := hm5.out; omega) (by have := hm5.out; omega) (Nat.le_trans hUV.out bW.size) ?_
              intro v56 u52 hown hbb hgr hob
              clear hob
              replace bW := bW.trans hbb
              refine hK _ _ bW ?_
              clear hK K
              replace own10 := Lib.hid (own_grown own10.out o45.out (by decide) hgr)
              have o56 := Lib.hid (show u52.ownsRow V.heap.size 50 3 v56 (m + 1) (encO.all (os ++ [op])) from hown)
              obtain ⟨A6, c6, rfl⟩ := own_form hown
              clear hown hbb hgr o45 l16 g16lt
              refine wpPT_one rfl (by rfl) (fun K hK => ?_)
              go_simp
              obtain ⟨g18, hg⟩ : ∃ G, G = u52.heap.size := ⟨_, rfl⟩
              obtain ⟨u53, hw⟩ : ∃ X : World, X = u52.alloc (.cells #[.slice A6 (m + 1) c6] 47) := ⟨_, rfl⟩
              rw [← hw, ← hg]
              have b : Below u52.heap.size u52 u53 := by rw [hw]; exact (Below.refl _ _).alloc (Nat.le_refl _) _
              have hVg18 : V.heap.size ≤ g18 := by rw [hg]; have h1 := bW.size; have h2 := hUV.out; omega
              replace bW := bW.trans (b.mono (Nat.le_trans hUV.out bW.size))
              refine hK _ _ bW ?_
              clear hK K
              replace own10 := Lib.hid (own_below own10.out b)
              replace o56 := Lib.hid (own_below o56.out b)
              have l18 := Lib.hid (show Blk u53 g18 47 [.slice A6 (m + 1) c6] from by rw [hw, hg]; exact Blk.new _ _ _)
              clear b hw hg
              refine wpPT_one rfl (by rfl) (fun K hK => ?_)
              refine wp_append_own _ (.tmp 39) (.tmp 57) _ rfl V.heap.size 47 i0 _ 1 24 Try.underlying22 hi.out hz0.out hz1.out hz2.out rfl (by omega) v10 p vs (by rfl) own10.out ⟨g18, 0, none⟩ 1 1 [.slice A6 (m + 1) c6] (by rfl) rfl (blk_one l18.out) (by intro u hu; rw [List.mem_singleton.1 hu]; rfl) (by unfold maxLen; have := hp5.out; omega) (by have := hp5.out; omega) (Nat.le_trans hUV.out bW.size) ?_
              intro v58 w9 hown hgr hnn
              have b9 := bW.trans ((Below.refl _ _).grown hgr (Nat.le_trans hUV.out bW.size) (own_lt_block own10.out))
              refine hK _ _ b9 ?_
              clear hK K hnn
              iterate 1
                refine wpPTB_float (v := ?_) rfl (by rfl) (fun w' hw' => ?_) (fun K hK => ?_)
                rotate_left
                · (go_simp; try with_reducible rfl)
                go_simp
                refine hK _ ?_
                clear hK K
              refine wpPT_done (NoPanic.normal ?_)
              exact key g1 v45 g10 g16 A6 c6 g18 v58 w9 ⟨hown, own_grown o56.out own10.out (by decide) hgr, b9⟩
      · intro g1 v45 g10 g16 A6 c6 g18 v58 w9 hk
        have hV9 := Lib.hid (hVU.out.trans hk.2.2)
        have hokA : ∀ y ∈ os ++ [op], encO.ok y := fun y hy => (List.mem_append.1 hy).elim (hOV.out.okAll y) (fun h => by rw [List.mem_singleton.1 h, hop.out]; exact hokop.out)
        have hsv : SessV w9 (.slice A6 (m + 1) c6) (os ++ [op]) :=
          ⟨A6, m + 1, c6, rfl, OwnsRow.cap_le hk.2.1, by have := hm5.out; omega, LAt.of_own' (E := encO) hk.2.1 hokA (by rw [List.length_append, hOV.out.len]; rfl)⟩
        obtain ⟨C, cc2, rfl, hnmc, hcc2, hH⟩ := HistAt.joined (xs := hs.take p) (ys := [os ++ [op]]) hk.1 hvn.out rfl hvl.out rfl (fun i v os h1 h2 => (hvs.out i v os h1 h2).below hV9.out) (fun i v os' h1 h2 => by
          cases i with
          | zero => simp at h1 h2; subst h1; subst h2; exact hsv
          | succ i => simp at h1)
        have hse : hs.take p ++ [os] = hs := by
          have h1 := List.take_succ_eq_append_getElem (List.getElem?_eq_some_iff.1 hos.out).1
          rw [(List.getElem?_eq_some_iff.1 hos.out).2] at h1
          rw [← h1, List.take_of_length_le (by rw [hXl.out]; have := hpn.out; omega)]
        obtain ⟨init, hin⟩ : ∃ init, init = hs.take p := ⟨_, rfl⟩
        rw [← hin] at hse hH
        have hnm : nameL op.2.1.data.toList = true := by
          rw [hop.out]
          have h3 : v.toNat % 3 = 0 ∨ v.toNat % 3 = 1 ∨ v.toNat % 3 = 2 := by omega
          have h4 : cu = 120 ∨ cu = 121 ∨ cu = 122 := by
            rw [hcc.out]
            rcases h3 with h | h | h <;> rw [h] <;> simp
          rcases h4 with h | h | h <;> (rw [h]; rfl)
        have hl60 : (allO (init ++ [os])).length ≤ 60 := by rw [hse]; omega
        have hoo : op.1 = false := by rw [hop.out]
        have hok2 : okO11 (init ++ [os ++ [op]]) = okO11 hs := by
          rw [← hse]
          obtain ⟨y, hy, hyw⟩ := hisF_more init os op
          unfold okO11
          rw [rightL_more hl60 hnm]
          congr 1
          have h5 : (facO (init ++ [os ++ [op]])).items = (facO (init ++ [os])).items ++ [y] := hy
          rw [h5]
          exact decide_eq_decide.2 (checkF_snoc (hyw.trans hoo))
        have hmore := Lib.hid (coM_more hl60 hoo)
        have hgl : Hid ((allO (init ++ [os ++ [op]])).length ≤ 31) := Lib.hid (by rw [allO_more, List.length_append, hse]; simp; omega)
        obtain ⟨gs, hgs⟩ : ∃ gs, gs = init ++ [os ++ [op]] := ⟨_, rfl⟩
        rw [← hgs] at hH hok2 hmore hgl
        rw [hse] at hmore
        have c2 := ref11_Of C (p + 1) cc2 gs w9 hH (by have := hp5.out; omega) (by have := hgl.out; omega)
        unfold RetO11 at c2
        rw [hok2] at c2
        replace c2 := Lib.hid c2
        replace hse := Lib.hid hse
        replace hin := Lib.hid hin
        replace hgs := Lib.hid hgs
        clear hk hokA hsv hH hnm hl60 hoo hok2 hVU hUV hcU hO bW own10 hOV hbV hcV hvs hvl hvn hi hz0 hz1 hz2 ji jz0 jz1 jz2
        go_wp2_with fail
        refine c2.out.mono ?_; rintro e wa ⟨z, rfl, hG2, b3⟩
        obtain ⟨V2, hV2⟩ : ∃ W, W = wa.alloc (.cells #[.slice z.A z.n z.c, .slice z.B z.m z.d, .slice z.C z.k z.e] 29) := ⟨_, rfl⟩
        obtain ⟨g2, hg2⟩ : ∃ g, g = wa.heap.size := ⟨_, rfl⟩
        have b4 : Below wa.heap.size wa V2 := by rw [hV2]; exact (Below.refl _ _).alloc (Nat.le_refl _) _
        have hBz : Hid (okO11 hs = true → FBox w g2 z (fillF (facO gs)) V2) := Lib.hid (fun h => by rw [hV2, hg2]; exact (FBox.new (hG2 h)).from_ (below_trans2 (below_trans2 bb.out hV9.out) b3))
        have hb2 := Lib.hid (below_trans2 (below_trans2 hV9.out b3) b4)
        clear hG2 b3 b4 c2 hV9
        cases hok : okO11 hs with
        | false =>
          clear hok hBz hBx
          go_wp2_with (rw [← hV2, ← hg2]; clear hV2; replace hg2 := Lib.hid hg2)
          refine (law13_awake V2).mono ?_; rintro e wb ⟨rfl, b9⟩
          go_wp2_with fail
          go_ret
          exact ⟨rfl, below_trans2 (below_trans2 bb.out hb2.out) b9⟩
        | true =>
          obtain ⟨f, hf⟩ : ∃ f, f = fillF (facO hs) := ⟨_, rfl⟩
          obtain ⟨k, hk⟩ : ∃ k, k = fillF (facO gs) := ⟨_, rfl⟩
          have hBa := (hBx.out hok).later hb2.out
          have hBb := hBz.out hok
          rw [← hf] at hBa hmore
          rw [← hk] at hBb hmore
          have hwf : WholeF f := by rw [hf]; exact fillF_whole _
          have hwk : WholeF k := by rw [hk]; exact fillF_whole _
          have hxm : f.items.length = x.m := hBa.f.is.len
          have hzm : k.items.length = z.m := hBb.f.is.len
          have hx30 : x.m ≤ 30 := by
            rw [← hxm, hf]
            show (hisF hs).2.length ≤ 30
            rw [hisF_len]; omega
          have hzx : z.m = x.m + 1 := by rw [← hzm, ← hxm]; exact hmore.out.len
          obtain ⟨am, ham⟩ : ∃ m, m = coM f := ⟨_, rfl⟩
          obtain ⟨bm, hbm⟩ : ∃ m, m = coM k := ⟨_, rfl⟩
          have gA := (coM_hull hwf (by omega)).1
          have gB := (coM_hull hwk (by omega)).1
          have hNa : Nbr f.items := by rw [hf]; exact nbr_hist hs
          have hNk : Nbr k.items := by rw [hk]; exact nbr_hist gs
          have cCa := fun W hW => cause_Co x f W hW (by omega) hwf hNa
          have cCb := fun W hW => cause_Co z k W hW (by omega) hwk hNk
          have hsame := hmore.out.same
          have hnone := hmore.out.none
          rw [hxm, ← ham] at gA
          rw [hzm, ← hbm] at gB
          rw [hxm, ← ham, ← hbm] at hsame
          rw [hxm, ← hbm] at hnone
          rw [← ham] at cCa
          rw [← hbm] at cCb
          have hcla := Lib.hid gA.len
          have hclb := Lib.hid gB.len
          have hpa : Hid (∀ xs ∈ am, 0 < xs.length) := Lib.hid (fun xs hx => by
            rcases Nat.eq_zero_or_pos x.m with h | h
            · have := gA.len; rw [h] at this; rw [List.eq_nil_of_length_eq_zero this] at hx; cases hx
            · exact rows_len_pos gA h xs hx)
          have hpb : Hid (∀ xs ∈ bm, 0 < xs.length) := Lib.hid (rows_len_pos gB (by omega))
          replace gA := Lib.hid gA
          replace gB := Lib.hid gB
          replace cCa := Lib.hid cCa
          replace cCb := Lib.hid cCb
          replace hsame := Lib.hid hsame
          replace hnone := Lib.hid hnone
          replace hBa := Lib.hid hBa
          replace hBb := Lib.hid hBb
          replace hzx := Lib.hid hzx
          clear hmore hok hBx hBz hf hk hwf hwk hxm hzm ham hbm
          go_wp2_with (rw [← hV2, ← hg2]; clear hV2; replace hg2 := Lib.hid hg2)
          refine wp_region_tree (.flt 0 (.flt 2 (.three 1 4 5 (.three 3 4 5 (.two 4 5 (.one 5 (.one 6 (.one 7 .done))) (.one 4 (.one 6 (.one 7 .done)))) (.two 3 5 (.one 5 (.one 6 (.one 7 .done))) (.one 3 (.one 6 (.one 7 .done)))) (.two 3 4 (.one 4 (.one 6 (.one 7 .done))) (.one 3 (.one 6 (.one 7 .done))))) (.two 1 5 (.two 3 5 (.one 5 (.one 6 (.one 7 .done))) (.one 3 (.one 6 (.one 7 .done)))) (.one 1 (.one 3 (.one 6 (.one 7 .done))))) (.two 1 4 (.two 3 4 (.one 4 (.one 6 (.one 7 .done))) (.one 3 (.one 6 (.one 7 .done)))) (.one 1 (.one 3 (.one 6 (.one 7 .done)))))))) (by kernel_rfl) (by kernel_rfl) (fun U2 hU => ?_)
          have hbU : Below V2.heap.size V2 U2 := by rw [hU.out]; exact (Below.refl _ _).drew
          replace hBa := Lib.hid (hBa.out.later hbU)
          replace hBb := Lib.hid (hBb.out.later hbU)
          clear hU hbU hb2 bb
          obtain ⟨U, hU⟩ : ∃ U, U = U2 := ⟨_, rfl⟩
          subst hU
          have bW : Below U.heap.size U U := Below.refl _ _
          apply cut_seven (F := fun (G5 G6 : Nat) (w9 : World) (Ca : Option Addr) (da : Nat) (Cb : Option Addr) (db : Nat) => MatK w9 G5 35 (x.m : Int) Ca x.m da am ∧ MatK w9 G6 35 (z.m : Int) Cb z.m db bm ∧ Below U.heap.size U w9)
          · intro key
            have p0 := hBa.out.c0
            have p1 := hBa.out.c1
            have p2 := hBa.out.c2
            have q0 := hBb.out.c0
            have q1 := hBb.out.c1
            have q2 := hBb.out.c2
            iterate 2
              refine wpPT_float (v := ?_) rfl (by rfl) (fun w' hw' => ?_) (fun K hK => ?_)
              rotate_left
              · (go_simp; try with_reducible rfl)
              go_simp
              refine hK _ ?_
              clear hK K
            refine wpPT_three rfl (by rfl) rfl (by rfl) rfl (by rfl) (fun K hK => ?_) (fun K hK => ?_) (fun K hK => ?_)
            · go_simp
              refine (cCa.out U (hBa.out.later bW).f).mono ?_; rintro e v1 ⟨Ca, nn, da, rfl, rCa, hda, b⟩
              obtain rfl : nn = x.m := by rw [← rCa.len]; exact hcla.out
              clear hda
              replace bW := below_trans2 bW b
              refine hK _ _ bW ?_
              clear hK K
              replace rCa := Lib.hid rCa
              clear b
              refine wpPT_three rfl (by rfl) rfl (by rfl) rfl (by rfl) (fun K hK => ?_) (fun K hK => ?_) (fun K hK => ?_)
              · go_simp
                refine (cCb.out v1 (hBb.out.later bW).f).mono ?_; rintro e v2 ⟨Cb, nn, db, rfl, rCb, hdb, b⟩
                obtain rfl : nn = z.m := by rw [← rCb.len]; exact hclb.out
                clear hdb
                replace bW := below_trans2 bW b
                refine hK _ _ bW ?_
                clear hK K
                replace rCa := Lib.hid (rCa.out.below b)
                replace rCb := Lib.hid rCb
                clear b
                refine wpPT_two rfl (by rfl) rfl (by rfl) (fun K hK => ?_) (fun K hK => ?_)
                · go_simp
                  obtain ⟨G5, hG⟩ : ∃ G, G = v2.heap.size := ⟨_, rfl⟩
                  obtain ⟨v3, hw⟩ : ∃ X : World, X = v2.alloc (.cells #[.int .i64 0, .slice none 0 0] 35) := ⟨_, rfl⟩
                  rw [← hw, ← hG]
                  have b : Below v2.heap.size v2 v3 := by rw [hw]; exact below_alloc _ _
                  have hW5 : U.heap.size ≤ G5 := by rw [hG]; exact bW.size
                  replace bW := below_trans2 bW b
                  refine hK _ _ bW ?_
                  clear hK K
                  have m5 := Lib.hid (show MatB v3 G5 35 0 none 0 0 by rw [hw, hG]; exact MatB.new _ _)
                  clear hw hG
                  replace rCa := Lib.hid (rCa.out.below b)
                  replace rCb := Lib.hid (rCb.out.below b)
                  clear b
                  refine wpPT_one rfl (by rfl) (fun K hK => ?_)
                  go_simp
                  obtain ⟨G6, hG⟩ : ∃ G, G = v3.heap.size := ⟨_, rfl⟩
                  obtain ⟨v4, hw⟩ : ∃ X : World, X = v3.alloc (.cells #[.int .i64 0, .slice none 0 0] 35) := ⟨_, rfl⟩
                  rw [← hw, ← hG]
                  have b : Below v3.heap.size v3 v4 := by rw [hw]; exact below_alloc _ _
                  have hW6 : U.heap.size ≤ G6 := by rw [hG]; exact bW.size
                  have hne : G5 ≠ G6 := by have := m5.out.lt; omega
                  replace bW := below_trans2 bW b
                  refine hK _ _ bW ?_
                  clear hK K
                  have m6 := Lib.hid (show MatB v4 G6 35 0 none 0 0 by rw [hw, hG]; exact MatB.new _ _)
                  clear hw hG
                  replace rCa := Lib.hid (rCa.out.below b)
                  replace rCb := Lib.hid (rCb.out.below b)
                  replace m5 := Lib.hid (m5.out.below_ b)
                  clear b
                  have f0 := m5.out.c0
                  have f1 := m5.out.c1
                  have g0 := m5.out.frozen 0
                  have g1 := m5.out.frozen 1
                  refine wpPT_one rfl (by rfl) (fun K hK => ?_)
                  go_simp
                  obtain ⟨v5, hw⟩ : ∃ X : World, X = (v4.setCell ⟨G5, 0, none⟩ (.int .i64 (x.m : Int))).setCell ⟨G5, 1, none⟩ (.slice Ca x.m da) := ⟨_, rfl⟩
                  rw [← hw]
                  replace bW : Below U.heap.size U v5 := by rw [hw]; exact (bW.setCell (p := ⟨G5, 0, none⟩) (by simpa using hW5) _).setCell (p := ⟨G5, 1, none⟩) (by simpa using hW5) _
                  refine hK _ _ bW ?_
                  clear hK K f0 f1 g0 g1
                  have n5 := Lib.hid (show MatK v5 G5 35 (x.m : Int) Ca x.m da am by rw [hw]; exact ⟨m5.out.put (x.m : Int) Ca x.m da, rCa.out.putB m5.out (rCa.out.farZ m5.out hpa.out) _ _⟩)
                  replace rCb := Lib.hid (show RowsAt v5 Cb z.m bm by rw [hw]; exact rCb.out.putB m5.out (rCb.out.farZ m5.out hpb.out) _ _)
                  replace m6 := Lib.hid (show MatB v5 G6 35 0 none 0 0 by rw [hw]; exact (m6.out.farB (p := ⟨G5, 0, none⟩) (by simp <;> omega) _).farB (p := ⟨G5, 1, none⟩) (by simp <;> omega) _)
                  clear hw m5 rCa
                  have f0 := m6.out.c0
                  have f1 := m6.out.c1
                  have g0 := m6.out.frozen 0
                  have g1 := m6.out.frozen 1
                  refine wpPT_one rfl (by rfl) (fun K hK => ?_)
                  go_simp
                  obtain ⟨v6, hw⟩ : ∃ X : World, X = (v5.setCell ⟨G6, 0, none⟩ (.int .i64 (z.m : Int))).setCell ⟨G6, 1, none⟩ (.slice Cb z.m db) := ⟨_, rfl⟩
                  rw [← hw]
                  replace bW : Below U.heap.size U v6 := by rw [hw]; exact (bW.setCell (p := ⟨G6, 0, none⟩) (by simpa using hW6) _).setCell (p := ⟨G6, 1, none⟩) (by simpa using hW6) _
                  refine hK _ _ bW ?_
                  clear hK K f0 f1 g0 g1
                  replace n5 := Lib.hid (show MatK v6 G5 35 (x.m : Int) Ca x.m da am by rw [hw]; exact MatK.put m6.out n5.out (by omega) (n5.out.2.farZ m6.out hpa.out) _ _)
                  have n6 := Lib.hid (show MatK v6 G6 35 (z.m : Int) Cb z.m db bm by rw [hw]; exact ⟨m6.out.put (z.m : Int) Cb z.m db, rCb.out.putB m6.out (rCb.out.farZ m6.out hpb.out) _ _⟩)
                  clear hw m6 rCb
                  refine wpPT_done (NoPanic.normal ?_)
                  exact key G5 G6 v6 Ca da Cb db ⟨n5.out, n6.out, bW⟩
                · go_simp
                  obtain ⟨G6, hG⟩ : ∃ G, G = v2.heap.size := ⟨_, rfl⟩
                  obtain ⟨v7, hw⟩ : ∃ X : World, X = v2.alloc (.cells #[.int .i64 0, .slice none 0 0] 35) := ⟨_, rfl⟩
                  rw [← hw, ← hG]
                  have b : Below v2.heap.size v2 v7 := by rw [hw]; exact below_alloc _ _
                  have hW6 : U.heap.size ≤ G6 := by rw [hG]; exact bW.size
                  replace bW := below_trans2 bW b
                  refine hK _ _ bW ?_
                  clear hK K
                  have m6 := Lib.hid (show MatB v7 G6 35 0 none 0 0 by rw [hw, hG]; exact MatB.new _ _)
                  clear hw hG
                  replace rCa := Lib.hid (rCa.out.below b)
                  replace rCb := Lib.hid (rCb.out.below b)
                  clear b
                  refine wpPT_one rfl (by rfl) (fun K hK => ?_)
                  go_simp
                  obtain ⟨G5, hG⟩ : ∃ G, G = v7.heap.size := ⟨_, rfl⟩
                  obtain ⟨v8, hw⟩ : ∃ X : World, X = v7.alloc (.cells #[.int .i64 0, .slice none 0 0] 35) := ⟨_, rfl⟩
                  rw [← hw, ← hG]
                  have b : Below v7.heap.size v7 v8 := by rw [hw]; exact below_alloc _ _
                  have hW5 : U.heap.size ≤ G5 := by rw [hG]; exact bW.size
                  have hne : G5 ≠ G6 := by have := m6.out.lt; omega
                  replace bW := below_trans2 bW b
                  refine hK _ _ bW ?_
                  clear hK K
                  have m5 := Lib.hid (show MatB v8 G5 35 0 none 0 0 by rw [hw, hG]; exact MatB.new _ _)
                  clear hw hG
                  replace rCa := Lib.hid (rCa.out.below b)
                  replace rCb := Lib.hid (rCb.out.below b)
                  replace m6 := Lib.hid (m6.out.below_ b)
                  clear b
                  have f0 := m5.out.c0
                  have f1 := m5.out.c1
                  have g0 := m5.out.frozen 0
                  have g1 := m5.out.frozen 1
                  refine wpPT_one rfl (by rfl) (fun K hK => ?_)
                  go_simp
                  obtain ⟨v9, hw⟩ : ∃ X : World, X = (v8.setCell ⟨G5, 0, none⟩ (.int .i64 (x.m : Int))).setCell ⟨G5, 1, none⟩ (.slice Ca x.m da) := ⟨_, rfl⟩
                  rw [← hw]
                  replace bW : Below U.heap.size U v9 := by rw [hw]; exact (bW.setCell (p := ⟨G5, 0, none⟩) (by simpa using hW5) _).setCell (p := ⟨G5, 1, none⟩) (by simpa using hW5) _
                  refine hK _ _ bW ?_
                  clear hK K f0 f1 g0 g1
                  have n5 := Lib.hid (show MatK v9 G5 35 (x.m : Int) Ca x.m da am by rw [hw]; exact ⟨m5.out.put (x.m : Int) Ca x.m da, rCa.out.putB m5.out (rCa.out.farZ m5.out hpa.out) _ _⟩)
                  replace rCb := Lib.hid (show RowsAt v9 Cb z.m bm by rw [hw]; exact rCb.out.putB m5.out (rCb.out.farZ m5.out hpb.out) _ _)
                  replace m6 := Lib.hid (show MatB v9 G6 35 0 none 0 0 by rw [hw]; exact (m6.out.farB (p := ⟨G5, 0, none⟩) (by simp <;> omega) _).farB (p := ⟨G5, 1, none⟩) (by simp <;> omega) _)
                  clear hw m5 rCa
                  have f0 := m6.out.c0
                  have f1 := m6.out.c1
                  have g0 := m6.out.frozen 0
                  have g1 := m6.out.frozen 1
                  refine wpPT_one rfl (by rfl) (fun K hK => ?_)
                  go_simp
                  obtain ⟨v10, hw⟩ : ∃ X : World, X = (v9.setCell ⟨G6, 0, none⟩ (.int .i64 (z.m : Int))).setCell ⟨G6, 1, none⟩ (.slice Cb z.m db) := ⟨_, rfl⟩
                  rw [← hw]
                  replace bW : Below U.heap.size U v10 := by rw [hw]; exact (bW.setCell (p := ⟨G6, 0, none⟩) (by simpa using hW6) _).setCell (p := ⟨G6, 1, none⟩) (by simpa using hW6) _
                  refine hK _ _ bW ?_
                  clear hK K f0 f1 g0 g1
                  replace n5 := Lib.hid (show MatK v10 G5 35 (x.m : Int) Ca x.m da am by rw [hw]; exact MatK.put m6.out n5.out (by omega) (n5.out.2.farZ m6.out hpa.out) _ _)
                  have n6 := Lib.hid (show MatK v10 G6 35 (z.m : Int) Cb z.m db bm by rw [hw]; exact ⟨m6.out.put (z.m : Int) Cb z.m db, rCb.out.putB m6.out (rCb.out.farZ m6.out hpb.out) _ _⟩)
                  clear hw m6 rCb
                  refine wpPT_done (NoPanic.normal ?_)
                  exact key G5 G6 v10 Ca da Cb db ⟨n5.out, n6.out, bW⟩
              · go_simp
                obtain ⟨G5, hG⟩ : ∃ G, G = v1.heap.size := ⟨_, rfl⟩
                obtain ⟨v11, hw⟩ : ∃ X : World, X = v1.alloc (.cells #[.int .i64 0, .slice none 0 0] 35) := ⟨_, rfl⟩
                rw [← hw, ← hG]
                have b : Below v1.heap.size v1 v11 := by rw [hw]; exact below_alloc _ _
                have hW5 : U.heap.size ≤ G5 := by rw [hG]; exact bW.size
                replace bW := below_trans2 bW b
                refine hK _ _ bW ?_
                clear hK K
                have m5 := Lib.hid (show MatB v11 G5 35 0 none 0 0 by rw [hw, hG]; exact MatB.new _ _)
                clear hw hG
                replace rCa := Lib.hid (rCa.out.below b)
                clear b
                refine wpPT_two rfl (by rfl) rfl (by rfl) (fun K hK => ?_) (fun K hK => ?_)
                · go_simp
                  refine (cCb.out v11 (hBb.out.later bW).f).mono ?_; rintro e v12 ⟨Cb, nn, db, rfl, rCb, hdb, b⟩
                  obtain rfl : nn = z.m := by rw [← rCb.len]; exact hclb.out
                  clear hdb
                  replace bW := below_trans2 bW b
                  refine hK _ _ bW ?_
                  clear hK K
                  replace rCa := Lib.hid (rCa.out.below b)
                  replace m5 := Lib.hid (m5.out.below_ b)
                  replace rCb := Lib.hid rCb
                  clear b
                  refine wpPT_one rfl (by rfl) (fun K hK => ?_)
                  go_simp
                  obtain ⟨G6, hG⟩ : ∃ G, G = v12.heap.size := ⟨_, rfl⟩
                  obtain ⟨v13, hw⟩ : ∃ X : World, X = v12.alloc (.cells #[.int .i64 0, .slice none 0 0] 35) := ⟨_, rfl⟩
                  rw [← hw, ← hG]
                  have b : Below v12.heap.size v12 v13 := by rw [hw]; exact below_alloc _ _
                  have hW6 : U.heap.size ≤ G6 := by rw [hG]; exact bW.size
                  have hne : G5 ≠ G6 := by have := m5.out.lt; omega
                  replace bW := below_trans2 bW b
                  refine hK _ _ bW ?_
                  clear hK K
                  have m6 := Lib.hid (show MatB v13 G6 35 0 none 0 0 by rw [hw, hG]; exact MatB.new _ _)
                  clear hw hG
                  replace rCa := Lib.hid (rCa.out.below b)
                  replace m5 := Lib.hid (m5.out.below_ b)
                  replace rCb := Lib.hid (rCb.out.below b)
                  clear b
                  have f0 := m5.out.c0
                  have f1 := m5.out.c1
                  have g0 := m5.out.frozen 0
                  have g1 := m5.out.frozen 1
                  refine wpPT_one rfl (by rfl) (fun K hK => ?_)
                  go_simp
                  obtain ⟨v14, hw⟩ : ∃ X : World, X = (v13.setCell ⟨G5, 0, none⟩ (.int .i64 (x.m : Int))).setCell ⟨G5, 1, none⟩ (.slice Ca x.m da) := ⟨_, rfl⟩
                  rw [← hw]
                  replace bW : Below U.heap.size U v14 := by rw [hw]; exact (bW.setCell (p := ⟨G5, 0, none⟩) (by simpa using hW5) _).setCell (p := ⟨G5, 1, none⟩) (by simpa using hW5) _
                  refine hK _ _ bW ?_
                  clear hK K f0 f1 g0 g1
                  have n5 := Lib.hid (show MatK v14 G5 35 (x.m : Int) Ca x.m da am by rw [hw]; exact ⟨m5.out.put (x.m : Int) Ca x.m da, rCa.out.putB m5.out (rCa.out.farZ m5.out hpa.out) _ _⟩)
                  replace rCb := Lib.hid (show RowsAt v14 Cb z.m bm by rw [hw]; exact rCb.out.putB m5.out (rCb.out.farZ m5.out hpb.out) _ _)
                  replace m6 := Lib.hid (show MatB v14 G6 35 0 none 0 0 by rw [hw]; exact (m6.out.farB (p := ⟨G5, 0, none⟩) (by simp <;> omega) _).farB (p := ⟨G5, 1, none⟩) (by simp <;> omega) _)
                  clear hw m5 rCa
                  have f0 := m6.out.c0
                  have f1 := m6.out.c1
                  have g0 := m6.out.frozen 0
                  have g1 := m6.out.frozen 1
                  refine wpPT_one rfl (by rfl) (fun K hK => ?_)
                  go_simp
                  obtain ⟨v15, hw⟩ : ∃ X : World, X = (v14.setCell ⟨G6, 0, none⟩ (.int .i64 (z.m : Int))).setCell ⟨G6, 1, none⟩ (.slice Cb z.m db) := ⟨_, rfl⟩
                  rw [← hw]
                  replace bW : Below U.heap.size U v15 := by rw [hw]; exact (bW.setCell (p := ⟨G6, 0, none⟩) (by simpa using hW6) _).setCell (p := ⟨G6, 1, none⟩) (by simpa using hW6) _
                  refine hK _ _ bW ?_
                  clear hK K f0 f1 g0 g1
                  replace n5 := Lib.hid (show MatK v15 G5 35 (x.m : Int) Ca x.m da am by rw [hw]; exact MatK.put m6.out n5.out (by omega) (n5.out.2.farZ m6.out hpa.out) _ _)
                  have n6 := Lib.hid (show MatK v15 G6 35 (z.m : Int) Cb z.m db bm by rw [hw]; exact ⟨m6.out.put (z.m : Int) Cb z.m db, rCb.out.putB m6.out (rCb.out.farZ m6.out hpb.out) _ _⟩)
                  clear hw m6 rCb
                  refine wpPT_done (NoPanic.normal ?_)
                  exact key G5 G6 v15 Ca da Cb db ⟨n5.out, n6.out, bW⟩
                · go_simp
                  obtain ⟨G6, hG⟩ : ∃ G, G = v11.heap.size := ⟨_, rfl⟩
                  obtain ⟨v16, hw⟩ : ∃ X : World, X = v11.alloc (.cells #[.int .i64 0, .slice none 0 0] 35) := ⟨_, rfl⟩
                  rw [← hw, ← hG]
                  have b : Below v11.heap.size v11 v16 := by rw [hw]; exact below_alloc _ _
                  have hW6 : U.heap.size ≤ G6 := by rw [hG]; exact bW.size
                  have hne : G5 ≠ G6 := by have := m5.out.lt; omega
                  replace bW := below_trans2 bW b
                  refine hK _ _ bW ?_
                  clear hK K
                  have m6 := Lib.hid (show MatB v16 G6 35 0 none 0 0 by rw [hw, hG]; exact MatB.new _ _)
                  clear hw hG
                  replace rCa := Lib.hid (rCa.out.below b)
                  replace m5 := Lib.hid (m5.out.below_ b)
                  clear b
                  refine wpPT_one rfl (by rfl) (fun K hK => ?_)
                  go_simp
                  refine (cCb.out v16 (hBb.out.later bW).f).mono ?_; rintro e v17 ⟨Cb, nn, db, rfl, rCb, hdb, b⟩
                  obtain rfl : nn = z.m := by rw [← rCb.len]; exact hclb.out
                  clear hdb
                  replace bW := below_trans2 bW b
                  refine hK _ _ bW ?_
                  clear hK K
                  replace rCa := Lib.hid (rCa.out.below b)
                  replace m5 := Lib.hid (m5.out.below_ b)
                  replace m6 := Lib.hid (m6.out.below_ b)
                  replace rCb := Lib.hid rCb
                  clear b
                  have f0 := m5.out.c0
                  have f1 := m5.out.c1
                  have g0 := m5.out.frozen 0
                  have g1 := m5.out.frozen 1
                  refine wpPT_one rfl (by rfl) (fun K hK => ?_)
                  go_simp
                  obtain ⟨v18, hw⟩ : ∃ X : World, X = (v17.setCell ⟨G5, 0, none⟩ (.int .i64 (x.m : Int))).setCell ⟨G5, 1, none⟩ (.slice Ca x.m da) := ⟨_, rfl⟩
                  rw [← hw]
                  replace bW : Below U.heap.size U v18 := by rw [hw]; exact (bW.setCell (p := ⟨G5, 0, none⟩) (by simpa using hW5) _).setCell (p := ⟨G5, 1, none⟩) (by simpa using hW5) _
                  refine hK _ _ bW ?_
                  clear hK K f0 f1 g0 g1
                  have n5 := Lib.hid (show MatK v18 G5 35 (x.m : Int) Ca x.m da am by rw [hw]; exact ⟨m5.out.put (x.m : Int) Ca x.m da, rCa.out.putB m5.out (rCa.out.farZ m5.out hpa.out) _ _⟩)
                  replace rCb := Lib.hid (show RowsAt v18 Cb z.m bm by rw [hw]; exact rCb.out.putB m5.out (rCb.out.farZ m5.out hpb.out) _ _)
                  replace m6 := Lib.hid (show MatB v18 G6 35 0 none 0 0 by rw [hw]; exact (m6.out.farB (p := ⟨G5, 0, none⟩) (by simp <;> omega) _).farB (p := ⟨G5, 1, none⟩) (by simp <;> omega) _)
                  clear hw m5 rCa
                  have f0 := m6.out.c0
                  have f1 := m6.out.c1
                  have g0 := m6.out.frozen 0
                  have g1 := m6.out.frozen 1
                  refine wpPT_one rfl (by rfl) (fun K hK => ?_)
                  go_simp
                  obtain ⟨v19, hw⟩ : ∃ X : World, X = (v18.setCell ⟨G6, 0, none⟩ (.int .i64 (z.m : Int))).setCell ⟨G6, 1, none⟩ (.slice Cb z.m db) := ⟨_, rfl⟩
                  rw [← hw]
                  replace bW : Below U.heap.size U v19 := by rw [hw]; exact (bW.setCell (p := ⟨G6, 0, none⟩) (by simpa using hW6) _).setCell (p := ⟨G6, 1, none⟩) (by simpa using hW6) _
                  refine hK _ _ bW ?_
                  clear hK K f0 f1 g0 g1
                  replace n5 := Lib.hid (show MatK v19 G5 35 (x.m : Int) Ca x.m da am by rw [hw]; exact MatK.put m6.out n5.out (by omega) (n5.out.2.farZ m6.out hpa.out) _ _)
                  have n6 := Lib.hid (show MatK v19 G6 35 (z.m : Int) Cb z.m db bm by rw [hw]; exact ⟨m6.out.put (z.m : Int) Cb z.m db, rCb.out.putB m6.out (rCb.out.farZ m6.out hpb.out) _ _⟩)
                  clear hw m6 rCb
                  refine wpPT_done (NoPanic.normal ?_)
                  exact key G5 G6 v19 Ca da Cb db ⟨n5.out, n6.out, bW⟩
              · go_simp
                obtain ⟨G6, hG⟩ : ∃ G, G = v1.heap.size := ⟨_, rfl⟩
                obtain ⟨v20, hw⟩ : ∃ X : World, X = v1.alloc (.cells #[.int .i64 0, .slice none 0 0] 35) := ⟨_, rfl⟩
                rw [← hw, ← hG]
                have b : Below v1.heap.size v1 v20 := by rw [hw]; exact below_alloc _ _
                have hW6 : U.heap.size ≤ G6 := by rw [hG]; exact bW.size
                replace bW := below_trans2 bW b
                refine hK _ _ bW ?_
                clear hK K
                have m6 := Lib.hid (show MatB v20 G6 35 0 none 0 0 by rw [hw, hG]; exact MatB.new _ _)
                clear hw hG
                replace rCa := Lib.hid (rCa.out.below b)
                clear b
                refine wpPT_two rfl (by rfl) rfl (by rfl) (fun K hK => ?_) (fun K hK => ?_)
                · go_simp
                  refine (cCb.out v20 (hBb.out.later bW).f).mono ?_; rintro e v21 ⟨Cb, nn, db, rfl, rCb, hdb, b⟩
                  obtain rfl : nn = z.m := by rw [← rCb.len]; exact hclb.out
                  clear hdb
                  replace bW := below_trans2 bW b
                  refine hK _ _ bW ?_
                  clear hK K
                  replace rCa := Lib.hid (rCa.out.below b)
                  replace m6 := Lib.hid (m6.out.below_ b)
                  replace rCb := Lib.hid rCb
                  clear b
                  refine wpPT_one rfl (by rfl) (fun K hK => ?_)
                  go_simp
                  obtain ⟨G5, hG⟩ : ∃ G, G = v21.heap.size := ⟨_, rfl⟩
                  obtain ⟨v22, hw⟩ : ∃ X : World, X = v21.alloc (.cells #[.int .i64 0, .slice none 0 0] 35) := ⟨_, rfl⟩
                  rw [← hw, ← hG]
                  have b : Below v21.heap.size v21 v22 := by rw [hw]; exact below_alloc _ _
                  have hW5 : U.heap.size ≤ G5 := by rw [hG]; exact bW.size
                  have hne : G5 ≠ G6 := by have := m6.out.lt; omega
                  replace bW := below_trans2 bW b
                  refine hK _ _ bW ?_
                  clear hK K
                  have m5 := Lib.hid (show MatB v22 G5 35 0 none 0 0 by rw [hw, hG]; exact MatB.new _ _)
                  clear hw hG
                  replace rCa := Lib.hid (rCa.out.below b)
                  replace m6 := Lib.hid (m6.out.below_ b)
                  replace rCb := Lib.hid (rCb.out.below b)
                  clear b
                  have f0 := m5.out.c0
                  have f1 := m5.out.c1
                  have g0 := m5.out.frozen 0
                  have g1 := m5.out.frozen 1
                  refine wpPT_one rfl (by rfl) (fun K hK => ?_)
                  go_simp
                  obtain ⟨v23, hw⟩ : ∃ X : World, X = (v22.setCell ⟨G5, 0, none⟩ (.int .i64 (x.m : Int))).setCell ⟨G5, 1, none⟩ (.slice Ca x.m da) := ⟨_, rfl⟩
                  rw [← hw]
                  replace bW : Below U.heap.size U v23 := by rw [hw]; exact (bW.setCell (p := ⟨G5, 0, none⟩) (by simpa using hW5) _).setCell (p := ⟨G5, 1, none⟩) (by simpa using hW5) _
                  refine hK _ _ bW ?_
                  clear hK K f0 f1 g0 g1
                  have n5 := Lib.hid (show MatK v23 G5 35 (x.m : Int) Ca x.m da am by rw [hw]; exact ⟨m5.out.put (x.m : Int) Ca x.m da, rCa.out.putB m5.out (rCa.out.farZ m5.out hpa.out) _ _⟩)
                  replace rCb := Lib.hid (show RowsAt v23 Cb z.m bm by rw [hw]; exact rCb.out.putB m5.out (rCb.out.farZ m5.out hpb.out) _ _)
                  replace m6 := Lib.hid (show MatB v23 G6 35 0 none 0 0 by rw [hw]; exact (m6.out.farB (p := ⟨G5, 0, none⟩) (by simp <;> omega) _).farB (p := ⟨G5, 1, none⟩) (by simp <;> omega) _)
                  clear hw m5 rCa
                  have f0 := m6.out.c0
                  have f1 := m6.out.c1
                  have g0 := m6.out.frozen 0
                  have g1 := m6.out.frozen 1
                  refine wpPT_one rfl (by rfl) (fun K hK => ?_)
                  go_simp
                  obtain ⟨v24, hw⟩ : ∃ X : World, X = (v23.setCell ⟨G6, 0, none⟩ (.int .i64 (z.m : Int))).setCell ⟨G6, 1, none⟩ (.slice Cb z.m db) := ⟨_, rfl⟩
                  rw [← hw]
                  replace bW : Below U.heap.size U v24 := by rw [hw]; exact (bW.setCell (p := ⟨G6, 0, none⟩) (by simpa using hW6) _).setCell (p := ⟨G6, 1, none⟩) (by simpa using hW6) _
                  refine hK _ _ bW ?_
                  clear hK K f0 f1 g0 g1
                  replace n5 := Lib.hid (show MatK v24 G5 35 (x.m : Int) Ca x.m da am by rw [hw]; exact MatK.put m6.out n5.out (by omega) (n5.out.2.farZ m6.out hpa.out) _ _)
                  have n6 := Lib.hid (show MatK v24 G6 35 (z.m : Int) Cb z.m db bm by rw [hw]; exact ⟨m6.out.put (z.m : Int) Cb z.m db, rCb.out.putB m6.out (rCb.out.farZ m6.out hpb.out) _ _⟩)
                  clear hw m6 rCb
                  refine wpPT_done (NoPanic.normal ?_)
                  exact key G5 G6 v24 Ca da Cb db ⟨n5.out, n6.out, bW⟩
                · go_simp
                  obtain ⟨G5, hG⟩ : ∃ G, G = v20.heap.size := ⟨_, rfl⟩
                  obtain ⟨v25, hw⟩ : ∃ X : World, X = v20.alloc (.cells #[.int .i64 0, .slice none 0 0] 35) := ⟨_, rfl⟩
                  rw [← hw, ← hG]
                  have b : Below v20.heap.size v20 v25 := by rw [hw]; exact below_alloc _ _
                  have hW5 : U.heap.size ≤ G5 := by rw [hG]; exact bW.size
                  have hne : G5 ≠ G6 := by have := m6.out.lt; omega
                  replace bW := below_trans2 bW b
                  refine hK _ _ bW ?_
                  clear hK K
                  have m5 := Lib.hid (show MatB v25 G5 35 0 none 0 0 by rw [hw, hG]; exact MatB.new _ _)
                  clear hw hG
                  replace rCa := Lib.hid (rCa.out.below b)
                  replace m6 := Lib.hid (m6.out.below_ b)
                  clear b
                  refine wpPT_one rfl (by rfl) (fun K hK => ?_)
                  go_simp
                  refine (cCb.out v25 (hBb.out.later bW).f).mono ?_; rintro e v26 ⟨Cb, nn, db, rfl, rCb, hdb, b⟩
                  obtain rfl : nn = z.m := by rw [← rCb.len]; exact hclb.out
                  clear hdb
                  replace bW := below_trans2 bW b
                  refine hK _ _ bW ?_
                  clear hK K
                  replace rCa := Lib.hid (rCa.out.below b)
                  replace m6 := Lib.hid (m6.out.below_ b)
                  replace m5 := Lib.hid (m5.out.below_ b)
                  replace rCb := Lib.hid rCb
                  clear b
                  have f0 := m5.out.c0
                  have f1 := m5.out.c1
                  have g0 := m5.out.frozen 0
                  have g1 := m5.out.frozen 1
                  refine wpPT_one rfl (by rfl) (fun K hK => ?_)
                  go_simp
                  obtain ⟨v27, hw⟩ : ∃ X : World, X = (v26.setCell ⟨G5, 0, none⟩ (.int .i64 (x.m : Int))).setCell ⟨G5, 1, none⟩ (.slice Ca x.m da) := ⟨_, rfl⟩
                  rw [← hw]
                  replace bW : Below U.heap.size U v27 := by rw [hw]; exact (bW.setCell (p := ⟨G5, 0, none⟩) (by simpa using hW5) _).setCell (p := ⟨G5, 1, none⟩) (by simpa using hW5) _
                  refine hK _ _ bW ?_
                  clear hK K f0 f1 g0 g1
                  have n5 := Lib.hid (show MatK v27 G5 35 (x.m : Int) Ca x.m da am by rw [hw]; exact ⟨m5.out.put (x.m : Int) Ca x.m da, rCa.out.putB m5.out (rCa.out.farZ m5.out hpa.out) _ _⟩)
                  replace rCb := Lib.hid (show RowsAt v27 Cb z.m bm by rw [hw]; exact rCb.out.putB m5.out (rCb.out.farZ m5.out hpb.out) _ _)
                  replace m6 := Lib.hid (show MatB v27 G6 35 0 none 0 0 by rw [hw]; exact (m6.out.farB (p := ⟨G5, 0, none⟩) (by simp <;> omega) _).farB (p := ⟨G5, 1, none⟩) (by simp <;> omega) _)
                  clear hw m5 rCa
                  have f0 := m6.out.c0
                  have f1 := m6.out.c1
                  have g0 := m6.out.frozen 0
                  have g1 := m6.out.frozen 1
                  refine wpPT_one rfl (by rfl) (fun K hK => ?_)
                  go_simp
                  obtain ⟨v28, hw⟩ : ∃ X : World, X = (v27.setCell ⟨G6, 0, none⟩ (.int .i64 (z.m : Int))).setCell ⟨G6, 1, none⟩ (.slice Cb z.m db) := ⟨_, rfl⟩
                  rw [← hw]
                  replace bW : Below U.heap.size U v28 := by rw [hw]; exact (bW.setCell (p := ⟨G6, 0, none⟩) (by simpa using hW6) _).setCell (p := ⟨G6, 1, none⟩) (by simpa using hW6) _
                  refine hK _ _ bW ?_
                  clear hK K f0 f1 g0 g1
                  replace n5 := Lib.hid (show MatK v28 G5 35 (x.m : Int) Ca x.m da am by rw [hw]; exact MatK.put m6.out n5.out (by omega) (n5.out.2.farZ m6.out hpa.out) _ _)
                  have n6 := Lib.hid (show MatK v28 G6 35 (z.m : Int) Cb z.m db bm by rw [hw]; exact ⟨m6.out.put (z.m : Int) Cb z.m db, rCb.out.putB m6.out (rCb.out.farZ m6.out hpb.out) _ _⟩)
                  clear hw m6 rCb
                  refine wpPT_done (NoPanic.normal ?_)
                  exact key G5 G6 v28 Ca da Cb db ⟨n5.out, n6.out, bW⟩
            · go_simp
              obtain ⟨G5, hG⟩ : ∃ G, G = U.heap.size := ⟨_, rfl⟩
              obtain ⟨v29, hw⟩ : ∃ X : World, X = U.alloc (.cells #[.int .i64 0, .slice none 0 0] 35) := ⟨_, rfl⟩
              rw [← hw, ← hG]
              have b : Below U.heap.size U v29 := by rw [hw]; exact below_alloc _ _
              have hW5 : U.heap.size ≤ G5 := by rw [hG]; exact bW.size
              replace bW := below_trans2 bW b
              refine hK _ _ bW ?_
              clear hK K
              have m5 := Lib.hid (show MatB v29 G5 35 0 none 0 0 by rw [hw, hG]; exact MatB.new _ _)
              clear hw hG
              clear b
              refine wpPT_two rfl (by rfl) rfl (by rfl) (fun K hK => ?_) (fun K hK => ?_)
              · go_simp
                refine (cCa.out v29 (hBa.out.later bW).f).mono ?_; rintro e v30 ⟨Ca, nn, da, rfl, rCa, hda, b⟩
                obtain rfl : nn = x.m := by rw [← rCa.len]; exact hcla.out
                clear hda
                replace bW := below_trans2 bW b
                refine hK _ _ bW ?_
                clear hK K
                replace m5 := Lib.hid (m5.out.below_ b)
                replace rCa := Lib.hid rCa
                clear b
                refine wpPT_two rfl (by rfl) rfl (by rfl) (fun K hK => ?_) (fun K hK => ?_)
                · go_simp
                  refine (cCb.out v30 (hBb.out.later bW).f).mono ?_; rintro e v31 ⟨Cb, nn, db, rfl, rCb, hdb, b⟩
                  obtain rfl : nn = z.m := by rw [← rCb.len]; exact hclb.out
                  clear hdb
                  replace bW := below_trans2 bW b
                  refine hK _ _ bW ?_
                  clear hK K
                  replace m5 := Lib.hid (m5.out.below_ b)
                  replace rCa := Lib.hid (rCa.out.below b)
                  replace rCb := Lib.hid rCb
                  clear b
                  refine wpPT_one rfl (by rfl) (fun K hK => ?_)
                  go_simp
                  obtain ⟨G6, hG⟩ : ∃ G, G = v31.heap.size := ⟨_, rfl⟩
                  obtain ⟨v32, hw⟩ : ∃ X : World, X = v31.alloc (.cells #[.int .i64 0, .slice none 0 0] 35) := ⟨_, rfl⟩
                  rw [← hw, ← hG]
                  have b : Below v31.heap.size v31 v32 := by rw [hw]; exact below_alloc _ _
                  have hW6 : U.heap.size ≤ G6 := by rw [hG]; exact bW.size
                  have hne : G5 ≠ G6 := by have := m5.out.lt; omega
                  replace bW := below_trans2 bW b
                  refine hK _ _ bW ?_
                  clear hK K
                  have m6 := Lib.hid (show MatB v32 G6 35 0 none 0 0 by rw [hw, hG]; exact MatB.new _ _)
                  clear hw hG
                  replace m5 := Lib.hid (m5.out.below_ b)
                  replace rCa := Lib.hid (rCa.out.below b)
                  replace rCb := Lib.hid (rCb.out.below b)
                  clear b
                  have f0 := m5.out.c0
                  have f1 := m5.out.c1
                  have g0 := m5.out.frozen 0
                  have g1 := m5.out.frozen 1
                  refine wpPT_one rfl (by rfl) (fun K hK => ?_)
                  go_simp
                  obtain ⟨v33, hw⟩ : ∃ X : World, X = (v32.setCell ⟨G5, 0, none⟩ (.int .i64 (x.m : Int))).setCell ⟨G5, 1, none⟩ (.slice Ca x.m da) := ⟨_, rfl⟩
                  rw [← hw]
                  replace bW : Below U.heap.size U v33 := by rw [hw]; exact (bW.setCell (p := ⟨G5, 0, none⟩) (by simpa using hW5) _).setCell (p := ⟨G5, 1, none⟩) (by simpa using hW5) _
                  refine hK _ _ bW ?_
                  clear hK K f0 f1 g0 g1
                  have n5 := Lib.hid (show MatK v33 G5 35 (x.m : Int) Ca x.m da am by rw [hw]; exact ⟨m5.out.put (x.m : Int) Ca x.m da, rCa.out.putB m5.out (rCa.out.farZ m5.out hpa.out) _ _⟩)
                  replace rCb := Lib.hid (show RowsAt v33 Cb z.m bm by rw [hw]; exact rCb.out.putB m5.out (rCb.out.farZ m5.out hpb.out) _ _)
                  replace m6 := Lib.hid (show MatB v33 G6 35 0 none 0 0 by rw [hw]; exact (m6.out.farB (p := ⟨G5, 0, none⟩) (by simp <;> omega) _).farB (p := ⟨G5, 1, none⟩) (by simp <;> omega) _)
                  clear hw m5 rCa
                  have f0 := m6.out.c0
                  have f1 := m6.out.c1
                  have g0 := m6.out.frozen 0
                  have g1 := m6.out.frozen 1
                  refine wpPT_one rfl (by rfl) (fun K hK => ?_)
                  go_simp
                  obtain ⟨v34, hw⟩ : ∃ X : World, X = (v33.setCell ⟨G6, 0, none⟩ (.int .i64 (z.m : Int))).setCell ⟨G6, 1, none⟩ (.slice Cb z.m db) := ⟨_, rfl⟩
                  rw [← hw]
                  replace bW : Below U.heap.size U v34 := by rw [hw]; exact (bW.setCell (p := ⟨G6, 0, none⟩) (by simpa using hW6) _).setCell (p := ⟨G6, 1, none⟩) (by simpa using hW6) _
                  refine hK _ _ bW ?_
                  clear hK K f0 f1 g0 g1
                  replace n5 := Lib.hid (show MatK v34 G5 35 (x.m : Int) Ca x.m da am by rw [hw]; exact MatK.put m6.out n5.out (by omega) (n5.out.2.farZ m6.out hpa.out) _ _)
                  have n6 := Lib.hid (show MatK v34 G6 35 (z.m : Int) Cb z.m db bm by rw [hw]; exact ⟨m6.out.put (z.m : Int) Cb z.m db, rCb.out.putB m6.out (rCb.out.farZ m6.out hpb.out) _ _⟩)
                  clear hw m6 rCb
                  refine wpPT_done (NoPanic.normal ?_)
                  exact key G5 G6 v34 Ca da Cb db ⟨n5.out, n6.out, bW⟩
                · go_simp
                  obtain ⟨G6, hG⟩ : ∃ G, G = v30.heap.size := ⟨_, rfl⟩
                  obtain ⟨v35, hw⟩ : ∃ X : World, X = v30.alloc (.cells #[.int .i64 0, .slice none 0 0] 35) := ⟨_, rfl⟩
                  rw [← hw, ← hG]
                  have b : Below v30.heap.size v30 v35 := by rw [hw]; exact below_alloc _ _
                  have hW6 : U.heap.size ≤ G6 := by rw [hG]; exact bW.size
                  have hne : G5 ≠ G6 := by have := m5.out.lt; omega
                  replace bW := below_trans2 bW b
                  refine hK _ _ bW ?_
                  clear hK K
                  have m6 := Lib.hid (show MatB v35 G6 35 0 none 0 0 by rw [hw, hG]; exact MatB.new _ _)
                  clear hw hG
                  replace m5 := Lib.hid (m5.out.below_ b)
                  replace rCa := Lib.hid (rCa.out.below b)
                  clear b
                  refine wpPT_one rfl (by rfl) (fun K hK => ?_)
                  go_simp
                  refine (cCb.out v35 (hBb.out.later bW).f).mono ?_; rintro e v36 ⟨Cb, nn, db, rfl, rCb, hdb, b⟩
                  obtain rfl : nn = z.m := by rw [← rCb.len]; exact hclb.out
                  clear hdb
                  replace bW := below_trans2 bW b
                  refine hK _ _ bW ?_
                  clear hK K
                  replace m5 := Lib.hid (m5.out.below_ b)
                  replace rCa := Lib.hid (rCa.out.below b)
                  replace m6 := Lib.hid (m6.out.below_ b)
                  replace rCb := Lib.hid rCb
                  clear b
                  have f0 := m5.out.c0
                  have f1 := m5.out.c1
                  have g0 := m5.out.frozen 0
                  have g1 := m5.out.frozen 1
                  refine wpPT_one rfl (by rfl) (fun K hK => ?_)
                  go_simp
                  obtain ⟨v37, hw⟩ : ∃ X : World, X = (v36.setCell ⟨G5, 0, none⟩ (.int .i64 (x.m : Int))).setCell ⟨G5, 1, none⟩ (.slice Ca x.m da) := ⟨_, rfl⟩
                  rw [← hw]
                  replace bW : Below U.heap.size U v37 := by rw [hw]; exact (bW.setCell (p := ⟨G5, 0, none⟩) (by simpa using hW5) _).setCell (p := ⟨G5, 1, none⟩) (by simpa using hW5) _
                  refine hK _ _ bW ?_
                  clear hK K f0 f1 g0 g1
                  have n5 := Lib.hid (show MatK v37 G5 35 (x.m : Int) Ca x.m da am by rw [hw]; exact ⟨m5.out.put (x.m : Int) Ca x.m da, rCa.out.putB m5.out (rCa.out.farZ m5.out hpa.out) _ _⟩)
                  replace rCb := Lib.hid (show RowsAt v37 Cb z.m bm by rw [hw]; exact rCb.out.putB m5.out (rCb.out.farZ m5.out hpb.out) _ _)
                  replace m6 := Lib.hid (show MatB v37 G6 35 0 none 0 0 by rw [hw]; exact (m6.out.farB (p := ⟨G5, 0, none⟩) (by simp <;> omega) _).farB (p := ⟨G5, 1, none⟩) (by simp <;> omega) _)
                  clear hw m5 rCa
                  have f0 := m6.out.c0
                  have f1 := m6.out.c1
                  have g0 := m6.out.frozen 0
                  have g1 := m6.out.frozen 1
                  refine wpPT_one rfl (by rfl) (fun K hK => ?_)
                  go_simp
                  obtain ⟨v38, hw⟩ : ∃ X : World, X = (v37.setCell ⟨G6, 0, none⟩ (.int .i64 (z.m : Int))).setCell ⟨G6, 1, none⟩ (.slice Cb z.m db) := ⟨_, rfl⟩
                  rw [← hw]
                  replace bW : Below U.heap.size U v38 := by rw [hw]; exact (bW.setCell (p := ⟨G6, 0, none⟩) (by simpa using hW6) _).setCell (p := ⟨G6, 1, none⟩) (by simpa using hW6) _
                  refine hK _ _ bW ?_
                  clear hK K f0 f1 g0 g1
                  replace n5 := Lib.hid (show MatK v38 G5 35 (x.m : Int) Ca x.m da am by rw [hw]; exact MatK.put m6.out n5.out (by omega) (n5.out.2.farZ m6.out hpa.out) _ _)
                  have n6 := Lib.hid (show MatK v38 G6 35 (z.m : Int) Cb z.m db bm by rw [hw]; exact ⟨m6.out.put (z.m : Int) Cb z.m db, rCb.out.putB m6.out (rCb.out.farZ m6.out hpb.out) _ _⟩)
                  clear hw m6 rCb
                  refine wpPT_done (NoPanic.normal ?_)
                  exact key G5 G6 v38 Ca da Cb db ⟨n5.out, n6.out, bW⟩
              · go_simp
                obtain ⟨G6, hG⟩ : ∃ G, G = v29.heap.size := ⟨_, rfl⟩
                obtain ⟨v39, hw⟩ : ∃ X : World, X = v29.alloc (.cells #[.int .i64 0, .slice none 0 0] 35) := ⟨_, rfl⟩
                rw [← hw, ← hG]
                have b : Below v29.heap.size v29 v39 := by rw [hw]; exact below_alloc _ _
                have hW6 : U.heap.size ≤ G6 := by rw [hG]; exact bW.size
                have hne : G5 ≠ G6 := by have := m5.out.lt; omega
                replace bW := below_trans2 bW b
                refine hK _ _ bW ?_
                clear hK K
                have m6 := Lib.hid (show MatB v39 G6 35 0 none 0 0 by rw [hw, hG]; exact MatB.new _ _)
                clear hw hG
                replace m5 := Lib.hid (m5.out.below_ b)
                clear b
                refine wpPT_one rfl (by rfl) (fun K hK => ?_)
                go_simp
                refine (cCa.out v39 (hBa.out.later bW).f).mono ?_; rintro e v40 ⟨Ca, nn, da, rfl, rCa, hda, b⟩
                obtain rfl : nn = x.m := by rw [← rCa.len]; exact hcla.out
                clear hda
                replace bW := below_trans2 bW b
                refine hK _ _ bW ?_
                clear hK K
                replace m5 := Lib.hid (m5.out.below_ b)
                replace m6 := Lib.hid (m6.out.below_ b)
                replace rCa := Lib.hid rCa
                clear b
                refine wpPT_one rfl (by rfl) (fun K hK => ?_)
                go_simp
                refine (cCb.out v40 (hBb.out.later bW).f).mono ?_; rintro e v41 ⟨Cb, nn, db, rfl, rCb, hdb, b⟩
                obtain rfl : nn = z.m := by rw [← rCb.len]; exact hclb.out
                clear hdb
                replace bW := below_trans2 bW b
                refine hK _ _ bW ?_
                clear hK K
                replace m5 := Lib.hid (m5.out.below_ b)
                replace m6 := Lib.hid (m6.out.below_ b)
                replace rCa := Lib.hid (rCa.out.below b)
                replace rCb := Lib.hid rCb
                clear b
                have f0 := m5.out.c0
                have f1 := m5.out.c1
                have g0 := m5.out.frozen 0
                have g1 := m5.out.frozen 1
                refine wpPT_one rfl (by rfl) (fun K hK => ?_)
                go_simp
                obtain ⟨v42, hw⟩ : ∃ X : World, X = (v41.setCell ⟨G5, 0, none⟩ (.int .i64 (x.m : Int))).setCell ⟨G5, 1, none⟩ (.slice Ca x.m da) := ⟨_, rfl⟩
                rw [← hw]
                replace bW : Below U.heap.size U v42 := by rw [hw]; exact (bW.setCell (p := ⟨G5, 0, none⟩) (by simpa using hW5) _).setCell (p := ⟨G5, 1, none⟩) (by simpa using hW5) _
                refine hK _ _ bW ?_
                clear hK K f0 f1 g0 g1
                have n5 := Lib.hid (show MatK v42 G5 35 (x.m : Int) Ca x.m da am by rw [hw]; exact ⟨m5.out.put (x.m : Int) Ca x.m da, rCa.out.putB m5.out (rCa.out.farZ m5.out hpa.out) _ _⟩)
                replace rCb := Lib.hid (show RowsAt v42 Cb z.m bm by rw [hw]; exact rCb.out.putB m5.out (rCb.out.farZ m5.out hpb.out) _ _)
                replace m6 := Lib.hid (show MatB v42 G6 35 0 none 0 0 by rw [hw]; exact (m6.out.farB (p := ⟨G5, 0, none⟩) (by simp <;> omega) _).farB (p := ⟨G5, 1, none⟩) (by simp <;> omega) _)
                clear hw m5 rCa
                have f0 := m6.out.c0
                have f1 := m6.out.c1
                have g0 := m6.out.frozen 0
                have g1 := m6.out.frozen 1
                refine wpPT_one rfl (by rfl) (fun K hK => ?_)
                go_simp
                obtain ⟨v43, hw⟩ : ∃ X : World, X = (v42.setCell ⟨G6, 0, none⟩ (.int .i64 (z.m : Int))).setCell ⟨G6, 1, none⟩ (.slice Cb z.m db) := ⟨_, rfl⟩
                rw [← hw]
                replace bW : Below U.heap.size U v43 := by rw [hw]; exact (bW.setCell (p := ⟨G6, 0, none⟩) (by simpa using hW6) _).setCell (p := ⟨G6, 1, none⟩) (by simpa using hW6) _
                refine hK _ _ bW ?_
                clear hK K f0 f1 g0 g1
                replace n5 := Lib.hid (show MatK v43 G5 35 (x.m : Int) Ca x.m da am by rw [hw]; exact MatK.put m6.out n5.out (by omega) (n5.out.2.farZ m6.out hpa.out) _ _)
                have n6 := Lib.hid (show MatK v43 G6 35 (z.m : Int) Cb z.m db bm by rw [hw]; exact ⟨m6.out.put (z.m : Int) Cb z.m db, rCb.out.putB m6.out (rCb.out.farZ m6.out hpb.out) _ _⟩)
                clear hw m6 rCb
                refine wpPT_done (NoPanic.normal ?_)
                exact key G5 G6 v43 Ca da Cb db ⟨n5.out, n6.out, bW⟩
            · go_simp
              obtain ⟨G6, hG⟩ : ∃ G, G = U.heap.size := ⟨_, rfl⟩
              obtain ⟨v44, hw⟩ : ∃ X : World, X = U.alloc (.cells #[.int .i64 0, .slice none 0 0] 35) := ⟨_, rfl⟩
              rw [← hw, ← hG]
              have b : Below U.heap.size U v44 := by rw [hw]; exact below_alloc _ _
              have hW6 : U.heap.size ≤ G6 := by rw [hG]; exact bW.size
              replace bW := below_trans2 bW b
              refine hK _ _ bW ?_
              clear hK K
              have m6 := Lib.hid (show MatB v44 G6 35 0 none 0 0 by rw [hw, hG]; exact MatB.new _ _)
              clear hw hG
              clear b
              refine wpPT_two rfl (by rfl) rfl (by rfl) (fun K hK => ?_) (fun K hK => ?_)
              · go_simp
                refine (cCa.out v44 (hBa.out.later bW).f).mono ?_; rintro e v45 ⟨Ca, nn, da, rfl, rCa, hda, b⟩
                obtain rfl : nn = x.m := by rw [← rCa.len]; exact hcla.out
                clear hda
                replace bW := below_trans2 bW b
                refine hK _ _ bW ?_
                clear hK K
                replace m6 := Lib.hid (m6.out.below_ b)
                replace rCa := Lib.hid rCa
                clear b
                refine wpPT_two rfl (by rfl) rfl (by rfl) (fun K hK => ?_) (fun K hK => ?_)
                · go_simp
                  refine (cCb.out v45 (hBb.out.later bW).f).mono ?_; rintro e v46 ⟨Cb, nn, db, rfl, rCb, hdb, b⟩
                  obtain rfl : nn = z.m := by rw [← rCb.len]; exact hclb.out
                  clear hdb
                  replace bW := below_trans2 bW b
                  refine hK _ _ bW ?_
                  clear hK K
                  replace m6 := Lib.hid (m6.out.below_ b)
                  replace rCa := Lib.hid (rCa.out.below b)
                  replace rCb := Lib.hid rCb
                  clear b
                  refine wpPT_one rfl (by rfl) (fun K hK => ?_)
                  go_simp
                  obtain ⟨G5, hG⟩ : ∃ G, G = v46.heap.size := ⟨_, rfl⟩
                  obtain ⟨v47, hw⟩ : ∃ X : World, X = v46.alloc (.cells #[.int .i64 0, .slice none 0 0] 35) := ⟨_, rfl⟩
                  rw [← hw, ← hG]
                  have b : Below v46.heap.size v46 v47 := by rw [hw]; exact below_alloc _ _
                  have hW5 : U.heap.size ≤ G5 := by rw [hG]; exact bW.size
                  have hne : G5 ≠ G6 := by have := m6.out.lt; omega
                  replace bW := below_trans2 bW b
                  refine hK _ _ bW ?_
                  clear hK K
                  have m5 := Lib.hid (show MatB v47 G5 35 0 none 0 0 by rw [hw, hG]; exact MatB.new _ _)
                  clear hw hG
                  replace m6 := Lib.hid (m6.out.below_ b)
                  replace rCa := Lib.hid (rCa.out.below b)
                  replace rCb := Lib.hid (rCb.out.below b)
                  clear b
                  have f0 := m5.out.c0
                  have f1 := m5.out.c1
                  have g0 := m5.out.frozen 0
                  have g1 := m5.out.frozen 1
                  refine wpPT_one rfl (by rfl) (fun K hK => ?_)
                  go_simp
                  obtain ⟨v48, hw⟩ : ∃ X : World, X = (v47.setCell ⟨G5, 0, none⟩ (.int .i64 (x.m : Int))).setCell ⟨G5, 1, none⟩ (.slice Ca x.m da) := ⟨_, rfl⟩
                  rw [← hw]
                  replace bW : Below U.heap.size U v48 := by rw [hw]; exact (bW.setCell (p := ⟨G5, 0, none⟩) (by simpa using hW5) _).setCell (p := ⟨G5, 1, none⟩) (by simpa using hW5) _
                  refine hK _ _ bW ?_
                  clear hK K f0 f1 g0 g1
                  have n5 := Lib.hid (show MatK v48 G5 35 (x.m : Int) Ca x.m da am by rw [hw]; exact ⟨m5.out.put (x.m : Int) Ca x.m da, rCa.out.putB m5.out (rCa.out.farZ m5.out hpa.out) _ _⟩)
                  replace rCb := Lib.hid (show RowsAt v48 Cb z.m bm by rw [hw]; exact rCb.out.putB m5.out (rCb.out.farZ m5.out hpb.out) _ _)
                  replace m6 := Lib.hid (show MatB v48 G6 35 0 none 0 0 by rw [hw]; exact (m6.out.farB (p := ⟨G5, 0, none⟩) (by simp <;> omega) _).farB (p := ⟨G5, 1, none⟩) (by simp <;> omega) _)
                  clear hw m5 rCa
                  have f0 := m6.out.c0
                  have f1 := m6.out.c1
                  have g0 := m6.out.frozen 0
                  have g1 := m6.out.frozen 1
                  refine wpPT_one rfl (by rfl) (fun K hK => ?_)
                  go_simp
                  obtain ⟨v49, hw⟩ : ∃ X : World, X = (v48.setCell ⟨G6, 0, none⟩ (.int .i64 (z.m : Int))).setCell ⟨G6, 1, none⟩ (.slice Cb z.m db) := ⟨_, rfl⟩
                  rw [← hw]
                  replace bW : Below U.heap.size U v49 := by rw [hw]; exact (bW.setCell (p := ⟨G6, 0, none⟩) (by simpa using hW6) _).setCell (p := ⟨G6, 1, none⟩) (by simpa using hW6) _
                  refine hK _ _ bW ?_
                  clear hK K f0 f1 g0 g1
                  replace n5 := Lib.hid (show MatK v49 G5 35 (x.m : Int) Ca x.m da am by rw [hw]; exact MatK.put m6.out n5.out (by omega) (n5.out.2.farZ m6.out hpa.out) _ _)
                  have n6 := Lib.hid (show MatK v49 G6 35 (z.m : Int) Cb z.m db bm by rw [hw]; exact ⟨m6.out.put (z.m : Int) Cb z.m db, rCb.out.putB m6.out (rCb.out.farZ m6.out hpb.out) _ _⟩)
                  clear hw m6 rCb
                  refine wpPT_done (NoPanic.normal ?_)
                  exact key G5 G6 v49 Ca da Cb db ⟨n5.out, n6.out, bW⟩
                · go_simp
                  obtain ⟨G5, hG⟩ : ∃ G, G = v45.heap.size := ⟨_, rfl⟩
                  obtain ⟨v50, hw⟩ : ∃ X : World, X = v45.alloc (.cells #[.int .i64 0, .slice none 0 0] 35) := ⟨_, rfl⟩
                  rw [← hw, ← hG]
                  have b : Below v45.heap.size v45 v50 := by rw [hw]; exact below_alloc _ _
                  have hW5 : U.heap.size ≤ G5 := by rw [hG]; exact bW.size
                  have hne : G5 ≠ G6 := by have := m6.out.lt; omega
                  replace bW := below_trans2 bW b
                  refine hK _ _ bW ?_
                  clear hK K
                  have m5 := Lib.hid (show MatB v50 G5 35 0 none 0 0 by rw [hw, hG]; exact MatB.new _ _)
                  clear hw hG
                  replace m6 := Lib.hid (m6.out.below_ b)
                  replace rCa := Lib.hid (rCa.out.below b)
                  clear b
                  refine wpPT_one rfl (by rfl) (fun K hK => ?_)
                  go_simp
                  refine (cCb.out v50 (hBb.out.later bW).f).mono ?_; rintro e v51 ⟨Cb, nn, db, rfl, rCb, hdb, b⟩
                  obtain rfl : nn = z.m := by rw [← rCb.len]; exact hclb.out
                  clear hdb
                  replace bW := below_trans2 bW b
                  refine hK _ _ bW ?_
                  clear hK K
                  replace m6 := Lib.hid (m6.out.below_ b)
                  replace rCa := Lib.hid (rCa.out.below b)
                  replace m5 := Lib.hid (m5.out.below_ b)
                  replace rCb := Lib.hid rCb
                  clear b
                  have f0 := m5.out.c0
                  have f1 := m5.out.c1
                  have g0 := m5.out.frozen 0
                  have g1 := m5.out.frozen 1
                  refine wpPT_one rfl (by rfl) (fun K hK => ?_)
                  go_simp
                  obtain ⟨v52, hw⟩ : ∃ X : World, X = (v51.setCell ⟨G5, 0, none⟩ (.int .i64 (x.m : Int))).setCell ⟨G5, 1, none⟩ (.slice Ca x.m da) := ⟨_, rfl⟩
                  rw [← hw]
                  replace bW : Below U.heap.size U v52 := by rw [hw]; exact (bW.setCell (p := ⟨G5, 0, none⟩) (by simpa using hW5) _).setCell (p := ⟨G5, 1, none⟩) (by simpa using hW5) _
                  refine hK _ _ bW ?_
                  clear hK K f0 f1 g0 g1
                  have n5 := Lib.hid (show MatK v52 G5 35 (x.m : Int) Ca x.m da am by rw [hw]; exact ⟨m5.out.put (x.m : Int) Ca x.m da, rCa.out.putB m5.out (rCa.out.farZ m5.out hpa.out) _ _⟩)
                  replace rCb := Lib.hid (show RowsAt v52 Cb z.m bm by rw [hw]; exact rCb.out.putB m5.out (rCb.out.farZ m5.out hpb.out) _ _)
                  replace m6 := Lib.hid (show MatB v52 G6 35 0 none 0 0 by rw [hw]; exact (m6.out.farB (p := ⟨G5, 0, none⟩) (by simp <;> omega) _).farB (p := ⟨G5, 1, none⟩) (by simp <;> omega) _)
                  clear hw m5 rCa
                  have f0 := m6.out.c0
                  have f1 := m6.out.c1
                  have g0 := m6.out.frozen 0
                  have g1 := m6.out.frozen 1
                  refine wpPT_one rfl (by rfl) (fun K hK => ?_)
                  go_simp
                  obtain ⟨v53, hw⟩ : ∃ X : World, X = (v52.setCell ⟨G6, 0, none⟩ (.int .i64 (z.m : Int))).setCell ⟨G6, 1, none⟩ (.slice Cb z.m db) := ⟨_, rfl⟩
                  rw [← hw]
                  replace bW : Below U.heap.size U v53 := by rw [hw]; exact (bW.setCell (p := ⟨G6, 0, none⟩) (by simpa using hW6) _).setCell (p := ⟨G6, 1, none⟩) (by simpa using hW6) _
                  refine hK _ _ bW ?_
                  clear hK K f0 f1 g0 g1
                  replace n5 := Lib.hid (show MatK v53 G5 35 (x.m : Int) Ca x.m da am by rw [hw]; exact MatK.put m6.out n5.out (by omega) (n5.out.2.farZ m6.out hpa.out) _ _)
                  have n6 := Lib.hid (show MatK v53 G6 35 (z.m : Int) Cb z.m db bm by rw [hw]; exact ⟨m6.out.put (z.m : Int) Cb z.m db, rCb.out.putB m6.out (rCb.out.farZ m6.out hpb.out) _ _⟩)
                  clear hw m6 rCb
                  refine wpPT_done (NoPanic.normal ?_)
                  exact key G5 G6 v53 Ca da Cb db ⟨n5.out, n6.out, bW⟩
              · go_simp
                obtain ⟨G5, hG⟩ : ∃ G, G = v44.heap.size := ⟨_, rfl⟩
                obtain ⟨v54, hw⟩ : ∃ X : World, X = v44.alloc (.cells #[.int .i64 0, .slice none 0 0] 35) := ⟨_, rfl⟩
                rw [← hw, ← hG]
                have b : Below v44.heap.size v44 v54 := by rw [hw]; exact below_alloc _ _
                have hW5 : U.heap.size ≤ G5 := by rw [hG]; exact bW.size
                have hne : G5 ≠ G6 := by have := m6.out.lt; omega
                replace bW := below_trans2 bW b
                refine hK _ _ bW ?_
                clear hK K
                have m5 := Lib.hid (show MatB v54 G5 35 0 none 0 0 by rw [hw, hG]; exact MatB.new _ _)
                clear hw hG
                replace m6 := Lib.hid (m6.out.below_ b)
                clear b
                refine wpPT_one rfl (by rfl) (fun K hK => ?_)
                go_simp
                refine (cCa.out v54 (hBa.out.later bW).f).mono ?_; rintro e v55 ⟨Ca, nn, da, rfl, rCa, hda, b⟩
                obtain rfl : nn = x.m := by rw [← rCa.len]; exact hcla.out
                clear hda
                replace bW := below_trans2 bW b
                refine hK _ _ bW ?_
                clear hK K
                replace m6 := Lib.hid (m6.out.below_ b)
                replace m5 := Lib.hid (m5.out.below_ b)
                replace rCa := Lib.hid rCa
                clear b
                refine wpPT_one rfl (by rfl) (fun K hK => ?_)
                go_simp
                refine (cCb.out v55 (hBb.out.later bW).f).mono ?_; rintro e v56 ⟨Cb, nn, db, rfl, rCb, hdb, b⟩
                obtain rfl : nn = z.m := by rw [← rCb.len]; exact hclb.out
                clear hdb
                replace bW := below_trans2 bW b
                refine hK _ _ bW ?_
                clear hK K
                replace m6 := Lib.hid (m6.out.below_ b)
                replace m5 := Lib.hid (m5.out.below_ b)
                replace rCa := Lib.hid (rCa.out.below b)
                replace rCb := Lib.hid rCb
                clear b
                have f0 := m5.out.c0
                have f1 := m5.out.c1
                have g0 := m5.out.frozen 0
                have g1 := m5.out.frozen 1
                refine wpPT_one rfl (by rfl) (fun K hK => ?_)
                go_simp
                obtain ⟨v57, hw⟩ : ∃ X : World, X = (v56.setCell ⟨G5, 0, none⟩ (.int .i64 (x.m : Int))).setCell ⟨G5, 1, none⟩ (.slice Ca x.m da) := ⟨_, rfl⟩
                rw [← hw]
                replace bW : Below U.heap.size U v57 := by rw [hw]; exact (bW.setCell (p := ⟨G5, 0, none⟩) (by simpa using hW5) _).setCell (p := ⟨G5, 1, none⟩) (by simpa using hW5) _
                refine hK _ _ bW ?_
                clear hK K f0 f1 g0 g1
                have n5 := Lib.hid (show MatK v57 G5 35 (x.m : Int) Ca x.m da am by rw [hw]; exact ⟨m5.out.put (x.m : Int) Ca x.m da, rCa.out.putB m5.out (rCa.out.farZ m5.out hpa.out) _ _⟩)
                replace rCb := Lib.hid (show RowsAt v57 Cb z.m bm by rw [hw]; exact rCb.out.putB m5.out (rCb.out.farZ m5.out hpb.out) _ _)
                replace m6 := Lib.hid (show MatB v57 G6 35 0 none 0 0 by rw [hw]; exact (m6.out.farB (p := ⟨G5, 0, none⟩) (by simp <;> omega) _).farB (p := ⟨G5, 1, none⟩) (by simp <;> omega) _)
                clear hw m5 rCa
                have f0 := m6.out.c0
                have f1 := m6.out.c1
                have g0 := m6.out.frozen 0
                have g1 := m6.out.frozen 1
                refine wpPT_one rfl (by rfl) (fun K hK => ?_)
                go_simp
                obtain ⟨v58, hw⟩ : ∃ X : World, X = (v57.setCell ⟨G6, 0, none⟩ (.int .i64 (z.m : Int))).setCell ⟨G6, 1, none⟩ (.slice Cb z.m db) := ⟨_, rfl⟩
                rw [← hw]
                replace bW : Below U.heap.size U v58 := by rw [hw]; exact (bW.setCell (p := ⟨G6, 0, none⟩) (by simpa using hW6) _).setCell (p := ⟨G6, 1, none⟩) (by simpa using hW6) _
                refine hK _ _ bW ?_
                clear hK K f0 f1 g0 g1
                replace n5 := Lib.hid (show MatK v58 G5 35 (x.m : Int) Ca x.m da am by rw [hw]; exact MatK.put m6.out n5.out (by omega) (n5.out.2.farZ m6.out hpa.out) _ _)
                have n6 := Lib.hid (show MatK v58 G6 35 (z.m : Int) Cb z.m db bm by rw [hw]; exact ⟨m6.out.put (z.m : Int) Cb z.m db, rCb.out.putB m6.out (rCb.out.farZ m6.out hpb.out) _ _⟩)
                clear hw m6 rCb
                refine wpPT_done (NoPanic.normal ?_)
                exact key G5 G6 v58 Ca da Cb db ⟨n5.out, n6.out, bW⟩
          · intro G5 G6 w9 Ca da Cb db hk
            have kA := Lib.hid hk.1
            have kB := Lib.hid hk.2.1
            have bb := Lib.hid (below_trans2 hBa.out.o hk.2.2)
            clear hk hBa hBb cCa cCb hcla hclb hpa hpb bW
            have cHa := Lib.hid (fun (i j : Int) W hW => ref3_HasG Ca x.m da am gA.out i j W hW)
            have cHb := Lib.hid (fun (i j : Int) W hW => ref3_HasG Cb z.m db bm gB.out i j W hW)
            have hzI : (x.m : Int) + 1 = (z.m : Int) := by have := hzx.out; omega
            have hzW : wrap64 ((x.m : Int) + 1) = (z.m : Int) := by rw [hzI]; simp only [wrap64]; have := hzx.out; omega
            replace hzI := Lib.hid hzI
            replace hzW := Lib.hid hzW
            go_wp2_with fail
            go_loopw [15] (fun t wr => ∃ i : Nat, i ≤ x.m ∧ t = .int .i64 (i : Int) ∧ Hid (Below w9.heap.size w9 wr)) (fun t _ => x.m - (intOf t).toNat)
            case atStart => exact ⟨0, Nat.zero_le _, rfl, Lib.hid (Below.refl _ _)⟩
            case round =>
              obtain ⟨i, hi, rfl, hb⟩ := hrel
              have kAr := Lib.hid (kA.out.below hb.out)
              have kBr := Lib.hid (kB.out.below hb.out)
              have m0 := kAr.out.1.c0
              by_cases hlt : i < x.m
              · have hlt' : (i : Int) < (x.m : Int) := by omega
                replace hlt := Lib.hid hlt
                obtain ⟨Wo, rfl⟩ : ∃ Wo, Wo = wr := ⟨_, rfl⟩
                go_wp2_with fail
                clear m0
                go_loopw [16] (fun t wr => ∃ j : Nat, j ≤ x.m ∧ t = .int .i64 (j : Int) ∧ Hid (Below Wo.heap.size Wo wr)) (fun t _ => x.m - (intOf t).toNat)
                case atStart => exact ⟨0, Nat.zero_le _, rfl, Lib.hid (Below.refl _ _)⟩
                case round =>
                  obtain ⟨j, hj, rfl, hb'⟩ := hrel
                  have kAj := Lib.hid (kAr.out.below hb'.out)
                  have kBj := Lib.hid (kBr.out.below hb'.out)
                  have m0 := kAj.out.1.c0
                  by_cases hjm : j < x.m
                  · have hjm' : (j : Int) < (x.m : Int) := by omega
                    have cA := cHa.out (i : Int) (j : Int)
                    have cB := cHb.out (i : Int) (j : Int)
                    rw [hsame.out i j hlt.out hjm] at cB
                    obtain ⟨bv, hbv⟩ : ∃ bv, bv = hasM am (i : Int) (j : Int) := ⟨_, rfl⟩
                    rw [← hbv] at cA cB
                    replace cA := Lib.hid cA
                    replace cB := Lib.hid cB
                    replace hbv := Lib.hid hbv
                    replace hjm := Lib.hid hjm
                    go_wp2_with fail
                    refine wp_region_plan 9 [(true, 0), (true, 1), (true, 2), (true, 4), (true, 5), (true, 6), (false, 3), (false, 7), (true, 8)] (by kernel_rfl) (by kernel_rfl) (fun X hX => ?_)
                    have hX' : Below wr.heap.size wr X := by rw [hX.out]; exact (Below.refl _ _).drew
                    replace kAj := Lib.hid (kAj.out.below hX')
                    replace kBj := Lib.hid (kBj.out.below hX')
                    replace hb' := Lib.hid (below_trans2 hb'.out hX')
                    clear hX hX' m0
                    have m0 := kAj.out.1.c0
                    have m1 := kAj.out.1.c1
                    have n0 := kBj.out.1.c0
                    have n1 := kBj.out.1.c1
                    simp only [List.drop_succ_cons, List.drop_nil]
                    iterate 6
                      refine wpPlan_float (v := ?_) rfl (by rfl) (fun w' hw' => ?_) (fun K hK => ?_)
                      rotate_left
                      · (go_simp; try with_reducible rfl)
                      go_simp
                      refine hK _ ?_
                      clear hK K
                    clear m0 m1 n0 n1
                    refine wpPlan_only rfl (by rfl) (fun K hK => ?_)
                    go_simp
                    refine (cA.out X kAj.out.2).mono ?_
                    rintro e x1 ⟨rfl, b⟩
                    refine hK _ _ b ?_
                    clear hK K
                    replace kBj := Lib.hid (kBj.out.below b)
                    replace hb' := Lib.hid (below_trans2 hb'.out b)
                    clear b
                    refine wpPlan_only rfl (by rfl) (fun K hK => ?_)
                    go_simp
                    refine (cB.out x1 kBj.out.2).mono ?_
                    rintro e x2 ⟨rfl, b⟩
                    refine hK _ _ b ?_
                    clear hK K
                    replace hb' := Lib.hid (below_trans2 hb'.out b)
                    clear b
                    iterate 1
                      refine wpPlan_float (v := ?_) rfl (by rfl) (fun w' hw' => ?_) (fun K hK => ?_)
                      rotate_left
                      · (go_simp; try with_reducible rfl)
                      go_simp
                      refine hK _ ?_
                      clear hK K
                    refine wpPlan_nil (NoPanic.normal ?_)
                    have ebv : (bv != bv) = false := by simp
                    go_wp2_with fail
                    exact ⟨⟨j + 1, by have := hjm.out; omega, by go_num, hb'⟩, by simp [intOf]; have := hjm.out; omega⟩
                  · have hjn : ¬ (j : Int) < (x.m : Int) := by omega
                    have n0 := kBj.out.1.c0
                    have n1 := kBj.out.1.c1
                    have cB := cHb.out (x.m : Int) (i : Int)
                    rw [hnone.out i hlt.out] at cB
                    replace cB := Lib.hid cB
                    clear hjm
                    go_wp2_with fail
                    refine (cB.out wr kBj.out.2).mono ?_; rintro e x1 ⟨rfl, b⟩
                    replace hb' := Lib.hid (below_trans2 (below_trans2 hb.out hb'.out) b)
                    clear b m0 n0 n1
                    go_wp2_with fail
                    exact ⟨⟨i + 1, by have := hlt.out; omega, by go_num, hb'⟩, by simp [intOf]; have := hlt.out; omega⟩
              · have hin2 : ¬ (i : Int) < (x.m : Int) := by omega
                clear hlt
                go_wp2_with fail
                refine (law13_awake wr).mono ?_; rintro e x1 ⟨rfl, b⟩
                clear m0
                have kA1 := kAr.out.below b
                have kB1 := kBr.out.below b
                have m0 := kA1.1.c0
                have n0 := kB1.1.c0
                have e3 : ((z.m : Int) == (x.m : Int) + 1) = true := by rw [hzI.out]; simp
                have e4 : ((z.m : Int) == wrap64 ((x.m : Int) + 1)) = true := by rw [hzW.out]; simp
                clear kA1 kB1
                go_wp2_with fail
                go_ret
                exact ⟨rfl, below_trans2 (below_trans2 bb.out hb.out) b⟩
end Go.Proofs.Ytmgockkjoogcaaa
