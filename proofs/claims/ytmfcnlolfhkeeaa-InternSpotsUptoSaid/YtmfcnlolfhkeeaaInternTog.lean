/- The contracts of the code's own together and Back of layer 9. -/
import Derived.Test.YtmfcnlolfhkeeaaInternOf
import Derived.Test.YtmfcnlolfhkeeaaInternEq
namespace Go.Proofs.Ytmfcnlolfhkeeaa
open Go.RowKit
set_option linter.unusedVariables false

/-- .. the history of facts -/
def RetBack (f : Fac) (w : World) (e : Ending) (w' : World) : Prop := ∃ A n c, e = .returned (.tuple #[.slice A n c, .bool (backF f).isSome]) ∧ HistAt w' A n ((backF f).getD []) ∧ n ≤ c ∧ c ≤ 9223372036854775807 ∧ Below w.heap.size w w'
/-- .. what the items are laid into -/
def RetTog (f : Fac) (w : World) (e : Ending) (w' : World) : Prop := ∃ A n c, e = .returned (.tuple #[.slice A n c, .bool (layF f.vars f.items []).isSome]) ∧ HistAt w' A n ((layF f.vars f.items []).getD []) ∧ n ≤ c ∧ c ≤ 9223372036854775807 ∧ Below w.heap.size w w' ∧
  ∀ hs, layF f.vars f.items [] = some hs → hs.length ≤ 1001 ∧ (allO hs).length ≤ f.items.length
set_option maxRecDepth 100000 in
set_option maxHeartbeats 4000000 in
theorem intern_together (u : FV) (f : Fac) (w : World) (hX : FactsAt w u f) (hse : ∀ x ∈ f.items, x.se ≤ 1000) (hN : f.items.length ≤ 1000) :
    Calls Try.prog 24 #[.agg #[.slice u.A u.n u.c, .slice u.B u.m u.d, .slice u.C u.k u.e]] w (RetTog f w) := by
  unfold RetTog
  obtain ⟨A, n, c, B, m, d, C, k, e⟩ := u
  obtain ⟨i0, hi, hz0, hz1, hz2⟩ := info_parts info_sess9
  obtain ⟨j0, ji, jz0, jz1, jz2⟩ := info_parts info_op
  replace hi := Lib.hid hi
  replace hz0 := Lib.hid hz0
  replace hz1 := Lib.hid hz1
  replace hz2 := Lib.hid hz2
  replace ji := Lib.hid ji
  replace jz0 := Lib.hid jz0
  replace jz1 := Lib.hid jz1
  replace jz2 := Lib.hid jz2
  have hXv := hX.vs
  have hXi := hX.is
  have hvl := hX.vs.len
  have hil := hX.is.len
  have hvc := hX.vc
  have hvm := hX.vm
  have hic := hX.ic
  have him := hX.im
  dsimp only at hXv hXi hvl hil hvc hvm hic him ⊢
  replace hX := Lib.hid hX
  replace hXv := Lib.hid hXv
  replace hXi := Lib.hid hXi
  replace hvl := Lib.hid hvl
  replace hil := Lib.hid hil
  replace hse := Lib.hid hse
  replace hN := Lib.hid hN
  obtain ⟨W, hW⟩ : ∃ W, W = w.alloc (.cells #[.slice A n c, .slice B m d, .slice C k e] 27) := ⟨_, rfl⟩
  obtain ⟨g0, hg0⟩ : ∃ g, g = w.heap.size := ⟨_, rfl⟩
  have hBI : BI w W g0 [.slice A n c, .slice B m d, .slice C k e] (.slice none 0 0) [] [] :=
    ⟨by rw [hW, hg0]; exact Blk.new w _ _, World.ownsRow_nil _ _ _ _, OwnS.nil _ _ _, by rw [hW]; exact (Below.refl _ _).alloc (Nat.le_refl _) _, by rw [hg0]; exact Nat.le_refl _⟩
  have p1 := hBI.k.cell 1
  replace hBI := Lib.hid hBI
  go_enter Try.func24, Try.ntmps24
  go_wp2_with (rw [← hW, ← hg0]; clear hW; replace hg0 := Lib.hid hg0)
  clear p1
  go_loopw [4, 10] (fun h i wr => ∃ (q : Nat) (hv : Value) (vs : List Value) (hs : List (List OpT)), q ≤ m ∧ i = .int .i64 q ∧ h = hv ∧ Hid (BI w wr g0 [.slice A n c, .slice B m d, .slice C k e] hv vs hs) ∧ Hid (layF f.vars f.items [] = layF f.vars (f.items.drop q) hs) ∧ Hid (hs.length ≤ 1001 ∧ (allO hs).length ≤ q)) (fun _ i _ => m - (intOf i).toNat)
  case atStart => exact ⟨0, _, [], [], Nat.zero_le _, rfl, rfl, hBI, Lib.hid (by simp), Lib.hid ⟨by simp, by simp [allO]⟩⟩
  case round =>
    obtain ⟨q, hv, vs, hs, hq, rfl, rfl, hI, hlay, hsz⟩ := hrel
    have p0 := hI.out.k.cell 0
    have p1 := hI.out.k.cell 1
    by_cases hlt : q < m
    · obtain ⟨b, off, x, rfl, hb, hx, hok, x0, x1, x2, x3, x4⟩ := (hXi.out.below hI.out.b).item hlt
      have hlt' : (q : Int) < (m : Int) := by omega
      have hbw : b < w.heap.size := by
        obtain ⟨b', _, _, e', hb', _⟩ := hXi.out.item hlt
        injection e' with e'; injection e' with e'; rw [e']; exact hb'
      obtain ⟨W1, hW1⟩ : ∃ W, W = wr.alloc (.cells #[.int .i64 x.se, .int .i64 x.pl, .bool x.wr, .int .i64 x.va, .int .i64 x.vl] 44) := ⟨_, rfl⟩
      obtain ⟨g2, hg2⟩ : ∃ g, g = wr.heap.size := ⟨_, rfl⟩
      have b1 : Below wr.heap.size wr W1 := by rw [hW1]; exact (Below.refl _ _).alloc (Nat.le_refl _) _
      have k2 : Blk W1 g2 44 [.int .i64 x.se, .int .i64 x.pl, .bool x.wr, .int .i64 x.va, .int .i64 x.vl] := by rw [hW1, hg2]; exact Blk.new wr _ _
      have l2 : w.heap.size ≤ g2 := by rw [hg2]; exact hI.out.b.size
      have I1 := hI.out.later b1
      have hx1000 := hse.out x (List.mem_of_getElem? hx)
      have r0 := k2.cell 0
      have r3 := k2.cell 3
      have t0 := I1.k.cell 0
      cases hokx : okX f.vars x with
      | false =>
        have hres : Hid (layF f.vars f.items [] = none) := Lib.hid (by rw [hlay.out, layF_dropbad hx _ hokx])
        have hcs : x.se < 0 ∨ (¬ x.se < 0 ∧ x.va < 0) ∨ (¬ x.se < 0 ∧ ¬ x.va < 0 ∧ (n : Int) ≤ x.va) := by
          unfold okX at hokx
          rw [hvl.out] at hokx
          simp only [Bool.and_eq_false_iff, decide_eq_false_iff_not] at hokx
          omega
        replace hx := Lib.hid hx
        replace hok := Lib.hid hok
        replace k2 := Lib.hid k2
        replace I1 := Lib.hid I1
        clear hlt hokx
        rcases hcs with h1 | ⟨h1, h2⟩ | ⟨h1, h2, h3⟩
        all_goals (
          go_wp2_with (rw [← hW1, ← hg2]; clear hW1; replace hg2 := Lib.hid hg2)
          refine bodyPost_ret (v := .tuple #[.slice none 0 0, .bool false]) (by simp [results, go_sem]) rfl ⟨none, 0, 0, by rw [hres.out]; rfl, by rw [hres.out]; exact HistAt.nil _ _, Nat.le_refl _, by omega, I1.out.b, fun hs h => by rw [hres.out] at h; cases h⟩)
      | true =>
        have hoks : 0 ≤ x.se ∧ 0 ≤ x.va ∧ x.va < (n : Int) := by
          unfold okX at hokx
          rw [hvl.out] at hokx
          simp only [Bool.and_eq_true, decide_eq_true_eq] at hokx
          exact ⟨hokx.1.1, hokx.1.2, hokx.2⟩
        obtain ⟨s, hs0⟩ : ∃ s : Nat, x.se = (s : Int) := ⟨x.se.toNat, by omega⟩
        obtain ⟨a, ha0⟩ : ∃ a : Nat, x.va = (a : Int) := ⟨x.va.toNat, by omega⟩
        have hlay2 := layF_drop hx hs hokx
        rw [show x.se.toNat = s from by omega] at hlay2
        have hop : opX f.vars x = (x.wr, f.vars.getD a ⟨#[]⟩, x.vl) := by unfold opX; rw [show x.va.toNat = a from by omega]
        rw [hop] at hlay2
        obtain ⟨xse, xpl, xw, xva, xv⟩ := x
        simp only at hs0 ha0 hok x0 x1 x2 x3 x4 k2 hW1 hx1000 hoks r0 r3 hlay2
        subst hs0; subst ha0
        replace hlay2 := Lib.hid hlay2
        replace hx := Lib.hid hx
        have hv64 := And.intro hok.x0 hok.x1
        simp only at hv64
        replace hv64 := Lib.hid hv64
        replace hok := Lib.hid hok
        have hsa : s ≤ 1000 := by omega
        have han : a < n := by omega
        replace k2 := Lib.hid k2
        replace I1 := Lib.hid I1
        replace hlay := Lib.hid (hlay.out.trans hlay2.out)
        have hnn1 : ¬ (s : Int) < 0 := by omega
        have hnn2 : ¬ (a : Int) < 0 := by omega
        have hnn3 : ¬ (n : Int) ≤ (a : Int) := by omega
        have hg2w := Lib.hid hg2
        have hbl : hs.length ≤ 1001 := hsz.out.1
        clear hlt hokx hlay2 hop hoks hb hx1000 hI b1
        go_wp2_with (rw [← hW1, ← hg2]; clear hW1 hg2)
        clear x0 x1 x2 x3 x4
        go_loopw [4] (fun h wr => ∃ (hv : Value) (vs : List Value) (hs' : List (List OpT)), h = hv ∧ Hid (BI w wr g0 [.slice A n c, .slice (some ⟨b, off, none⟩) m d, .slice C k e] hv vs hs') ∧ Hid (extH hs' (s + 1) = extH hs (s + 1) ∧ hs'.length ≤ 1001) ∧ Hid (Blk wr g2 44 [.int .i64 s, .int .i64 xpl, .bool xw, .int .i64 a, .int .i64 xv])) (fun h _ => s + 1 - lenOf h)
        case atStart => exact ⟨_, vs, hs, rfl, I1, Lib.hid ⟨rfl, hbl⟩, k2⟩
        case round =>
          clear r0 r3 t0 p0 p1
          obtain ⟨hv, vs', hs', rfl, hI, hE, k2⟩ := hrel
          obtain ⟨A3, c3, rfl, hNc, hc3, hH⟩ := hI.out.slice
          obtain ⟨N, hNN⟩ : ∃ N, N = hs'.length := ⟨_, rfl⟩
          have r0 := k2.out.cell 0
          have hN1 : N ≤ 1001 := by rw [hNN]; exact hE.out.2
          have hown := hI.out.o
          rw [← hNN] at hown hNc hH ⊢
          by_cases hNs : N ≤ s
          · have hNs' : (N : Int) ≤ (s : Int) := by omega
            obtain ⟨W2, hW2⟩ : ∃ W, W = wr.alloc (.cells #[.slice none 0 0] 41) := ⟨_, rfl⟩
            have b2 : Below wr.heap.size wr W2 := by rw [hW2]; exact (Below.refl _ _).alloc (Nat.le_refl _) _
            have hnews : ∀ (j : Nat) (u : Value), ([Value.slice none 0 0] : List Value)[j]? = some u → W2.cell? ((⟨wr.heap.size, 0, none⟩ : Addr).add j) = some u := by
              intro j u hj
              have := Blk.new wr 41 [Value.slice none 0 0]
              rw [← hW2] at this
              have hc := this.cell j
              have he : (⟨wr.heap.size, 0, none⟩ : Addr).add j = ⟨wr.heap.size, j, none⟩ := by unfold Addr.add; split <;> simp_all
              rw [he, hc]; exact hj
            have I2 := hI.out.later b2
            have hown2 := own_below hown b2
            have k3 := k2.out.below b2 k2.out.lt
            go_wp2_with (rw [← hW2]; clear hW2; at_builtin; refine wpList_append_own_at W2 rfl (.tmp 35) (.tmp 36) _ rfl w.heap.size 41 i0 _ 1 24 Try.underlying22 hi.out hz0.out hz1.out hz2.out rfl (by decide) _ N vs' (by rfl) hown2 ⟨wr.heap.size, 0, none⟩ 1 1 [.slice none 0 0] rfl rfl hnews (fun u hu => by rw [List.mem_singleton.1 hu]; rfl) (by unfold maxLen; omega) (by omega) I2.b.size ?_; intro v' w4 hown' hg _ hob; replace hown' := Lib.hid hown'; replace hg := Lib.hid hg)
            have hbe : Below w.heap.size w w4 := I2.b.trans ((Below.refl _ _).grown hg.out I2.b.size (own_lt_block hown2))
            have hk4 : Blk w4 g0 27 [.slice A n c, .slice (some ⟨b, off, none⟩) m d, .slice C k e] := (hg.out.block g0 I2.k.lt (fun e => I2.k.not_row' (by decide) hown2 e.symm)).trans I2.k
            have hk5 := (hg.out.block g2 k3.lt (fun e => k3.not_row' (by decide) hown2 e.symm)).trans k3
            refine ⟨⟨v', vs' ++ [.slice none 0 0], hs' ++ [[]], rfl, Lib.hid ⟨hk4, by rw [List.length_append, ← hNN]; exact hown'.out, (I2.s.grown hown2 (by decide) hg.out).snoc, hbe, I2.l⟩, Lib.hid ⟨by rw [extH_step (by omega)]; exact hE.out.1, by rw [List.length_append]; simp; omega⟩, Lib.hid hk5⟩, ?_⟩
            rcases hown'.out.2 with ⟨_, h0⟩ | ⟨g, cap, cur, hv', _⟩
            · omega
            · rw [hv']; simp [lenOf]; omega
          · have hNs' : ¬ (N : Int) ≤ (s : Int) := by omega
            have hEx : hs' = extH hs (s + 1) := by rw [← hE.out.1]; exact (extH_done (by omega)).symm
            obtain ⟨go, co, curo, hvo, hbo, hko, -⟩ : ∃ g cap cur, (Value.slice A3 N c3 = .slice (some ⟨g, 0, none⟩) N cap) ∧ w.heap.size ≤ g ∧ wr.heap[g]? = some (.cells cur 41 (0, 0)) ∧ True := by
              rcases hown.2 with ⟨_, h0⟩ | ⟨g, cap, cur, h1, h2, h3, _⟩
              · omega
              · exact ⟨g, cap, cur, h1, h2, h3, trivial⟩
            injection hvo with e1 e2 e3
            subst e1; subst e3
            have hsl : s < hs'.length := by omega
            have hvsl : s < vs'.length := by rw [hI.out.s.len]; exact hsl
            obtain ⟨os, hos⟩ : ∃ os, hs'[s]? = some os := ⟨_, List.getElem?_eq_getElem hsl⟩
            obtain ⟨v, hv⟩ : ∃ v, vs'[s]? = some v := ⟨_, List.getElem?_eq_getElem hvsl⟩
            obtain ⟨hokO, hrow⟩ := hI.out.s.row s v os hv hos
            have hocell : wr.cell? ⟨go, s, none⟩ = some v := by
              have hr := Rd.of_own' hown
              obtain ⟨b', off', u', e', _, hu', hc'⟩ := hr.at_ (k := s) (by omega)
              injection e' with e'; injection e' with e1 e2
              rw [hv] at hu'; injection hu' with hu'
              rw [e1, hu', ← hc', ← e2, Nat.zero_add]
            obtain ⟨Ai, ci, rfl, hOi⟩ := OpsAt.of_own hrow hokO rfl
            obtain ⟨M, hM⟩ : ∃ M, M = os.length := ⟨_, rfl⟩
            obtain ⟨gb, hgb, hgl, hgn⟩ : ∃ gb, (∀ b, (Value.slice Ai os.length ci).ownBlock = some b → b = gb) ∧ w.heap.size ≤ gb ∧ ∀ k, k < wr.heap.size → (Value.slice Ai os.length ci).ownBlock ≠ some k → k ≠ gb := by
              cases hob : (Value.slice Ai os.length ci).ownBlock with
              | none => exact ⟨wr.heap.size + 7, (fun b h => by cases h), (by have := hI.out.b.size; omega), (fun k hk _ => by omega)⟩
              | some b => exact ⟨b, (fun b' h => by injection h with h; exact h.symm), own_lt_block hrow b hob, (fun k _ h e => h (by rw [e]))⟩
            have n0 : g0 ≠ gb := hgn g0 hI.out.k.lt (hI.out.k.not_row' (by decide) hrow)
            have n2 : g2 ≠ gb := hgn g2 k2.out.lt (k2.out.not_row' (by decide) hrow)
            have no : go ≠ gb := hgn go (hown.lt go rfl).2 (rows_apart hown hrow (by decide) rfl)
            obtain ⟨bv, offv, sv, rfl, hbv, hsv, hsvs, hcv⟩ := (hXv.out.below hI.out.b).str han
            have nv : bv ≠ gb := by
              obtain ⟨b', _, _, e', hb', _⟩ := hXv.out.str han
              injection e' with e'; injection e' with e'
              omega
            have hgd : Hid (f.vars.getD a ⟨#[]⟩ = sv) := Lib.hid (by rw [List.getD_eq_getElem?_getD, hsv]; rfl)
            have hM4 : M ≤ 1000 := by
              have h1 := allO_take_le hs' (s + 1)
              rw [allO_take_succ hos, List.length_append, hEx, allO_ext] at h1
              have h2 := hsz.out.2
              have h3 := hil.out
              have h4 := hN.out
              omega
            replace hrow := Lib.hid hrow
            replace hos := Lib.hid hos
            replace hv := Lib.hid hv
            replace hsv := Lib.hid hsv
            replace hM := Lib.hid hM
            replace hokO := Lib.hid hokO
            replace hOi := Lib.hid hOi
            replace hgb := Lib.hid hgb
            replace hgn := Lib.hid hgn
            replace hEx := Lib.hid hEx
            replace hown := Lib.hid hown
            replace hko := Lib.hid hko
            replace hNN := Lib.hid hNN
            go_wp2_with fail
            refine wp_region_planG (gb := gb) 22 [(true, 0), (true, 1), (true, 2), (true, 3), (true, 4), (true, 5), (true, 6), (true, 7), (true, 8), (true, 9), (true, 10), (true, 11), (true, 12), (true, 13), (true, 14), (true, 15), (true, 16), (true, 17), (true, 18), (false, 19), (false, 20), (true, 21)] (by kernel_rfl) (by kernel_rfl) (fun X hX => ?_)
            obtain rfl := hX.out
            clear hX r0
            have r0 : wr.drew.cell? ⟨g2, 0, none⟩ = _ := k2.out.cell 0
            have r2 : wr.drew.cell? ⟨g2, 2, none⟩ = _ := k2.out.cell 2
            have r3 : wr.drew.cell? ⟨g2, 3, none⟩ = _ := k2.out.cell 3
            have r4 : wr.drew.cell? ⟨g2, 4, none⟩ = _ := k2.out.cell 4
            have t0 : wr.drew.cell? ⟨g0, 0, none⟩ = _ := hI.out.k.cell 0
            replace hocell : wr.drew.cell? ⟨go, s, none⟩ = some (.slice Ai M ci) := by rw [hM]; exact hocell
            replace hcv : wr.drew.cell? ⟨bv, offv + a, none⟩ = some (.string sv) := hcv
            have cs1 : 0 ≤ (s : Int) ∧ (s : Int) < (N : Int) := ⟨by omega, by omega⟩
            have cs2 : 0 ≤ (a : Int) ∧ (a : Int) < (n : Int) := ⟨by omega, by omega⟩
            simp only [List.drop_succ_cons, List.drop_zero]
            iterate 19
              refine wpPG_float (v := ?_) rfl (by rfl) (fun w' hw' => ?_) (fun K hK => ?_)
              rotate_left
              · (go_simp; try with_reducible rfl)
              go_simp
              refine hK _ ?_
              clear hK K
            -- the literal
            refine wpPG_only rfl (by rfl) (fun K hK => ?_)
            go_simp
            obtain ⟨W3, hW3⟩ : ∃ W, W = (wr.alloc (.cells #[.bool xw, .string sv, .int .i64 xv] 50)).drew := ⟨_, rfl⟩
            have b3 : Below wr.heap.size wr W3 := by rw [hW3]; exact ((Below.refl _ wr).alloc (Nat.le_refl _) _).drew
            have hokn : encO.ok (xw, sv, xv) := ⟨hv64.out, hsvs⟩
            have hlit : LAt encO W3 (some ⟨wr.heap.size, 0, none⟩) 1 [(xw, sv, xv)] := by rw [hW3]; exact LAt.lit1 (E := encO) wr _ (xw, sv, xv) hokn
            have hrow3 := own_below hrow.out b3
            rw [← hM.out] at hrow3
            have hI3 := hI.out.later b3
            have hI3o := hI3.o
            rw [← hNN.out] at hI3o
            have k3 := k2.out.below b3 k2.out.lt
            rw [← hW3]
            refine hK _ _ ⟨b3.os, b3.tape, b3.output, b3.size, fun k hk _ => b3.block k hk⟩ ?_
            clear hK K
            -- the append
            refine wpPG_only rfl (by rfl) (fun K hK => ?_)
            refine wp_append_L (E := encO) (.tmp 45) (.tmp 57) _ rfl w.heap.size 50 j0 _ 32 Try.underlying41 ji.out jz0.out jz1.out jz2.out rfl _ M os (by rfl) hrow3 _ 1 1 [(xw, sv, xv)] (by rfl) hlit (by unfold maxLen; omega) (by omega) hI3.b.size ?_
            intro v' w4 hown' hbb hg hob
            have hokn' : ∀ x ∈ os ++ [(xw, sv, xv)], encO.ok x := fun x hx => (List.mem_append.1 hx).elim (hokO.out x) (fun h => by rw [List.mem_singleton.1 h]; exact hokn)
            obtain ⟨A5, c5, rfl, h51, h52, hL5⟩ := LAt.of_own (E := encO) hown' hokn' (by simp [hM.out])
            refine hK _ _ (BelowB.grown hg (fun k hk => by have := hgb.out k (by rw [← hM.out]; exact hk); exact this)) ?_
            clear hK K hL5
            have hgo4 : w4.heap[go]? = wr.heap[go]? := (hg.block go (Nat.lt_of_lt_of_le (hown.out.lt go rfl).2 b3.size) (fun e => rows_apart hI3o hrow3 (by decide) rfl e.symm)).trans (b3.block go (hown.out.lt go rfl).2)
            have hoc4 : w4.cell? ⟨go, s, none⟩ = some (.slice Ai M ci) := (World.cell?_of_block (w := wr) hgo4).trans hocell
            have hof4 : w4.frozen? ⟨go, s, none⟩ = false := by simp [World.frozen?, hgo4, hko.out]
            have ho4 := own_grown hI3o hrow3 (by decide) hg
            have hs4 := OwnS.put hI3.s hv.out hos.out (by rw [← hM.out]; exact hg) (v' := .slice A5 (M + 1) c5) (os' := os ++ [(xw, sv, xv)]) (by rw [List.length_append, ← hM.out]; exact hown') hokn' (by rw [← hM.out]; exact hob)
            have hk4 : Blk w4 g0 27 [.slice (some ⟨bv, offv, none⟩) n c, .slice (some ⟨b, off, none⟩) m d, .slice C k e] := (hg.block g0 hI3.k.lt (fun e => hI3.k.not_row' (by decide) hrow3 e.symm)).trans hI3.k
            have hb4 : Below w.heap.size w w4 := hI3.b.trans hbb
            have ng0 : g0 ≠ go := fun e => by
              have := hI3.k.not_row' (by decide) hI3o
              rw [e] at this; exact this rfl
            have hs5 := Lib.hid (hs4.far ho4 (by decide) s (.slice A5 (M + 1) c5))
            have ho5 := Lib.hid (own_put ho4 (i := s) (by omega) (.slice A5 (M + 1) c5))
            have hk5 := Lib.hid (hk4.far (p := ⟨go, s, none⟩) ng0 (.slice A5 (M + 1) c5))
            have hb5 := Lib.hid (hb4.setCell (p := ⟨go, s, none⟩) hbo (.slice A5 (M + 1) c5))
            clear hgo4 hs4 ho4 hk4 hb4 hown' hbb hg hob hlit hrow3 hI3 hI3o k3 r0 r2 r3 r4 t0 hocell hcv
            iterate 1
              refine wpPG_float (v := ?_) rfl (by rfl) (fun w' hw' => ?_) (fun K hK => ?_)
              rotate_left
              · (go_simp; try with_reducible rfl)
              go_simp
              refine hK _ ?_
              clear hK K
            refine wpPG_nil ?_
            go_wp2_with fail
            refine NoPanic.normal ?_
            go_wp2_with fail
            have hput : putH hs' s (xw, sv, xv) = hs'.set s (os ++ [(xw, sv, xv)]) := putH_set hos.out _
            refine ⟨⟨q + 1, _, _, putH hs' s (xw, sv, xv), by omega, by go_num, rfl, Lib.hid ⟨hk5.out, ?_, by rw [hput]; exact hs5.out, hb5.out, hI.out.l⟩, Lib.hid ?_, Lib.hid ⟨by rw [putH_len]; exact hE.out.2, ?_⟩⟩, by simp [intOf]; omega⟩
            · rw [putH_len, ← hNN.out]; exact ho5.out
            · rw [hlay.out, hEx.out, hgd.out]
            · have h1 := allO_put hs' s (xw, sv, xv)
              have h2 := hsz.out.2
              have h3 : (allO hs').length = (allO hs).length := by rw [hEx.out, allO_ext]
              omega
    · have hqm : q = m := by omega
      have hlt' : ¬ (q : Int) < (m : Int) := by omega
      have hlay2 : Hid (layF f.vars f.items [] = some hs) := Lib.hid (by
        rw [hlay.out, hqm, List.drop_of_length_le (by rw [hil.out]; exact Nat.le_refl _), layF])
      obtain ⟨A3, c3, rfl, hNc, hc3, hH⟩ := hI.out.slice
      obtain ⟨N, hNN⟩ : ∃ N, N = hs.length := ⟨_, rfl⟩
      rw [← hNN] at hNc hH ⊢
      replace hH := Lib.hid hH
      replace hNN := Lib.hid hNN
      have hqi : Hid (q ≤ f.items.length) := Lib.hid (by rw [hil.out]; omega)
      clear hlt hqm hlay p0 p1
      go_wp2_with fail
      refine bodyPost_ret (v := .tuple #[.slice A3 N c3, .bool true]) (by simp [results, go_sem]) rfl ⟨A3, N, c3, by rw [hlay2.out]; rfl, by rw [hlay2.out]; exact hH.out, hNc, hc3, hI.out.b, fun hs' h => ?_⟩
      rw [hlay2.out] at h
      injection h with h
      subst h
      exact ⟨hsz.out.1, Nat.le_trans hsz.out.2 hqi.out⟩

end Go.Proofs.Ytmfcnlolfhkeeaa
