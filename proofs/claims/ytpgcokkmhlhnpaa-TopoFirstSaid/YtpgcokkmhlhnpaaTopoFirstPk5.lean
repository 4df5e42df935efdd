/- The code's own contracts of layer 15: the queue (free). A region that draws its order, walked by a tree of orders: what only reads (in every world that meets S) is taken as soon as it may come up; what changes memory, and stays in S, comes up alone, or as one of two: then both ways are walked. S is the prover's: as a rule 'the blocks that were there at the region's start are as they were': so an alloc beside calls, and stores into what the region made, are steps too. No function of the program is named here. The code's own contracts of layer 15: the queue (begin). The code's own contract of layer 15: Sort (the least number that may go is taken off a mask, counts tell when the next ones may). Layer 15's helpers: may, awake. -/
import Derived.Test.YtpgcokkmhlhnpaaTopoFirstPk4
import Derived.Test.YtpgcokkmhlhnpaaTopoFirstPk2
import Derived.Laws.MakeOwn
import Derived.Test.YtpgcokkmhlhnpaaTopoFirstPk3
namespace Go.Proofs.Ytpgcokkmhlhnpaa
open Go.RowKit
set_option linter.unusedVariables false
def RetFree (w0 : World) (g gm gn gc nw : Nat) (A : Option Addr) (n c : Nat) (a : List (List Nat)) (zs O L : List Int) (ms : List Nat) (w : World) (e : Ending) (w' : World) : Prop :=
  e = .returned (.tuple #[]) ∧ ∃ ns' css', QuS w0 g gm gn gc nw A n c ms ns' css' w' ∧ KahnS a n nw zs O L ms ns' css' ∧ TwoAt gn gc w w'
set_option maxRecDepth 100000 in
set_option maxHeartbeats 1000000 in
theorem topo_free (w0 : World) (g gm gn gc nw : Nat) (A : Option Addr) (n c : Nat) (a : List (List Nat)) (zs O L : List Int) (x : Nat) (ms ns : List Nat) (css : List (List Nat)) (w : World)
    (h : QuS w0 g gm gn gc nw A n c ms ns css w) (hT : KahnT a n nw zs O L x ms ns css) (hr : RowsAt w0 A n a) (hG : Good n a) (hnw : nw = (wordsZ (n : Int)).toNat) :
    Calls Try.prog 42 #[.pointer (some ⟨g, 0, none⟩), .int .i64 (x : Int)] w (RetFree w0 g gm gn gc nw A n c a zs (O ++ [(x : Int)]) (L.erase (x : Int)) ms w) := by
  have hn4 := hG.le
  obtain ⟨hnz, hn1, hn2⟩ := words15 hnw
  have hxn : x < n := by
    have := hT.F.1 _ (hT.s.p.mem_iff.1 (List.mem_append.2 (.inr hT.xL)))
    omega
  obtain ⟨rb, ro, B, m, d, ws, rfl, hrb, hxs, hr0, hRow⟩ := hr.at_ hxn
  have hrow := hG.row ws (List.mem_of_getElem? hxs)
  have hml : m = nw := by rw [← hRow.len, hrow.2.2.1, hnw]
  subst hml
  have hRel : ∀ j : Nat, hasM a (x : Int) (j : Int) = hasR ws (j : Int) := fun j => hasM_in hxs
  have hw64 : W64 ws := hrow.1
  have hfits := Lib.hid (fun k => hT.fits hRel hw64 k)
  have hxn' : 0 ≤ (x : Int) ∧ (x : Int) < (n : Int) := by omega
  obtain ⟨s0, s1, s2, s3⟩ := h.cells
  have r0 : w.cell? ⟨rb, ro + x, none⟩ = some (.slice B m d) := (h.bel.cell (p := ⟨rb, ro + x, none⟩) hrb).trans hr0
  have hMl := Lib.hid hT.M.len
  have hMw := Lib.hid hT.M.w64
  have hD0 := Lib.hid (DownI.start (ws := ws) (ms := ms) hT.D hT.nl hT.nw64)
  replace h := Lib.hid h
  replace hT := Lib.hid hT
  replace hRow := Lib.hid hRow
  replace hrow := Lib.hid hrow
  replace hxs := Lib.hid hxs
  replace hG := Lib.hid hG
  replace hRel := Lib.hid hRel
  replace hw64 := Lib.hid hw64
  replace hr := Lib.hid hr
  replace hr0 := Lib.hid hr0
  replace hrb := Lib.hid hrb
  replace hnw := Lib.hid hnw
  replace hnz := Lib.hid hnz
  have hO0 := Lib.hid (TwoAt.refl gn gc w)
  go_enter Try.func42, Try.ntmps42
  go_wp2_with fail
  clear s0 s1 s2 s3 r0
  go_loopw [15] (fun t wr => ∃ (k : Nat) (css' : List (List Nat)) (ns' : List Nat), k ≤ m ∧ t = .int .i64 (k : Int) ∧ Hid (DownI m css ns ws ms k css' ns') ∧ Hid (QuS w0 g gm gn gc m (some ⟨rb, ro, none⟩) n c ms ns' css' wr) ∧ Hid (TwoAt gn gc w wr)) (fun t _ => m - (intOf t).toNat)
  case atStart => exact ⟨0, css, ns, Nat.zero_le _, rfl, hD0, h, hO0⟩
  case round =>
    clear h hD0 hO0
    obtain ⟨k, css', ns', hk, rfl, hD, hS, hO⟩ := hrel
    by_cases hlt : k < m
    · obtain ⟨xb, xo, W, rfl, hxb, hW, hW64, hWc⟩ := (hRow.out.below hS.out.bel).at_ hlt
      obtain ⟨M, hM⟩ : ∃ M, ms[k]? = some M := ⟨_, List.getElem?_eq_getElem (by rw [hMl.out]; exact hlt)⟩
      have hM64 := hMw.out M (List.mem_of_getElem? hM)
      have cM : wr.cell? ⟨gm, k, none⟩ = some (.int .u64 (M : Int)) := by rw [Blk.cell hS.out.m k, List.getElem?_map, hM]; rfl
      have hand := Lib.hid (u64_and_nat W M hW64 hM64)
      have hWd := Lib.hid (Row.get hW)
      have hMd := Lib.hid (Row.get hM)
      obtain ⟨t0, t1, t2, t3⟩ := hS.out.cells
      have hbk : 0 ≤ (k : Int) ∧ (k : Int) < (m : Int) := by omega
      obtain ⟨cs, hcs, hcd, hc13, hcw⟩ := hD.out.u.d.at_ hlt
      have hce : css.getD k [] = cs := by have := hD.out.u.v k hlt; rw [if_neg (Nat.lt_irrefl k)] at this; rw [← this]; exact hcd
      replace hW := Lib.hid hW
      replace hM := Lib.hid hM
      replace hlt := Lib.hid hlt
      obtain ⟨y, hy⟩ : ∃ y, y = W &&& M := ⟨_, rfl⟩
      have hy64 : y < 18446744073709551616 := by rw [hy]; exact and_lt64 hW64
      rw [← hy] at hand
      have hye := Lib.hid (show ws.getD k 0 &&& ms.getD k 0 = y from by rw [hWd.out, hMd.out, hy])
      replace hy := Lib.hid hy
      by_cases h0 : y = 0
      · have hD2 := Lib.hid (hD.out.skip hw64.out hlt.out (by rw [hye.out]; exact h0))
        have ht : (bits BinOp.and IntKind.u64 (W : Int) (M : Int) != 0) = false := by rw [hand.out, h0]; rfl
        replace h0 := Lib.hid h0
        go_wp2_with fail
        go_roundw
        case rel => exact ⟨k + 1, css', ns', by have := hlt.out; omega, by go_num, hD2, hS, hO⟩
        case measure => have := hlt.out; simp [intOf]; omega
      · have hD2 := Lib.hid (hD.out.step hw64.out hlt.out)
        rw [hye.out, hcd] at hD2
        have hfit := hfits.out k
        rw [hye.out, hce] at hfit
        have hkl : k ≤ m := hk
        obtain ⟨o, ho⟩ : ∃ o, o = k * 13 := ⟨_, rfl⟩
        have hpl : (css'.take k).flatten.length = o := by rw [hD.out.u.d.take_len hkl]; omega
        have hBk := hS.out.k
        rw [flat_parts hcs] at hBk
        have hless := Lib.hid (topo_less gc o _ cs _ y wr hBk hpl hc13 hcw hy64 hfit)
        have hfs := Lib.hid (flat_set (d := goC lessF cs y) hcs)
        have hcw2 := goC_w64 lessF_kept hcw hy64
        have hcl2 : (goC lessF cs y).length = 13 := by rw [goC_len]; exact hc13
        have hne : (bits BinOp.and IntKind.u64 (W : Int) (M : Int) != 0) = true := by rw [hand.out, bne_iff_ne]; omega
        replace hpl := Lib.hid hpl
        replace hcs := Lib.hid hcs
        replace hcd := Lib.hid hcd
        replace hce := Lib.hid hce
        replace hc13 := Lib.hid hc13
        replace hcl2 := Lib.hid hcl2
        replace h0 := Lib.hid h0
        replace hfit := Lib.hid hfit
        clear hBk
        obtain ⟨N, hN⟩ : ∃ N, ns'[k]? = some N := ⟨_, List.getElem?_eq_getElem (by rw [hD.out.len]; exact hlt.out)⟩
        have hN64 := hD.out.w64 N (List.mem_of_getElem? hN)
        rw [Row.get hN] at hD2
        replace hN := Lib.hid hN
        have hno := noneC_lt (goC lessF cs y)
        obtain ⟨z, hz⟩ : ∃ z, z = noneC (goC lessF cs y) := ⟨_, rfl⟩
        have hE1 := Lib.hid (u64_and_nat y z hy64 (by rw [hz]; exact hno))
        have hE2 := Lib.hid (u64_or_nat N (y &&& z) hN64 (and_lt64 hy64))
        rw [← hz] at hD2
        have hnone := Lib.hid (fun U hB => topo_none gc o (css'.take k).flatten (goC lessF cs y) (css'.drop (k + 1)).flatten U hB hpl.out hcl2.out hcw2)
        rw [← hz] at hnone
        replace hz := Lib.hid hz
        clear hno
        go_wp2_with fail
        rw [hand.out, ← ho]
        replace ho := Lib.hid ho
        refine hless.out.mono ?_; rintro e w2 ⟨rfl, hB2, hO2⟩
        rw [← hfs.out] at hB2
        have hS2 := Lib.hid (hS.out.setC hB2 hO2)
        have hO3 := Lib.hid (hO.out.trans (TwoAt.two (g := gn) hO2))
        clear hB2 hO2 t0 t1 t2 t3 cM hWc hS hO
        go_wp2_with fail
        refine wp_region_plan 18 [(true, 0), (true, 1), (true, 2), (true, 3), (true, 4), (true, 5), (true, 6), (true, 7), (true, 8), (true, 9), (true, 10), (true, 11), (true, 12), (true, 13), (false, 14), (true, 15), (true, 16), (true, 17)] (by kernel_rfl) (by kernel_rfl) (fun U hU => ?_)
        have hSU := Lib.hid (show QuS w0 g gm gn gc m (some ⟨rb, ro, none⟩) n c ms ns' (css'.set k (goC lessF cs y)) U from by rw [hU.out]; exact hS2.out.later (Below.refl _ _).drew)
        have hOU := Lib.hid (show TwoAt gn gc w U from by rw [hU.out]; exact hO3.out.drewN 1)
        clear hU hS2 hO3
        obtain ⟨t0, t1, t2, t3⟩ := hSU.out.cells
        have cN : U.cell? ⟨gn, k, none⟩ = some (.int .u64 (N : Int)) := by rw [Blk.cell hSU.out.x k, List.getElem?_map, hN.out]; rfl
        have fN := Blk.frozen hSU.out.x k
        simp only [List.drop_succ_cons]
        iterate 14
          refine wpPlan_float (v := ?_) rfl (by rfl) (fun w' hw' => ?_) (fun K hK => ?_)
          rotate_left
          · (go_simp; try with_reducible rfl)
          go_simp
          refine hK _ ?_
          clear hK K
        refine wpPlan_only rfl (by rfl) (fun K hK => ?_)
        go_simp
        rw [← ho.out]
        refine (hnone.out U (by rw [← hfs.out]; exact hSU.out.k)).mono ?_
        rintro e x1 ⟨rfl, rfl⟩
        refine hK _ _ (Below.refl _ _) ?_
        clear hK K
        iterate 3
          refine wpPlan_float (v := ?_) rfl (by rfl) (fun w' hw' => ?_) (fun K hK => ?_)
          rotate_left
          · (go_simp; try with_reducible rfl)
          go_simp
          refine hK _ ?_
          clear hK K
        rw [hE1.out, hE2.out]
        obtain ⟨V, hV⟩ : ∃ V, V = U.setCell ⟨gn, k, none⟩ (.int .u64 ((N ||| (y &&& z) : Nat) : Int)) := ⟨_, rfl⟩
        have hSV := Lib.hid (show QuS w0 g gm gn gc m (some ⟨rb, ro, none⟩) n c ms (ns'.set k (N ||| (y &&& z))) (css'.set k (goC lessF cs y)) V from by rw [hV]; exact hSU.out.setN k _)
        have hOV := Lib.hid (show TwoAt gn gc w V from by rw [hV]; exact hOU.out.set _ _)
        refine wpPlan_nil ?_
        go_wp2_with (rw [← hV]; clear hV)
        refine NoPanic.normal ?_
        clear t0 t1 t2 t3 cN fN hSU
        go_wp2_with fail
        go_roundw
        case rel => exact ⟨k + 1, _, _, by have := hlt.out; omega, by go_num, hD2, hSV, hOV⟩
        case measure => have := hlt.out; simp [intOf]; omega
    · obtain rfl : k = m := by omega
      have hK := Lib.hid (hT.out.next hRel.out hw64.out hD.out)
      go_wp2_with fail
      go_end0
      exact ⟨rfl, ns', css', hS.out, hK.out, hO.out⟩
end Go.Proofs.Ytpgcokkmhlhnpaa

namespace Go.Proofs.Ytpgcokkmhlhnpaa
open Go.RowKit
set_option linter.unusedVariables false

section
variable {P : Program} {ops : Array Oper} {md : Region.Mode} {Q : Exit → Act → World → Prop} {S : World → Prop}

def wpAnyS (S : World → Prop) (P : Program) (md : Region.Mode) (ops : Array Oper) (Q : Exit → Act → World → Prop) : Nat → Array Bool → Act → World → Prop
  | 0, listed, a, w => Region.ready md ops listed = [] ∧ Q .normal a w
  | f + 1, listed, a, w => Region.ready md ops listed ≠ [] ∧ ∀ i ∈ Region.ready md ops listed, wpOp P ops Q i (fun a' w' => S w' ∧ wpAnyS S P md ops Q f (listed.setIfInBounds i true) a' w') a w
theorem wpAny_of_S : ∀ (f : Nat) (listed : Array Bool) (a : Act) (w : World), wpAnyS S P md ops Q f listed a w → wpAny P md ops Q f listed a w
  | 0, _, _, _, h => h
  | f + 1, listed, a, w, h => ⟨fun h0 => absurd h0 h.1, fun i hi => wpOp_mono (fun a' w' h' => wpAny_of_S f _ a' w' h'.2) (h.2 i hi)⟩

theorem wpAnyS_first {i : Nat} {oi : Oper} {v : Value} (hi : ops[i]? = some oi) (hsel : ∀ (j : Nat) (o : Oper) cs b, ops[j]? = some o → o.op ≠ .select cs b)
    (hQ : ∀ c a w, Q (.panic c) (a.put oi.dst v) w → Q (.panic c) a w) :
    ∀ (f : Nat) (listed : Array Bool) (a : Act) (w : World), S w →
      (∀ j oj, ops[j]? = some oj → j ≠ i → listed.getD j true = false → (∀ e ∈ oj.after, Region.binds md e = true → e.on ≠ i) → oi.apart ops oj = true) →
      i ∈ Region.ready md ops listed → YieldsIf P ops S oi v a →
      wpAnyS S P md ops Q f (listed.setIfInBounds i true) (a.put oi.dst v) w → wpAnyS S P md ops Q (f + 1) listed a w := by
  intro f
  induction f with
  | zero =>
    intro listed a w hS _ hr hy H
    refine ⟨fun h => (by rw [h] at hr; cases hr), fun j hj => ?_⟩
    by_cases hji : j = i
    · subst hji; exact hy.wpOp hi hS ⟨hS, H⟩
    · have h1 := ready_mono hj hji
      rw [H.1] at h1
      cases h1
  | succ f ih =>
    intro listed a w hS hfree hr hy H
    have hun := (mem_ready.1 hr).1
    refine ⟨fun h => (by rw [h] at hr; cases hr), fun j hj => ?_⟩
    by_cases hji : j = i
    · subst hji; exact hy.wpOp hi hS ⟨hS, H⟩
    · have h1 := H.2 j (ready_mono hj hji)
      obtain ⟨hjun, oj, hoj, hall⟩ := mem_ready.1 hj
      have hnot : ∀ e ∈ oj.after, Region.binds md e = true → e.on ≠ i := fun e he hb heq => by
        have h1 := hall e he hb
        rw [heq, getD_both hun] at h1
        cases h1
      have h2 := wpOp_putIf hoj (hfree j oj hoj hji hjun hnot) (fun cs b => hsel i oi cs b hi) (fun cs b => hsel j oj cs b hoj) hQ hy h1
      have hfree' : ∀ k ok, ops[k]? = some ok → k ≠ i → (listed.setIfInBounds j true).getD k true = false →
          (∀ e ∈ ok.after, Region.binds md e = true → e.on ≠ i) → oi.apart ops ok = true := fun k ok hk hki hun hno => by
        refine hfree k ok hk hki ?_ hno
        by_cases hjk : j = k
        · subst hjk; exact hjun
        · rw [getD_set_ne true hjk] at hun; exact hun
      refine wpOp_mono (fun a' w' h3 => ⟨h3.2.1, ih (listed.setIfInBounds j true) a' w' h3.2.1 hfree' (ready_mono hr (Ne.symm hji)) h3.1 ?_⟩) h2
      rw [Array.setIfInBounds_comm _ _ hji]
      exact h3.2.2

/-- a tree of orders -/
inductive PT where
  | done
  | flt (i : Nat) (t : PT)
  | one (i : Nat) (t : PT)
  | two (i j : Nat) (ti tj : PT)
  | three (i j k : Nat) (ti tj tk : PT)
def PT.depth : PT → Nat
  | .done => 0
  | .flt _ t => t.depth + 1
  | .one _ t => t.depth + 1
  | .two _ _ t _ => t.depth + 1
  | .three _ _ _ t _ _ => t.depth + 1
def PT.ok (md : Region.Mode) (ops : Array Oper) : PT → Array Bool → Bool
  | .done, listed => (Region.ready md ops listed).isEmpty
  | .flt i t, listed => (Region.ready md ops listed).contains i && Region.free md ops listed i && t.ok md ops (listed.setIfInBounds i true)
  | .one i t, listed => decide (Region.ready md ops listed = [i]) && t.ok md ops (listed.setIfInBounds i true)
  | .two i j t u, listed => decide (Region.ready md ops listed = [i, j]) && decide (t.depth = u.depth) && t.ok md ops (listed.setIfInBounds i true) && u.ok md ops (listed.setIfInBounds j true)
  | .three i j k t u v, listed => decide (Region.ready md ops listed = [i, j, k]) && (decide (t.depth = u.depth) && decide (t.depth = v.depth)) && t.ok md ops (listed.setIfInBounds i true) && u.ok md ops (listed.setIfInBounds j true) && v.ok md ops (listed.setIfInBounds k true)
def wpPT (S : World → Prop) (P : Program) (ops : Array Oper) (Q : Exit → Act → World → Prop) : PT → Act → World → Prop
  | .done, a, w => Q .normal a w
  | .flt i t, a, w => ∃ o v, ops[i]? = some o ∧ YieldsIf P ops S o v a ∧ wpPT S P ops Q t (a.put o.dst v) w
  | .one i t, a, w => wpOp P ops Q i (fun a' w' => S w' ∧ wpPT S P ops Q t a' w') a w
  | .two i j t u, a, w => wpOp P ops Q i (fun a' w' => S w' ∧ wpPT S P ops Q t a' w') a w ∧ wpOp P ops Q j (fun a' w' => S w' ∧ wpPT S P ops Q u a' w') a w
  | .three i j k t u v, a, w => wpOp P ops Q i (fun a' w' => S w' ∧ wpPT S P ops Q t a' w') a w ∧ wpOp P ops Q j (fun a' w' => S w' ∧ wpPT S P ops Q u a' w') a w ∧ wpOp P ops Q k (fun a' w' => S w' ∧ wpPT S P ops Q v a' w') a w

theorem wpAnyS_tree (hsel : Region.noSelect ops = true) (hQ : ∀ c a d v w, Q (.panic c) (a.put d v) w → Q (.panic c) a w) :
    ∀ (t : PT) (listed : Array Bool) (a : Act) (w : World), S w → t.ok md ops listed = true → wpPT S P ops Q t a w → wpAnyS S P md ops Q t.depth listed a w
  | .done, listed, a, w, _, hB, h => ⟨by simpa [PT.ok] using hB, h⟩
  | .flt i t, listed, a, w, hS, hB, h => by
    simp only [PT.ok, Bool.and_eq_true] at hB
    obtain ⟨⟨hr, hf⟩, hB'⟩ := hB
    obtain ⟨o, v, ho, hy, h'⟩ := h
    exact wpAnyS_first ho (Region.noSelect_spec hsel) (fun c a w => hQ c a o.dst v w) t.depth listed a w hS (Region.free_spec ho hf) (by simpa using hr) hy (wpAnyS_tree hsel hQ t _ _ _ hS hB' h')
  | .one i t, listed, a, w, hS, hB, h => by
    simp only [PT.ok, Bool.and_eq_true, decide_eq_true_eq] at hB
    refine ⟨by rw [hB.1]; simp, fun j hj => ?_⟩
    rw [hB.1] at hj
    have hji : j = i := by simpa using hj
    subst hji
    exact wpOp_mono (fun a' w' h3 => ⟨h3.1, wpAnyS_tree hsel hQ t _ a' w' h3.1 hB.2 h3.2⟩) h
  | .two i k t u, listed, a, w, hS, hB, h => by
    simp only [PT.ok, Bool.and_eq_true, decide_eq_true_eq] at hB
    obtain ⟨⟨⟨hr, hd⟩, h1⟩, h2⟩ := hB
    refine ⟨by rw [hr]; simp, fun j hj => ?_⟩
    rw [hr] at hj
    have hjik : j = i ∨ j = k := by simpa using hj
    rcases hjik with rfl | rfl
    · exact wpOp_mono (fun a' w' h3 => ⟨h3.1, wpAnyS_tree hsel hQ t _ a' w' h3.1 h1 h3.2⟩) h.1
    · refine wpOp_mono (fun a' w' h3 => ⟨h3.1, ?_⟩) h.2
      rw [hd]
      exact wpAnyS_tree hsel hQ u _ a' w' h3.1 h2 h3.2
  | .three i j k t u v, listed, a, w, hS, hB, h => by
    simp only [PT.ok, Bool.and_eq_true, decide_eq_true_eq] at hB
    obtain ⟨⟨⟨⟨hr, hd, hd2⟩, h1⟩, h2⟩, h3⟩ := hB
    refine ⟨by rw [hr]; simp, fun q hq => ?_⟩
    rw [hr] at hq
    have hqs : q = i ∨ q = j ∨ q = k := by simpa using hq
    rcases hqs with rfl | rfl | rfl
    · exact wpOp_mono (fun a' w' h3' => ⟨h3'.1, wpAnyS_tree hsel hQ t _ a' w' h3'.1 h1 h3'.2⟩) h.1
    · refine wpOp_mono (fun a' w' h3' => ⟨h3'.1, ?_⟩) h.2.1
      rw [hd]
      exact wpAnyS_tree hsel hQ u _ a' w' h3'.1 h2 h3'.2
    · refine wpOp_mono (fun a' w' h3' => ⟨h3'.1, ?_⟩) h.2.2
      rw [hd2]
      exact wpAnyS_tree hsel hQ v _ a' w' h3'.1 h3 h3'.2

theorem wp_region_tree {id : Nat} {a : Act} {w : World} {l : List Oper} (t : PT) (hm : P.follows .mixedOrders = true) (hB : (Region.noSelect l.toArray && decide (t.depth = l.toArray.size) && t.ok .any l.toArray (Array.replicate l.toArray.size false)) = true)
    (h : ∀ W : World, Hid (W = w.drew) → wpPT (fun x => Below W.heap.size W x) P l.toArray (NoPanic Q) t a W) : (Code.region id l.toArray true).wp P Q a w := by
  refine wp_region_noPanic ?_
  have hQ : ∀ c a d v w, NoPanic Q (.panic c) (a.put d v) w → NoPanic Q (.panic c) a w := fun _ _ _ _ _ h => h
  simp only [Bool.and_eq_true, decide_eq_true_eq] at hB
  obtain ⟨⟨hsel, hd⟩, hok⟩ := hB
  refine wp_region_any hm ?_
  have H := wpAny_of_S _ _ _ _ (wpAnyS_tree (md := .any) hsel hQ t _ a w.drew (Below.refl _ _) hok (h w.drew (Lib.hid rfl)))
  rw [hd] at H
  exact H

/-! ### the steps -/
section
variable {W : World} {t u : PT} {a : Act} {w : World} {i j : Nat} {o : Oper}
theorem wpPT_float {v : Value} (hi : ops[i]? = some o) (hw : Region.wanted o (yielded ops a.tmps) = true)
    (hy : ∀ w' : World, (∀ p, (W.cell? p).isSome = true → w'.cell? p = W.cell? p) → (execOp a.eval o).run P w' = .ok (.value v) w') (h : ∀ K : Act → Prop, (∀ a', wpPT (fun x => Below W.heap.size W x) P ops Q t a' w → K a') → K (a.put o.dst v)) : wpPT (fun x => Below W.heap.size W x) P ops Q (.flt i t) a w :=
  ⟨o, v, hi, .inl ⟨hw, fun w' hb => hy w' (fun p hp => by
    have hlt : p.block < W.heap.size := by
      cases hc : W.cell? p with
      | none => rw [hc] at hp; cases hp
      | some u => exact block_lt_of_cell hc
    exact hb.cell hlt)⟩, h _ (fun _ h => h)⟩
theorem wpOp_step {K0 : Act → World → Prop} (hi : ops[i]? = some o) (hw : Region.wanted o (yielded ops a.tmps) = true)
    (h : ∀ K : Act → World → Prop, (∀ a' w', S w' → K0 a' w' → K a' w') → o.wp P a w K Q) : wpOp P ops Q i (fun a' w' => S w' ∧ K0 a' w') a w := by
  unfold wpOp
  simp only [hi, hw, if_true]
  exact .inl (h _ (fun a' w' hb hp => ⟨hb, hp⟩))
theorem wpPT_one (hi : ops[i]? = some o) (hw : Region.wanted o (yielded ops a.tmps) = true)
    (h : ∀ K : Act → World → Prop, (∀ a' w', S w' → wpPT S P ops Q t a' w' → K a' w') → o.wp P a w K Q) : wpPT S P ops Q (.one i t) a w := wpOp_step hi hw h
theorem wpPT_two {o' : Oper} (hi : ops[i]? = some o) (hw : Region.wanted o (yielded ops a.tmps) = true) (hj : ops[j]? = some o') (hw' : Region.wanted o' (yielded ops a.tmps) = true)
    (h : ∀ K : Act → World → Prop, (∀ a' w', S w' → wpPT S P ops Q t a' w' → K a' w') → o.wp P a w K Q)
    (h' : ∀ K : Act → World → Prop, (∀ a' w', S w' → wpPT S P ops Q u a' w' → K a' w') → o'.wp P a w K Q) : wpPT S P ops Q (.two i j t u) a w := ⟨wpOp_step hi hw h, wpOp_step hj hw' h'⟩
theorem wpPT_done (h : Q .normal a w) : wpPT S P ops Q .done a w := h
end
end
end Go.Proofs.Ytpgcokkmhlhnpaa

namespace Go.Proofs.Ytpgcokkmhlhnpaa
open Go.RowKit
set_option linter.unusedVariables false
theorem cut_four15 {T1 T2 T3 T4 : Type} {Goal F : T1 → T2 → T3 → T4 → Prop} {R : Prop} (h1 : (∀ a b c d, F a b c d → Goal a b c d) → R) (h2 : ∀ a b c d, F a b c d → Goal a b c d) : R := h1 h2
theorem info_counts : (Try.prog.info? 101).map (fun i => (i.zero, i.size, i.bytes)) = some (some (.agg #[.int .u64 0, .int .u64 0, .int .u64 0, .int .u64 0, .int .u64 0, .int .u64 0, .int .u64 0, .int .u64 0, .int .u64 0, .int .u64 0, .int .u64 0, .int .u64 0, .int .u64 0]), 13, 104) := by kernel_rfl
theorem cells13 (nw : Nat) : (madeCells (Value.agg #[.int .u64 0, .int .u64 0, .int .u64 0, .int .u64 0, .int .u64 0, .int .u64 0, .int .u64 0, .int .u64 0, .int .u64 0, .int .u64 0, .int .u64 0, .int .u64 0, .int .u64 0]).cells (nw * 13)).toList = ((List.replicate nw (List.replicate 13 0)).flatten).map u64v := by
  have hz : (Value.agg #[.int .u64 0, .int .u64 0, .int .u64 0, .int .u64 0, .int .u64 0, .int .u64 0, .int .u64 0, .int .u64 0, .int .u64 0, .int .u64 0, .int .u64 0, .int .u64 0, .int .u64 0]).cells = Array.replicate 13 (.int .u64 0) := rfl
  rw [hz, List.flatten_replicate_replicate, List.map_replicate]
  unfold madeCells
  rw [Array.toList_map, Array.toList_range, Array.size_replicate]
  apply List.ext_getElem (by simp)
  intro i h1 h2
  rw [List.getElem_map, List.getElem_range, List.getElem_replicate, getElem!_pos _ _ (by rw [Array.size_replicate]; omega), Array.getElem_replicate]
  rfl
theorem mk_counts (kl kc : IntKind) (n : Nat) (hc : n ≤ 1099511627776) (W : World) :
    (Instr.makeSlice 96 (.int kl (n : Int)) (.int kc (n : Int))).run Try.prog W = .ok (.slice (some ⟨W.heap.size, 0, none⟩) n n) (W.alloc (.cells (madeCells (Value.agg #[.int .u64 0, .int .u64 0, .int .u64 0, .int .u64 0, .int .u64 0, .int .u64 0, .int .u64 0, .int .u64 0, .int .u64 0, .int .u64 0, .int .u64 0, .int .u64 0, .int .u64 0]).cells (n * 13)) 101)) := by
  obtain ⟨i, hi, hz0, hz1, hz2⟩ := info_parts info_counts
  have hr := run_make (P := Try.prog) W _ _ i _ Try.underlying96 hi hz0 kl kc n n (by omega) (by omega) (by rw [hz2]; omega) (by omega)
  rw [hr, hz1]
  rfl
/-- a queue that begins -/
def RetBegin15 (w0 : World) (gm nw : Nat) (A : Option Addr) (n c : Nat) (a : List (List Nat)) (zs : List Int) (ms : List Nat) (w : World) (e : Ending) (w' : World) : Prop :=
  ∃ g gn gc ns css, e = .returned (.pointer (some ⟨g, 0, none⟩)) ∧ QuS w0 g gm gn gc nw A n c ms ns css w' ∧ KahnS a n nw zs [] zs ms ns css
set_option maxRecDepth 100000 in
set_option maxHeartbeats 4000000 in
theorem topo_begin (w0 : World) (gm nw : Nat) (A : Option Addr) (n c : Nat) (a : List (List Nat)) (D : Option Addr) (m d : Nat) (zs : List Int) (ms : List Nat) (w : World) (hr : RowsAt w0 A n a) (hG : Good n a) (hL : LAt encI w0 D m zs)
    (hbel : Below w0.heap.size w0 w) (hB : Blk w gm 99 (ms.map u64v)) (hbm : w0.heap.size ≤ gm) (hM : MaskIs nw zs ms) (hF : FineZ n zs) (hnw : nw = (wordsZ (n : Int)).toNat) :
    Calls Try.prog 40 #[.agg #[.int .i64 (n : Int), .slice A n c], .slice D m d, .slice (some ⟨gm, 0, none⟩) nw nw] w (RetBegin15 w0 gm nw A n c a zs ms w) := by
  have hn4 := hG.le
  obtain ⟨hnz, hn1, hn2⟩ := words15 hnw
  have hml := Lib.hid hL.len
  have hm4 : m ≤ 4096 := by have := hF.len; have := hml.out; omega
  have mk64 := mk_u64 .i64 .i64 nw nw (Nat.le_refl _) (by omega)
  have mkc := mk_counts .i64 .i64 nw (by omega)
  obtain ⟨Z13, hZ⟩ : ∃ Z, Z = madeCells (Value.agg #[.int .u64 0, .int .u64 0, .int .u64 0, .int .u64 0, .int .u64 0, .int .u64 0, .int .u64 0, .int .u64 0, .int .u64 0, .int .u64 0, .int .u64 0, .int .u64 0, .int .u64 0]).cells (nw * 13) := ⟨_, rfl⟩
  rw [← hZ] at mkc
  have hZl := Lib.hid (show Z13.toList = ((List.replicate nw (List.replicate 13 0)).flatten).map u64v from by rw [hZ]; exact cells13 nw)
  clear hZ
  replace hnz := Lib.hid hnz
  replace hnw := Lib.hid hnw
  replace hr := Lib.hid hr
  replace hG := Lib.hid hG
  replace hL := Lib.hid hL
  replace hM := Lib.hid hM
  replace hF := Lib.hid hF
  replace hbm := Lib.hid hbm
  obtain ⟨gb, hgb⟩ : ∃ g, g = w.heap.size := ⟨_, rfl⟩
  obtain ⟨W0, hW0⟩ : ∃ W, W = w.alloc (.cells #[.int .i64 (n : Int), .slice A n c] 39) := ⟨_, rfl⟩
  have hMb := Lib.hid (show Blk W0 gb 39 [.int .i64 (n : Int), .slice A n c] from by rw [hW0, hgb]; exact Blk.new w _ _)
  have b0 : Below w.heap.size w W0 := by rw [hW0]; exact below_alloc _ _
  have hBm := Lib.hid (hB.below b0 hB.lt)
  have hbel0 := Lib.hid (below_trans2 hbel b0)
  clear hB hbel b0
  have m0 := Blk.cell hMb.out 0
  have m1 := Blk.cell hMb.out 1
  go_enter Try.func40, Try.ntmps40
  go_wp2_with (rw [← hW0, ← hgb]; clear hW0 hgb)
  refine wp_region_tree (.flt 0 (.flt 1 (.flt 2 (.flt 3 (.flt 4 (.flt 6 (.flt 7 (.two 5 8 (.one 8 (.flt 9 (.one 10 (.flt 11 .done)))) (.one 5 (.flt 9 (.one 10 (.flt 11 .done)))))))))))) (by kernel_rfl) (by kernel_rfl) (fun U hU => ?_)
  have hMU := Lib.hid (show Blk U gb 39 [.int .i64 (n : Int), .slice A n c] from by rw [hU.out]; exact hMb.out.drew)
  have hBU := Lib.hid (show Blk U gm 99 (ms.map u64v) from by rw [hU.out]; exact hBm.out.drew)
  have hbU := Lib.hid (show Below w0.heap.size w0 U from by rw [hU.out]; exact hbel0.out.drew)
  clear hU hMb hBm hbel0 m0 m1
  have bW : Below U.heap.size U U := Below.refl _ _
  apply cut_four15 (F := fun (gn gc gs : Nat) (w9 : World) => Blk w9 gn 99 (List.replicate nw (.int .u64 0)) ∧ Blk w9 gc 101 Z13.toList ∧ Blk w9 gs 98 [.slice A n c, .slice (some ⟨gm, 0, none⟩) nw nw, .slice (some ⟨gn, 0, none⟩) nw nw, .slice (some ⟨gc, 0, none⟩) nw nw] ∧ U.heap.size ≤ gn ∧ U.heap.size ≤ gc ∧ U.heap.size ≤ gs ∧ Below U.heap.size U w9)
  · intro key
    have m0 := Blk.cell hMU.out 0
    have m1 := Blk.cell hMU.out 1
    iterate 7
      refine wpPT_float (v := ?_) rfl (by rfl) (fun w' hw' => ?_) (fun K hK => ?_)
      rotate_left
      · (go_simp; try with_reducible rfl)
      go_simp
      refine hK _ ?_
      clear hK K
    clear m0 m1
    refine wpPT_two rfl (by rfl) rfl (by rfl) (fun K hK => ?_) (fun K hK => ?_)
    · go_simp
      obtain ⟨gn, hG⟩ : ∃ G, G = (World.heap U).size := ⟨_, rfl⟩
      obtain ⟨v1, hw⟩ : ∃ X : World, X = World.alloc U (.cells (zeros nw (.int .u64 0)) 99) := ⟨_, rfl⟩
      rw [← hw, ← hG]
      have b : Below (World.heap U).size U v1 := by rw [hw]; exact (Below.refl _ _).alloc (Nat.le_refl _) _
      have hgn : U.heap.size ≤ gn := by rw [hG]; exact bW.size
      replace bW := below_trans2 bW b
      refine hK _ _ bW ?_
      clear hK K
      have kn := Lib.hid (show Blk v1 gn 99 (List.replicate nw (.int .u64 0)) from by rw [hw, hG]; exact Blk.new _ _ _)
      clear hw hG
      clear b
      refine wpPT_one rfl (by rfl) (fun K hK => ?_)
      go_simp
      obtain ⟨gc, hG⟩ : ∃ G, G = (World.heap v1).size := ⟨_, rfl⟩
      obtain ⟨v2, hw⟩ : ∃ X : World, X = World.alloc v1 (.cells Z13 101) := ⟨_, rfl⟩
      rw [← hw, ← hG]
      have b : Below (World.heap v1).size v1 v2 := by rw [hw]; exact (Below.refl _ _).alloc (Nat.le_refl _) _
      have hgc : U.heap.size ≤ gc := by rw [hG]; exact bW.size
      replace bW := below_trans2 bW b
      refine hK _ _ bW ?_
      clear hK K
      have kc := Lib.hid (show Blk v2 gc 101 Z13.toList from by rw [hw, hG]; exact Blk.new _ _ _)
      clear hw hG
      replace kn := Lib.hid (kn.out.below b kn.out.lt)
      clear b
      iterate 1
        refine wpPT_float (v := ?_) rfl (by rfl) (fun w' hw' => ?_) (fun K hK => ?_)
        rotate_left
        · (go_simp; try with_reducible rfl)
        go_simp
        refine hK _ ?_
        clear hK K
      refine wpPT_one rfl (by rfl) (fun K hK => ?_)
      go_simp
      obtain ⟨gs, hG⟩ : ∃ G, G = (World.heap v2).size := ⟨_, rfl⟩
      obtain ⟨v3, hw⟩ : ∃ X : World, X = World.alloc v2 (.cells #[.slice A n c, .slice (some ⟨gm, 0, none⟩) nw nw, .slice (some ⟨gn, 0, none⟩) nw nw, .slice (some ⟨gc, 0, none⟩) nw nw] 98) := ⟨_, rfl⟩
      rw [← hw, ← hG]
      have b : Below (World.heap v2).size v2 v3 := by rw [hw]; exact (Below.refl _ _).alloc (Nat.le_refl _) _
      have hgs : U.heap.size ≤ gs := by rw [hG]; exact bW.size
      replace bW := below_trans2 bW b
      refine hK _ _ bW ?_
      clear hK K
      have ks := Lib.hid (show Blk v3 gs 98 [.slice A n c, .slice (some ⟨gm, 0, none⟩) nw nw, .slice (some ⟨gn, 0, none⟩) nw nw, .slice (some ⟨gc, 0, none⟩) nw nw] from by rw [hw, hG]; exact Blk.new _ _ _)
      clear hw hG
      replace kn := Lib.hid (kn.out.below b kn.out.lt)
      replace kc := Lib.hid (kc.out.below b kc.out.lt)
      clear b
      iterate 1
        refine wpPT_float (v := ?_) rfl (by rfl) (fun w' hw' => ?_) (fun K hK => ?_)
        rotate_left
        · (go_simp; try with_reducible rfl)
        go_simp
        refine hK _ ?_
        clear hK K
      refine wpPT_done (NoPanic.normal ?_)
      exact key gn gc gs v3 ⟨kn.out, kc.out, ks.out, hgn, hgc, hgs, bW⟩
    · go_simp
      obtain ⟨gc, hG⟩ : ∃ G, G = (World.heap U).size := ⟨_, rfl⟩
      obtain ⟨v4, hw⟩ : ∃ X : World, X = World.alloc U (.cells Z13 101) := ⟨_, rfl⟩
      rw [← hw, ← hG]
      have b : Below (World.heap U).size U v4 := by rw [hw]; exact (Below.refl _ _).alloc (Nat.le_refl _) _
      have hgc : U.heap.size ≤ gc := by rw [hG]; exact bW.size
      replace bW := below_trans2 bW b
      refine hK _ _ bW ?_
      clear hK K
      have kc := Lib.hid (show Blk v4 gc 101 Z13.toList from by rw [hw, hG]; exact Blk.new _ _ _)
      clear hw hG
      clear b
      refine wpPT_one rfl (by rfl) (fun K hK => ?_)
      go_simp
      obtain ⟨gn, hG⟩ : ∃ G, G = (World.heap v4).size := ⟨_, rfl⟩
      obtain ⟨v5, hw⟩ : ∃ X : World, X = World.alloc v4 (.cells (zeros nw (.int .u64 0)) 99) := ⟨_, rfl⟩
      rw [← hw, ← hG]
      have b : Below (World.heap v4).size v4 v5 := by rw [hw]; exact (Below.refl _ _).alloc (Nat.le_refl _) _
      have hgn : U.heap.size ≤ gn := by rw [hG]; exact bW.size
      replace bW := below_trans2 bW b
      refine hK _ _ bW ?_
      clear hK K
      have kn := Lib.hid (show Blk v5 gn 99 (List.replicate nw (.int .u64 0)) from by rw [hw, hG]; exact Blk.new _ _ _)
      clear hw hG
      replace kc := Lib.hid (kc.out.below b kc.out.lt)
      clear b
      iterate 1
        refine wpPT_float (v := ?_) rfl (by rfl) (fun w' hw' => ?_) (fun K hK => ?_)
        rotate_left
        · (go_simp; try with_reducible rfl)
        go_simp
        refine hK _ ?_
        clear hK K
      refine wpPT_one rfl (by rfl) (fun K hK => ?_)
      go_simp
      obtain ⟨gs, hG⟩ : ∃ G, G = (World.heap v5).size := ⟨_, rfl⟩
      obtain ⟨v6, hw⟩ : ∃ X : World, X = World.alloc v5 (.cells #[.slice A n c, .slice (some ⟨gm, 0, none⟩) nw nw, .slice (some ⟨gn, 0, none⟩) nw nw, .slice (some ⟨gc, 0, none⟩) nw nw] 98) := ⟨_, rfl⟩
      rw [← hw, ← hG]
      have b : Below (World.heap v5).size v5 v6 := by rw [hw]; exact (Below.refl _ _).alloc (Nat.le_refl _) _
      have hgs : U.heap.size ≤ gs := by rw [hG]; exact bW.size
      replace bW := below_trans2 bW b
      refine hK _ _ bW ?_
      clear hK K
      have ks := Lib.hid (show Blk v6 gs 98 [.slice A n c, .slice (some ⟨gm, 0, none⟩) nw nw, .slice (some ⟨gn, 0, none⟩) nw nw, .slice (some ⟨gc, 0, none⟩) nw nw] from by rw [hw, hG]; exact Blk.new _ _ _)
      clear hw hG
      replace kc := Lib.hid (kc.out.below b kc.out.lt)
      replace kn := Lib.hid (kn.out.below b kn.out.lt)
      clear b
      iterate 1
        refine wpPT_float (v := ?_) rfl (by rfl) (fun w' hw' => ?_) (fun K hK => ?_)
        rotate_left
        · (go_simp; try with_reducible rfl)
        go_simp
        refine hK _ ?_
        clear hK K
      refine wpPT_done (NoPanic.normal ?_)
      exact key gn gc gs v6 ⟨kn.out, kc.out, ks.out, hgn, hgc, hgs, bW⟩
  · intro gn gc gs w9 hF9
    obtain ⟨kn, kc, ks, hgn, hgc, hgs, bW9⟩ := hF9
    have hwu := hbU.out.size
    have hlm := hBU.out.lt
    have hS0 : QuS w0 gs gm gn gc nw A n c ms (List.replicate nw 0) (List.replicate nw (List.replicate 13 0)) w9 :=
      { s := ks
        m := hBU.out.below bW9 hBU.out.lt
        x := by rw [← replicate_zero_u64]; exact kn
        k := by rw [← hZl.out]; exact kc
        nmn := by omega
        bg := by omega
        bm := hbm.out
        bn := by omega
        bc := by omega
        bel := below_trans2 hbU.out bW9 }
    have hMb := Lib.hid (hMU.out.below bW9 hMU.out.lt)
    have hS := Lib.hid hS0
    have hC0 : Hid (CntOk a zs (zs.take 0) (List.replicate nw (List.replicate 13 0))) := Lib.hid (fun j hj => by rw [cntQ_zero]; rfl)
    have hD0 := Lib.hid (DimC.zero nw)
    clear kn kc ks hgn hgc hgs hwu bW bW9 hS0 mk64 mkc hZl hbU hBU hMU hlm
    go_wp2_with fail
    go_loopw [27] (fun t wr => ∃ (q : Nat) (css : List (List Nat)), q ≤ m ∧ t = .int .i64 (q : Int) ∧ Hid (CntOk a zs (zs.take q) css) ∧ Hid (DimC nw css) ∧ Hid (QuS w0 gs gm gn gc nw A n c ms (List.replicate nw 0) css wr) ∧ Hid (Blk wr gb 39 [.int .i64 (n : Int), .slice A n c])) (fun t _ => m - (intOf t).toNat)
    case atStart => exact ⟨0, _, Nat.zero_le _, rfl, hC0, hD0, hS, hMb⟩
    case round =>
      clear hS hMb hC0 hD0
      obtain ⟨q, css, hq, rfl, hC, hD, hS, hMb⟩ := hrel
      by_cases hlt : q < m
      · have hlt' : (q : Int) < (m : Int) := by omega
        obtain ⟨lb, lo, z, rfl, hlb, hz, zok, j0⟩ := (hL.out.below hS.out.bel).int hlt
        have hzf := fine_at hF.out hz
        obtain ⟨x, rfl⟩ := Int.eq_ofNat_of_zero_le hzf.1
        have hxn : x < n := by omega
        have hxn' : (x : Int) < (n : Int) := by omega
        have bq : 0 ≤ (q : Int) := by omega
        have hts := Lib.hid (take_snoc hz)
        obtain ⟨rb, ro, B, mm, dd, ws, rfl, hrb, hxs, hr0, hRow⟩ := hr.out.at_ hxn
        have hrow := hG.out.row ws (List.mem_of_getElem? hxs)
        have hml2 : mm = nw := by rw [← hRow.len, hrow.2.2.1]; exact hnw.out.symm
        subst hml2
        have hRel := Lib.hid (show ∀ j : Nat, hasM a (x : Int) (j : Int) = hasR ws (j : Int) from fun j => hasM_in hxs)
        have hw64 := Lib.hid (show W64 ws from hrow.1)
        have hLq : (zs.take q).length ≤ 4096 := by rw [List.length_take]; have := hml.out; omega
        have hr9 := Lib.hid hr0
        have r0 : wr.cell? ⟨rb, ro + x, none⟩ = some (.slice B mm dd) := (hS.out.bel.cell (p := ⟨rb, ro + x, none⟩) hrb).trans hr0
        have m1 := Blk.cell hMb.out 1
        have hU0 := Lib.hid (UpI.start (nw := mm) (f := moreF) (ws := ws) (ms := ms) hD.out)
        replace hRow := Lib.hid hRow
        replace hlt := Lib.hid hlt
        replace hz := Lib.hid hz
        replace hzf := Lib.hid hzf
        replace hrow := Lib.hid hrow
        replace hxs := Lib.hid hxs
        clear hr0
        replace hrb := Lib.hid hrb
        replace hLq := Lib.hid hLq
        replace hnz := Lib.hid True.intro
        go_wp2_with fail
        clear m1 r0 j0
        go_loopw [37] (fun t wi => ∃ (k : Nat) (css' : List (List Nat)), k ≤ mm ∧ t = .int .i64 (k : Int) ∧ Hid (UpI mm moreF css ws ms k css') ∧ Hid (QuS w0 gs gm gn gc mm (some ⟨rb, ro, none⟩) n c ms (List.replicate mm 0) css' wi) ∧ Hid (Blk wi gb 39 [.int .i64 (n : Int), .slice (some ⟨rb, ro, none⟩) n c])) (fun t _ => mm - (intOf t).toNat)
        case atStart => exact ⟨0, css, Nat.zero_le _, rfl, hU0, hS, hMb⟩
        case round =>
          clear hS hMb hU0
          obtain ⟨k, css', hk, rfl, hU, hS, hMb⟩ := hrel
          by_cases hkm : k < mm
          · obtain ⟨xb, xo, W, rfl, hxb, hW, hW64, hWc⟩ := (hRow.out.below hS.out.bel).at_ hkm
            obtain ⟨M, hMM⟩ : ∃ M, ms[k]? = some M := ⟨_, List.getElem?_eq_getElem (by rw [hM.out.len]; exact hkm)⟩
            have hM64 := hM.out.w64 M (List.mem_of_getElem? hMM)
            have hand := Lib.hid (u64_and_nat W M hW64 hM64)
            have hWd := Lib.hid (Row.get hW)
            have hMd := Lib.hid (Row.get hMM)
            have hbk : 0 ≤ (k : Int) ∧ (k : Int) < (mm : Int) := by omega
            obtain ⟨cs, hcs, hcd, hc13, hcw⟩ := hU.out.d.at_ hkm
            have hce : css.getD k [] = cs := by have := hU.out.v k hkm; rw [if_neg (Nat.lt_irrefl k)] at this; rw [← this]; exact hcd
            have hfit := more_fits hD.out hM.out hC.out hLq.out hkm hw64.out
            have hU2 := Lib.hid (hU.out.step moreF_kept hw64.out hkm)
            obtain ⟨y, hy⟩ : ∃ y, y = W &&& M := ⟨_, rfl⟩
            have hy64 : y < 18446744073709551616 := by rw [hy]; exact and_lt64 hW64
            rw [← hy] at hand
            have hye : ws.getD k 0 &&& ms.getD k 0 = y := by rw [hWd.out, hMd.out, hy]
            rw [hye, hcd] at hU2
            rw [hye, hce] at hfit
            obtain ⟨o, ho⟩ : ∃ o, o = k * 13 := ⟨_, rfl⟩
            have hpl : (css'.take k).flatten.length = o := by rw [hU.out.d.take_len hk]; omega
            have hmore := Lib.hid (fun U hB => topo_more gc o (css'.take k).flatten cs (css'.drop (k + 1)).flatten y U hB hpl hc13 hcw hy64 hfit)
            have hfp := Lib.hid (flat_parts hcs)
            have hfs := Lib.hid (flat_set (d := goC moreF cs y) hcs)
            have hWc' := Lib.hid (show ∀ V, Below w0.heap.size w0 V → V.cell? ⟨xb, xo + k, none⟩ = some (.int .u64 (W : Int)) from fun V hV => by
              obtain ⟨xb', xo', W', hBe, hxb', hW', hW64', hWc'⟩ := (hRow.out.below hV).at_ hkm
              injection hBe with hBe
              injection hBe with hB1 hB2
              subst hB1; subst hB2
              rw [hW] at hW'
              injection hW' with hW'
              subst hW'
              exact hWc')
            replace hpl := Lib.hid hpl
            replace hcs := Lib.hid hcs
            replace hcd := Lib.hid hcd
            replace hce := Lib.hid hce
            replace hc13 := Lib.hid hc13
            replace hfit := Lib.hid hfit
            replace hW := Lib.hid hW
            replace hMM := Lib.hid hMM
            replace hy := Lib.hid hy
            replace hye := Lib.hid hye
            replace hkm := Lib.hid hkm
            replace ho := Lib.hid ho
            go_wp2_with fail
            clear hWc
            refine wp_region_plan 12 [(true, 0), (true, 1), (true, 2), (true, 3), (true, 4), (true, 5), (true, 6), (true, 7), (true, 8), (true, 9), (true, 10), (true, 11)] (by kernel_rfl) (by kernel_rfl) (fun U hU => ?_)
            have hSU := Lib.hid (show QuS w0 gs gm gn gc mm (some ⟨rb, ro, none⟩) n c ms (List.replicate mm 0) css' U from by rw [hU.out]; exact hS.out.later (Below.refl _ _).drew)
            have hMU := Lib.hid (show Blk U gb 39 [.int .i64 (n : Int), .slice (some ⟨rb, ro, none⟩) n c] from by rw [hU.out]; exact hMb.out.drew)
            clear hU hS hMb
            obtain ⟨t0, t1, t2, t3⟩ := hSU.out.cells
            have cM : U.cell? ⟨gm, k, none⟩ = some (.int .u64 (M : Int)) := by rw [Blk.cell hSU.out.m k, List.getElem?_map, hMM.out]; rfl
            simp only [List.drop_succ_cons]
            iterate 12
              refine wpPlan_float (v := ?_) rfl (by rfl) (fun w' hw' => ?_) (fun K hK => ?_)
              rotate_left
              · (go_simp; try with_reducible rfl)
              go_simp
              refine hK _ ?_
              clear hK K
            rw [hand.out]
            refine wpPlan_nil ?_
            go_wp2_with fail
            rw [← ho.out]
            refine (hmore.out U (by rw [← hfp.out]; exact hSU.out.k)).mono ?_; rintro e w2 ⟨rfl, hB2, hO2⟩
            rw [← hfs.out] at hB2
            have hS2 := Lib.hid (hSU.out.setC hB2 hO2)
            have hM2 := Lib.hid (Blk.only hMU.out hO2 (blk_ne hMU.out hSU.out.k (by decide)))
            clear hB2 hO2 hSU hMU t0 t1 t2 t3 cM
            go_wp2_with fail
            refine NoPanic.normal ?_
            go_wp2_with fail
            go_roundw
            case rel => exact ⟨k + 1, _, by have := hkm.out; omega, by go_num, hU2, hS2, hM2⟩
            case measure => have := hkm.out; simp [intOf]; omega
          · obtain rfl : k = mm := by omega
            have hC2 : Hid (CntOk a zs (zs.take (q + 1)) css') := Lib.hid (by rw [hts.out]; exact CntOk.up hM.out hC.out hD.out hLq.out hw64.out hRel.out hU.out)
            have hD2 := Lib.hid hU.out.d
            go_wp2_with fail
            go_roundw
            case rel => exact ⟨q + 1, css', by have := hlt.out; omega, by go_num, hC2, hD2, hS, hMb⟩
            case measure => have := hlt.out; simp [intOf]; omega
      · obtain rfl : q = m := by omega
        have e : zs.take q = zs := List.take_of_length_le (by rw [hml.out]; exact Nat.le_refl _)
        rw [e] at hC
        replace e := Lib.hid e
        clear hMb
        have hN0 := Lib.hid (NxI.start (nw := nw) (css := css) (ms := ms))
        go_wp2_with fail
        go_loopw [59] (fun t wr => ∃ (k : Nat) (ns : List Nat), k ≤ nw ∧ t = .int .i64 (k : Int) ∧ Hid (NxI nw css ms k ns) ∧ Hid (QuS w0 gs gm gn gc nw A n c ms ns css wr)) (fun t _ => nw - (intOf t).toNat)
        case atStart => exact ⟨0, _, Nat.zero_le _, rfl, hN0, hS⟩
        case round =>
          clear hS hN0
          obtain ⟨k, ns, hk, rfl, hN, hS⟩ := hrel
          by_cases hkm : k < nw
          · obtain ⟨M, hMM⟩ : ∃ M, ms[k]? = some M := ⟨_, List.getElem?_eq_getElem (by rw [hM.out.len]; exact hkm)⟩
            have hM64 := hM.out.w64 M (List.mem_of_getElem? hMM)
            have hbk : 0 ≤ (k : Int) ∧ (k : Int) < (nw : Int) := by omega
            obtain ⟨cs, hcs, hcd, hc13, hcw⟩ := hD.out.at_ hkm
            obtain ⟨o, ho⟩ : ∃ o, o = k * 13 := ⟨_, rfl⟩
            have hpl : (css.take k).flatten.length = o := by rw [hD.out.take_len hk]; omega
            have hN2 := Lib.hid (hN.out.step hM.out.w64 hkm)
            rw [hcd, Row.get hMM] at hN2
            obtain ⟨N, hNe⟩ : ∃ N, ns[k]? = some N := ⟨_, List.getElem?_eq_getElem (by rw [hN.out.len]; exact hkm)⟩
            have hno := noneC_lt cs
            obtain ⟨z, hz⟩ : ∃ z, z = noneC cs := ⟨_, rfl⟩
            have hE1 := Lib.hid (u64_and_nat M z hM64 (by rw [hz]; exact hno))
            have hnone := Lib.hid (fun U hB => topo_none gc o (css.take k).flatten cs (css.drop (k + 1)).flatten U hB hpl hc13 hcw)
            rw [← hz] at hnone hN2
            have hfp := Lib.hid (flat_parts hcs)
            have cM : wr.cell? ⟨gm, k, none⟩ = some (.int .u64 (M : Int)) := by rw [Blk.cell hS.out.m k, List.getElem?_map, hMM]; rfl
            replace hz := Lib.hid hz
            replace hpl := Lib.hid hpl
            replace hcs := Lib.hid hcs
            replace hcd := Lib.hid hcd
            replace hc13 := Lib.hid hc13
            replace hMM := Lib.hid hMM
            replace hNe := Lib.hid hNe
            replace hkm := Lib.hid hkm
            replace ho := Lib.hid ho
            clear hno
            go_wp2_with fail
            clear cM
            refine wp_region_plan 15 [(true, 0), (true, 1), (true, 2), (true, 3), (true, 4), (true, 5), (true, 6), (true, 7), (true, 8), (true, 9), (true, 10), (true, 11), (false, 12), (true, 13), (true, 14)] (by kernel_rfl) (by kernel_rfl) (fun U hU => ?_)
            have hSU := Lib.hid (show QuS w0 gs gm gn gc nw A n c ms ns css U from by rw [hU.out]; exact hS.out.later (Below.refl _ _).drew)
            clear hU hS
            obtain ⟨t0, t1, t2, t3⟩ := hSU.out.cells
            have cN : U.cell? ⟨gn, k, none⟩ = some (.int .u64 (N : Int)) := by rw [Blk.cell hSU.out.x k, List.getElem?_map, hNe.out]; rfl
            have fN := Blk.frozen hSU.out.x k
            simp only [List.drop_succ_cons]
            iterate 12
              refine wpPlan_float (v := ?_) rfl (by rfl) (fun w' hw' => ?_) (fun K hK => ?_)
              rotate_left
              · (go_simp; try with_reducible rfl)
              go_simp
              refine hK _ ?_
              clear hK K
            refine wpPlan_only rfl (by rfl) (fun K hK => ?_)
            go_simp
            rw [← ho.out]
            refine (hnone.out U (by rw [← hfp.out]; exact hSU.out.k)).mono ?_
            rintro e x1 ⟨rfl, rfl⟩
            refine hK _ _ (Below.refl _ _) ?_
            clear hK K
            iterate 2
              refine wpPlan_float (v := ?_) rfl (by rfl) (fun w' hw' => ?_) (fun K hK => ?_)
              rotate_left
              · (go_simp; try with_reducible rfl)
              go_simp
              refine hK _ ?_
              clear hK K
            rw [hE1.out]
            obtain ⟨V, hV⟩ : ∃ V, V = U.setCell ⟨gn, k, none⟩ (.int .u64 ((M &&& z : Nat) : Int)) := ⟨_, rfl⟩
            have hSV := Lib.hid (show QuS w0 gs gm gn gc nw A n c ms (ns.set k (M &&& z)) css V from by rw [hV]; exact hSU.out.setN k _)
            refine wpPlan_nil ?_
            go_wp2_with (rw [← hV]; clear hV)
            refine NoPanic.normal ?_
            clear t0 t1 t2 t3 cN fN hSU
            go_wp2_with fail
            go_roundw
            case rel => exact ⟨k + 1, _, by have := hkm.out; omega, by go_num, hN2, hSV⟩
            case measure => have := hkm.out; simp [intOf]; omega
          · obtain rfl : k = nw := by omega
            have hK := Lib.hid (KahnS.start hF.out hM.out hD.out hC.out hN.out)
            go_wp2_with fail
            go_ret
            exact ⟨gs, gn, gc, ns, css, rfl, hS.out, hK.out⟩
end Go.Proofs.Ytpgcokkmhlhnpaa

namespace Go.Proofs.Ytpgcokkmhlhnpaa
open Go.RowKit
set_option linter.unusedVariables false
theorem SortS.lens {r : Int → Int → Prop} {zs O L : List Int} (h : SortS r zs O L) : O.length + L.length = zs.length := by
  have := h.p.length_eq
  rwa [List.length_append] at this
/-- what is known at each round of Sort -/
def SortL (a : List (List Nat)) (n nw : Nat) (zs O L : List Int) (ms ns : List Nat) (css : List (List Nat)) (z : Int) (ok : Bool) : Prop :=
  (ok = true ∧ ∃ x : Nat, z = (x : Int) ∧ x < 64 * nw ∧ KahnT a n nw zs O L x ms ns css) ∨ (ok = false ∧ KahnS a n nw zs O L ms ns css ∧ ∀ j : Nat, hasR ns (j : Int) = false)
theorem SortL.of_take {w0 w w' : World} {g gm gn gc nw n c : Nat} {A : Option Addr} {a : List (List Nat)} {zs O L : List Int} {ms ns : List Nat} {css : List (List Nat)} {e : Ending} (hK : KahnS a n nw zs O L ms ns css) (h : RetTake w0 g gm gn gc nw A n c ms ns css w e w') :
    ∃ (z : Int) (ok : Bool) (ns' : List Nat), e = .returned (.tuple #[.int .i64 z, .bool ok]) ∧ SortL a n nw zs O L ms ns' css z ok ∧ QuS w0 g gm gn gc nw A n c ms ns' css w' ∧ OnlyAt gn w w' := by
  rcases h with ⟨h1, h2, h3, h4⟩ | ⟨x, ns', h1, h2, h3, h4, h5, h6, h7, h8, h9⟩
  · exact ⟨0, false, ns, h2, .inr ⟨rfl, hK, h1⟩, h3, h4⟩
  · exact ⟨x, true, ns', h7, .inl ⟨rfl, x, rfl, h6, hK.take h1 h2 h3 h4 h5⟩, h8, h9⟩
def lenT15 : Value → Nat | .slice _ n _ => n | _ => 0
theorem info_int15b : (Try.prog.info? 3).map (fun i => (i.zero, i.size, i.bytes)) = some (some (.int .i64 0), 1, 8) := by kernel_rfl
set_option maxRecDepth 100000 in
set_option maxHeartbeats 4000000 in
theorem topo_SortO (A : Option Addr) (n c : Nat) (a : List (List Nat)) (D : Option Addr) (m d : Nat) (zs : List Int) (w : World) (hr : RowsAt w A n a) (hG : Good n a) (hL : LAt encI w D m zs) (hm : m ≤ 1048576) :
    Calls Try.prog 18 #[.agg #[.int .i64 (n : Int), .slice A n c], .slice D m d] w (RetSortO (RelZ a) n zs w) := by
  have hn4 := hG.le
  obtain ⟨nw, hnw⟩ : ∃ nw, nw = (wordsZ (n : Int)).toNat := ⟨_, rfl⟩
  obtain ⟨hnz, hn1, hn2⟩ := words15 hnw
  have hml := Lib.hid hL.len
  have hzok := Lib.hid hL.okAll
  -- a call with the matrix (A n c a): it is boxed at g, the world is W0 then
  have hM0 := Lib.hid (MatK.new (N := (n : Int)) (c := c) w 39 hr)
  obtain ⟨g, hg⟩ : ∃ g, g = w.heap.size := ⟨_, rfl⟩
  obtain ⟨W0, hW0⟩ : ∃ W, W = w.alloc (.cells #[.int .i64 (n : Int), .slice A n c] 39) := ⟨_, rfl⟩
  rw [← hW0, ← hg] at hM0
  have hbo := Lib.hid (show Below w.heap.size w W0 from by rw [hW0]; exact below_alloc _ _)
  obtain ⟨i0, hi, hz0, hz1, hz2⟩ := info_parts info_int15b
  replace hi := Lib.hid hi
  replace hz0 := Lib.hid hz0
  replace hz1 := Lib.hid hz1
  replace hz2 := Lib.hid hz2
  have m0 := hM0.out.1.c0
  have m1 := hM0.out.1.c1
  have cO := Lib.hid (topo_once D m d zs n nw W0 (hL.below hbo.out) hm (by omega) hnw)
  have hMb := Lib.hid (show Blk W0 g 39 [.int .i64 (n : Int), .slice A n c] from hM0.out.1)
  replace hnz := Lib.hid hnz
  replace hnw := Lib.hid hnw
  replace hr := Lib.hid hr
  replace hG := Lib.hid hG
  replace hL := Lib.hid hL
  clear hM0
  go_enter Try.func18, Try.ntmps18
  go_wp2_with (rw [← hW0, ← hg]; clear hW0 hg)
  refine cO.out.mono ?_; rintro e w1 (⟨hF, gm, ms, rfl, hgm, hB1, hM1, b1⟩ | ⟨hF, rfl, b1⟩)
  · replace hF := Lib.hid hF
    have hbel := Lib.hid (below_trans2 hbo.out b1)
    have hMb1 := hMb.out.below b1 hMb.out.lt
    have hgm' := Lib.hid (show w.heap.size ≤ gm from Nat.le_trans hbo.out.size hgm)
    have cB := Lib.hid (topo_begin w gm nw A n c a D m d zs ms w1 hr.out hG.out hL.out hbel.out hB1 hgm'.out hM1 hF.out hnw.out)
    have q0 := Blk.cell hMb1 0
    have q1 := Blk.cell hMb1 1
    replace hM1 := Lib.hid hM1
    clear hB1 hMb1 hgm b1 cO m0 m1 hMb
    go_wp2_with fail
    refine cB.out.mono ?_; rintro e w2 ⟨gq, gn, gc, ns, css, rfl, hS, hK⟩
    clear q0 q1 cB hbel
    have mki := mk_int .i64 .i64 0 m (Nat.zero_le _) (by omega)
    rw [show ((0 : Nat) : Int) = 0 from rfl] at mki
    obtain ⟨go, hgo⟩ : ∃ G, G = w2.heap.size := ⟨_, rfl⟩
    obtain ⟨W3, hW3⟩ : ∃ W, W = w2.alloc (.cells (zeros m (.int .i64 0)) 3) := ⟨_, rfl⟩
    have b3 : Below w2.heap.size w2 W3 := by rw [hW3]; exact below_alloc _ _
    have hown0 := Lib.hid (show W3.ownsRow w.heap.size 3 1 (.slice (some ⟨go, 0, none⟩) 0 m) 0 (encI.all []) from by
      rw [hW3, hgo]; exact World.ownsRow_made w2 _ _ hS.bel.size (by unfold maxLen; omega) (by simp [zeros]))
    have hS3 := Lib.hid (hS.later b3)
    have hnwb : nw ≤ 1048576 := by omega
    have cT := Lib.hid (topo_take w gq gm gn gc nw A n c ms ns css W3 hS3.out hK.nl hK.nw64 hnwb)
    replace hK := Lib.hid hK
    clear hS b3
    go_wp2_with (rw [← hW3, ← hgo]; clear hW3 hgo)
    refine cT.out.mono ?_; rintro e w4 h4
    obtain ⟨z, ok, ns4, rfl, hSL, hS4, hO4⟩ := SortL.of_take hK.out h4
    have hown4 := Lib.hid (own_only hown0.out hO4 (Blk.not_row hS3.out.x (by decide) hown0.out))
    replace hSL := Lib.hid hSL
    replace hS4 := Lib.hid hS4
    clear h4 hO4 hS3 hown0 cT hK mki
    go_wp2_with fail
    go_loopw [9, 10, 11] (fun v i b wr => ∃ (z : Int) (ok : Bool) (O L : List Int) (ns : List Nat) (css : List (List Nat)) (Dv : Option Addr) (cv : Nat), v = .slice Dv O.length cv ∧ i = .int .i64 z ∧ b = .bool ok ∧ Hid (SortL a n nw zs O L ms ns css z ok) ∧ Hid (QuS w gq gm gn gc nw A n c ms ns css wr) ∧ Hid (wr.ownsRow w.heap.size 3 1 (.slice Dv O.length cv) O.length (encI.all O))) (fun v _ _ _ => m - lenT15 v)
    case atStart => exact ⟨z, ok, [], zs, ns4, css, _, m, rfl, rfl, rfl, hSL, hS4, hown4⟩
    case round =>
      clear hSL hS4 hown4
      obtain ⟨z, ok, O, L, ns, css, Dv, cv, rfl, rfl, rfl, hSL, hS, hown⟩ := hrel
      rcases hSL.out with ⟨rfl, x, rfl, hx64, hT⟩ | ⟨rfl, hK, h0⟩
      · have hlens := hT.s.lens
        rw [hml.out] at hlens
        have hLp : 0 < L.length := List.length_pos_of_mem hT.xL
        obtain ⟨N, hN⟩ : ∃ N, N = O.length := ⟨_, rfl⟩
        rw [← hN] at hown hlens ⊢
        obtain ⟨gl, hgl⟩ : ∃ g, g = wr.heap.size := ⟨_, rfl⟩
        obtain ⟨VL, hVL⟩ : ∃ W, W = World.alloc wr (.cells #[.int .i64 (x : Int)] 3) := ⟨_, rfl⟩
        have bL : Below wr.heap.size wr VL := by rw [hVL]; exact (Below.refl _ _).alloc (Nat.le_refl _) _
        have hlit := Lib.hid (show LAt encI VL (some ⟨gl, 0, none⟩) 1 [(x : Int)] from by rw [hVL, hgl]; exact LAt.lit1 (E := encI) wr 3 (x : Int) ⟨by omega, by omega⟩)
        have hownL := Lib.hid (own_below hown.out bL)
        have hSL2 := Lib.hid (hS.out.later bL)
        have hbase := Lib.hid hSL2.out.bel.size
        replace hT := Lib.hid hT
        replace hN := Lib.hid hN
        replace hSL := Lib.hid True.intro
        clear bL hown hS
        go_wp2_with (first
          | (rw [← hVL, ← hgl]; clear hVL hgl)
          | (at_builtin; refine wpList_append_L (E := encI) rfl (.tmp 39) (.tmp 41) _ rfl w.heap.size 3 i0 _ 8 Try.underlying23 hi.out hz0.out hz1.out hz2.out rfl _ N O (by rfl) hownL.out _ 1 1 _ rfl hlit.out (by unfold maxLen; omega) (by omega) hbase.out ?_; intro v' w7 hown' hb7 hgr hnew))
        have hg1 := Blk.not_row hSL2.out.s (by decide) hownL.out
        have hg2 := Blk.not_row hSL2.out.m (by decide) hownL.out
        have hg3 := Blk.not_row hSL2.out.x (by decide) hownL.out
        have hg4 := Blk.not_row hSL2.out.k (by decide) hownL.out
        have hS7 := hSL2.out.grown hgr hg1 hg2 hg3 hg4 hb7
        have cF := Lib.hid (topo_free w gq gm gn gc nw A n c a zs O L x ms ns css w7 hS7 hT.out hr.out hG.out hnw.out)
        have hOk : ∀ y ∈ O ++ [(x : Int)], encI.ok y := fun y hy => hzok.out y (hT.out.s.p.mem_iff.1 (by
          rcases List.mem_append.1 hy with h1 | h1
          · exact List.mem_append.2 (.inl h1)
          · rw [List.mem_singleton.1 h1]; exact List.mem_append.2 (.inr hT.out.xL)))
        obtain ⟨A7, c7, rfl, h71, h72, hL7⟩ := LAt.of_own (E := encI) hown' hOk (by rw [List.length_append, ← hN.out]; rfl)
        replace hown' := Lib.hid hown'
        clear hg1 hg2 hg3 hg4 hgr hnew hb7 hSL2 hownL hlit hbase h71 h72 hL7 hOk
        go_wp2_with fail
        refine cF.out.mono ?_; rintro e w8 ⟨rfl, ns8, css8, hS8, hK8, hO8⟩
        have hown8 := Lib.hid (hO8.own hown'.out (Blk.not_row hS7.x (by decide) hown'.out) (Blk.not_row hS7.k (by decide) hown'.out))
        have cT := Lib.hid (topo_take w gq gm gn gc nw A n c ms ns8 css8 w8 hS8 hK8.nl hK8.nw64 hnwb)
        replace hS8 := Lib.hid hS8
        replace hK8 := Lib.hid hK8
        clear hO8 hown' hS7 cF
        go_wp2_with fail
        refine cT.out.mono ?_; rintro e w9 h9
        obtain ⟨z9, ok9, ns9, rfl, hSL9, hS9, hO9⟩ := SortL.of_take hK8.out h9
        have hown9 := Lib.hid (own_only hown8.out hO9 (Blk.not_row hS8.out.x (by decide) hown8.out))
        replace hSL9 := Lib.hid hSL9
        replace hS9 := Lib.hid hS9
        clear h9 hO9 hS8 hown8 cT hK8
        go_wp2_with fail
        go_roundw
        case rel => exact ⟨z9, ok9, O ++ [(x : Int)], L.erase (x : Int), ns9, css8, A7, c7, by rw [List.length_append, ← hN.out]; rfl, rfl, rfl, hSL9, hS9, Lib.hid (by rw [List.length_append, ← hN.out]; exact hown9.out)⟩
        case measure => simp only [lenT15]; omega
      · have hlens := hK.s.lens
        rw [hml.out] at hlens
        obtain ⟨N, hN⟩ : ∃ N, N = O.length := ⟨_, rfl⟩
        rw [← hN] at hown hlens ⊢
        have hst := hK.stuck h0
        replace hN := Lib.hid hN
        replace hSL := Lib.hid True.intro
        clear hK h0
        rcases hst with ⟨rfl, hI⟩ | ⟨hne, hI⟩
        · obtain rfl : N = m := by simpa using hlens
          replace hI := Lib.hid hI
          clear hlens
          have hlt : ¬ (N : Int) < (N : Int) := by omega
          go_wp2_with fail
          exact bodyPost_ret (v := .tuple #[.slice Dv N cv, .int .i64 0]) (by simp [results, go_sem]) rfl ⟨.slice Dv N cv, O, 0, rfl, by rw [← hN.out]; exact hown.out, hI.out, hS.out.bel⟩
        · have hlt : (N : Int) < (m : Int) := by have := List.length_pos_iff.2 hne; omega
          replace hI := Lib.hid hI
          replace hne := Lib.hid hne
          clear hlens
          go_wp2_with fail
          exact bodyPost_ret (v := .tuple #[.slice none 0 0, .int .i64 7]) (by simp [results, go_sem]) rfl ⟨.slice none 0 0, [], 7, rfl, World.ownsRow_nil _ _ _ _, hI.out, hS.out.bel⟩
  · have hno : Hid (SortIs (RelZ a) n zs [] 1) := Lib.hid (.inl ⟨hF, rfl, rfl⟩)
    replace hF := Lib.hid hF
    have hbe := Lib.hid (below_trans2 hbo.out b1)
    clear b1 m0 m1
    go_wp2_with fail
    exact bodyPost_ret (v := .tuple #[.slice none 0 0, .int .i64 1]) (by simp [results, go_sem]) rfl ⟨.slice none 0 0, [], 1, rfl, World.ownsRow_nil _ _ _ _, hno.out, hbe.out⟩
theorem topo_Sort (A : Option Addr) (n c : Nat) (a : List (List Nat)) (D : Option Addr) (m d : Nat) (zs : List Int) (w : World) (hr : RowsAt w A n a) (hG : Good n a) (hL : LAt encI w D m zs) (hm : m ≤ 1048576) :
    Calls Try.prog 18 #[.agg #[.int .i64 (n : Int), .slice A n c], .slice D m d] w (RetSort (RelZ a) n zs w) :=
  (topo_SortO A n c a D m d zs w hr hG hL hm).mono fun _ _ h => h.ret hL.okAll
end Go.Proofs.Ytpgcokkmhlhnpaa

namespace Go.Proofs.Ytpgcokkmhlhnpaa
open Go.RowKit
set_option linter.unusedVariables false
set_option maxHeartbeats 1000000 in
theorem law15_may (N : Int) (A : Option Addr) (n c : Nat) (xss : List (List Nat)) (w : World) (hr : RowsAt w A n xss) (hn : n ≤ 9223372036854775807) (hl : ∀ (k : Nat) (xs : List Nat), xss[k]? = some xs → xs.length ≤ 9223372036854775807) :
    Calls Try.prog 16 #[.agg #[.int .i64 N, .slice A n c]] w (RetB (smallM xss 16 && rightM N xss) w) := by
  have hlen := hr.len
  obtain ⟨W0, hW0⟩ : ∃ W0, W0 = w.alloc (.cells #[.int .i64 N, .slice A n c] 39) := ⟨_, rfl⟩
  have ha : Below w.heap.size w W0 := by rw [hW0]; exact below_alloc _ _
  have k1 := Lib.hid (show MatK W0 w.heap.size 39 N A n c xss by rw [hW0]; exact MatK.new w _ hr)
  have hS := Lib.hid (ref3_Small N A n c xss 16 W0 k1.out.2 hn hl (by omega))
  have bb := Lib.hid ha
  clear ha hr
  have qk10 := k1.out.1.c0
  have qk11 := k1.out.1.c1
  go_enter Try.func16, Try.ntmps16
  go_wp2_with fail
  rw [← hW0]
  clear hW0
  go_wp2_with fail
  refine hS.out.mono ?_; rintro e w1 ⟨rfl, b⟩
  replace k1 := Lib.hid (k1.out.below b)
  replace qk10 := k1.out.1.c0
  replace qk11 := k1.out.1.c1
  replace bb := Lib.hid (below_trans2 bb.out b)
  clear b
  clear hS
  cases hs : smallM xss 16 with
  | false =>
    replace hs := Lib.hid hs
    go_wp2_with fail
    go_ret
    rw [hs.out]
    exact ⟨rfl, bb.out⟩
  | true =>
    obtain ⟨s1, s2⟩ := smallM_len hs
    have hR := Lib.hid (ref3_Right N A n c xss w1 k1.out.2 (by omega) (fun k xs hx => by have := s2 xs (List.mem_of_getElem? hx); omega))
    clear s1 s2 hlen
    go_wp2_with fail
    refine hR.out.mono ?_; rintro e w2 ⟨rfl, b⟩
    replace k1 := Lib.hid (k1.out.below b)
    replace qk10 := k1.out.1.c0
    replace qk11 := k1.out.1.c1
    replace bb := Lib.hid (below_trans2 bb.out b)
    clear b
    clear hR
    replace hs := Lib.hid hs
    go_wp2_with fail
    go_ret
    rw [hs.out]
    exact ⟨rfl, bb.out⟩
theorem ints_is15 {A B : Option Addr} {n m c d c' d' : Nat} {s t : List Int} {w : World} (h1 : LAt encI w A n s) (h2 : LAt encI w B m t) (hn : n ≤ c) (hc : c ≤ 9223372036854775807) (hm : m ≤ d) (hd : d ≤ 9223372036854775807) :
    Calls Try.prog 13 #[.slice A n c', .slice B m d'] w (RetB (decide (s = t)) w) := by
  refine (ref2_IntsL A B n c' m d' s t w h1 h2 (by omega) (by omega)).mono ?_
  rintro e w' ⟨rfl, q, rfl⟩
  exact ⟨rfl, below_drewN (Below.refl _ _) q⟩
theorem awake15_of : ofN 3 [(2, 0)] = 3 ∧ ofM 3 [(2, 0)] = [[0], [0], [1]] ∧ ofE 3 [(2, 0)] = 0 := by decide
theorem awake15_of1 : ofN 1 [(0, 0)] = 1 ∧ ofM 1 [(0, 0)] = [[1]] ∧ ofE 1 [(0, 0)] = 0 := by decide
theorem awake15_good : Good 3 [[0], [0], [1]] := by
  obtain ⟨n, h1, h2⟩ := Good.of (show rightM 3 [[0], [0], [1]] = true by decide) (by intro r hr; simp at hr; rcases hr with rfl | rfl | rfl <;> (intro x hx; simp at hx; omega))
  obtain rfl : n = 3 := by omega
  exact h2
theorem awake15_good1 : Good 1 [[1]] := by
  obtain ⟨n, h1, h2⟩ := Good.of (show rightM 1 [[1]] = true by decide) (by intro r hr; simp at hr; subst hr; intro x hx; simp at hx; omega)
  obtain rfl : n = 1 := by omega
  exact h2
theorem awake15_relZ {x y : Int} (h : RelZ [[0], [0], [1]] x y) : x = 2 ∧ y = 0 := by
  obtain ⟨i, j, rfl, rfl, hi, hj, h⟩ := h.nat awake15_good
  have hd : ∀ i : Nat, i < 3 → ∀ j : Nat, j < 3 → hasM [[0], [0], [1]] (i : Int) (j : Int) = true → i = 2 ∧ j = 0 := by decide
  have := hd i hi j hj h
  omega
theorem awake15_sort {l : List Int} {E : Int} (h : SortIs (RelZ [[0], [0], [1]]) 3 [0, 1, 2] l E) : l = [1, 2, 0] ∧ E = 0 := by
  refine h.unique (.inr (.inl ⟨⟨by decide, by decide⟩, rfl, by decide, ?_, ?_, ?_, ?_, ?_, ?_, trivial⟩))
  · intro y hy h
    have := awake15_relZ h
    omega
  · intro y hy hlt
    simp only [List.mem_cons, List.not_mem_nil, or_false] at hy
    obtain rfl : y = 0 := by omega
    exact ⟨2, by simp, by unfold RelZ; decide⟩
  · intro y hy h
    have := awake15_relZ h
    omega
  · intro y hy hlt
    simp only [List.mem_cons, List.not_mem_nil, or_false] at hy
    subst hy
    exact ⟨2, by simp, by unfold RelZ; decide⟩
  · intro y hy h
    have := awake15_relZ h
    simp at hy
    omega
  · intro y hy
    cases hy
theorem awake15_sort1 {l : List Int} {E : Int} (h : SortIs (RelZ [[1]]) 1 [0] l E) : l = [] ∧ E = 7 := by
  refine h.unique (.inr (.inr ⟨⟨by decide, by decide⟩, rfl, rfl, (· = 0), ⟨0, by simp, rfl⟩, fun x hx => ⟨by simp [hx], 0, rfl, ?_⟩⟩))
  have hx : x = 0 := hx
  subst hx
  unfold RelZ; decide
theorem awake15_resp {b : Bool} (h : b = true ↔ RespO (RelZ [[0], [0], [1]]) [1, 2, 0]) : b = true := by
  refine h.2 (fun i k hi hk hr => ?_)
  have h1 := awake15_relZ hr
  simp only [List.length_cons, List.length_nil] at hi
  match i, k, hi, hk, h1 with
  | 0, 0, _, _, h1 => have := h1.1; simp at this
  | 1, 0, _, _, h1 => have := h1.2; simp at this
  | 1, 1, _, _, h1 => have := h1.2; simp at this
  | 2, k, _, _, h1 => have := h1.1; simp at this
  | 0, k + 1, _, hk, _ => omega
  | 1, k + 2, _, hk, _ => omega
  | i + 3, _, hi, _, _ => omega
theorem awake15_respno {b : Bool} (h : b = true ↔ RespO (RelZ [[0], [0], [1]]) [0, 2]) : b = false := by
  cases b with
  | false => rfl
  | true => exact absurd (show RelZ [[0], [0], [1]] 2 0 by unfold RelZ; decide) (h.1 rfl 1 0 (by decide) (by decide))
theorem awake15_perm {b : Bool} (h : b = true ↔ PermB [1, 2, 0] 3) : b = true := h.2 ⟨by decide, by decide, by decide⟩
set_option maxRecDepth 100000 in
set_option maxHeartbeats 2000000 in
theorem law15_awake (w : World) : Calls Try.prog 17 #[] w (RetBool true w) := by
  obtain ⟨W0, hW0⟩ : ∃ W0, W0 = w.alloc (.cells #[.int .i64 2, .int .i64 0] 70) := ⟨_, rfl⟩
  have bb := Lib.hid (show Below w.heap.size w W0 by rw [hW0]; exact below_alloc _ _)
  have hP : PairsAt W0 (some ⟨w.heap.size, 0, none⟩) 1 [(2, 0)] := by
    refine ⟨rfl, by simp, fun _ => ⟨_, _, rfl, by rw [hW0]; simp, fun j p hj => ?_⟩⟩
    have hB : Blk W0 w.heap.size 70 [.int .i64 2, .int .i64 0] := by rw [hW0]; exact Blk.new w _ _
    match j, hj with
    | 0, hj => simp at hj; subst hj; exact ⟨hB.cell 0, hB.cell 1⟩
    | j + 1, hj => simp at hj
  have hO := ref3_Of 3 _ 1 1 _ W0 hP (by omega)
  rw [awake15_of.1, awake15_of.2.1, awake15_of.2.2] at hO
  replace hO := Lib.hid hO
  clear hP
  have cS := Lib.hid (fun A c D m d zs W hW hL hm => topo_Sort A 3 c [[0], [0], [1]] D m d zs W hW awake15_good hL hm)
  have cS1 := Lib.hid (fun A c D m d zs W hW hL hm => topo_Sort A 1 c [[1]] D m d zs W hW awake15_good1 hL hm)
  have cR := Lib.hid (fun A c D m d zs W hW hL hm => topo_Respects A 3 c [[0], [0], [1]] D m d zs W hW awake15_good hL hm)
  go_enter Try.func17, Try.ntmps17
  go_wp2_with fail
  rw [← hW0]
  clear hW0
  refine hO.out.mono ?_; rintro e w1 ⟨A1, n1, c1, rfl, r1, _, b⟩
  obtain rfl : n1 = 3 := by have := r1.len; simpa using this.symm
  clear hO
  obtain ⟨W1, hW1⟩ : ∃ W, W = w1.alloc (.cells #[.int .i64 3, .slice A1 3 c1] 39) := ⟨_, rfl⟩
  obtain ⟨G1, hG1⟩ : ∃ G, G = w1.heap.size := ⟨_, rfl⟩
  have ba : Below w1.heap.size w1 W1 := by rw [hW1]; exact below_alloc _ _
  have k1 := Lib.hid (show MatK W1 G1 39 3 A1 3 c1 [[0],[0],[1]] from ⟨by rw [hW1, hG1]; exact MatB.new _ _, r1.below ba⟩)
  replace b := below_trans2 b ba
  clear ba r1
  replace bb := Lib.hid (below_trans2 bb.out b)
  clear b
  go_wp2_with fail
  rw [← hW1, ← hG1]
  have hsW1 : W1.heap.size = G1 + 1 := by rw [hW1, World.size_alloc, ← hG1]
  clear hW1 hG1
  have qk10 := k1.out.1.c0
  have qk11 := k1.out.1.c1
  obtain ⟨V2, hV2⟩ : ∃ V, V = W1.alloc (.cells #[.int .i64 0, .int .i64 1, .int .i64 2] 3) := ⟨_, rfl⟩
  have bV : Below W1.heap.size W1 V2 := by rw [hV2]; exact below_alloc _ _
  have hl2 := (show LAt encI V2 (some ⟨G1 + 1, 0, none⟩) 3 [0, 1, 2] from by rw [hV2, ← hsW1]; exact LAt.of_blk (t := 3) (Blk.new W1 _ (encI.all [0, 1, 2])) (fun x hx => by simp only [List.mem_cons, List.not_mem_nil, or_false] at hx; rcases hx with rfl | rfl | rfl <;> exact ⟨by decide, by decide⟩) rfl)
  replace k1 := Lib.hid (k1.out.below bV)
  replace qk10 := k1.out.1.c0
  replace qk11 := k1.out.1.c1
  replace bb := Lib.hid (below_trans2 bb.out bV)
  clear bV
  have cS2 := Lib.hid (cS.out A1 c1 (some ⟨G1 + 1, 0, none⟩) 3 3 _ V2 k1.out.2 hl2 (by omega))
  rw [← hV2]
  clear hV2 hl2 hsW1
  refine cS2.out.mono ?_; rintro e w2 ⟨D, m, d, l, E, rfl, hL, hmd, hdm, hR, b⟩
  obtain ⟨rfl, rfl⟩ := awake15_sort hR
  obtain rfl : m = 3 := hL.len.symm
  replace hL := Lib.hid hL
  clear hR cS2
  replace k1 := Lib.hid (k1.out.below b)
  replace qk10 := k1.out.1.c0
  replace qk11 := k1.out.1.c1
  replace bb := Lib.hid (below_trans2 bb.out b)
  clear b
  -- the other matrix
  obtain ⟨gp, hgp⟩ : ∃ g, g = w2.heap.size := ⟨_, rfl⟩
  obtain ⟨W3, hW3⟩ : ∃ W, W = w2.alloc (.cells #[.int .i64 0, .int .i64 0] 70) := ⟨_, rfl⟩
  have b : Below w2.heap.size w2 W3 := by rw [hW3]; exact below_alloc _ _
  have hP : PairsAt W3 (some ⟨gp, 0, none⟩) 1 [(0, 0)] := by
    refine ⟨rfl, by simp, fun _ => ⟨_, _, rfl, by rw [hW3, hgp]; simp, fun j p hj => ?_⟩⟩
    have hB : Blk W3 gp 70 [.int .i64 0, .int .i64 0] := by rw [hW3, hgp]; exact Blk.new w2 _ _
    match j, hj with
    | 0, hj => simp at hj; subst hj; exact ⟨hB.cell 0, hB.cell 1⟩
    | j + 1, hj => simp at hj
  replace hL := Lib.hid (hL.out.below b)
  replace k1 := Lib.hid (k1.out.below b)
  replace qk10 := k1.out.1.c0
  replace qk11 := k1.out.1.c1
  replace bb := Lib.hid (below_trans2 bb.out b)
  clear b
  have hO := ref3_Of 1 _ 1 1 _ W3 hP (by omega)
  rw [awake15_of1.1, awake15_of1.2.1, awake15_of1.2.2] at hO
  replace hO := Lib.hid hO
  clear hP
  go_wp2_with fail
  rw [← hgp, ← hW3]
  clear hW3 hgp
  refine hO.out.mono ?_; rintro e w3 ⟨A4, n4, c4, rfl, r4, _, b⟩
  obtain rfl : n4 = 1 := by have := r4.len; simpa using this.symm
  clear hO
  obtain ⟨W4, hW4⟩ : ∃ W, W = w3.alloc (.cells #[.int .i64 1, .slice A4 1 c4] 39) := ⟨_, rfl⟩
  obtain ⟨G4, hG4⟩ : ∃ G, G = w3.heap.size := ⟨_, rfl⟩
  have ba : Below w3.heap.size w3 W4 := by rw [hW4]; exact below_alloc _ _
  have k4 := Lib.hid (show MatK W4 G4 39 1 A4 1 c4 [[1]] from ⟨by rw [hW4, hG4]; exact MatB.new _ _, r4.below ba⟩)
  replace b := below_trans2 b ba
  clear ba r4
  replace k1 := Lib.hid (k1.out.below b)
  replace qk10 := k1.out.1.c0
  replace qk11 := k1.out.1.c1
  replace hL := Lib.hid (hL.out.below b)
  replace bb := Lib.hid (below_trans2 bb.out b)
  clear b
  rw [hW4] at qk10 qk11
  go_wp2_with fail
  rw [← hW4, ← hG4]
  rw [← hW4] at qk10 qk11
  have hsW4 : W4.heap.size = G4 + 1 := by rw [hW4, World.size_alloc, ← hG4]
  clear hW4 hG4
  have qk40 := k4.out.1.c0
  have qk41 := k4.out.1.c1
  obtain ⟨V5, hV5⟩ : ∃ V, V = W4.alloc (.cells #[.int .i64 0] 3) := ⟨_, rfl⟩
  have bV : Below W4.heap.size W4 V5 := by rw [hV5]; exact below_alloc _ _
  have hl2 := (show LAt encI V5 (some ⟨G4 + 1, 0, none⟩) 1 [0] from by rw [hV5, ← hsW4]; exact LAt.of_blk (t := 3) (Blk.new W4 _ (encI.all [0])) (fun x hx => by simp only [List.mem_cons, List.not_mem_nil, or_false] at hx; subst hx; exact ⟨by decide, by decide⟩) rfl)
  replace k1 := Lib.hid (k1.out.below bV)
  replace qk10 := k1.out.1.c0
  replace qk11 := k1.out.1.c1
  replace k4 := Lib.hid (k4.out.below bV)
  replace qk40 := k4.out.1.c0
  replace qk41 := k4.out.1.c1
  replace hL := Lib.hid (hL.out.below bV)
  replace bb := Lib.hid (below_trans2 bb.out bV)
  clear bV
  have cS2 := Lib.hid (cS1.out A4 c4 (some ⟨G4 + 1, 0, none⟩) 1 1 _ V5 k4.out.2 hl2 (by omega))
  rw [← hV5]
  clear hV5 hl2 hsW4
  refine cS2.out.mono ?_; rintro e w5 ⟨D5, m5, d5, l5, E5, rfl, _, _, _, hR, b⟩
  obtain ⟨rfl, rfl⟩ := awake15_sort1 hR
  clear hR cS2
  replace k1 := Lib.hid (k1.out.below b)
  replace qk10 := k1.out.1.c0
  replace qk11 := k1.out.1.c1
  replace hL := Lib.hid (hL.out.below b)
  replace bb := Lib.hid (below_trans2 bb.out b)
  clear b
  clear k4 qk40 qk41
  -- what is held
  obtain ⟨gp, hgp⟩ : ∃ g, g = w5.heap.size := ⟨_, rfl⟩
  obtain ⟨V6, hV6⟩ : ∃ V, V = w5.alloc (.cells #[.int .i64 1, .int .i64 2, .int .i64 0] 3) := ⟨_, rfl⟩
  have bV : Below w5.heap.size w5 V6 := by rw [hV6]; exact below_alloc _ _
  have hl2 := (show LAt encI V6 (some ⟨gp, 0, none⟩) 3 [1, 2, 0] from by rw [hV6, hgp]; exact LAt.of_blk (t := 3) (Blk.new w5 _ (encI.all [1, 2, 0])) (fun x hx => by simp only [List.mem_cons, List.not_mem_nil, or_false] at hx; rcases hx with rfl | rfl | rfl <;> exact ⟨by decide, by decide⟩) rfl)
  replace k1 := Lib.hid (k1.out.below bV)
  replace qk10 := k1.out.1.c0
  replace qk11 := k1.out.1.c1
  replace hL := Lib.hid (hL.out.below bV)
  replace bb := Lib.hid (below_trans2 bb.out bV)
  clear bV
  have cE := Lib.hid (ints_is15 (c' := d) (d' := 3) hL.out hl2 hmd hdm (Nat.le_refl 3) (by omega))
  rw [show decide (([1, 2, 0] : List Int) = [1, 2, 0]) = true from by decide] at cE
  clear hl2
  go_wp2_with (rw [← hgp, ← hV6]; clear hV6 hgp)
  refine cE.out.mono ?_; rintro e w6 ⟨rfl, b⟩
  replace k1 := Lib.hid (k1.out.below b)
  replace qk10 := k1.out.1.c0
  replace qk11 := k1.out.1.c1
  replace hL := Lib.hid (hL.out.below b)
  replace bb := Lib.hid (below_trans2 bb.out b)
  clear b
  clear cE
  have cR1 := Lib.hid (cR.out A1 c1 D 3 d _ w6 k1.out.2 hL.out (by omega))
  go_wp2_with fail
  refine cR1.out.mono ?_; rintro e w7 ⟨rb, rfl, hrb, b⟩
  obtain rfl := awake15_resp hrb
  replace k1 := Lib.hid (k1.out.below b)
  replace qk10 := k1.out.1.c0
  replace qk11 := k1.out.1.c1
  replace hL := Lib.hid (hL.out.below b)
  replace bb := Lib.hid (below_trans2 bb.out b)
  clear b
  clear cR1 hrb
  obtain ⟨gp, hgp⟩ : ∃ g, g = w7.heap.size := ⟨_, rfl⟩
  obtain ⟨V8, hV8⟩ : ∃ V, V = w7.alloc (.cells #[.int .i64 0, .int .i64 2] 3) := ⟨_, rfl⟩
  have bV : Below w7.heap.size w7 V8 := by rw [hV8]; exact below_alloc _ _
  have hl2 := (show LAt encI V8 (some ⟨gp, 0, none⟩) 2 [0, 2] from by rw [hV8, hgp]; exact LAt.of_blk (t := 3) (Blk.new w7 _ (encI.all [0, 2])) (fun x hx => by simp only [List.mem_cons, List.not_mem_nil, or_false] at hx; rcases hx with rfl | rfl <;> exact ⟨by decide, by decide⟩) rfl)
  have q70 := k1.out.1.c0
  have q71 := k1.out.1.c1
  replace k1 := Lib.hid (k1.out.below bV)
  replace qk10 := k1.out.1.c0
  replace qk11 := k1.out.1.c1
  replace hL := Lib.hid (hL.out.below bV)
  replace bb := Lib.hid (below_trans2 bb.out bV)
  clear bV
  have cR1 := Lib.hid (cR.out A1 c1 (some ⟨gp, 0, none⟩) 2 2 _ V8 k1.out.2 hl2 (by omega))
  clear hl2
  go_wp2_with (rw [← hgp, ← hV8]; clear hV8 hgp)
  refine cR1.out.mono ?_; rintro e w9 ⟨rb, rfl, hrb, b⟩
  obtain rfl := awake15_respno hrb
  replace k1 := Lib.hid (k1.out.below b)
  replace qk10 := k1.out.1.c0
  replace qk11 := k1.out.1.c1
  replace hL := Lib.hid (hL.out.below b)
  replace bb := Lib.hid (below_trans2 bb.out b)
  clear b
  clear cR1 hrb
  have cP := Lib.hid (topo_Perm D 3 d _ 3 w9 hL.out (by omega))
  go_wp2_with fail
  refine cP.out.mono ?_; rintro e w10 ⟨rb, rfl, hrb, b⟩
  obtain rfl := awake15_perm hrb
  replace bb := Lib.hid (below_trans2 bb.out b)
  clear cP hrb b
  go_wp2_with fail
  go_ret
  exact ⟨rfl, bb.out⟩
end Go.Proofs.Ytpgcokkmhlhnpaa
