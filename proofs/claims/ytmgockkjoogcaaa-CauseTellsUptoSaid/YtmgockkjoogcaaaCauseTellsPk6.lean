/- A region that draws its order, walked by a tree of orders: what only reads (in every world that meets S) is taken as soon as it may come up; what changes memory, and stays in S, comes up alone, or as one of two: then both ways are walked. S is the prover's: as a rule 'the blocks that were there at the region's start are as they were': so an alloc beside calls, and stores into what the region made, are steps too. No function of the program is named here. The contracts of the document's own answers of layer 13: Edges, Co. Contracts of package hull: copied, join, Close. Plain mathematics of layer 12: items of a session are neighbours; what follows for their order and the rows of the matrix. Nothing of the program is named. A region that draws its order, by a plan (XPlan), in which one block of the caller's may change (an append in place): what reads must not read it. No function of the program is named here. The code's own contracts of layer 12: known, first, fill, Ahead, Past, Po. The code's own contracts of layer 13: Rf (pairs, then mat.Of), Edges, Co. -/
import Derived.Test.YtmgockkjoogcaaaCauseTellsPk2
import Derived.Test.YtmgockkjoogcaaaCauseTellsPk5
import Derived.Test.YtmgockkjoogcaaaCauseTellsPk4
import Derived.Laws.BitsAllLaws
import Derived.Test.YtmgockkjoogcaaaCauseTellsPk1
import Derived.Test.YtmgockkjoogcaaaCauseTellsPk3
namespace Go.Proofs.Ytmgockkjoogcaaa
open Go.RowKit
set_option linter.unusedVariables false

section
variable {P : Program} {ops : Array Oper} {md : Region.Mode} {Q : Exit → Act → World → Prop} {S : World → Prop}

def wpAnyS (S : World → Prop) (P : Program) (md : Region.Mode) (ops : Array Oper) (Q : Exit → Act → World → Prop) : Nat → Array Bool → Act → World → Prop
  | 0, listed, a, w => Region.ready md ops listed = [] ∧ Q .normal a w
  | f + 1, listed, a, w => Region.ready md ops listed ≠ [] ∧ ∀ i ∈ Region.ready md ops listed, wpOp P ops Q i (fun a' w' => S w' ∧ wpAnyS S P md ops Q f (listed.setIfInBounds i true) a' w') a w
theorem wpAny_of_S : ∀ (f : Nat) (listed : Array Bool) (a : Act) (w : World), wpAnyS S P md ops Q f listed a w → wpAny P md ops Q f listed a w
  | 0, _, _, _, h => h
  | f + 1, listed, a, w, h => ⟨fun h0 => absurd h0 h.1, fun i hi => wpOp_mono (fun a' w' h' => wpAny_of_S f _ a' w' h'.2) (h.2 i hi)⟩

theorem wpAnyS_first {i : Nat} {oi : Oper} {v : Value} (hi : ops[i]? = some oi) (hsel : ∀ (j : Nat) (o : Oper) cs b, ops[j]? = some o → o.op ≠ .select cs b)
    (hQ : ∀ c a w, Q (.panic c) (a.put oi.dst v) w → Q (.panic c) a w) :
    ∀ (f : Nat) (listed : Array Bool) (a : Act) (w : World), S w →
      (∀ j oj, ops[j]? = some oj → j ≠ i → listed.getD j true = false → (∀ e ∈ oj.after, Region.binds md e = true → e.on ≠ i) → oi.apart ops oj = true) →
      i ∈ Region.ready md ops listed → YieldsIf P ops S oi v a →
      wpAnyS S P md ops Q f (listed.setIfInBounds i true) (a.put oi.dst v) w → wpAnyS S P md ops Q (f + 1) listed a w := by
  intro f
  induction f with
  | zero =>
    intro listed a w hS _ hr hy H
    refine ⟨fun h => (by rw [h] at hr; cases hr), fun j hj => ?_⟩
    by_cases hji : j = i
    · subst hji; exact hy.wpOp hi hS ⟨hS, H⟩
    · have h1 := ready_mono hj hji
      rw [H.1] at h1
      cases h1
  | succ f ih =>
    intro listed a w hS hfree hr hy H
    have hun := (mem_ready.1 hr).1
    refine ⟨fun h => (by rw [h] at hr; cases hr), fun j hj => ?_⟩
    by_cases hji : j = i
    · subst hji; exact hy.wpOp hi hS ⟨hS, H⟩
    · have h1 := H.2 j (ready_mono hj hji)
      obtain ⟨hjun, oj, hoj, hall⟩ := mem_ready.1 hj
      have hnot : ∀ e ∈ oj.after, Region.binds md e = true → e.on ≠ i := fun e he hb heq => by
        have h1 := hall e he hb
        rw [heq, getD_both hun] at h1
        cases h1
      have h2 := wpOp_putIf hoj (hfree j oj hoj hji hjun hnot) (fun cs b => hsel i oi cs b hi) (fun cs b => hsel j oj cs b hoj) hQ hy h1
      have hfree' : ∀ k ok, ops[k]? = some ok → k ≠ i → (listed.setIfInBounds j true).getD k true = false →
          (∀ e ∈ ok.after, Region.binds md e = true → e.on ≠ i) → oi.apart ops ok = true := fun k ok hk hki hun hno => by
        refine hfree k ok hk hki ?_ hno
        by_cases hjk : j = k
        · subst hjk; exact hjun
        · rw [getD_set_ne true hjk] at hun; exact hun
      refine wpOp_mono (fun a' w' h3 => ⟨h3.2.1, ih (listed.setIfInBounds j true) a' w' h3.2.1 hfree' (ready_mono hr (Ne.symm hji)) h3.1 ?_⟩) h2
      rw [Array.setIfInBounds_comm _ _ hji]
      exact h3.2.2

/-- a tree of orders -/
inductive PT where
  | done
  | flt (i : Nat) (t : PT)
  | one (i : Nat) (t : PT)
  | two (i j : Nat) (ti tj : PT)
  | three (i j k : Nat) (ti tj tk : PT)
def PT.depth : PT → Nat
  | .done => 0
  | .flt _ t => t.depth + 1
  | .one _ t => t.depth + 1
  | .two _ _ t _ => t.depth + 1
  | .three _ _ _ t _ _ => t.depth + 1
def PT.ok (md : Region.Mode) (ops : Array Oper) : PT → Array Bool → Bool
  | .done, listed => (Region.ready md ops listed).isEmpty
  | .flt i t, listed => (Region.ready md ops listed).contains i && Region.free md ops listed i && t.ok md ops (listed.setIfInBounds i true)
  | .one i t, listed => decide (Region.ready md ops listed = [i]) && t.ok md ops (listed.setIfInBounds i true)
  | .two i j t u, listed => decide (Region.ready md ops listed = [i, j]) && decide (t.depth = u.depth) && t.ok md ops (listed.setIfInBounds i true) && u.ok md ops (listed.setIfInBounds j true)
  | .three i j k t u v, listed => decide (Region.ready md ops listed = [i, j, k]) && (decide (t.depth = u.depth) && decide (t.depth = v.depth)) && t.ok md ops (listed.setIfInBounds i true) && u.ok md ops (listed.setIfInBounds j true) && v.ok md ops (listed.setIfInBounds k true)
def wpPT (S : World → Prop) (P : Program) (ops : Array Oper) (Q : Exit → Act → World → Prop) : PT → Act → World → Prop
  | .done, a, w => Q .normal a w
  | .flt i t, a, w => ∃ o v, ops[i]? = some o ∧ YieldsIf P ops S o v a ∧ wpPT S P ops Q t (a.put o.dst v) w
  | .one i t, a, w => wpOp P ops Q i (fun a' w' => S w' ∧ wpPT S P ops Q t a' w') a w
  | .two i j t u, a, w => wpOp P ops Q i (fun a' w' => S w' ∧ wpPT S P ops Q t a' w') a w ∧ wpOp P ops Q j (fun a' w' => S w' ∧ wpPT S P ops Q u a' w') a w
  | .three i j k t u v, a, w => wpOp P ops Q i (fun a' w' => S w' ∧ wpPT S P ops Q t a' w') a w ∧ wpOp P ops Q j (fun a' w' => S w' ∧ wpPT S P ops Q u a' w') a w ∧ wpOp P ops Q k (fun a' w' => S w' ∧ wpPT S P ops Q v a' w') a w

theorem wpAnyS_tree (hsel : Region.noSelect ops = true) (hQ : ∀ c a d v w, Q (.panic c) (a.put d v) w → Q (.panic c) a w) :
    ∀ (t : PT) (listed : Array Bool) (a : Act) (w : World), S w → t.ok md ops listed = true → wpPT S P ops Q t a w → wpAnyS S P md ops Q t.depth listed a w
  | .done, listed, a, w, _, hB, h => ⟨by simpa [PT.ok] using hB, h⟩
  | .flt i t, listed, a, w, hS, hB, h => by
    simp only [PT.ok, Bool.and_eq_true] at hB
    obtain ⟨⟨hr, hf⟩, hB'⟩ := hB
    obtain ⟨o, v, ho, hy, h'⟩ := h
    exact wpAnyS_first ho (Region.noSelect_spec hsel) (fun c a w => hQ c a o.dst v w) t.depth listed a w hS (Region.free_spec ho hf) (by simpa using hr) hy (wpAnyS_tree hsel hQ t _ _ _ hS hB' h')
  | .one i t, listed, a, w, hS, hB, h => by
    simp only [PT.ok, Bool.and_eq_true, decide_eq_true_eq] at hB
    refine ⟨by rw [hB.1]; simp, fun j hj => ?_⟩
    rw [hB.1] at hj
    have hji : j = i := by simpa using hj
    subst hji
    exact wpOp_mono (fun a' w' h3 => ⟨h3.1, wpAnyS_tree hsel hQ t _ a' w' h3.1 hB.2 h3.2⟩) h
  | .two i k t u, listed, a, w, hS, hB, h => by
    simp only [PT.ok, Bool.and_eq_true, decide_eq_true_eq] at hB
    obtain ⟨⟨⟨hr, hd⟩, h1⟩, h2⟩ := hB
    refine ⟨by rw [hr]; simp, fun j hj => ?_⟩
    rw [hr] at hj
    have hjik : j = i ∨ j = k := by simpa using hj
    rcases hjik with rfl | rfl
    · exact wpOp_mono (fun a' w' h3 => ⟨h3.1, wpAnyS_tree hsel hQ t _ a' w' h3.1 h1 h3.2⟩) h.1
    · refine wpOp_mono (fun a' w' h3 => ⟨h3.1, ?_⟩) h.2
      rw [hd]
      exact wpAnyS_tree hsel hQ u _ a' w' h3.1 h2 h3.2
  | .three i j k t u v, listed, a, w, hS, hB, h => by
    simp only [PT.ok, Bool.and_eq_true, decide_eq_true_eq] at hB
    obtain ⟨⟨⟨⟨hr, hd, hd2⟩, h1⟩, h2⟩, h3⟩ := hB
    refine ⟨by rw [hr]; simp, fun q hq => ?_⟩
    rw [hr] at hq
    have hqs : q = i ∨ q = j ∨ q = k := by simpa using hq
    rcases hqs with rfl | rfl | rfl
    · exact wpOp_mono (fun a' w' h3' => ⟨h3'.1, wpAnyS_tree hsel hQ t _ a' w' h3'.1 h1 h3'.2⟩) h.1
    · refine wpOp_mono (fun a' w' h3' => ⟨h3'.1, ?_⟩) h.2.1
      rw [hd]
      exact wpAnyS_tree hsel hQ u _ a' w' h3'.1 h2 h3'.2
    · refine wpOp_mono (fun a' w' h3' => ⟨h3'.1, ?_⟩) h.2.2
      rw [hd2]
      exact wpAnyS_tree hsel hQ v _ a' w' h3'.1 h3 h3'.2

theorem wp_region_tree {id : Nat} {a : Act} {w : World} {l : List Oper} (t : PT) (hm : P.follows .mixedOrders = true) (hB : (Region.noSelect l.toArray && decide (t.depth = l.toArray.size) && t.ok .any l.toArray (Array.replicate l.toArray.size false)) = true)
    (h : ∀ W : World, Hid (W = w.drew) → wpPT (fun x => Below W.heap.size W x) P l.toArray (NoPanic Q) t a W) : (Code.region id l.toArray true).wp P Q a w := by
  refine wp_region_noPanic ?_
  have hQ : ∀ c a d v w, NoPanic Q (.panic c) (a.put d v) w → NoPanic Q (.panic c) a w := fun _ _ _ _ _ h => h
  simp only [Bool.and_eq_true, decide_eq_true_eq] at hB
  obtain ⟨⟨hsel, hd⟩, hok⟩ := hB
  refine wp_region_any hm ?_
  have H := wpAny_of_S _ _ _ _ (wpAnyS_tree (md := .any) hsel hQ t _ a w.drew (Below.refl _ _) hok (h w.drew (Lib.hid rfl)))
  rw [hd] at H
  exact H

/-! ### the steps -/
section
variable {W : World} {t u : PT} {a : Act} {w : World} {i j : Nat} {o : Oper}
theorem wpPT_float {v : Value} (hi : ops[i]? = some o) (hw : Region.wanted o (yielded ops a.tmps) = true)
    (hy : ∀ w' : World, (∀ p, (W.cell? p).isSome = true → w'.cell? p = W.cell? p) → (execOp a.eval o).run P w' = .ok (.value v) w') (h : ∀ K : Act → Prop, (∀ a', wpPT (fun x => Below W.heap.size W x) P ops Q t a' w → K a') → K (a.put o.dst v)) : wpPT (fun x => Below W.heap.size W x) P ops Q (.flt i t) a w :=
  ⟨o, v, hi, .inl ⟨hw, fun w' hb => hy w' (fun p hp => by
    have hlt : p.block < W.heap.size := by
      cases hc : W.cell? p with
      | none => rw [hc] at hp; cases hp
      | some u => exact block_lt_of_cell hc
    exact hb.cell hlt)⟩, h _ (fun _ h => h)⟩
theorem wpPT_skip (hi : ops[i]? = some o) (hw : Region.wanted o (yielded ops a.tmps) = false) (h : ∀ K : Act → Prop, (∀ a', wpPT S P ops Q t a' w → K a') → K (a.put o.dst undef)) : wpPT S P ops Q (.flt i t) a w :=
  ⟨o, undef, hi, .inr ⟨hw, rfl⟩, h _ (fun _ h => h)⟩
theorem wpOp_step {K0 : Act → World → Prop} (hi : ops[i]? = some o) (hw : Region.wanted o (yielded ops a.tmps) = true)
    (h : ∀ K : Act → World → Prop, (∀ a' w', S w' → K0 a' w' → K a' w') → o.wp P a w K Q) : wpOp P ops Q i (fun a' w' => S w' ∧ K0 a' w') a w := by
  unfold wpOp
  simp only [hi, hw, if_true]
  exact .inl (h _ (fun a' w' hb hp => ⟨hb, hp⟩))
theorem wpPT_one (hi : ops[i]? = some o) (hw : Region.wanted o (yielded ops a.tmps) = true)
    (h : ∀ K : Act → World → Prop, (∀ a' w', S w' → wpPT S P ops Q t a' w' → K a' w') → o.wp P a w K Q) : wpPT S P ops Q (.one i t) a w := wpOp_step hi hw h
theorem wpPT_two {o' : Oper} (hi : ops[i]? = some o) (hw : Region.wanted o (yielded ops a.tmps) = true) (hj : ops[j]? = some o') (hw' : Region.wanted o' (yielded ops a.tmps) = true)
    (h : ∀ K : Act → World → Prop, (∀ a' w', S w' → wpPT S P ops Q t a' w' → K a' w') → o.wp P a w K Q)
    (h' : ∀ K : Act → World → Prop, (∀ a' w', S w' → wpPT S P ops Q u a' w' → K a' w') → o'.wp P a w K Q) : wpPT S P ops Q (.two i j t u) a w := ⟨wpOp_step hi hw h, wpOp_step hj hw' h'⟩
theorem wpPT_three {v : PT} {k : Nat} {o' o'' : Oper} (hi : ops[i]? = some o) (hw : Region.wanted o (yielded ops a.tmps) = true) (hj : ops[j]? = some o') (hw' : Region.wanted o' (yielded ops a.tmps) = true) (hk : ops[k]? = some o'') (hw'' : Region.wanted o'' (yielded ops a.tmps) = true)
    (h : ∀ K : Act → World → Prop, (∀ a' w', S w' → wpPT S P ops Q t a' w' → K a' w') → o.wp P a w K Q)
    (h' : ∀ K : Act → World → Prop, (∀ a' w', S w' → wpPT S P ops Q u a' w' → K a' w') → o'.wp P a w K Q)
    (h'' : ∀ K : Act → World → Prop, (∀ a' w', S w' → wpPT S P ops Q v a' w' → K a' w') → o''.wp P a w K Q) : wpPT S P ops Q (.three i j k t u v) a w := ⟨wpOp_step hi hw h, wpOp_step hj hw' h', wpOp_step hk hw'' h''⟩
theorem wpPT_done (h : Q .normal a w) : wpPT S P ops Q .done a w := h
end
end
end Go.Proofs.Ytmgockkjoogcaaa

namespace Go.Proofs.Ytmgockkjoogcaaa
open Go.RowKit
set_option linter.unusedVariables false
theorem rows_len_pos {n : Nat} {xss : List (List Nat)} (h : Good n xss) (hn : 0 < n) : ∀ xs ∈ xss, 0 < xs.length := fun xs hx => by
  have := (h.row xs hx).2.1; omega
theorem RowsAt.farZ {w : World} {C : Option Addr} {p g : Nat} {t : TypeId} {xss : List (List Nat)} {N : Int} (h : RowsAt w C p xss) (hM : MatB w g t N none 0 0) (hl : ∀ xs ∈ xss, 0 < xs.length) : 0 < p → ∀ ad, C = some ad → ad.block ≠ g := by
  intro h0 ad e
  obtain ⟨b, off, B, m, d, xs, e2, _, hx, hc, hr⟩ := h.at_ h0
  rw [e] at e2
  cases e2
  intro hb
  have hb' : b = g := hb
  subst hb'
  rw [Blk.cell hM] at hc
  match off + 0, hc with
  | 0, hc => simp at hc
  | 1, hc =>
    simp at hc
    obtain ⟨rfl, rfl, rfl⟩ := hc
    have h1 := hr.len
    have := hl xs (List.mem_of_getElem? hx)
    omega
  | k + 2, hc => simp at hc
set_option maxRecDepth 100000 in
set_option maxHeartbeats 2000000 in
theorem ref13_Edges (v : FV) (f : Fac) (w : World) (hF : FactsAt w v f) (hm : v.m ≤ 4096) (hw : WholeF f) :
    Calls Try.prog 13 #[.agg #[.slice v.A v.n v.c, .slice v.B v.m v.d, .slice v.C v.k v.e]] w (RetMat1F (v.m : Int) (edgeM f) w) := by
  have hil := hF.is.len
  have gp := poM_good (is := f.items) (by omega)
  have gq := rfM_good hw (by omega)
  rw [hil] at gp gq
  obtain ⟨pm, hpm⟩ : ∃ m, m = poM f.items := ⟨_, rfl⟩
  obtain ⟨rm, hrm⟩ : ∃ m, m = rfM f.items.length f.frm := ⟨_, rfl⟩
  rw [hil] at hrm
  have cPo := fun W hW => ref12_Po v f W hW hm
  have cRf := fun W hW => ref13_Rf v f W hW hm hw
  unfold edgeM
  rw [hil] at cRf ⊢
  rw [← hpm] at gp cPo ⊢
  rw [← hrm] at gq cRf ⊢
  have hpl := Lib.hid gp.1.len
  have hrl := Lib.hid gq.1.len
  have hp24 := Lib.hid (show ∀ (i : Nat) (xs : List Nat), pm[i]? = some xs → xs.length ≤ 1024 from fun i xs h => Nat.le_trans (gp.1.small xs (List.mem_of_getElem? h)) (by decide))
  have hr24 := Lib.hid (show ∀ (i : Nat) (xs : List Nat), rm[i]? = some xs → xs.length ≤ 1024 from fun i xs h => Nat.le_trans (gq.1.small xs (List.mem_of_getElem? h)) (by decide))
  replace cPo := Lib.hid cPo
  replace cRf := Lib.hid cRf
  clear gp gq hpm hrm hil
  -- a call with facts v: they are boxed at g, the world is W0 then
  have hB0 := Lib.hid (FBox.new hF)
  obtain ⟨g, hg⟩ : ∃ g, g = w.heap.size := ⟨_, rfl⟩
  obtain ⟨W0, hW0⟩ : ∃ W, W = w.alloc (.cells #[.slice v.A v.n v.c, .slice v.B v.m v.d, .slice v.C v.k v.e] 29) := ⟨_, rfl⟩
  rw [← hW0, ← hg] at hB0
  clear hF
  obtain ⟨gr, hgr⟩ : ∃ g, g = W0.heap.size := ⟨_, rfl⟩
  obtain ⟨W1, hW1⟩ : ∃ W, W = W0.alloc (.cells #[.int .i64 0, .slice none 0 0] 35) := ⟨_, rfl⟩
  have b1 : Below W0.heap.size W0 W1 := by rw [hW1]; exact (Below.refl _ _).alloc (Nat.le_refl _) _
  have kR : MatB W1 gr 35 0 none 0 0 := by rw [hW1, hgr]; exact MatB.new W0 _
  have hB1 := Lib.hid (hB0.out.later b1)
  have hgw := Lib.hid (show w.heap.size ≤ gr from by rw [hgr]; exact hB0.out.o.size)
  go_enter Try.func13, Try.ntmps13
  go_wp2_with (first | (rw [← hW0, ← hg]; clear hW0 hg) | (rw [← hW1, ← hgr]; clear hW1; replace hgr := Lib.hid hgr))
  refine wp_region_tree (.flt 0 (.flt 2 (.two 1 8 (.two 3 8 (.two 4 8 (.flt 5 (.flt 6 (.flt 7 (.one 8 (.one 9 (.flt 10 .done)))))) (.one 4 (.flt 5 (.flt 6 (.flt 7 (.one 9 (.flt 10 .done))))))) (.one 3 (.one 4 (.flt 5 (.flt 6 (.flt 7 (.one 9 (.flt 10 .done)))))))) (.one 1 (.one 3 (.one 4 (.flt 5 (.flt 6 (.flt 7 (.one 9 (.flt 10 .done))))))))))) (by kernel_rfl) (by kernel_rfl) (fun U hU => ?_)
  have hkR := Lib.hid (show MatB U gr 35 0 none 0 0 from by rw [hU.out]; exact kR.below_ (Below.refl _ _).drew)
  have hBU := Lib.hid (show FBox w g v f U from by rw [hU.out]; exact hB1.out.later (Below.refl _ _).drew)
  clear hU hB1 b1 kR hB0
  have bW : Below U.heap.size U U := Below.refl _ _
  have p0 := hBU.out.c0
  have p1 := hBU.out.c1
  have p2 := hBU.out.c2
  iterate 2
    refine wpPT_float (v := ?_) rfl (by rfl) (fun w' hw' => ?_) (fun K hK => ?_)
    rotate_left
    · (go_simp; try with_reducible rfl)
    go_simp
    refine hK _ ?_
    clear hK K
  clear p0 p1 p2
  refine wpPT_two rfl (by rfl) rfl (by rfl) (fun K hK => ?_) (fun K hK => ?_)
  · skip
    go_simp
    -- a call's matrix r1 : RowsAt, in the world U; the new world is v1
    refine (cPo.out U (hBU.out.later bW).f).mono ?_; rintro e v1 ⟨A1, n1, c1, rfl, r1, hc1, b, -⟩
    obtain rfl : n1 = v.m := by rw [← r1.len]; exact hpl.out
    replace bW := below_trans2 bW b
    refine hK _ _ bW ?_
    clear hK K
    replace r1 := Lib.hid r1
    clear b
    refine wpPT_two rfl (by rfl) rfl (by rfl) (fun K hK => ?_) (fun K hK => ?_)
    · skip
      go_simp
      -- a call's matrix r2 : RowsAt, in the world v1; the new world is v2
      refine (cRf.out v1 (hBU.out.later bW).f).mono ?_; rintro e v2 ⟨A2, n2, c2, rfl, r2, hc2, b, -⟩
      obtain rfl : n2 = v.m := by rw [← r2.len]; exact hrl.out
      replace bW := below_trans2 bW b
      refine hK _ _ bW ?_
      clear hK K
      replace r2 := Lib.hid r2
      replace r1 := Lib.hid (r1.out.below b)
      clear b
      refine wpPT_two rfl (by rfl) rfl (by rfl) (fun K hK => ?_) (fun K hK => ?_)
      · skip
        have cE := Lib.hid (ref3_OrF A1 A2 v.m c1 c2 pm rm v2 r1.out r2.out hm hp24.out hr24.out)
        go_simp
        refine cE.out.mono ?_; rintro e v3 ⟨A3, n3, c3, rfl, r3, hc3, b, hfar⟩
        obtain rfl : n3 = v.m := by rw [← r3.len, orM_len]; exact hpl.out
        have hfz3 := hfar
        replace hfar : ∀ ad, A3 = some ad → U.heap.size ≤ ad.block := fun ad e => Nat.le_trans bW.size (hfar ad e)
        replace bW := below_trans2 bW b
        refine hK _ _ bW ?_
        clear hK K cE r1 r2
        clear b
        iterate 3
          refine wpPT_float (v := ?_) rfl (by rfl) (fun w' hw' => ?_) (fun K hK => ?_)
          rotate_left
          · (go_simp; try with_reducible rfl)
          go_simp
          refine hK _ ?_
          clear hK K
        refine wpPT_one rfl (by rfl) (fun K hK => ?_)
        go_simp
        obtain ⟨M, hM⟩ : ∃ M, M = (World.heap v3).size := ⟨_, rfl⟩
        obtain ⟨v4, hw⟩ : ∃ X : World, X = World.alloc v3 (.cells #[.int .i64 0, .slice none 0 0] 35) := ⟨_, rfl⟩
        rw [← hw, ← hM]
        have b : Below (World.heap v3).size v3 v4 := by rw [hw]; exact below_alloc _ _
        have hUM : U.heap.size ≤ M := by rw [hM]; exact bW.size
        replace bW := below_trans2 bW b
        refine hK _ _ bW ?_
        clear hK K
        have kM := Lib.hid (show MatB v4 M 35 0 none 0 0 from by rw [hw, hM]; exact MatB.new _ _)
        have hne : 0 < v.m → ∀ ad, A3 = some ad → ad.block ≠ M := fun h0 ad e => by have := r3.block_lt h0 ad e; omega
        replace r3 := r3.below b
        clear b
        clear hw hM
        -- M holds the zero matrix in v4; the rows lie apart from it (hne)
        have f0 := kM.out.c0
        have f1 := kM.out.c1
        have g0 := kM.out.frozen 0
        have g1 := kM.out.frozen 1
        refine wpPT_one rfl (by rfl) (fun K hK => ?_)
        go_simp
        obtain ⟨wz, hw⟩ : ∃ X : World, X = (World.setCell v4 ⟨M, 0, none⟩ (.int .i64 (v.m : Int))).setCell ⟨M, 1, none⟩ (.slice A3 v.m c3) := ⟨_, rfl⟩
        rw [← hw]
        have r4 := Lib.hid (show RowsAt wz A3 v.m (orM pm rm) from by rw [hw]; exact r3.putB kM.out hne _ _)
        have k4 := Lib.hid (show MatB wz M 35 (v.m : Int) A3 v.m c3 from by rw [hw]; exact kM.out.put _ _ _ _)
        replace bW : Below U.heap.size U wz := by rw [hw]; exact (bW.setCell (p := ⟨M, 0, none⟩) hUM _).setCell (p := ⟨M, 1, none⟩) hUM _
        refine hK _ _ bW ?_
        clear hK K f0 f1 g0 g1 hw r3 kM
        iterate 1
          refine wpPT_float (v := ?_) rfl (by rfl) (fun w' hw' => ?_) (fun K hK => ?_)
          rotate_left
          · (go_simp; try with_reducible rfl)
          go_simp
          refine hK _ ?_
          clear hK K
        refine wpPT_done (NoPanic.normal ?_)
        have kR4 := hkR.out.below_ bW
        have m0 := k4.out.c0
        have m1 := k4.out.c1
        have f0 := kR4.c0
        have f1 := kR4.c1
        have g0 := kR4.frozen 0
        have g1 := kR4.frozen 1
        have hcc := kR4.two (.int .i64 (v.m : Int)) (.slice A3 v.m c3)
        have hc1 := Lib.hid hcc.1
        have hc2 := Lib.hid hcc.2
        have hrf := Lib.hid (r4.out.putB kR4 (fun h0 ad e hb => by have := hfar ad e; have := hkR.out.lt; omega) (.int .i64 (v.m : Int)) (.slice A3 v.m c3))
        have hbf := Lib.hid (((below_trans2 hBU.out.o bW).setCell (p := ⟨gr, 0, none⟩) hgw.out (.int .i64 (v.m : Int))).setCell (p := ⟨gr, 1, none⟩) hgw.out (.slice A3 v.m c3))
        have hfz := Lib.hid (show ∀ ad, A3 = some ad → w.heap.size ≤ ad.block from fun ad e => Nat.le_trans hBU.out.o.size (hfar ad e))
        clear hcc bW hfar hne k4 r4
        go_wp2_with fail
        exact bodyPost_ret (v := .agg #[.int .i64 (v.m : Int), .slice A3 v.m c3]) (by simp [results, Try.results13, go_sem, hc1.out, hc2.out]) rfl ⟨A3, v.m, c3, rfl, hrf.out, hc3, hbf.out, hfz.out⟩
      · skip
        go_simp
        obtain ⟨M, hM⟩ : ∃ M, M = (World.heap v2).size := ⟨_, rfl⟩
        obtain ⟨v5, hw⟩ : ∃ X : World, X = World.alloc v2 (.cells #[.int .i64 0, .slice none 0 0] 35) := ⟨_, rfl⟩
        rw [← hw, ← hM]
        have b : Below (World.heap v2).size v2 v5 := by rw [hw]; exact below_alloc _ _
        have hUM : U.heap.size ≤ M := by rw [hM]; exact bW.size
        replace bW := below_trans2 bW b
        refine hK _ _ bW ?_
        clear hK K
        have kM := Lib.hid (show MatB v5 M 35 0 none 0 0 from by rw [hw, hM]; exact MatB.new _ _)
        replace r1 := Lib.hid (r1.out.below b)
        replace r2 := Lib.hid (r2.out.below b)
        clear b
        clear hw hM
        refine wpPT_one rfl (by rfl) (fun K hK => ?_)
        have cE := Lib.hid (ref3_OrF A1 A2 v.m c1 c2 pm rm v5 r1.out r2.out hm hp24.out hr24.out)
        go_simp
        refine cE.out.mono ?_; rintro e v6 ⟨A3, n3, c3, rfl, r3, hc3, b, hfar⟩
        obtain rfl : n3 = v.m := by rw [← r3.len, orM_len]; exact hpl.out
        have hfz3 := hfar
        replace hfar : ∀ ad, A3 = some ad → U.heap.size ≤ ad.block := fun ad e => Nat.le_trans bW.size (hfar ad e)
        replace bW := below_trans2 bW b
        refine hK _ _ bW ?_
        clear hK K cE r1 r2
        have hne : 0 < v.m → ∀ ad, A3 = some ad → ad.block ≠ M := fun h0 ad e => by have := hfz3 ad e; have := kM.out.lt; omega
        replace kM := Lib.hid (kM.out.below_ b)
        clear b
        iterate 3
          refine wpPT_float (v := ?_) rfl (by rfl) (fun w' hw' => ?_) (fun K hK => ?_)
          rotate_left
          · (go_simp; try with_reducible rfl)
          go_simp
          refine hK _ ?_
          clear hK K
        -- M holds the zero matrix in v6; the rows lie apart from it (hne)
        have f0 := kM.out.c0
        have f1 := kM.out.c1
        have g0 := kM.out.frozen 0
        have g1 := kM.out.frozen 1
        refine wpPT_one rfl (by rfl) (fun K hK => ?_)
        go_simp
        obtain ⟨wz, hw⟩ : ∃ X : World, X = (World.setCell v6 ⟨M, 0, none⟩ (.int .i64 (v.m : Int))).setCell ⟨M, 1, none⟩ (.slice A3 v.m c3) := ⟨_, rfl⟩
        rw [← hw]
        have r4 := Lib.hid (show RowsAt wz A3 v.m (orM pm rm) from by rw [hw]; exact r3.putB kM.out hne _ _)
        have k4 := Lib.hid (show MatB wz M 35 (v.m : Int) A3 v.m c3 from by rw [hw]; exact kM.out.put _ _ _ _)
        replace bW : Below U.heap.size U wz := by rw [hw]; exact (bW.setCell (p := ⟨M, 0, none⟩) hUM _).setCell (p := ⟨M, 1, none⟩) hUM _
        refine hK _ _ bW ?_
        clear hK K f0 f1 g0 g1 hw r3 kM
        iterate 1
          refine wpPT_float (v := ?_) rfl (by rfl) (fun w' hw' => ?_) (fun K hK => ?_)
          rotate_left
          · (go_simp; try with_reducible rfl)
          go_simp
          refine hK _ ?_
          clear hK K
        refine wpPT_done (NoPanic.normal ?_)
        have kR4 := hkR.out.below_ bW
        have m0 := k4.out.c0
        have m1 := k4.out.c1
        have f0 := kR4.c0
        have f1 := kR4.c1
        have g0 := kR4.frozen 0
        have g1 := kR4.frozen 1
        have hcc := kR4.two (.int .i64 (v.m : Int)) (.slice A3 v.m c3)
        have hc1 := Lib.hid hcc.1
        have hc2 := Lib.hid hcc.2
        have hrf := Lib.hid (r4.out.putB kR4 (fun h0 ad e hb => by have := hfar ad e; have := hkR.out.lt; omega) (.int .i64 (v.m : Int)) (.slice A3 v.m c3))
        have hbf := Lib.hid (((below_trans2 hBU.out.o bW).setCell (p := ⟨gr, 0, none⟩) hgw.out (.int .i64 (v.m : Int))).setCell (p := ⟨gr, 1, none⟩) hgw.out (.slice A3 v.m c3))
        have hfz := Lib.hid (show ∀ ad, A3 = some ad → w.heap.size ≤ ad.block from fun ad e => Nat.le_trans hBU.out.o.size (hfar ad e))
        clear hcc bW hfar hne k4 r4
        go_wp2_with fail
        exact bodyPost_ret (v := .agg #[.int .i64 (v.m : Int), .slice A3 v.m c3]) (by simp [results, Try.results13, go_sem, hc1.out, hc2.out]) rfl ⟨A3, v.m, c3, rfl, hrf.out, hc3, hbf.out, hfz.out⟩
    · skip
      go_simp
      obtain ⟨M, hM⟩ : ∃ M, M = (World.heap v1).size := ⟨_, rfl⟩
      obtain ⟨v7, hw⟩ : ∃ X : World, X = World.alloc v1 (.cells #[.int .i64 0, .slice none 0 0] 35) := ⟨_, rfl⟩
      rw [← hw, ← hM]
      have b : Below (World.heap v1).size v1 v7 := by rw [hw]; exact below_alloc _ _
      have hUM : U.heap.size ≤ M := by rw [hM]; exact bW.size
      replace bW := below_trans2 bW b
      refine hK _ _ bW ?_
      clear hK K
      have kM := Lib.hid (show MatB v7 M 35 0 none 0 0 from by rw [hw, hM]; exact MatB.new _ _)
      replace r1 := Lib.hid (r1.out.below b)
      clear b
      clear hw hM
      refine wpPT_one rfl (by rfl) (fun K hK => ?_)
      go_simp
      -- a call's matrix r2 : RowsAt, in the world v7; the new world is v8
      refine (cRf.out v7 (hBU.out.later bW).f).mono ?_; rintro e v8 ⟨A2, n2, c2, rfl, r2, hc2, b, -⟩
      obtain rfl : n2 = v.m := by rw [← r2.len]; exact hrl.out
      replace bW := below_trans2 bW b
      refine hK _ _ bW ?_
      clear hK K
      replace r2 := Lib.hid r2
      replace r1 := Lib.hid (r1.out.below b)
      replace kM := Lib.hid (kM.out.below_ b)
      clear b
      refine wpPT_one rfl (by rfl) (fun K hK => ?_)
      have cE := Lib.hid (ref3_OrF A1 A2 v.m c1 c2 pm rm v8 r1.out r2.out hm hp24.out hr24.out)
      go_simp
      refine cE.out.mono ?_; rintro e v9 ⟨A3, n3, c3, rfl, r3, hc3, b, hfar⟩
      obtain rfl : n3 = v.m := by rw [← r3.len, orM_len]; exact hpl.out
      have hfz3 := hfar
      replace hfar : ∀ ad, A3 = some ad → U.heap.size ≤ ad.block := fun ad e => Nat.le_trans bW.size (hfar ad e)
      replace bW := below_trans2 bW b
      refine hK _ _ bW ?_
      clear hK K cE r1 r2
      have hne : 0 < v.m → ∀ ad, A3 = some ad → ad.block ≠ M := fun h0 ad e => by have := hfz3 ad e; have := kM.out.lt; omega
      replace kM := Lib.hid (kM.out.below_ b)
      clear b
      iterate 3
        refine wpPT_float (v := ?_) rfl (by rfl) (fun w' hw' => ?_) (fun K hK => ?_)
        rotate_left
        · (go_simp; try with_reducible rfl)
        go_simp
        refine hK _ ?_
        clear hK K
      -- M holds the zero matrix in v9; the rows lie apart from it (hne)
      have f0 := kM.out.c0
      have f1 := kM.out.c1
      have g0 := kM.out.frozen 0
      have g1 := kM.out.frozen 1
      refine wpPT_one rfl (by rfl) (fun K hK => ?_)
      go_simp
      obtain ⟨wz, hw⟩ : ∃ X : World, X = (World.setCell v9 ⟨M, 0, none⟩ (.int .i64 (v.m : Int))).setCell ⟨M, 1, none⟩ (.slice A3 v.m c3) := ⟨_, rfl⟩
      rw [← hw]
      have r4 := Lib.hid (show RowsAt wz A3 v.m (orM pm rm) from by rw [hw]; exact r3.putB kM.out hne _ _)
      have k4 := Lib.hid (show MatB wz M 35 (v.m : Int) A3 v.m c3 from by rw [hw]; exact kM.out.put _ _ _ _)
      replace bW : Below U.heap.size U wz := by rw [hw]; exact (bW.setCell (p := ⟨M, 0, none⟩) hUM _).setCell (p := ⟨M, 1, none⟩) hUM _
      refine hK _ _ bW ?_
      clear hK K f0 f1 g0 g1 hw r3 kM
      iterate 1
        refine wpPT_float (v := ?_) rfl (by rfl) (fun w' hw' => ?_) (fun K hK => ?_)
        rotate_left
        · (go_simp; try with_reducible rfl)
        go_simp
        refine hK _ ?_
        clear hK K
      refine wpPT_done (NoPanic.normal ?_)
      have kR4 := hkR.out.below_ bW
      have m0 := k4.out.c0
      have m1 := k4.out.c1
      have f0 := kR4.c0
      have f1 := kR4.c1
      have g0 := kR4.frozen 0
      have g1 := kR4.frozen 1
      have hcc := kR4.two (.int .i64 (v.m : Int)) (.slice A3 v.m c3)
      have hc1 := Lib.hid hcc.1
      have hc2 := Lib.hid hcc.2
      have hrf := Lib.hid (r4.out.putB kR4 (fun h0 ad e hb => by have := hfar ad e; have := hkR.out.lt; omega) (.int .i64 (v.m : Int)) (.slice A3 v.m c3))
      have hbf := Lib.hid (((below_trans2 hBU.out.o bW).setCell (p := ⟨gr, 0, none⟩) hgw.out (.int .i64 (v.m : Int))).setCell (p := ⟨gr, 1, none⟩) hgw.out (.slice A3 v.m c3))
      have hfz := Lib.hid (show ∀ ad, A3 = some ad → w.heap.size ≤ ad.block from fun ad e => Nat.le_trans hBU.out.o.size (hfar ad e))
      clear hcc bW hfar hne k4 r4
      go_wp2_with fail
      exact bodyPost_ret (v := .agg #[.int .i64 (v.m : Int), .slice A3 v.m c3]) (by simp [results, Try.results13, go_sem, hc1.out, hc2.out]) rfl ⟨A3, v.m, c3, rfl, hrf.out, hc3, hbf.out, hfz.out⟩
  · skip
    go_simp
    obtain ⟨M, hM⟩ : ∃ M, M = (World.heap U).size := ⟨_, rfl⟩
    obtain ⟨v10, hw⟩ : ∃ X : World, X = World.alloc U (.cells #[.int .i64 0, .slice none 0 0] 35) := ⟨_, rfl⟩
    rw [← hw, ← hM]
    have b : Below (World.heap U).size U v10 := by rw [hw]; exact below_alloc _ _
    have hUM : U.heap.size ≤ M := by rw [hM]; exact bW.size
    replace bW := below_trans2 bW b
    refine hK _ _ bW ?_
    clear hK K
    have kM := Lib.hid (show MatB v10 M 35 0 none 0 0 from by rw [hw, hM]; exact MatB.new _ _)
    clear b
    clear hw hM
    refine wpPT_one rfl (by rfl) (fun K hK => ?_)
    go_simp
    -- a call's matrix r1 : RowsAt, in the world v10; the new world is v11
    refine (cPo.out v10 (hBU.out.later bW).f).mono ?_; rintro e v11 ⟨A1, n1, c1, rfl, r1, hc1, b, -⟩
    obtain rfl : n1 = v.m := by rw [← r1.len]; exact hpl.out
    replace bW := below_trans2 bW b
    refine hK _ _ bW ?_
    clear hK K
    replace r1 := Lib.hid r1
    replace kM := Lib.hid (kM.out.below_ b)
    clear b
    refine wpPT_one rfl (by rfl) (fun K hK => ?_)
    go_simp
    -- a call's matrix r2 : RowsAt, in the world v11; the new world is v12
    refine (cRf.out v11 (hBU.out.later bW).f).mono ?_; rintro e v12 ⟨A2, n2, c2, rfl, r2, hc2, b, -⟩
    obtain rfl : n2 = v.m := by rw [← r2.len]; exact hrl.out
    replace bW := below_trans2 bW b
    refine hK _ _ bW ?_
    clear hK K
    replace r2 := Lib.hid r2
    replace kM := Lib.hid (kM.out.below_ b)
    replace r1 := Lib.hid (r1.out.below b)
    clear b
    refine wpPT_one rfl (by rfl) (fun K hK => ?_)
    have cE := Lib.hid (ref3_OrF A1 A2 v.m c1 c2 pm rm v12 r1.out r2.out hm hp24.out hr24.out)
    go_simp
    refine cE.out.mono ?_; rintro e v13 ⟨A3, n3, c3, rfl, r3, hc3, b, hfar⟩
    obtain rfl : n3 = v.m := by rw [← r3.len, orM_len]; exact hpl.out
    have hfz3 := hfar
    replace hfar : ∀ ad, A3 = some ad → U.heap.size ≤ ad.block := fun ad e => Nat.le_trans bW.size (hfar ad e)
    replace bW := below_trans2 bW b
    refine hK _ _ bW ?_
    clear hK K cE r1 r2
    have hne : 0 < v.m → ∀ ad, A3 = some ad → ad.block ≠ M := fun h0 ad e => by have := hfz3 ad e; have := kM.out.lt; omega
    replace kM := Lib.hid (kM.out.below_ b)
    clear b
    iterate 3
      refine wpPT_float (v := ?_) rfl (by rfl) (fun w' hw' => ?_) (fun K hK => ?_)
      rotate_left
      · (go_simp; try with_reducible rfl)
      go_simp
      refine hK _ ?_
      clear hK K
    -- M holds the zero matrix in v13; the rows lie apart from it (hne)
    have f0 := kM.out.c0
    have f1 := kM.out.c1
    have g0 := kM.out.frozen 0
    have g1 := kM.out.frozen 1
    refine wpPT_one rfl (by rfl) (fun K hK => ?_)
    go_simp
    obtain ⟨wz, hw⟩ : ∃ X : World, X = (World.setCell v13 ⟨M, 0, none⟩ (.int .i64 (v.m : Int))).setCell ⟨M, 1, none⟩ (.slice A3 v.m c3) := ⟨_, rfl⟩
    rw [← hw]
    have r4 := Lib.hid (show RowsAt wz A3 v.m (orM pm rm) from by rw [hw]; exact r3.putB kM.out hne _ _)
    have k4 := Lib.hid (show MatB wz M 35 (v.m : Int) A3 v.m c3 from by rw [hw]; exact kM.out.put _ _ _ _)
    replace bW : Below U.heap.size U wz := by rw [hw]; exact (bW.setCell (p := ⟨M, 0, none⟩) hUM _).setCell (p := ⟨M, 1, none⟩) hUM _
    refine hK _ _ bW ?_
    clear hK K f0 f1 g0 g1 hw r3 kM
    iterate 1
      refine wpPT_float (v := ?_) rfl (by rfl) (fun w' hw' => ?_) (fun K hK => ?_)
      rotate_left
      · (go_simp; try with_reducible rfl)
      go_simp
      refine hK _ ?_
      clear hK K
    refine wpPT_done (NoPanic.normal ?_)
    have kR4 := hkR.out.below_ bW
    have m0 := k4.out.c0
    have m1 := k4.out.c1
    have f0 := kR4.c0
    have f1 := kR4.c1
    have g0 := kR4.frozen 0
    have g1 := kR4.frozen 1
    have hcc := kR4.two (.int .i64 (v.m : Int)) (.slice A3 v.m c3)
    have hc1 := Lib.hid hcc.1
    have hc2 := Lib.hid hcc.2
    have hrf := Lib.hid (r4.out.putB kR4 (fun h0 ad e hb => by have := hfar ad e; have := hkR.out.lt; omega) (.int .i64 (v.m : Int)) (.slice A3 v.m c3))
    have hbf := Lib.hid (((below_trans2 hBU.out.o bW).setCell (p := ⟨gr, 0, none⟩) hgw.out (.int .i64 (v.m : Int))).setCell (p := ⟨gr, 1, none⟩) hgw.out (.slice A3 v.m c3))
    have hfz := Lib.hid (show ∀ ad, A3 = some ad → w.heap.size ≤ ad.block from fun ad e => Nat.le_trans hBU.out.o.size (hfar ad e))
    clear hcc bW hfar hne k4 r4
    go_wp2_with fail
    exact bodyPost_ret (v := .agg #[.int .i64 (v.m : Int), .slice A3 v.m c3]) (by simp [results, Try.results13, go_sem, hc1.out, hc2.out]) rfl ⟨A3, v.m, c3, rfl, hrf.out, hc3, hbf.out, hfz.out⟩
set_option maxRecDepth 100000 in
set_option maxHeartbeats 2000000 in
theorem ref13_Co (v : FV) (f : Fac) (w : World) (hF : FactsAt w v f) (hm : v.m < 64) (hw : WholeF f) :
    Calls Try.prog 15 #[.agg #[.slice v.A v.n v.c, .slice v.B v.m v.d, .slice v.C v.k v.e]] w (RetMat1 (v.m : Int) (coM f) w) := by
  have hil := hF.is.len
  have ge := (edgeM_good hw (by omega)).1
  have gc := (coM_hull hw (by omega)).1
  have cE := Lib.hid (fun W hW => ref13_Edges v f W hW (by omega) hw)
  rw [hil] at ge gc
  have hlc := Lib.hid gc.len
  have hpos := Lib.hid (fun h0 => rows_len_pos gc h0)
  have cC := fun A c W hW => ref4_Close A v.m c (edgeM f) W hW ge hm
  rw [show closeK (edgeM f) v.m = coM f from by unfold coM; rw [hil]] at cC
  have hel := Lib.hid ge.len
  replace cC := Lib.hid cC
  clear ge gc hil
  -- a call with facts v: they are boxed at g, the world is W0 then
  have hB0 := Lib.hid (FBox.new hF)
  obtain ⟨g, hg⟩ : ∃ g, g = w.heap.size := ⟨_, rfl⟩
  obtain ⟨W0, hW0⟩ : ∃ W, W = w.alloc (.cells #[.slice v.A v.n v.c, .slice v.B v.m v.d, .slice v.C v.k v.e] 29) := ⟨_, rfl⟩
  rw [← hW0, ← hg] at hB0
  clear hF
  obtain ⟨gr, hgr⟩ : ∃ g, g = W0.heap.size := ⟨_, rfl⟩
  obtain ⟨W1, hW1⟩ : ∃ W, W = W0.alloc (.cells #[.int .i64 0, .slice none 0 0] 35) := ⟨_, rfl⟩
  have b1 : Below W0.heap.size W0 W1 := by rw [hW1]; exact (Below.refl _ _).alloc (Nat.le_refl _) _
  have kR : MatB W1 gr 35 0 none 0 0 := by rw [hW1, hgr]; exact MatB.new W0 _
  have hB1 := Lib.hid (hB0.out.later b1)
  have hgw := Lib.hid (show w.heap.size ≤ gr from by rw [hgr]; exact hB0.out.o.size)
  have p0 := hB1.out.c0
  have p1 := hB1.out.c1
  have p2 := hB1.out.c2
  clear b1 hB0
  go_enter Try.func15, Try.ntmps15
  go_wp2_with (first | (rw [← hW0, ← hg]; clear hW0 hg) | (rw [← hW1, ← hgr]; clear hW1; replace hgr := Lib.hid hgr))
  refine (cE.out _ hB1.out.f).mono ?_; rintro e w2 ⟨A1, n1, c1, rfl, r1, hc1, b2, -⟩
  obtain rfl : n1 = v.m := by rw [← r1.len]; exact hel.out
  replace kR := kR.below_ b2
  have hB2 := Lib.hid (hB1.out.later b2)
  replace r1 := Lib.hid r1
  clear p0 p1 p2 b2 hB1
  go_wp2_with fail
  refine (cC.out A1 c1 w2 r1.out).mono ?_; rintro e w3 ⟨A3, n3, c3, rfl, r3, hc3, b3⟩
  obtain rfl : n3 = v.m := by rw [← r3.len]; exact hlc.out
  have kR4 := kR.below_ b3
  have hfz := r3.farZ kR4
  have hB3 := Lib.hid (hB2.out.later b3)
  have f0 := kR4.c0
  have f1 := kR4.c1
  have g0 := kR4.frozen 0
  have g1 := kR4.frozen 1
  have hcc := kR4.two (.int .i64 (v.m : Int)) (.slice A3 v.m c3)
  have hd1 := Lib.hid hcc.1
  have hd2 := Lib.hid hcc.2
  have hrf := Lib.hid (r3.putB kR4 (fun h0 => hfz (hpos.out h0) h0) (.int .i64 (v.m : Int)) (.slice A3 v.m c3))
  have hbf := Lib.hid ((hB3.out.o.setCell (p := ⟨gr, 0, none⟩) hgw.out (.int .i64 (v.m : Int))).setCell (p := ⟨gr, 1, none⟩) hgw.out (.slice A3 v.m c3))
  clear hcc hfz kR b3 r3 kR4
  go_wp2_with fail
  exact bodyPost_ret (v := .agg #[.int .i64 (v.m : Int), .slice A3 v.m c3]) (by simp [results, Try.results15, go_sem, hd1.out, hd2.out]) rfl ⟨A3, v.m, c3, rfl, hrf.out, hc3, hbf.out⟩
end Go.Proofs.Ytmgockkjoogcaaa

namespace Go.Proofs.Ytmgockkjoogcaaa
open Go.RowKit
set_option linter.unusedVariables false

theorem own_only {w w' : World} {g base : Nat} {e : TypeId} {size n : Nat} {v : Value} {vs : List Value} (h : w.ownsRow base e size v n vs) (ho : OnlyAt g w w') (hne : v.ownBlock ≠ some g) : w'.ownsRow base e size v n vs := by
  refine ⟨h.1, ?_⟩
  rcases h.2 with ⟨h1, h2⟩ | ⟨k, cap, cur, rfl, hbg, hg, r⟩
  · exact .inl ⟨h1, h2⟩
  · exact .inr ⟨k, cap, cur, rfl, hbg, (ho.block k (fun e => hne (by rw [← e]; rfl))).trans hg, r⟩
theorem Blk.only {w w' : World} {g k : Nat} {t : TypeId} {cs : List Value} (h : Blk w k t cs) (ho : OnlyAt g w w') (hne : k ≠ g) : Blk w' k t cs := (ho.block k hne).trans h
theorem Row.only {w w' : World} {g n : Nat} {A : Option Addr} {xs : List Nat} (h : Row w A n xs) (ho : OnlyAt g w w') (hne : ∀ ad, A = some ad → ad.block ≠ g) : Row w' A n xs := by
  refine ⟨⟨h.1.1, fun hn => ?_⟩, h.2⟩
  obtain ⟨b, off, e, hb, hc⟩ := h.1.2 hn
  have hbg := hne _ e
  exact ⟨b, off, e, by rw [ho.size]; exact hb, fun j u hu => (ho.cell (p := ⟨b, off + j, none⟩) hbg).trans (hc j u hu)⟩
theorem below_only {w w' w0 : World} {g : Nat} (h : Below w0.heap.size w0 w) (ho : OnlyAt g w w') (hg : w0.heap.size ≤ g) : Below w0.heap.size w0 w' := h.trans (ho.below.mono hg)
theorem OwnRows.joined {t : TypeId} {w w' : World} {base : Nat} {vs : List Value} {xss : List (List Nat)} (h : OwnRows t w base vs xss) {i g m c : Nat} {ys : List Nat} (hv : vs[i]? = some (.slice (some ⟨g, 0, none⟩) m c))
    (ho : OnlyAt g w w') (hy : w'.ownsRow base t 1 (.slice (some ⟨g, 0, none⟩) m c) m (ys.map u64v)) (hw : W64 ys) : OwnRows t w' base vs (xss.set i ys) := by
  refine ⟨by simp [h.1], fun k v zs h1 h2 => ?_, h.2.2⟩
  rw [List.getElem?_set] at h2
  by_cases hk : i = k
  · subst hk
    rw [if_pos rfl] at h2
    split at h2
    · injection h2 with h2
      subst h2
      rw [hv] at h1
      injection h1 with h1
      subst h1
      exact ⟨_, _, _, rfl, hy, hw⟩
    · cases h2
  · rw [if_neg hk] at h2
    obtain ⟨A, m', c', e, h3, hx⟩ := h.2.1 k v zs h1 h2
    subst e
    exact ⟨A, m', c', rfl, own_only h3 ho (h.2.2 i k _ _ g hk hv h1 rfl), hx⟩
theorem orK_self (a : List Nat) (k : Nat) : orK a a k = a := by
  unfold orK
  apply List.ext_getElem?
  intro j
  rw [List.getElem?_map]
  by_cases hj : j < a.length
  · rw [List.getElem?_range hj, Option.map_some, Nat.or_self, ite_self, List.getD_eq_getElem?_getD, List.getElem?_eq_getElem hj]; rfl
  · rw [List.getElem?_eq_none (by simpa using hj), List.getElem?_eq_none (by omega)]; rfl
theorem set_self {α : Type} {l : List α} {q : Nat} {r : α} (h : l[q]? = some r) : l.set q r = l := by
  apply List.ext_getElem?
  intro i
  rw [List.getElem?_set]
  by_cases hq : q = i
  · subst hq
    rw [if_pos rfl, if_pos (List.getElem?_eq_some_iff.1 h).1, h]
  · rw [if_neg hq]
theorem and_p2 (x r : Nat) (hx : x < 18446744073709551616) (hr : r < 64) : (bits BinOp.and IntKind.u64 (x : Int) ((p2 r : Nat) : Int) != 0) = x.testBit r := by
  have hp := p2_lt r hr
  rw [u64_and_nat x (p2 r) hx (by omega)]
  unfold p2
  cases h : x.testBit r with
  | true =>
    rw [bne_iff_ne]
    intro h0
    have h1 : x &&& 2 ^ r = 0 := by omega
    have h2 := congrArg (·.testBit r) h1
    simp [h] at h2
  | false =>
    have : x &&& 2 ^ r = 0 := by
      apply Nat.eq_of_testBit_eq
      intro i
      rw [Nat.testBit_and, Nat.testBit_two_pow, Nat.zero_testBit]
      by_cases hi : r = i
      · subst hi; rw [h]; rfl
      · simp [hi]
    rw [this]; rfl

/-- a call that answers words of its own -/
def RetWords (n : Nat) (xs : List Nat) (w : World) (e : Ending) (w' : World) : Prop :=
  ∃ g cap, e = .returned (.slice (some ⟨g, 0, none⟩) n cap) ∧ w'.ownsRow w.heap.size 77 1 (.slice (some ⟨g, 0, none⟩) n cap) n (xs.map u64v) ∧ Below w.heap.size w w'
set_option maxHeartbeats 400000 in
theorem clone_words (b off n c : Nat) (xs : List Nat) (w : World) (hr : Row w (some ⟨b, off, none⟩) n xs) (h0 : 0 < n) (hn : n ≤ 1073741824) :
    Calls Try.prog 66 #[.slice (some ⟨b, off, none⟩) n c] w (RetWords n xs w) := by
  obtain ⟨i0, hi, hz0, hz1, hz2⟩ := info_parts info_u64
  replace hi := Lib.hid hi
  replace hz0 := Lib.hid hz0
  replace hz1 := Lib.hid hz1
  replace hz2 := Lib.hid hz2
  have hlit : (w.alloc (.cells #[] 77)).ownsRow w.heap.size 77 1 (.slice (some ⟨w.heap.size, 0, none⟩) 0 0) 0 [] := by
    have h := World.ownsRow_lit (size := 1) (base := w.heap.size) (e := 77) w #[] 0 (Nat.le_refl _) (by omega) (by simp)
    simpa using h
  have hb0 : Below w.heap.size w (w.alloc (.cells #[] 77)) := below_alloc _ _
  have hrd : Rd (w.alloc (.cells #[] 77)) (some ⟨b, off, none⟩) n (xs.map u64v) := (hr.below hb0).1
  have h1 : ∀ u ∈ xs.map u64v, u.oneCell' = true := fun u hu => by
    obtain ⟨x, _, rfl⟩ := List.mem_map.1 hu; rfl
  clear hr
  have hnil : ∀ W : World, (binOp .eql 60 (.slice (some ⟨b, off, none⟩) n c) (.slice none 0 0)).run Try.prog W = .ok (.bool false) W := fun W => by kernel_rfl
  go_enter Try.func66, Try.ntmps66
  go_wp2_with (at_builtin; refine wpList_append_rd rfl (.tmp 5) (.tmp 6) _ rfl w.heap.size 77 i0 _ 8 Try.underlying60 hi.out hz0.out hz1.out hz2.out rfl _ 0 _ (by rfl) hlit _ n c _ rfl hrd h1 (by unfold maxLen; omega) (by omega) hb0.size ?_; intro v1 w1 hown1 hbb hform; simp only [Nat.zero_add, List.nil_append] at hown1 hform; have hb1 := hb0.trans hbb; obtain ⟨g, cap, rfl⟩ := hform h0; clear hbb hlit hb0 hrd hform)
  go_ret
  exact ⟨_, _, rfl, hown1, hb1⟩

/-- a call that answers rows of its own -/
def RetRowsO (xss : List (List Nat)) (w : World) (e : Ending) (w' : World) : Prop :=
  ∃ vs, e = .returned (.slice (some ⟨w.heap.size, 0, none⟩) xss.length xss.length) ∧ w'.ownsRow w.heap.size 60 1 (.slice (some ⟨w.heap.size, 0, none⟩) xss.length xss.length) xss.length vs ∧ OwnRows 77 w' (w.heap.size + 1) vs xss ∧ Below w.heap.size w w' ∧ w.heap.size + 1 ≤ w'.heap.size
set_option maxHeartbeats 1000000 in
theorem hull_copied (A : Option Addr) (n c : Nat) (a : List (List Nat)) (w : World) (hr : RowsAt w A n a) (hn : n ≤ 4096) (hl : ∀ (k : Nat) (xs : List Nat), a[k]? = some xs → 0 < xs.length ∧ xs.length ≤ 1024) :
    Calls Try.prog 54 #[.slice A n c] w (RetRowsO a w) := by
  have hlen := hr.len
  have hmk := mk_rows .i64 .i64 n n (Nat.le_refl _) (by omega)
  obtain ⟨W1, hW1⟩ : ∃ W1, W1 = w.alloc (.cells (zeros n (.slice none 0 0)) 60) := ⟨_, rfl⟩
  have ha1 : Below w.heap.size w W1 := by rw [hW1]; exact below_alloc _ _
  have hs1 : W1.heap.size = w.heap.size + 1 := by rw [hW1]; simp
  have hown0 : W1.ownsRow w.heap.size 60 1 (.slice (some ⟨w.heap.size, 0, none⟩) n n) n (filled [] n) := by
    have h := own_zeros w n (.slice none 0 0) 60 (by unfold maxLen; omega)
    rw [← hW1] at h
    rw [filled_nil]; exact h
  have hs1' := Lib.hid hs1
  replace hown0 := Lib.hid hown0
  replace ha1 := Lib.hid ha1
  replace hr := Lib.hid hr
  replace hl := Lib.hid hl
  replace hlen := Lib.hid hlen
  clear hs1
  go_enter Try.func54, Try.ntmps54
  go_wp2_with fail
  rw [← hW1]
  clear hW1 hmk
  go_loopw [11] (fun i wr => ∃ vs : List Value, vs.length ≤ n ∧ i = .int .i64 vs.length ∧ Hid (wr.ownsRow w.heap.size 60 1 (.slice (some ⟨w.heap.size, 0, none⟩) n n) n (filled vs n)) ∧ Hid (OwnRows 77 wr (w.heap.size + 1) vs (a.take vs.length)) ∧ Hid (Below w.heap.size w wr) ∧ Hid (w.heap.size + 1 ≤ wr.heap.size)) (fun i _ => n - (intOf i).toNat)
  case atStart => exact ⟨[], Nat.zero_le _, rfl, hown0, Lib.hid (OwnRows.nil _ _ _), ha1, Lib.hid (by rw [hs1'.out]; exact Nat.le_refl _)⟩
  case round =>
    obtain ⟨vs, hk, rfl, hown, hrows, hbr, hsr⟩ := hrel
    clear hown0 ha1
    obtain ⟨k, hke⟩ : ∃ k, k = vs.length := ⟨_, rfl⟩
    rw [← hke] at hk
    rw [← hke]
    by_cases hlt : k < n
    · have hke' := Lib.hid hke
      clear hke
      obtain ⟨b, off, B, m, d, xs, rfl, hbl, hx, hc, hxr⟩ := (hr.out.below hbr.out).at_ hlt
      have hm0 : 0 < m ∧ m ≤ 1024 := by have := hxr.len; have := hl.out k xs hx; omega
      obtain ⟨b2, off2, _, rfl, _, _, _, _⟩ := hxr.at_ hm0.1
      have hC := Lib.hid (clone_words b2 off2 m d xs wr hxr hm0.1 (by omega))
      have hx64 := Lib.hid hxr.2
      have hstep : Hid (a.take (k + 1) = a.take k ++ [xs]) := Lib.hid (by
        rw [List.take_succ_eq_append_getElem (List.getElem?_eq_some_iff.1 hx).1, (List.getElem?_eq_some_iff.1 hx).2])
      have hk0 : (0 : Int) ≤ (k : Int) := by omega
      have hkn : (k : Int) < (n : Int) := by omega
      clear hx hxr hm0
      go_wp2_with fail
      refine hC.out.mono ?_; rintro e w1 ⟨G, q, rfl, ho, hb1⟩
      have hown1 := own_below hown.out hb1
      have hget := filled_get (vs := vs) (n := n) (by rw [← hke'.out]; exact hlt)
      have hcg := hown1.cellAt k (by omega)
      rw [hke'.out, hget, ← hke'.out] at hcg
      have hfg := hown1.frozenAt k
      have hrows1 := Lib.hid (hrows.out.snoc hb1 ho hx64.out hsr.out)
      have hbr1 := Lib.hid (below_trans2 hbr.out hb1)
      have hsr1 := Lib.hid (Nat.le_trans hsr.out hb1.size)
      replace hown1 := Lib.hid hown1
      clear ho hget hown hrows hbr hsr hb1 hc
      go_wp2_with fail
      go_roundw
      case rel =>
        refine ⟨vs ++ [.slice (some ⟨G, 0, none⟩) m q], by have := hke'.out; simp; omega, by rw [List.length_append, ← hke'.out]; simp; try omega, ?_, ?_, ?_, ?_⟩
        · refine Lib.hid ?_
          rw [← filled_set (by rw [← hke'.out]; exact hlt), ← hke'.out]
          exact (hown1.out.stored k _).1
        · refine Lib.hid ?_
          have h := hrows1.out.far (p := ⟨w.heap.size, k, none⟩) (by simp) (.slice (some ⟨G, 0, none⟩) m q)
          rw [← hke'.out] at h
          rw [List.length_append, List.length_singleton, ← hke'.out, hstep.out]
          exact h
        · exact Lib.hid (hbr1.out.setCell (by simp) _)
        · exact Lib.hid (by simpa using hsr1.out)
      case measure => simp [intOf]; omega
    · obtain rfl : n = k := by omega
      have hvn := Lib.hid hke.symm
      clear hlt hke
      go_wp2_with fail
      go_ret
      refine ⟨vs, by rw [hlen.out]; rfl, ?_, ?_, hbr.out, hsr.out⟩
      · have h := hown.out
        rw [filled_all hvn.out] at h
        rw [hlen.out]; exact h
      · have h := hrows.out
        rw [hvn.out, List.take_of_length_le (by rw [hlen.out]; exact Nat.le_refl _)] at h
        exact h

/-- what 'join' does: the words of both, in the first one's place -/
def RetJoinIn (g base n c : Nat) (zs : List Nat) (w : World) (e : Ending) (w' : World) : Prop :=
  e = .returned (.tuple #[]) ∧ w'.ownsRow base 77 1 (.slice (some ⟨g, 0, none⟩) n c) n (zs.map u64v) ∧ OnlyAt g w w'
set_option maxHeartbeats 1000000 in
theorem hull_join (g base n c d : Nat) (B : Option Addr) (xs ys : List Nat) (w : World) (hown : w.ownsRow base 77 1 (.slice (some ⟨g, 0, none⟩) n c) n (xs.map u64v)) (hx : W64 xs) (hs : Row w B n ys)
    (hal : (∀ ad, B = some ad → ad.block ≠ g) ∨ (B = some ⟨g, 0, none⟩ ∧ ys = xs)) (hn : n ≤ 1073741824) :
    Calls Try.prog 56 #[.slice (some ⟨g, 0, none⟩) n c, .slice B n d] w (RetJoinIn g base n c (orR xs ys) w) := by
  have hl : xs.length = n := by have := hown.1; simpa using this
  have hl2 := hs.len
  have hd : ∀ k, xs.getD k 0 < 18446744073709551616 := fun k => getD_w64 hx k
  have hall : orK xs ys n = orR xs ys := by rw [← hl2]; exact orK_all xs ys (by omega)
  have hrow : ∀ (k : Nat) (W : World), W.ownsRow base 77 1 (.slice (some ⟨g, 0, none⟩) n c) n ((orK xs ys k).map u64v) → OnlyAt g w W → Row W B n ys := fun k W h1 h2 => by
    rcases hal with h | ⟨h, h'⟩
    · exact hs.only h2 h
    · subst h h'
      rw [orK_self] at h1
      exact Row.of_own h1 hx
  replace hrow := Lib.hid hrow
  replace hall := Lib.hid hall
  replace hd := Lib.hid hd
  replace hl := Lib.hid hl
  replace hown := Lib.hid hown
  clear hs hal hl2
  go_enter Try.func56, Try.ntmps56
  go_wp2_with fail
  go_loopw [8] (fun i wr => ∃ k : Nat, k ≤ n ∧ i = .int .i64 k ∧ Hid (wr.ownsRow base 77 1 (.slice (some ⟨g, 0, none⟩) n c) n ((orK xs ys k).map u64v)) ∧ Hid (OnlyAt g w wr)) (fun i _ => n - (intOf i).toNat)
  case atStart => exact ⟨0, Nat.zero_le _, rfl, Lib.hid (by rw [orK_zero]; exact hown.out), Lib.hid (OnlyAt.refl _ _)⟩
  case round =>
    obtain ⟨k, hk, rfl, hownr, hor⟩ := hrel
    clear hown
    by_cases hlt : k < n
    · obtain ⟨b, off, y, rfl, hbk, hy, hy64, hc⟩ := (hrow.out k wr hownr.out hor.out).at_ hlt
      have hgx := orK_get xs ys k (by rw [hl.out]; omega)
      have hx64 := hd.out k
      obtain ⟨x, hx'⟩ : ∃ x, x = xs.getD k 0 := ⟨_, rfl⟩
      rw [← hx'] at hgx hx64
      have hcg : wr.cell? ⟨g, k, none⟩ = some (.int .u64 (x : Int)) := by
        rw [hownr.out.cellAt _ (by omega), List.getElem?_map, hgx]; rfl
      have hf := hownr.out.frozenAt k
      have hE := Lib.hid (u64_or_nat x y hx64 hy64)
      have hst := orK_set xs ys k
      rw [← hx', Row.get hy] at hst
      replace hst := Lib.hid hst
      have hk0 : (0 : Int) ≤ (k : Int) := by omega
      have hkn : (k : Int) < (n : Int) := by omega
      clear hgx hy
      replace hx' := Lib.hid hx'
      go_wp2_with fail
      go_roundw
      case rel =>
        refine ⟨k + 1, by omega, by go_num, ?_, Lib.hid (hor.out.set k _)⟩
        refine Lib.hid ?_
        rw [hE.out, ← hst.out, List.map_set]
        exact (hownr.out.stored _ _).1
      case measure => simp [intOf]; omega
    · obtain rfl : k = n := by omega
      go_wp2_with fail
      go_end0
      exact ⟨rfl, by rw [← hall.out]; exact hownr.out, hor.out⟩

/-- what is known at each round: the rows of its own, in blocks of their own; the variables -/
def CloseI (w : World) (n : Nat) (A : Option Addr) (c : Nat) (vs : List Value) (xss : List (List Nat)) (wr : World) : Prop :=
  wr.ownsRow (w.heap.size + 2) 60 1 (.slice (some ⟨w.heap.size + 2, 0, none⟩) n n) n vs ∧ OwnRows 77 wr (w.heap.size + 3) vs xss ∧ MatB wr w.heap.size 35 n A n c ∧ MatB wr (w.heap.size + 1) 35 0 none 0 0 ∧ Below w.heap.size w wr
theorem CloseI.join {w : World} {n : Nat} {A : Option Addr} {c : Nat} {vs : List Value} {xss : List (List Nat)} {wr w' : World} (h : CloseI w n A c vs xss wr) {i g m d : Nat} {ys : List Nat} (hv : vs[i]? = some (.slice (some ⟨g, 0, none⟩) m d))
    (hg : w.heap.size + 3 ≤ g) (ho : OnlyAt g wr w') (hy : w'.ownsRow (w.heap.size + 3) 77 1 (.slice (some ⟨g, 0, none⟩) m d) m (ys.map u64v)) (hw : W64 ys) : CloseI w n A c vs (xss.set i ys) w' := by
  obtain ⟨h1, h2, h3, h4, h5⟩ := h
  exact ⟨own_only h1 ho (by simp [Value.ownBlock]; omega), h2.joined hv ho hy hw, Blk.only h3 ho (by omega), Blk.only h4 ho (by omega), below_only h5 ho (by omega)⟩
set_option maxRecDepth 100000 in
set_option maxHeartbeats 2000000 in
theorem hull_Close (A : Option Addr) (n c : Nat) (a : List (List Nat)) (w : World) (hr : RowsAt w A n a) (hG : Good n a) :
    Calls Try.prog 34 #[.agg #[.int .i64 (n : Int), .slice A n c]] w (RetMat1 (n : Int) (closeK a n) w) := by
  have hal : a.length = n := hG.len
  have hnn : n ≤ 4096 := hG.le
  obtain ⟨W0, hW0⟩ : ∃ W0, W0 = (w.alloc (.cells #[.int .i64 n, .slice A n c] 35)).alloc (.cells #[.int .i64 0, .slice none 0 0] 35) := ⟨_, rfl⟩
  have ha : Below w.heap.size w W0 := by rw [hW0]; exact ((Below.refl _ _).alloc (Nat.le_refl _) _).alloc (by simp) _
  have hB1 : MatB W0 w.heap.size 35 n A n c := by rw [hW0]; exact (MatB.new w _).below_ (below_alloc _ _)
  have hB2 : MatB W0 (w.heap.size + 1) 35 0 none 0 0 := by rw [hW0]; exact MatB.new1 w _ _
  have hs0 : W0.heap.size = w.heap.size + 2 := by rw [hW0]; simp
  have l0 := hB1.c0
  have l1 := hB1.c1
  have hcop := hull_copied A n c a W0 (hr.below ha) hnn (fun k xs hx => by
    have h1 := hG.row xs (List.mem_of_getElem? hx)
    have h2 := hG.small xs (List.mem_of_getElem? hx)
    have h3 : 0 < n := by have := (List.getElem?_eq_some_iff.1 hx).1; omega
    omega)
  unfold RetRowsO at hcop
  rw [hal, hs0] at hcop
  replace hcop := Lib.hid hcop
  replace ha := Lib.hid ha
  replace hB1 := Lib.hid hB1
  replace hB2 := Lib.hid hB2
  replace hs0 := Lib.hid hs0
  replace hal := Lib.hid hal
  have hK := Lib.hid (fun k hk => closeK_facts hG k hk)
  replace hG := Lib.hid hG
  clear hr
  go_enter Try.func34, Try.ntmps34
  go_wp2_with fail
  rw [← hW0]
  clear hW0
  go_wp2_with fail
  refine hcop.out.mono ?_; rintro e w1 ⟨vs, rfl, ho1, ho2, hb1, hs1⟩
  have hI : Hid (CloseI w n A c vs a w1) := Lib.hid ⟨ho1, ho2, hB1.out.below_ (hb1.mono (by rw [hs0.out]; exact Nat.le_refl _)), hB2.out.below_ (hb1.mono (by rw [hs0.out]; exact Nat.le_refl _)), ha.out.trans (hb1.mono (by omega))⟩
  have hvl : vs.length = n := by have := ho1.1; simpa using this
  replace hvl := Lib.hid hvl
  clear ho1 ho2 hb1 hs1 hcop hB1 hB2 ha l0 l1
  go_wp2_with fail
  go_loopw [15] (fun i wr => ∃ k : Nat, k ≤ n ∧ i = .int .i64 k ∧ Hid (CloseI w n A c vs (closeK a k) wr)) (fun i _ => n - (intOf i).toNat)
  case atStart => exact ⟨0, Nat.zero_le _, rfl, hI⟩
  case round =>
    obtain ⟨k, hk, rfl, hIr⟩ := hrel
    clear hI
    by_cases hlt : k < n
    · have hGk := (hK.out k hk).1
      obtain ⟨rk, hrk, hwk, hlk⟩ := hGk.at_ hlt
      obtain ⟨vk, hvk⟩ : ∃ v, vs[k]? = some v := ⟨_, List.getElem?_eq_getElem (by rw [hvl.out]; exact hlt)⟩
      obtain ⟨Ak, mk, dk, rfl, hok, _⟩ := hIr.out.2.1.2.1 k vk rk hvk hrk
      have hmk : rk.length = mk := by have := hok.1; simpa using this
      obtain ⟨gk, hgk0, rfl⟩ : ∃ gk, w.heap.size + 3 ≤ gk ∧ Ak = some ⟨gk, 0, none⟩ := by
        obtain ⟨g, cap, hv, _⟩ := hok.form (by omega)
        injection hv with hv
        subst hv
        exact ⟨g, own_lt_block hok g rfl, rfl⟩
      have hmk1 : mk ≤ 64 := by have := hGk.small rk (List.mem_of_getElem? hrk); omega
      have hkm : k / 64 < mk := by omega
      have hpl := Lib.hid (fun W => hull_place k (by omega) W)
      have hck := hIr.out.1.cellAt k (by omega)
      rw [hvk] at hck
      have hk0 : (0 : Int) ≤ (k : Int) := by omega
      have hkn : (k : Int) < (n : Int) := by omega
      replace hGk := Lib.hid hGk
      replace hrk := Lib.hid hrk
      replace hvk := Lib.hid hvk
      replace hmk := Lib.hid hmk
      clear hok hwk hlk
      go_wp2_with fail
      refine (hpl.out wr).mono ?_; rintro e w' ⟨rfl, rfl⟩
      clear hpl
      go_wp2_with fail
      clear hck
      go_loopw [27] (fun i wi => ∃ q : Nat, q ≤ n ∧ i = .int .i64 q ∧ Hid (CloseI w n A c vs (stepM (closeK a k) k q) wi)) (fun i _ => n - (intOf i).toNat)
      case atStart => exact ⟨0, Nat.zero_le _, rfl, Lib.hid (by rw [stepM_zero]; exact hIr.out)⟩
      case round =>
        obtain ⟨q, hq, rfl, hIq⟩ := hrel
        clear hIr
        by_cases hlq : q < n
        · obtain ⟨r, hrq, hwq, hlq2⟩ := hGk.out.at_ hlq
          have hrs : (stepM (closeK a k) k q)[q]? = some r := by rw [stepM_get hrq, if_neg (Nat.lt_irrefl _)]
          obtain ⟨v, hv⟩ : ∃ v, vs[q]? = some v := ⟨_, List.getElem?_eq_getElem (by rw [hvl.out]; exact hlq)⟩
          obtain ⟨Aq, m, d, rfl, hoq, _⟩ := hIq.out.2.1.2.1 q v r hv hrs
          have hmq : r.length = m := by have := hoq.1; simpa using this
          obtain ⟨g, hg0, rfl⟩ : ∃ g, w.heap.size + 3 ≤ g ∧ Aq = some ⟨g, 0, none⟩ := by
            obtain ⟨g, cap, hv, _⟩ := hoq.form (by omega)
            injection hv with hv
            subst hv
            exact ⟨g, own_lt_block hoq g rfl, rfl⟩
          have hmm : m = mk := by
            have h1 := (hGk.out.row r (List.mem_of_getElem? hrq)).2.2.1
            have h2 := (hGk.out.row rk (List.mem_of_getElem? hrk.out)).2.2.1
            have := hmk.out
            omega
          subst hmm
          have hcq := hIq.out.1.cellAt q (by omega)
          rw [hv] at hcq
          obtain ⟨x, hx⟩ : ∃ x, r[k / 64]? = some x := ⟨_, List.getElem?_eq_getElem (by omega)⟩
          have hx64 := hwq x (List.mem_of_getElem? hx)
          have hcx : wr.cell? ⟨g, k / 64, none⟩ = some (.int .u64 (x : Int)) := by
            rw [hoq.cellAt _ (by omega), List.getElem?_map, hx]; rfl
          have hbit := and_p2 x (k % 64) hx64 (by omega)
          have hbh : x.testBit (k % 64) = hasR r (k : Int) := by rw [hasR_nat, Row.get hx]
          rw [hbh] at hbit
          have hsucc := stepM_succ (k := k) hrq
          have hq0 : (0 : Int) ≤ (q : Int) := by omega
          have hqn : (q : Int) < (n : Int) := by omega
          have hp0 : (0 : Int) ≤ ((k / 64 : Nat) : Int) := by omega
          have hpm : ((k / 64 : Nat) : Int) < (m : Int) := by omega
          have hp1 : (((k / 64 : Nat) : Int)).toNat = k / 64 := by omega
          cases hh : hasR r (k : Int) with
          | false =>
            rw [hh] at hbit
            have hst : Hid (stepM (closeK a k) k (q + 1) = stepM (closeK a k) k q) := Lib.hid (by
              rw [hsucc]
              unfold stepR
              rw [hh]
              simp only [Bool.false_eq_true, if_false]
              exact set_self hrs)
            clear hsucc hh hbh hx hrs hrq hv hoq hwq
            go_wp2_with fail
            go_roundw
            case rel => exact ⟨q + 1, by omega, by go_num, Lib.hid (by rw [hst.out]; exact hIq.out)⟩
            case measure => simp [intOf]; omega
          | true =>
            rw [hh] at hbit
            have hth : (stepM (closeK a k) k q)[k]? = some rk := stepM_through hrk.out
            obtain ⟨_, _, _, e1, hok2, _⟩ := hIq.out.2.1.2.1 k _ rk hvk.out hth
            cases e1
            have hrow := Row.of_own hok2 (hGk.out.row rk (List.mem_of_getElem? hrk.out)).1
            have hst : Hid (stepM (closeK a k) k (q + 1) = (stepM (closeK a k) k q).set q (orR r rk)) := Lib.hid (by
              rw [hsucc]
              unfold stepR
              rw [hh, if_pos rfl, getD_at hrk.out])
            have hw2 := Lib.hid (orR_w64 hwq (hGk.out.row rk (List.mem_of_getElem? hrk.out)).1)
            have hj := Lib.hid (hull_join g (w.heap.size + 3) m d dk (some ⟨gk, 0, none⟩) r rk wr hoq hwq hrow (by
              by_cases hqk : q = k
              · subst hqk
                rw [hv] at hvk
                have h1 := hvk.out
                injection h1 with h1
                injection h1 with h1 h2 h3
                refine .inr ⟨h1.symm, ?_⟩
                have h2 := hrk.out
                rw [hrq] at h2
                injection h2 with h2
                exact h2.symm
              · refine .inl (fun ad e => ?_)
                injection e with e
                subst e
                intro hgg
                have hgg' : gk = g := hgg
                subst hgg'
                exact hIq.out.2.1.2.2 q k _ _ gk hqk hv hvk.out rfl rfl) (by omega))
            replace hv := Lib.hid hv
            clear hsucc hh hbh hx hrs hrq hoq hwq hok2 hrow hth
            go_wp2_with fail
            refine hj.out.mono ?_; rintro e w2 ⟨rfl, hy, ho⟩
            have hI2 := Lib.hid (hIq.out.join hv.out hg0 ho hy hw2.out)
            clear hy ho hIq hj hcq hcx
            go_wp2_with fail
            go_roundw
            case rel => exact ⟨q + 1, by omega, by go_num, Lib.hid (by rw [hst.out]; exact hI2.out)⟩
            case measure => simp [intOf]; omega
        · obtain rfl : q = n := by omega
          have hI2 : Hid (CloseI w q A c vs (closeK a (k + 1)) wr) := Lib.hid (by
            show CloseI w q A c vs (stepM (closeK a k) k a.length) wr
            rw [hal.out]; exact hIq.out)
          clear hIq
          go_wp2_with fail
          go_roundw
          case rel => exact ⟨k + 1, by omega, by go_num, hI2⟩
          case measure => simp [intOf]; omega
    · obtain rfl : k = n := by omega
      obtain ⟨h1, h2, h3, h4, h5⟩ := hIr.out
      have l0 := h3.c0
      have f0 := h4.c0
      have f1 := h4.c1
      have g0 := h4.frozen 0
      have g1 := h4.frozen 1
      replace h1 := Lib.hid h1
      replace h2 := Lib.hid h2
      replace h3 := Lib.hid h3
      replace h4 := Lib.hid h4
      replace h5 := Lib.hid h5
      clear hIr
      go_wp2_with fail
      have hcc := h4.out.two (.int .i64 k) (.slice (some ⟨w.heap.size + 2, 0, none⟩) k k)
      have hc1 := hcc.1
      have hc2 := hcc.2
      clear hcc f0 f1 g0 g1 l0
      refine bodyPost_ret (v := .agg #[.int .i64 k, .slice (some ⟨w.heap.size + 2, 0, none⟩) k k]) (by simp [results, Try.results34, go_sem, hc1, hc2]) rfl ⟨_, _, _, rfl, ⟨vs, ?_, ?_⟩, Nat.le_refl _, ?_⟩
      · exact Rd.of_own' (own_far (own_far h1.out (p := ⟨w.heap.size + 1, 0, none⟩) (by simp [Value.ownBlock]) _) (p := ⟨w.heap.size + 1, 1, none⟩) (by simp [Value.ownBlock]) _)
      · exact ((h2.out.far (p := ⟨w.heap.size + 1, 0, none⟩) (by simp) _).far (p := ⟨w.heap.size + 1, 1, none⟩) (by simp) _).rows
      · exact (h5.out.setCell (by simp) _).setCell (by simp) _

end Go.Proofs.Ytmgockkjoogcaaa

namespace Go.Proofs.Ytmgockkjoogcaaa
set_option linter.unusedVariables false

/-- items of a session are neighbours, and their places rise by one -/
def Nbr (is : List It) : Prop := ∀ (i : Nat) (x y : It), is[i]? = some x → is[i + 1]? = some y → (x.se = y.se ∧ y.pl = x.pl + 1) ∨ x.se < y.se
theorem nbr_hist (hs : List (List OpT)) : Nbr (hisF hs).2 := fun i x y hx hy => by
  have hi : i + 1 < (allO hs).length := by rw [← hisF_len hs]; exact (List.getElem?_eq_some_iff.1 hy).1
  obtain ⟨s, p, x', x1, x2, x3, x4, x5, x6, x7⟩ := items_at (hs := hs) (i := i) (by omega)
  obtain ⟨t, q, y', y1, y2, y3, y4, y5, y6, y7⟩ := items_at (hs := hs) (i := i + 1) hi
  rw [hx] at x2; injection x2 with x2; subst x2
  rw [hy] at y2; injection y2 with y2; subst y2
  rcases Nat.lt_trichotomy s t with h | h | h
  · exact .inr (by omega)
  · subst h; exact .inl ⟨by omega, by omega⟩
  · exfalso
    obtain ⟨os, hos⟩ : ∃ os, hs[t]? = some os := ⟨_, List.getElem?_eq_getElem y7⟩
    have hgd : hs.getD t [] = os := by rw [List.getD_eq_getElem?_getD, hos]; rfl
    rw [hgd] at y6
    have b1 := baseO_succ hos
    have := baseO_mono (hs := hs) (show t + 1 ≤ s by omega)
    omega
theorem Nbr.chain {is : List It} (h : Nbr is) : ∀ (d i : Nat) (x y : It), is[i]? = some x → is[i + d]? = some y → (x.se = y.se ∧ y.pl = x.pl + (d : Int)) ∨ x.se < y.se
  | 0, i, x, y, hx, hy => by
    rw [Nat.add_zero, hx] at hy; injection hy with hy; subst hy
    exact .inl ⟨rfl, by omega⟩
  | d + 1, i, x, y, hx, hy => by
    obtain ⟨z, hz⟩ : ∃ z, is[i + d]? = some z := ⟨_, List.getElem?_eq_getElem (by have := (List.getElem?_eq_some_iff.1 hy).1; omega)⟩
    have h1 := h.chain d i x z hx hz
    have h2 := h (i + d) z y hz (by rw [Nat.add_assoc]; exact hy)
    omega
theorem Nbr.le {is : List It} (h : Nbr is) {i j : Nat} {x y : It} (hij : i ≤ j) (hx : is[i]? = some x) (hy : is[j]? = some y) : (x.se = y.se ∧ y.pl = x.pl + ((j - i : Nat) : Int)) ∨ x.se < y.se :=
  h.chain (j - i) i x y hx (by rw [show i + (j - i) = j by omega]; exact hy)
theorem Nbr.ahead {is : List It} (h : Nbr is) {i j : Nat} {x y : It} (hx : is[i]? = some x) (hy : is[j]? = some y) : aheadF is i j = (decide (x.se = y.se) && decide (i < j)) := by
  rw [aheadF_at (by omega) (by omega) (by rw [Int.toNat_natCast]; exact hx) (by rw [Int.toNat_natCast]; exact hy), Bool.eq_iff_iff, Bool.and_eq_true, Bool.and_eq_true, decide_eq_true_eq, decide_eq_true_eq, decide_eq_true_eq]
  rcases Nat.le_total i j with hij | hij
  · have := h.le hij hx hy
    omega
  · have := h.le hij hy hx
    omega
/-- b is the first item of o's session -/
structure FirstIs (is : List It) (o b : Nat) : Prop where
  le : b ≤ o
  same : ∀ (i : Nat) (x y : It), b ≤ i → i ≤ o → is[i]? = some x → is[o]? = some y → x.se = y.se
  new : 0 < b → ∀ x y, is[b - 1]? = some x → is[o]? = some y → x.se ≠ y.se
theorem FirstIs.lower {is : List It} {o b : Nat} (hN : Nbr is) (h : FirstIs is o b) {i : Nat} {x y : It} (hi : i < b) (hx : is[i]? = some x) (hy : is[o]? = some y) : x.se ≠ y.se := by
  have hob : o < is.length := (List.getElem?_eq_some_iff.1 hy).1
  have hle := h.le
  obtain ⟨z, hz⟩ : ∃ z, is[b - 1]? = some z := ⟨_, List.getElem?_eq_getElem (by omega)⟩
  have h1 := h.new (by omega) z y hz hy
  have h2 := hN.le (show i ≤ b - 1 by omega) hx hz
  have h3 := hN.le (show b - 1 ≤ o by omega) hz hy
  omega
theorem FirstIs.ahead {is : List It} {o b : Nat} (hN : Nbr is) (h : FirstIs is o b) (ho : o < is.length) {i : Nat} (hi : i < is.length) : aheadF is i o = decide (b ≤ i ∧ i < o) := by
  obtain ⟨x, hx⟩ : ∃ z, is[i]? = some z := ⟨_, List.getElem?_eq_getElem hi⟩
  obtain ⟨y, hy⟩ : ∃ z, is[o]? = some z := ⟨_, List.getElem?_eq_getElem ho⟩
  rw [hN.ahead hx hy, Bool.eq_iff_iff, Bool.and_eq_true, decide_eq_true_eq, decide_eq_true_eq, decide_eq_true_eq]
  constructor
  · rintro ⟨h1, h2⟩
    refine ⟨?_, h2⟩
    rcases Nat.lt_or_ge i b with hb | hb
    · exact absurd h1 (h.lower hN hb hx hy)
    · exact hb
  · rintro ⟨h1, h2⟩
    exact ⟨h.same i x y h1 (by omega) hx hy, h2⟩
def spanI (b n : Nat) : List Int := (List.range' b n).map fun (i : Nat) => (i : Int)
theorem spanI_succ (b n : Nat) : spanI b (n + 1) = spanI b n ++ [((b + n : Nat) : Int)] := by
  unfold spanI; rw [List.range'_1_concat, List.map_append]; rfl
theorem spanI_len (b n : Nat) : (spanI b n).length = n := by unfold spanI; simp
theorem spanI_ok (b n : Nat) : ∀ z ∈ spanI b n, 0 ≤ z ∧ z < ((b + n : Nat) : Int) := fun z hz => by
  unfold spanI at hz
  obtain ⟨i, hi, rfl⟩ := List.mem_map.1 hz
  have := List.mem_range'_1.1 hi
  omega
theorem FirstIs.past {is : List It} {o b : Nat} (hN : Nbr is) (h : FirstIs is o b) (ho : o < is.length) : pastF is (o : Int) is.length = spanI b (o + 1 - b) := by
  unfold pastF pastN spanI
  rw [filter_span h.le ho _ (fun i hi => by
    rw [h.ahead hN ho hi, Bool.eq_iff_iff, Bool.or_eq_true, decide_eq_true_eq, decide_eq_true_eq, decide_eq_true_eq]; have := h.le; omega)]
theorem past_none {is : List It} {o : Int} (h : o < 0 ∨ (is.length : Int) ≤ o) : pastF is o is.length = [] := by
  unfold pastF pastN
  rw [List.filter_eq_nil_iff.2 (fun a ha => by
    have := List.mem_range.1 ha
    rw [aheadF_out (by omega), decide_eq_false (by omega)]; simp)]
  rfl
/-- a session ends ahead of e -/
def EndAt (is : List It) (e : Nat) : Prop := 0 < e → ∀ x y, is[e - 1]? = some x → is[e]? = some y → x.se ≠ y.se
theorem EndAt.all (is : List It) : EndAt is is.length := fun h x y _ hy => by
  rw [List.getElem?_eq_none (Nat.le_refl _)] at hy; cases hy
/-- the items from s to below e are one session -/
structure Seg (is : List It) (s e : Nat) : Prop where
  lt : s < e
  le : e ≤ is.length
  at_ : ∀ i j : Nat, s ≤ i → i < e → aheadF is i j = decide (i < j ∧ j < e)
theorem FirstIs.seg {is : List It} {s e : Nat} (hN : Nbr is) (he : 0 < e) (hl : e ≤ is.length) (hE : EndAt is e) (h : FirstIs is (e - 1) s) : Seg is s e ∧ EndAt is s := by
  have hle := h.le
  obtain ⟨z, hz⟩ : ∃ z, is[e - 1]? = some z := ⟨_, List.getElem?_eq_getElem (by omega)⟩
  refine ⟨⟨by omega, hl, fun i j hi hie => ?_⟩, fun h0 x y hx hy => ?_⟩
  · obtain ⟨x, hx⟩ : ∃ z, is[i]? = some z := ⟨_, List.getElem?_eq_getElem (by omega)⟩
    have hxz := h.same i x z hi (by omega) hx hz
    rcases Nat.lt_or_ge j is.length with hj | hj
    · obtain ⟨y, hy⟩ : ∃ z, is[j]? = some z := ⟨_, List.getElem?_eq_getElem hj⟩
      rw [hN.ahead hx hy, Bool.eq_iff_iff, Bool.and_eq_true, decide_eq_true_eq, decide_eq_true_eq, decide_eq_true_eq]
      constructor
      · rintro ⟨h1, h2⟩
        refine ⟨h2, ?_⟩
        rcases Nat.lt_or_ge j e with hje | hje
        · exact hje
        · exfalso
          obtain ⟨u, hu⟩ : ∃ z, is[e]? = some z := ⟨_, List.getElem?_eq_getElem (by omega)⟩
          have h3 := hE he z u hz hu
          have h4 := hN.le (show e - 1 ≤ e by omega) hz hu
          have h5 := hN.le hje hu hy
          omega
      · rintro ⟨h1, h2⟩
        exact ⟨by rw [hxz]; exact (h.same j y z (by omega) (by omega) hy hz).symm, h1⟩
    · rw [aheadF_out (by omega)]
      symm; rw [decide_eq_false_iff_not]; omega
  · have := h.same s y z (Nat.le_refl _) hle hy hz
    rw [this]
    exact h.new h0 x z hx hz
/-- the rows of the last items, those ahead of them empty -/
def partM (is : List It) (e : Nat) : List (List Nat) := (List.range is.length).map fun i => if i < e then [] else (poM is).getD i []
theorem partM_len (is : List It) (e : Nat) : (partM is e).length = is.length := by simp [partM]
theorem partM_none (is : List It) : partM is is.length = List.replicate is.length [] := by
  unfold partM
  apply List.ext_getElem?
  intro i
  rw [List.getElem?_map, List.getElem?_range_eq, List.getElem?_replicate]
  by_cases h : i < is.length
  · rw [if_pos h, if_pos h]; simp [h]
  · rw [if_neg h, if_neg h]; rfl
where
  List.getElem?_range_eq {n i : Nat} : (List.range n)[i]? = if i < n then some i else none := by
    by_cases h : i < n
    · rw [if_pos h, List.getElem?_range h]
    · rw [if_neg h, List.getElem?_eq_none (by simp; omega)]
theorem poM_len' (is : List It) : (poM is).length = is.length := (DimM.fold is.length _).1
theorem partM_all (is : List It) : partM is 0 = poM is := by
  unfold partM
  apply List.ext_getElem?
  intro i
  rw [List.getElem?_map]
  by_cases h : i < is.length
  · rw [List.getElem?_range h]
    have := List.getElem?_eq_getElem (l := poM is) (i := i) (by rw [poM_len']; exact h)
    rw [this]; simp [List.getD_eq_getElem?_getD, this]
  · rw [List.getElem?_eq_none (by simp; omega), List.getElem?_eq_none (by rw [poM_len']; omega)]; rfl
theorem partM_get {is : List It} {e i : Nat} (h1 : e ≤ i) (h2 : i < is.length) : (partM is e)[i]? = some ((poM is).getD i []) := by
  unfold partM
  rw [List.getElem?_map, List.getElem?_range h2]
  simp; omega
theorem partM_set {is : List It} {e : Nat} (h : e < is.length) : (partM is (e + 1)).set e ((poM is).getD e []) = partM is e := by
  unfold partM
  rw [map_range_set]
  apply List.map_congr_left
  intro j hj
  by_cases hje : j = e
  · subst hje; simp
  · simp only [if_neg hje]
    by_cases h1 : j < e
    · rw [if_pos h1, if_pos (by omega)]
    · rw [if_neg h1, if_neg (by omega)]
theorem poM_row {is : List It} (h : is.length ≤ 4096) {i : Nat} (hi : i < is.length) : ((poM is).getD i []).length = (wordsZ (is.length : Int)).toNat ∧ W64 ((poM is).getD i []) ∧ ∀ j : Nat, hasR ((poM is).getD i []) (j : Int) = aheadF is i j := by
  obtain ⟨hG, hh⟩ := poM_good h
  obtain ⟨r, hr⟩ : ∃ r, (poM is)[i]? = some r := ⟨_, List.getElem?_eq_getElem (by rw [poM_len']; exact hi)⟩
  have hd : (poM is).getD i [] = r := getD_at hr
  rw [hd]
  refine ⟨(DimM.fold is.length _).2 i r hr, (hG.row r (List.mem_of_getElem? hr)).1, fun j => ?_⟩
  rw [← hh i j, hasM_in hr]
/-- the row of a session's last item -/
theorem Seg.last {is : List It} {s e : Nat} (h : Seg is s e) (hn : is.length ≤ 4096) : (poM is).getD (e - 1) [] = List.replicate (wordsZ (is.length : Int)).toNat 0 := by
  have hlt := h.lt
  have hle := h.le
  obtain ⟨r1, r2, r3⟩ := poM_row hn (i := e - 1) (by omega)
  refine row_ext r2 (fun x hx => by rw [(List.mem_replicate.1 hx).2]; omega) (by rw [r1, List.length_replicate]) (fun i _ => ?_)
  rw [r3, hasR_zeros, h.at_ (e - 1) i (by omega) (by omega), decide_eq_false (by omega)]
/-- .. and of one ahead of it: the next one, and what stands behind that -/
theorem Seg.step {is : List It} {s e i : Nat} (h : Seg is s e) (hn : is.length ≤ 4096) (hs : s ≤ i) (hi : i + 1 < e) : setR ((poM is).getD (i + 1) []) ((i + 1 : Nat) : Int) = (poM is).getD i [] := by
  have hle := h.le
  obtain ⟨r1, r2, r3⟩ := poM_row hn (i := i) (by omega)
  obtain ⟨q1, q2, q3⟩ := poM_row hn (i := i + 1) (by omega)
  have hw := words_pos (n := is.length) (by omega)
  refine row_ext (setR_w64 q2 _) r2 (by rw [setR_len, r1, q1]) (fun j _ => ?_)
  rw [hasR_setR _ _ _ (by rw [q1]; omega), r3, q3, h.at_ i j hs (by omega), h.at_ (i + 1) j (by omega) hi, Bool.eq_iff_iff, Bool.or_eq_true, decide_eq_true_eq, decide_eq_true_eq, decide_eq_true_eq]
  omega
end Go.Proofs.Ytmgockkjoogcaaa

namespace Go.Proofs.Ytmgockkjoogcaaa
open Go.RowKit

/-- whatever there was, but for the block g, is as it was -/
structure BelowB (g : Nat) (w w' : World) : Prop where
  os : w'.os = w.os
  tape : w'.tape = w.tape
  output : w'.output = w.output
  size : w.heap.size ≤ w'.heap.size
  block : ∀ k, k < w.heap.size → k ≠ g → w'.heap[k]? = w.heap[k]?
theorem BelowB.refl (g : Nat) (w : World) : BelowB g w w := ⟨rfl, rfl, rfl, Nat.le_refl _, fun _ _ _ => rfl⟩
theorem BelowB.trans {g : Nat} {a b c : World} (h : BelowB g a b) (k : BelowB g b c) : BelowB g a c :=
  ⟨k.os.trans h.os, k.tape.trans h.tape, k.output.trans h.output, Nat.le_trans h.size k.size, fun i hi hg => (k.block i (Nat.lt_of_lt_of_le hi h.size) hg).trans (h.block i hi hg)⟩
theorem BelowB.of {g : Nat} {w w' : World} (h : Below w.heap.size w w') : BelowB g w w' := ⟨h.os, h.tape, h.output, h.size, fun k hk _ => h.block k hk⟩
theorem BelowB.grown {g : Nat} {w w' : World} {row : Option Nat} (hg : w.grownBy w' row) (h : ∀ k, row = some k → k = g) : BelowB g w w' :=
  ⟨hg.os, hg.tape, hg.output, hg.size, fun k hk hne => hg.block k hk (fun e => hne (h k e.symm))⟩
theorem BelowB.cell {g : Nat} {w w' : World} (h : BelowB g w w') {p : Addr} (hp : p.block < w.heap.size) (hg : p.block ≠ g) : w'.cell? p = w.cell? p := World.cell?_of_block (w := w) (h.block p.block hp hg)
theorem BelowB.below {g B : Nat} {w w' : World} (h : BelowB g w w') (hB : B ≤ w.heap.size) (hg : B ≤ g) : Below B w w' := ⟨h.os, h.tape, h.output, h.size, fun k hk => h.block k (by omega) (by omega)⟩
theorem BelowB.blk {g k : Nat} {t : TypeId} {cs : List Value} {w w' : World} (h : BelowB g w w') (hk : Blk w k t cs) (hne : k ≠ g) : Blk w' k t cs := (h.block k hk.lt hne).trans hk
section
variable {gb : Nat} {P : Program} {ops : Array Oper} {md : Region.Mode} {Q : Exit → Act → World → Prop}

/-- Whatever order is picked from here on, till the first n operations are done; each leaves what was there. -/
def wpAnyG (gb : Nat) (P : Program) (md : Region.Mode) (ops : Array Oper) (Q : Exit → Act → World → Prop) (n : Nat) (F : Array Bool → Act → World → Prop) : Nat → Array Bool → Act → World → Prop
  | 0, listed, a, w => F listed a w
  | f + 1, listed, a, w => Region.ready md ops listed ≠ [] ∧ ∀ i ∈ Region.ready md ops listed, i < n ∧ wpOp P ops Q i (fun a' w' => BelowB gb w w' ∧ wpAnyG gb P md ops Q n F f (listed.setIfInBounds i true) a' w') a w

theorem wpAny_of_G {n g : Nat} {F : Array Bool → Act → World → Prop} (hF : ∀ listed a w, F listed a w → wpAny P md ops Q g listed a w) :
    ∀ (f : Nat) (listed : Array Bool) (a : Act) (w : World), wpAnyG gb P md ops Q n F f listed a w → wpAny P md ops Q (f + g) listed a w
  | 0, _, _, _, h => by rw [Nat.zero_add]; exact hF _ _ _ h
  | f + 1, listed, a, w, h => by
    rw [show f + 1 + g = (f + g) + 1 by omega]
    exact ⟨fun h0 => absurd h0 h.1, fun i hi => wpOp_mono (fun a' w' h' => wpAny_of_G hF f _ a' w' h'.2) (h.2 i hi).2⟩

theorem belowB_of {w w' w'' : World} (h : BelowB gb w w') (h' : BelowB gb w' w'') : BelowB gb w w'' := h.trans h'
theorem yieldsB_later {w w' : World} {o : Oper} {v : Value} {a : Act} (hb : BelowB gb w w') (h : YieldsIf P ops (fun x => BelowB gb w x) o v a) : YieldsIf P ops (fun x => BelowB gb w' x) o v a :=
  h.imp (fun ⟨h1, h2⟩ => ⟨h1, fun x hx => h2 x (belowB_of hb hx)⟩) id

theorem wpAnyG_first {n i : Nat} {oi : Oper} {v : Value} {F : Array Bool → Act → World → Prop} (hi : ops[i]? = some oi) (hsel : ∀ (j : Nat) (o : Oper) cs b, ops[j]? = some o → o.op ≠ .select cs b)
    (hQ : ∀ c a w, Q (.panic c) (a.put oi.dst v) w → Q (.panic c) a w)
    (hlate : ∀ listed, HeadInv md ops n listed → listed.getD i true = false → ∀ t, n ≤ t → t ∉ Region.ready md ops listed) (hin : i < n)
    (hdone : ∀ listed a w, F listed a w → ∀ j ∈ Region.ready md ops listed, n ≤ j) :
    ∀ (f : Nat) (listed : Array Bool) (a : Act) (w : World), HeadInv md ops n listed →
      (∀ j oj, ops[j]? = some oj → j ≠ i → listed.getD j true = false → (∀ e ∈ oj.after, Region.binds md e = true → e.on ≠ i) → oi.apart ops oj = true) →
      i ∈ Region.ready md ops listed → YieldsIf P ops (fun x => BelowB gb w x) oi v a →
      wpAnyG gb P md ops Q n F f (listed.setIfInBounds i true) (a.put oi.dst v) w → wpAnyG gb P md ops Q n F (f + 1) listed a w := by
  intro f
  induction f with
  | zero =>
    intro listed a w inv _ hr hy H
    have hun := (mem_ready.1 hr).1
    refine ⟨fun h => (by rw [h] at hr; cases hr), fun j hj => ?_⟩
    have hjn : j < n := by
      rcases Nat.lt_or_ge j n with h | h
      · exact h
      · exact absurd hj (hlate listed inv hun j h)
    refine ⟨hjn, ?_⟩
    by_cases hji : j = i
    · subst hji; exact hy.wpOp hi (BelowB.refl _ _) ⟨BelowB.refl _ _, H⟩
    · have := hdone _ _ _ H j (ready_mono hj hji)
      omega
  | succ f ih =>
    intro listed a w inv hfree hr hy H
    have hun := (mem_ready.1 hr).1
    refine ⟨fun h => (by rw [h] at hr; cases hr), fun j hj => ?_⟩
    have hjn : j < n := by
      rcases Nat.lt_or_ge j n with h | h
      · exact h
      · exact absurd hj (hlate listed inv hun j h)
    refine ⟨hjn, ?_⟩
    by_cases hji : j = i
    · subst hji; exact hy.wpOp hi (BelowB.refl _ _) ⟨BelowB.refl _ _, H⟩
    · have h1 := (H.2 j (ready_mono hj hji)).2
      obtain ⟨hjun, oj, hoj, hall⟩ := mem_ready.1 hj
      have hnot : ∀ e ∈ oj.after, Region.binds md e = true → e.on ≠ i := fun e he hb heq => by
        have h1 := hall e he hb
        rw [heq, getD_both hun] at h1
        cases h1
      have h2 := wpOp_putIf hoj (hfree j oj hoj hji hjun hnot) (fun cs b => hsel i oi cs b hi) (fun cs b => hsel j oj cs b hoj) hQ hy h1
      have hfree' : ∀ k ok, ops[k]? = some ok → k ≠ i → (listed.setIfInBounds j true).getD k true = false →
          (∀ e ∈ ok.after, Region.binds md e = true → e.on ≠ i) → oi.apart ops ok = true := fun k ok hk hki hun hno => by
        refine hfree k ok hk hki ?_ hno
        by_cases hjk : j = k
        · subst hjk; exact hjun
        · rw [getD_set_ne true hjk] at hun; exact hun
      refine wpOp_mono (fun a' w' h3 => ⟨h3.2.1, ih (listed.setIfInBounds j true) a' w' (inv.set hj hjn) hfree' (ready_mono hr (Ne.symm hji)) (yieldsB_later h3.2.1 h3.1) ?_⟩) h2
      rw [Array.setIfInBounds_comm _ _ hji]
      exact h3.2.2

/-- the walk of the plan -/
def wpPG (gb : Nat) (P : Program) (ops : Array Oper) (Q : Exit → Act → World → Prop) (tail : List Oper) : List (Bool × Nat) → Act → World → Prop
  | [], a, w => wpList P ops Q tail a w
  | (true, i) :: rest, a, w => ∃ o v, ops[i]? = some o ∧ YieldsIf P ops (fun x => BelowB gb w x) o v a ∧ wpPG gb P ops Q tail rest (a.put o.dst v) w
  | (false, i) :: rest, a, w => wpOp P ops Q i (fun a' w' => BelowB gb w w' ∧ wpPG gb P ops Q tail rest a' w') a w

theorem wpAnyG_plan {n : Nat} {tail : List Oper} (hsel : Region.noSelect ops = true) (hQ : ∀ c a d v w, Q (.panic c) (a.put d v) w → Q (.panic c) a w)
    (hlate : ∀ listed, HeadInv md ops n listed → ∀ i, i < n → listed.getD i true = false → ∀ t, n ≤ t → t ∉ Region.ready md ops listed) :
    ∀ (pl : List (Bool × Nat)) (listed : Array Bool) (a : Act) (w : World), HeadInv md ops n listed → planB md ops n pl listed = true → wpPG gb P ops Q tail pl a w →
    wpAnyG gb P md ops Q n (fun listed' a' w' => Region.seqB md ops (ops.size - n) n listed' = true ∧ wpList P ops Q tail a' w') pl.length listed a w
  | [], listed, a, w, _, hB, h => ⟨hB, h⟩
  | (true, i) :: rest, listed, a, w, inv, hB, h => by
    simp only [planB, if_true, Bool.and_eq_true, decide_eq_true_eq] at hB
    obtain ⟨⟨hin, hr, hf⟩, hB'⟩ := hB
    obtain ⟨o, v, ho, hy, h'⟩ := h
    have hr' : i ∈ Region.ready md ops listed := by simpa using hr
    exact wpAnyG_first ho (Region.noSelect_spec hsel) (fun c a w => hQ c a o.dst v w) (fun l hl hu => hlate l hl i hin hu) hin (fun listed' a' w' hL => seqB_ready hL.1) rest.length listed a w inv (Region.free_spec ho hf) hr' hy
      (wpAnyG_plan hsel hQ hlate rest _ _ _ (inv.set hr' hin) hB' h')
  | (false, i) :: rest, listed, a, w, inv, hB, h => by
    simp only [planB, Bool.false_eq_true, if_false, Bool.and_eq_true, decide_eq_true_eq] at hB
    obtain ⟨⟨hin, hr⟩, hB'⟩ := hB
    have hr' : i ∈ Region.ready md ops listed := by rw [hr]; simp
    refine ⟨by rw [hr]; simp, fun j hj => ?_⟩
    rw [hr] at hj
    have hji : j = i := by simpa using hj
    subst hji
    exact ⟨hin, wpOp_mono (fun a' w' h3 => ⟨h3.1, wpAnyG_plan hsel hQ hlate rest _ a' w' (inv.set hr' hin) hB' h3.2⟩) h⟩

theorem wpAny_planG {a : Act} {w : World} {l : List Oper} (n : Nat) (pl : List (Bool × Nat)) (hB : planAll .any l.toArray n pl = true)
    (h : ∀ W : World, Hid (W = w.drew) → wpPG gb P l.toArray (NoPanic Q) (l.drop n) pl a W) : wpAny P .any l.toArray (NoPanic Q) l.toArray.size (Array.replicate l.toArray.size false) a { w with drawn := w.drawn + 1 } := by
  have hQ : ∀ c a d v w, NoPanic Q (.panic c) (a.put d v) w → NoPanic Q (.panic c) a w := fun _ _ _ _ _ h => h
  simp only [planAll, Bool.and_eq_true, decide_eq_true_eq] at hB
  obtain ⟨⟨⟨⟨hsel, hlen⟩, hn⟩, hsc⟩, hpl⟩ := hB
  have hn' : n ≤ l.length := by simpa using hn
  have hdl : (l.drop n).length = l.toArray.size - n := by simp
  have inv0 : HeadInv .any l.toArray n (Array.replicate l.toArray.size false) :=
    ⟨by simp, fun j oj _ hl => (by rw [getD_replicate_false] at hl; cases hl), fun t _ ht => getD_in (by simpa using ht) (getD_replicate_false _ _)⟩
  have hlate : ∀ listed, HeadInv .any l.toArray n listed → ∀ i, i < n → listed.getD i true = false → ∀ t, n ≤ t → t ∉ Region.ready .any l.toArray listed := by
    intro listed inv i hin hun t ht hr
    rw [Bool.or_eq_true, decide_eq_true_eq, Bool.and_eq_true] at hsc
    obtain ⟨_, ot, hot, _⟩ := mem_ready.1 hr
    have htl := (Array.getElem?_eq_some_iff.1 hot).1
    rcases hsc with h0 | ⟨hs, hc⟩
    · omega
    · exact tail_waits hs hc (by omega) inv _ i rfl hin hun t ht hr
  have H := wpAnyG_plan (md := .any) hsel hQ hlate pl _ a w.drew inv0 hpl (h w.drew (Lib.hid rfl))
  have := wpAny_of_G (Q := NoPanic Q) (g := l.toArray.size - n) (fun listed a' w' hL => by
    have := wpAny_of_seq (md := .any) (Q' := NoPanic Q) (l.drop n) n listed a' w' (fun j => by simp [List.getElem?_drop]) (by rw [hdl]; exact hL.1) hL.2
    rwa [hdl] at this) _ _ _ _ H
  rw [hlen, show n + (l.toArray.size - n) = l.toArray.size by omega] at this
  exact this
theorem wp_region_planG {id : Nat} {a : Act} {w : World} {l : List Oper} (n : Nat) (pl : List (Bool × Nat)) (hm : P.follows .mixedOrders = true) (hB : planAll .any l.toArray n pl = true)
    (h : ∀ W : World, Hid (W = w.drew) → wpPG gb P l.toArray (NoPanic Q) (l.drop n) pl a W) : (Code.region id l.toArray true).wp P Q a w :=
  wp_region_noPanic (wp_region_any hm (wpAny_planG n pl hB h))

/-! ### the steps -/
section
variable {tail : List Oper} {rest : List (Bool × Nat)} {a : Act} {w : World} {i : Nat} {o : Oper}
/-- what only reads: its value, in every world whose cells are those of w, where w has any -/
theorem wpPG_float {v : Value} (hi : ops[i]? = some o) (hw : Region.wanted o (yielded ops a.tmps) = true)
    (hy : ∀ w' : World, (∀ p : Addr, p.block ≠ gb → (w.cell? p).isSome = true → w'.cell? p = w.cell? p) → (execOp a.eval o).run P w' = .ok (.value v) w') (h : ∀ K : Act → Prop, (∀ a', wpPG gb P ops Q tail rest a' w → K a') → K (a.put o.dst v)) : wpPG gb P ops Q tail ((true, i) :: rest) a w :=
  ⟨o, v, hi, .inl ⟨hw, fun w' hb => hy w' (fun p hpg hp => by
    have hlt : p.block < w.heap.size := by
      cases hc : w.cell? p with
      | none => rw [hc] at hp; cases hp
      | some u => exact block_lt_of_cell hc
    exact hb.cell hlt hpg)⟩, h _ (fun _ h => h)⟩
theorem wpPG_skip (hi : ops[i]? = some o) (hw : Region.wanted o (yielded ops a.tmps) = false) (h : ∀ K : Act → Prop, (∀ a', wpPG gb P ops Q tail rest a' w → K a') → K (a.put o.dst undef)) : wpPG gb P ops Q tail ((true, i) :: rest) a w :=
  ⟨o, undef, hi, .inr ⟨hw, rfl⟩, h _ (fun _ h => h)⟩
theorem wpPG_skip' (hi : ops[i]? = some o) (hw : Region.wanted o (yielded ops a.tmps) = false) (h : ∀ K : Act → Prop, (∀ a', wpPG gb P ops Q tail rest a' w → K a') → K (a.put o.dst undef)) : wpPG gb P ops Q tail ((false, i) :: rest) a w := by
  show wpOp P ops Q i _ a w
  unfold wpOp
  simp only [hi, hw, Bool.false_eq_true, if_false]
  exact ⟨BelowB.refl _ _, h _ (fun _ h => h)⟩
/-- what comes up alone: a call -/
theorem wpPG_only (hi : ops[i]? = some o) (hw : Region.wanted o (yielded ops a.tmps) = true)
    (h : ∀ K : Act → World → Prop, (∀ a' w', BelowB gb w w' → wpPG gb P ops Q tail rest a' w' → K a' w') → o.wp P a w K Q) : wpPG gb P ops Q tail ((false, i) :: rest) a w := by
  show wpOp P ops Q i _ a w
  unfold wpOp
  simp only [hi, hw, if_true]
  exact .inl (h _ (fun a' w' hb hp => ⟨hb, hp⟩))
theorem wpPG_nil (h : wpList P ops Q tail a w) : wpPG gb P ops Q tail [] a w := h
end
end
end Go.Proofs.Ytmgockkjoogcaaa

namespace Go.Proofs.Ytmgockkjoogcaaa
open Go.RowKit
set_option linter.unusedVariables false
set_option maxRecDepth 100000 in
set_option maxHeartbeats 1000000 in
theorem session_first (B : Option Addr) (m d : Nat) (is : List It) (o : Nat) (w : World) (hI : LAt encT w B m is) (ho : o < m) (hm : m ≤ 1048576) :
    Calls Try.prog 51 #[.slice B m d, .int .i64 (o : Int)] w fun e w' => ∃ b : Nat, e = .returned (.int .i64 (b : Int)) ∧ FirstIs is o b ∧ Below w.heap.size w w' := by
  have hil := Lib.hid hI.len
  obtain ⟨jb, jo, y, rfl, hjb, hy, hyo, -⟩ := hI.item ho
  replace hI := Lib.hid hI
  replace hyo := Lib.hid hyo
  replace hy := Lib.hid hy
  obtain ⟨oz, hoz⟩ : ∃ z : Int, z = (o : Int) := ⟨_, rfl⟩
  rw [← hoz]
  have bo : 0 ≤ oz ∧ oz < (m : Int) := by omega
  go_enter Try.func51, Try.ntmps51
  go_wp2
  go_loopw [5] (fun t wr => ∃ k : Nat, k ≤ o ∧ t = .int .i64 k ∧ Hid (∀ (i : Nat) (x : It), k ≤ i → i ≤ o → is[i]? = some x → x.se = y.se) ∧ Hid (Below w.heap.size w wr)) (fun t _ => (intOf t).toNat)
  case atStart =>
    refine ⟨o, Nat.le_refl _, by rw [hoz], Lib.hid (fun i x h1 h2 hx => ?_), Lib.hid (Below.refl _ _)⟩
    have e : i = o := by omega
    rw [e, hy.out] at hx
    injection hx with hx
    rw [hx]
  case round =>
    obtain ⟨k, hk, ht, hall, hb⟩ := hrel
    have hIr := Lib.hid (hI.out.below hb.out)
    obtain ⟨jb', jo', y', hjB, hjb', hy', -, j0, -⟩ := hIr.out.item ho
    injection hjB with hjB
    injection hjB with e1 e2
    subst e1; subst e2
    rw [hy.out] at hy'; injection hy' with hy'; subst hy'
    rw [show o = oz.toNat by omega] at j0
    obtain ⟨kz, hkz⟩ : ∃ z : Int, z = (k : Int) := ⟨_, rfl⟩
    rw [← hkz] at ht
    subst ht
    by_cases hk0 : k = 0
    · have d1 : decide (0 < kz) = false := decide_eq_false (by omega)
      have hF : Hid (FirstIs is o k) := Lib.hid ⟨hk, fun i x z h1 h2 hx hz => by
        rw [hy.out] at hz; injection hz with hz; subst hz; exact hall.out i x h1 h2 hx, fun h => absurd h (by omega)⟩
      replace hkz := Lib.hid hkz
      replace hoz := Lib.hid hoz
      clear hall hIr hI
      go_wp2_with fail
      go_quiet (fail)
      go_wp2_with fail
      go_ret
      exact ⟨k, by rw [hkz.out]; rfl, hF.out, below_drewN hb.out _⟩
    · have d1 : decide (0 < kz) = true := decide_eq_true (by omega)
      obtain ⟨pz, hpz⟩ : ∃ z : Int, z = ((k - 1 : Nat) : Int) := ⟨_, rfl⟩
      have hw1 : IntKind.i64.wrap (kz - 1) = pz := by rw [IntKind.wrap_i64]; omega
      have hw2 : wrap64 (kz - 1) = pz := by unfold wrap64; omega
      obtain ⟨ib, io, x, hiB, hib, hx, -, i0, -⟩ := hIr.out.item (show k - 1 < m by omega)
      injection hiB with hiB
      injection hiB with e1 e2
      subst e1; subst e2
      rw [show k - 1 = pz.toNat by omega] at i0
      have bp : 0 ≤ pz ∧ pz < (m : Int) := by omega
      by_cases hse : x.se = y.se
      · have e1 : (x.se == y.se) = true := by simp [hse]
        have hall' : Hid (∀ (i : Nat) (x : It), k - 1 ≤ i → i ≤ o → is[i]? = some x → x.se = y.se) := Lib.hid (fun i z h1 h2 hz => by
          rcases Nat.lt_or_ge i k with h | h
          · rw [show i = k - 1 by omega, hx] at hz; injection hz with hz; subst hz; exact hse
          · exact hall.out i z h h2 hz)
        replace hkz := Lib.hid hkz
        replace hoz := Lib.hid hoz
        replace hpz := Lib.hid hpz
        replace hse := Lib.hid hse
        clear hall hIr hI hx
        go_wp2_with fail
        go_quiet (fail)
        go_wp2_with fail
        exact ⟨⟨k - 1, by omega, by rw [← hpz.out], hall', Lib.hid (below_drewN hb.out _)⟩, by have := hkz.out; have := hpz.out; simp [intOf]; omega⟩
      · have e1 : (x.se == y.se) = false := by simpa using hse
        have hF : Hid (FirstIs is o k) := Lib.hid ⟨hk, fun i x z h1 h2 hx hz => by
          rw [hy.out] at hz; injection hz with hz; subst hz; exact hall.out i x h1 h2 hx, fun _ u z hu hz => by
          rw [hy.out] at hz; injection hz with hz; subst hz
          rw [hx] at hu; injection hu with hu; subst hu; exact hse⟩
        replace hkz := Lib.hid hkz
        replace hoz := Lib.hid hoz
        replace hpz := Lib.hid hpz
        replace hse := Lib.hid hse
        clear hall hIr hI hx
        go_wp2_with fail
        go_quiet (fail)
        go_wp2_with fail
        go_ret
        exact ⟨k, by rw [hkz.out]; rfl, hF.out, below_drewN hb.out _⟩
theorem both_no {i : Int} {m : Nat} (h : ¬ (0 ≤ i ∧ i < (m : Int))) : (decide (0 ≤ i) && decide (i < (m : Int))) = false := by
  rw [Bool.eq_false_iff]; simpa using h
theorem cut_ahead {Goal F : Nat → Nat → World → Prop} {R : Prop} (h1 : (∀ a b c, F a b c → Goal a b c) → R) (h2 : ∀ a b c, F a b c → Goal a b c) : R := h1 h2
theorem info_int12 : (Try.prog.info? 3).map (fun i => (i.zero, i.size, i.bytes)) = some (some (.int .i64 0), 1, 8) := by kernel_rfl
theorem Row.setBlk {w : World} {A : Option Addr} {n G i : Nat} {t : TypeId} {xs : List Nat} {cs : List Value} (h : Row w A n xs) (k : Blk w G t cs) (hcs : ∀ x ∈ cs, ∃ A n c, x = .slice A n c) (u : Value) : Row (w.setCell ⟨G, i, none⟩ u) A n xs := by
  rcases Nat.eq_zero_or_pos n with h0 | h0
  · subst h0
    have hx : xs = [] := List.eq_nil_of_length_eq_zero h.len
    subst hx
    exact Row.nil _ _
  · obtain ⟨b, off, x, hA, hb, hx, hx64, hc⟩ := h.at_ h0
    refine h.setCell (fun ad e => ?_) u
    rw [hA] at e
    injection e with e
    subst e
    intro hbG
    have hbG : b = G := hbG
    subst hbG
    rw [Nat.add_zero, k.cell] at hc
    obtain ⟨_, _, _, e⟩ := hcs _ (List.mem_of_getElem? hc)
    cases e
theorem RowsC.setBlk {w : World} {G i : Nat} {t : TypeId} {vs cs : List Value} {xss : List (List Nat)} (h : RowsC w vs xss) (k : Blk w G t cs) (hcs : ∀ x ∈ cs, ∃ A n c, x = .slice A n c) (u : Value) : RowsC (w.setCell ⟨G, i, none⟩ u) vs xss :=
  ⟨h.1, fun j v xs h1 h2 => by
    obtain ⟨A, n, c, e, hr⟩ := h.2 j v xs h1 h2
    exact ⟨A, n, c, e, hr.setBlk k hcs u⟩⟩
theorem RowsC.slices {w : World} {vs : List Value} {xss : List (List Nat)} (h : RowsC w vs xss) : ∀ x ∈ vs, ∃ A n c, x = .slice A n c := fun x hx => by
  obtain ⟨i, hi⟩ := List.getElem?_of_mem hx
  have hl : i < xss.length := by rw [← h.1]; exact (List.getElem?_eq_some_iff.1 hi).1
  obtain ⟨A, n, c, e, -⟩ := h.2 i x _ hi (List.getElem?_eq_getElem hl)
  exact ⟨A, n, c, e⟩
theorem belowB_set {w w' : World} {g : Nat} (h : BelowB g w w') (o : Nat) (u : Value) : BelowB g w (w'.setCell ⟨g, o, none⟩ u) :=
  ⟨h.os, h.tape, h.output, by simpa using h.size, fun k hk hg => (Below.heap_setCell w' ⟨g, o, none⟩ u k (by simpa using hg)).trans (h.block k hk hg)⟩
/-- the rows' block G, of which the last ones, from e on, are laid -/
structure PartAt (t : TypeId) (w : World) (G n e : Nat) (is : List It) (vs : List Value) : Prop where
  k : Blk w G t vs
  r : RowsC w vs (partM is e)
  l : vs.length = n
theorem PartAt.below {t : TypeId} {w w' : World} {G n e : Nat} {is : List It} {vs : List Value} (h : PartAt t w G n e is vs) (hb : Below w.heap.size w w') : PartAt t w' G n e is vs := ⟨h.k.below hb h.k.lt, h.r.below hb, h.l⟩
theorem PartAt.put {t : TypeId} {w : World} {G n e : Nat} {is : List It} {vs : List Value} (h : PartAt t w G n (e + 1) is vs) (he : e < is.length) {A : Option Addr} {m c : Nat} (hr : Row w A m ((poM is).getD e [])) : PartAt t (w.setCell ⟨G, e, none⟩ (.slice A m c)) G n e is (vs.set e (.slice A m c)) := by
  refine ⟨h.k.set_ e _, ?_, by rw [List.length_set]; exact h.l⟩
  rw [← partM_set he]
  exact (h.r.setBlk h.k h.r.slices _).set ⟨A, m, c, rfl, hr.setBlk h.k h.r.slices _⟩ e
theorem PartAt.row {t : TypeId} {w : World} {G n e i : Nat} {is : List It} {vs : List Value} (h : PartAt t w G n e is vs) (h1 : e ≤ i) (h2 : i < is.length) : ∃ A m c, vs[i]? = some (.slice A m c) ∧ Row w A m ((poM is).getD i []) := by
  have hl : i < vs.length := by rw [h.r.1, partM_len]; exact h2
  obtain ⟨A, m, c, e, hr⟩ := h.r.2 i _ _ (List.getElem?_eq_getElem hl) (partM_get h1 h2)
  exact ⟨A, m, c, by rw [List.getElem?_eq_getElem hl, e], hr⟩
theorem PartAt.any {t : TypeId} {w : World} {G n e i : Nat} {is : List It} {vs : List Value} (h : PartAt t w G n e is vs) (h2 : i < n) : ∃ A m c, vs[i]? = some (.slice A m c) := by
  have hl : i < vs.length := by rw [h.l]; exact h2
  obtain ⟨A, m, c, e⟩ := h.r.slices _ (List.getElem_mem hl)
  exact ⟨A, m, c, by rw [List.getElem?_eq_getElem hl, e]⟩
set_option maxRecDepth 100000 in
set_option maxHeartbeats 1000000 in
theorem session_fill (G n c : Nat) (is : List It) (s e : Nat) (vs : List Value) (w : World) (hP : PartAt 60 w G n e is vs) (hn : n ≤ 4096) (hil : is.length = n) (hS : Seg is s e) :
    Calls Try.prog 52 #[.slice (some ⟨G, 0, none⟩) n c, .int .i64 (s : Int), .int .i64 (e : Int)] w fun en w' => en = .returned (.tuple #[]) ∧ (∃ vs', PartAt 60 w' G n s is vs') ∧ BelowB G w w' := by
  have hlt := hS.lt
  have hle := hS.le
  rw [hil] at hle
  obtain ⟨l, hl⟩ : ∃ l, e = l + 1 := ⟨e - 1, by omega⟩
  subst hl
  have hlast := hS.last (by omega)
  rw [hil, Nat.add_sub_cancel] at hlast
  have hNew := Lib.hid (fun W => row_NewO (n : Int) (by omega) (by omega) W)
  have hstep := Lib.hid (fun i h1 h2 => hS.step (i := i) (by omega) h1 h2)
  have hrw := Lib.hid (fun i (hi : i < is.length) => poM_row (is := is) (by omega) hi)
  obtain ⟨ez, hez⟩ : ∃ z : Int, z = ((l + 1 : Nat) : Int) := ⟨_, rfl⟩
  rw [← hez]
  have hw : wrap64 (ez - 1) = (l : Int) := by unfold wrap64; omega
  have hln : l < n := by omega
  replace hlast := Lib.hid hlast
  replace hil := Lib.hid hil
  replace hP := Lib.hid hP
  replace hS := Lib.hid hS
  replace hez := Lib.hid hez
  go_enter Try.func52, Try.ntmps52
  go_wp2_with fail
  rw [hw]
  refine (hNew.out _).mono ?_; rintro en w1 ⟨C, p, q, rfl, ho, hx64, hb1⟩
  have hP1 := hP.out.below hb1
  have hrow : Row w1 C p ((poM is).getD l []) := by rw [hlast.out]; exact Row.of_own ho hx64
  obtain ⟨A1, m1, c1, hv1⟩ := hP1.any hln
  have hc1 := hP1.k.cell l
  rw [hv1] at hc1
  have hf1 := hP1.k.frozen l
  have hP2 := Lib.hid (hP1.put (c := q) (by rw [hil.out]; exact hln) hrow)
  have hb2 := Lib.hid (belowB_set (BelowB.of (g := G) hb1) l (.slice C p q))
  clear ho hx64 hrow hv1 hP1 hb1 hNew hw
  go_wp2_with fail
  go_loopw [7] (fun t wr => ∃ (i : Nat) (vs' : List Value), s ≤ i ∧ i ≤ l ∧ t = .int .i64 (i : Int) ∧ Hid (PartAt 60 wr G n i is vs') ∧ Hid (BelowB G w wr)) (fun t _ => (intOf t).toNat)
  case atStart => exact ⟨l, _, by omega, Nat.le_refl _, rfl, hP2, hb2⟩
  case round =>
    clear hP2 hb2 hc1 hf1
    obtain ⟨i, vs', hsi, hil', ht, hPi, hbi⟩ := hrel
    obtain ⟨iz, hiz⟩ : ∃ z : Int, z = (i : Int) := ⟨_, rfl⟩
    rw [← hiz] at ht
    subst ht
    by_cases hgt : s < i
    · have d1 : decide ((s : Int) < iz) = true := decide_eq_true (by omega)
      obtain ⟨k, hk⟩ : ∃ k, i = k + 1 := ⟨i - 1, by omega⟩
      subst hk
      have hw1 : wrap64 (iz - 1) = (k : Int) := by unfold wrap64; omega
      have hkn : k < n := by omega
      have hsk : s ≤ k := by omega
      have bi : 0 ≤ iz ∧ iz < (n : Int) := by omega
      have hst := Lib.hid (hstep.out k (by omega) (by omega))
      obtain ⟨A2, m2, c2, hv2, hr2⟩ := hPi.out.row (i := k + 1) (Nat.le_refl _) (by rw [hil.out]; omega)
      have hc2 := hPi.out.k.cell iz.toNat
      rw [show iz.toNat = k + 1 by omega, hv2, ← show iz.toNat = k + 1 by omega] at hc2
      have hm2 : m2 ≤ 64 := by
        have h1 := hr2.len
        have h2 := (hrw.out (k + 1) (by rw [hil.out]; omega)).1
        have h3 := words_le hn
        rw [hil.out] at h2
        omega
      have cS := Lib.hid (fun W hW => row_Set A2 m2 c2 ((poM is).getD (k + 1) []) iz W hW (by omega) (by omega) (by omega))
      have hset := Lib.hid (show setR ((poM is).getD (k + 1) []) iz = (poM is).getD k [] from by rw [hiz]; exact hst.out)
      replace hr2 := Lib.hid hr2
      replace hiz := Lib.hid hiz
      clear hst hv2 hgt
      go_wp2_with fail
      refine (cS.out wr hr2.out).mono ?_; rintro en w3 ⟨C3, p3, q3, rfl, hr3, hb3⟩
      rw [hset.out] at hr3
      have hP3 := hPi.out.below hb3
      obtain ⟨A4, m4, c4, hv4⟩ := hP3.any hkn
      have hc4 := hP3.k.cell k
      rw [hv4] at hc4
      have hf4 := hP3.k.frozen k
      have ek : iz.toNat - 1 = k := by have := hiz.out; omega
      have bp : 1 ≤ iz ∧ iz - 1 < (n : Int) := by have := hiz.out; omega
      have hP4 := Lib.hid (show PartAt 60 (w3.setCell ⟨G, iz.toNat - 1, none⟩ (.slice C3 p3 q3)) G n k is (vs'.set k (.slice C3 p3 q3)) from by rw [ek]; exact hP3.put (c := q3) (by rw [hil.out]; exact hkn) hr3)
      have hb4 := Lib.hid (show BelowB G w (w3.setCell ⟨G, iz.toNat - 1, none⟩ (.slice C3 p3 q3)) from belowB_set (hbi.out.trans (BelowB.of hb3)) _ (.slice C3 p3 q3))
      rw [← ek] at hc4 hf4
      clear hr3 hv4 hP3 hb3 cS hset hr2 hc2 hw1 ek
      go_wp2_with fail
      exact ⟨⟨k, _, by omega, by omega, by have := hiz.out; congr 1; omega, hP4, hb4⟩, by have := hiz.out; simp [intOf]; omega⟩
    · have d1 : decide ((s : Int) < iz) = false := decide_eq_false (by omega)
      have his : i = s := by omega
      subst his
      replace hiz := Lib.hid hiz
      clear hgt
      go_wp2_with fail
      go_end0
      exact ⟨rfl, ⟨_, hPi.out⟩, hbi.out⟩
theorem PartAt.start {t : TypeId} {w : World} {G : Nat} {is : List It} (h : Blk w G t (List.replicate is.length (.slice none 0 0))) : PartAt t w G is.length is.length is (List.replicate is.length (.slice none 0 0)) := by
  refine ⟨h, ⟨by rw [partM_len, List.length_replicate], fun i v xs h1 h2 => ?_⟩, List.length_replicate⟩
  rw [partM_none] at h2
  have e1 := (List.mem_replicate.1 (List.mem_of_getElem? h1)).2
  have e2 := (List.mem_replicate.1 (List.mem_of_getElem? h2)).2
  subst e1; subst e2
  exact ⟨none, 0, 0, rfl, Row.nil _ _⟩
set_option maxRecDepth 100000 in
set_option maxHeartbeats 2000000 in
theorem session_PoF (v : FV) (f : Fac) (w : World) (hF : FactsAt w v f) (hm : v.m ≤ 4096) (hN : Nbr f.items) :
    Calls Try.prog 32 #[.agg #[.slice v.A v.n v.c, .slice v.B v.m v.d, .slice v.C v.k v.e]] w (RetMat1F (v.m : Int) (poM f.items) w) := by
  have hil := hF.is.len
  have hmk := mk_rows .i64 .i64 v.m v.m (Nat.le_refl _) (by omega)
  -- a call with facts v: they are boxed at g, the world is W0 then
  have hB0 := Lib.hid (FBox.new hF)
  obtain ⟨g, hg⟩ : ∃ g, g = w.heap.size := ⟨_, rfl⟩
  obtain ⟨W0, hW0⟩ : ∃ W, W = w.alloc (.cells #[.slice v.A v.n v.c, .slice v.B v.m v.d, .slice v.C v.k v.e] 29) := ⟨_, rfl⟩
  rw [← hW0, ← hg] at hB0
  clear hF
  obtain ⟨gr, hgr⟩ : ∃ g, g = W0.heap.size := ⟨_, rfl⟩
  obtain ⟨W1, hW1⟩ : ∃ W, W = W0.alloc (.cells #[.int .i64 0, .slice none 0 0] 35) := ⟨_, rfl⟩
  have b1 : Below W0.heap.size W0 W1 := by rw [hW1]; exact (Below.refl _ _).alloc (Nat.le_refl _) _
  have kR : MatB W1 gr 35 0 none 0 0 := by rw [hW1, hgr]; exact MatB.new W0 _
  have hB1 := Lib.hid (hB0.out.later b1)
  have hgw : w.heap.size ≤ gr := by rw [hgr]; exact hB0.out.o.size
  obtain ⟨G, hG⟩ : ∃ g, g = W1.heap.size := ⟨_, rfl⟩
  obtain ⟨W2, hW2⟩ : ∃ W, W = W1.alloc (.cells (zeros v.m (.slice none 0 0)) 60) := ⟨_, rfl⟩
  have b2 : Below W1.heap.size W1 W2 := by rw [hW2]; exact (Below.refl _ _).alloc (Nat.le_refl _) _
  have hP0 := Lib.hid (show ∃ vs, PartAt 60 W2 G v.m v.m f.items vs from ⟨_, by
    rw [← hil]; refine PartAt.start ?_; rw [hW2, hG, hil]; exact Blk.new W1 _ _⟩)
  have hgG := Lib.hid (show gr < G from by rw [hG]; exact kR.lt)
  have hF1 := Lib.hid (fun o wr (h : Below W1.heap.size W1 wr) (ho : o < v.m) => session_first v.B v.m v.d f.items o wr (hB1.out.later h).f.is ho (by omega))
  have hfill := Lib.hid (fun s e vs wr (hP : PartAt 60 wr G v.m e f.items vs) (hS : Seg f.items s e) => session_fill G v.m v.m f.items s e vs wr hP hm hil hS)
  have hEnd := Lib.hid (show EndAt f.items v.m from by rw [← hil]; exact EndAt.all _)
  have b2h := Lib.hid b2
  replace hil := Lib.hid hil
  replace hN := Lib.hid hN
  have p0 := hB1.out.c0
  have p1 := hB1.out.c1
  have p2 := hB1.out.c2
  clear b1 b2
  replace kR := Lib.hid kR
  go_enter Try.func32, Try.ntmps32
  go_wp2_with (first | (rw [← hW0, ← hg]; clear hW0 hg) | (rw [← hW1, ← hgr]; clear hW1; replace hgr := Lib.hid hgr) | (rw [← hW2, ← hG]; clear hW2; replace hG := Lib.hid hG))
  go_loopw [5] (fun t wr => ∃ e : Nat, e ≤ v.m ∧ t = .int .i64 (e : Int) ∧ Hid (∃ vs, PartAt 60 wr G v.m e f.items vs) ∧ Hid (EndAt f.items e) ∧ Hid (Below W1.heap.size W1 wr)) (fun t _ => (intOf t).toNat)
  case atStart => exact ⟨v.m, Nat.le_refl _, rfl, hP0, hEnd, b2h⟩
  case round =>
    clear hP0 hEnd b2h p0 p1 p2
    obtain ⟨e, hem, ht, hP, hE, hb⟩ := hrel
    have hBr := Lib.hid (hB1.out.later hb.out)
    obtain ⟨ez, hez⟩ : ∃ z : Int, z = (e : Int) := ⟨_, rfl⟩
    rw [← hez] at ht
    subst ht
    by_cases he0 : 0 < e
    · have d1 : decide (0 < ez) = true := decide_eq_true (by omega)
      obtain ⟨l, hl⟩ : ∃ l, e = l + 1 := ⟨e - 1, by omega⟩
      subst hl
      have hw1 : wrap64 (ez - 1) = ez - 1 := by unfold wrap64; omega
      have cF := hF1.out l wr hb.out (by omega)
      rw [show (l : Int) = ez - 1 by omega] at cF
      replace cF := Lib.hid cF
      replace hez := Lib.hid hez
      have p0 := hBr.out.c0
      have p1 := hBr.out.c1
      have p2 := hBr.out.c2
      go_wp2_with fail
      refine cF.out.mono ?_; rintro en w3 ⟨s, rfl, hfi, b3⟩
      obtain ⟨vs, hPv⟩ := hP.out
      obtain ⟨hSeg, hEs⟩ := hfi.seg (e := l + 1) hN.out (by omega) (by rw [hil.out]; exact hem) hE.out
      have hsl := hSeg.lt
      have cL := hfill.out s (l + 1) vs w3 (hPv.below b3) hSeg
      rw [← hez.out] at cL
      replace cL := Lib.hid cL
      replace hEs := Lib.hid hEs
      have hb3 := Lib.hid (hb.out.trans (b3.mono hb.out.size))
      clear p0 p1 p2 cF hSeg hfi hPv b3
      go_wp2_with fail
      refine cL.out.mono ?_; rintro en w4 ⟨rfl, hP4, b4⟩
      replace hP4 := Lib.hid hP4
      have hb4 := Lib.hid (hb3.out.trans (b4.below hb3.out.size (by rw [hG.out]; exact Nat.le_refl _)))
      clear b4 cL
      go_wp2_with fail
      exact ⟨⟨s, by omega, rfl, hP4, hEs, hb4⟩, by have := hez.out; simp [intOf]; omega⟩
    · have d1 : decide (0 < ez) = false := decide_eq_false (by omega)
      have h0 : e = 0 := by omega
      subst h0
      replace hez := Lib.hid hez
      obtain ⟨vs, hPv⟩ := hP.out
      have hrows : RowsAt wr (some ⟨G, 0, none⟩) v.m (poM f.items) := ⟨vs, by have := hPv.k.rd; rwa [hPv.l] at this, by rw [← partM_all]; exact hPv.r⟩
      have kR3 := kR.out.below_ (show Below W1.heap.size W1 wr from hb.out)
      have f0 := kR3.c0
      have f1 := kR3.c1
      have g0 := kR3.frozen 0
      have g1 := kR3.frozen 1
      have hcc := kR3.two (.int .i64 (v.m : Int)) (.slice (some ⟨G, 0, none⟩) v.m v.m)
      have hc1 := Lib.hid hcc.1
      have hc2 := Lib.hid hcc.2
      have hrf := Lib.hid (hrows.putB kR3 (fun _ ad e => by injection e with e; subst e; have := hgG.out; show G ≠ gr; omega) (.int .i64 (v.m : Int)) (.slice (some ⟨G, 0, none⟩) v.m v.m))
      have hbf := Lib.hid (((below_trans2 hB1.out.o hb.out).setCell (p := ⟨gr, 0, none⟩) hgw (.int .i64 (v.m : Int))).setCell (p := ⟨gr, 1, none⟩) hgw (.slice (some ⟨G, 0, none⟩) v.m v.m))
      clear hcc hrows kR3 hPv hP
      go_wp2_with fail
      exact bodyPost_ret (v := .agg #[.int .i64 (v.m : Int), .slice (some ⟨G, 0, none⟩) v.m v.m]) (by simp [results, Try.results32, go_sem, hc1.out, hc2.out]) rfl ⟨some ⟨G, 0, none⟩, v.m, v.m, rfl, hrf.out, Nat.le_refl _, hbf.out, fun ad e => by injection e with e; subst e; have := hgG.out; show w.heap.size ≤ G; omega⟩
theorem session_Po (v : FV) (f : Fac) (w : World) (hF : FactsAt w v f) (hm : v.m ≤ 4096) (hN : Nbr f.items) :
    Calls Try.prog 32 #[.agg #[.slice v.A v.n v.c, .slice v.B v.m v.d, .slice v.C v.k v.e]] w (RetMat1 (v.m : Int) (poM f.items) w) :=
  (session_PoF v f w hF hm hN).mono fun _ _ ⟨A, n, c, he, hr, hc, hb, _⟩ => ⟨A, n, c, he, hr, hc, hb⟩
end Go.Proofs.Ytmgockkjoogcaaa

namespace Go.Proofs.Ytmgockkjoogcaaa
open Go.RowKit
set_option linter.unusedVariables false
theorem rfPs_len (frm : List Int) (i : Nat) : (rfPs frm i).length ≤ i := by
  unfold rfPs
  rw [List.length_map]
  exact Nat.le_trans (List.length_filter_le _ _) (by simp)
theorem rfPs_of {f : Fac} {m : Nat} (hw : WholeF f) (hm : f.items.length = m) (h : m ≤ 4096) : ofN (m : Int) (rfPs f.frm m) = (m : Int) ∧ ofM (m : Int) (rfPs f.frm m) = rfM f.items.length f.frm ∧ ofE (m : Int) (rfPs f.frm m) = 0 ∧ OkI (rfPs f.frm m) := by
  have h1 := rfPs_ok hw
  have h2 := hw.len
  rw [h2, hm] at h1
  have h0 : ofOk (m : Int) (rfPs f.frm m) = true := by
    unfold ofOk
    rw [Bool.and_eq_true, List.all_eq_true]
    exact ⟨belowZ_yes (by omega) (by omega), h1⟩
  refine ⟨by unfold ofN; rw [if_pos h0], by unfold ofM; rw [if_pos h0]; unfold rfM; rw [h2, hm]; rfl, by unfold ofE; rw [if_pos h0], fun p hp => ?_⟩
  obtain ⟨-, -, a, b, c, d⟩ := okP_yes (h1 p hp)
  omega
set_option maxRecDepth 100000 in
set_option maxHeartbeats 2000000 in
theorem cause_Rf (v : FV) (f : Fac) (w : World) (hF : FactsAt w v f) (hm : v.m ≤ 4096) (hw : WholeF f) :
    Calls Try.prog 10 #[.agg #[.slice v.A v.n v.c, .slice v.B v.m v.d, .slice v.C v.k v.e]] w (RetMat1 (v.m : Int) (rfM f.items.length f.frm) w) := by
  have hil := hF.is.len
  have hfl := hF.fs.len
  have hkv : v.k = v.m := by rw [← hil, ← hfl]; exact hw.len
  have gq := (rfM_good hw (by omega)).1
  have hrl := gq.len
  have hpos := Lib.hid (fun h0 => rows_len_pos gq h0)
  obtain ⟨o1, o2, o3, hoi⟩ := rfPs_of hw hil hm
  have cO := fun A n c W hp hn => mat_Of (v.m : Int) A n c (rfPs f.frm v.m) W hp hn
  rw [o1, o2, o3] at cO
  replace cO := Lib.hid cO
  replace hoi := Lib.hid hoi
  obtain ⟨rm, hrm⟩ : ∃ m, m = rfM f.items.length f.frm := ⟨_, rfl⟩
  rw [← hrm] at hrl cO hpos ⊢
  rw [hil] at hrl hpos
  have hlt' := hw.lt
  rw [hil] at hlt'
  replace hlt' := Lib.hid hlt'
  replace hil := Lib.hid hil
  replace hfl := Lib.hid hfl
  replace hkv := Lib.hid hkv
  replace hrl := Lib.hid hrl
  clear gq o1 o2 o3 hrm
  obtain ⟨i0, hi0, hz0, hz1, hz2⟩ := info_parts info_pair
  replace hi0 := Lib.hid hi0
  replace hz0 := Lib.hid hz0
  replace hz1 := Lib.hid hz1
  replace hz2 := Lib.hid hz2
  -- a call with facts v: they are boxed at g, the world is W0 then
  have hB0 := Lib.hid (FBox.new hF)
  obtain ⟨g, hg⟩ : ∃ g, g = w.heap.size := ⟨_, rfl⟩
  obtain ⟨W0, hW0⟩ : ∃ W, W = w.alloc (.cells #[.slice v.A v.n v.c, .slice v.B v.m v.d, .slice v.C v.k v.e] 29) := ⟨_, rfl⟩
  rw [← hW0, ← hg] at hB0
  clear hF
  obtain ⟨gr, hgr⟩ : ∃ g, g = W0.heap.size := ⟨_, rfl⟩
  obtain ⟨W1, hW1⟩ : ∃ W, W = W0.alloc (.cells #[.int .i64 0, .slice none 0 0] 35) := ⟨_, rfl⟩
  have b1 : Below W0.heap.size W0 W1 := by rw [hW1]; exact (Below.refl _ _).alloc (Nat.le_refl _) _
  have kR := Lib.hid (show MatB W1 gr 35 0 none 0 0 from by rw [hW1, hgr]; exact MatB.new W0 _)
  have hB1 := Lib.hid (hB0.out.later b1)
  have hgw := Lib.hid (show w.heap.size ≤ gr from by rw [hgr]; exact hB0.out.o.size)
  have p0 := hB1.out.c0
  have p1 := hB1.out.c1
  have p2 := hB1.out.c2
  go_enter Try.func10, Try.ntmps10
  go_wp2_with (first | (rw [← hW0, ← hg]; clear hW0 hg) | (rw [← hW1, ← hgr]; clear hW1; replace hgr := Lib.hid hgr))
  clear p0 p1 p2 b1 hB0
  go_loopw [3, 11] (fun l t wr => ∃ i : Nat, i ≤ v.m ∧ t = .int .i64 i ∧ Hid (wr.ownsRow W1.heap.size 62 2 l (rfPs f.frm i).length (cellsP (rfPs f.frm i))) ∧ Hid (Below W1.heap.size W1 wr)) (fun _ t _ => v.m - (intOf t).toNat)
  case atStart => exact ⟨0, Nat.zero_le _, rfl, Lib.hid (World.ownsRow_nil _ _ _ _), Lib.hid (Below.refl _ _)⟩
  case round =>
    obtain ⟨i, hi, rfl, hown, hbb⟩ := hrel
    have hB := Lib.hid (hB1.out.later hbb.out)
    by_cases hlt : i < v.m
    · have hik : (i : Int) < (v.k : Int) := by have := hkv.out; omega
      obtain ⟨ib, io, z, hzC, hib, hz, hzo, j0⟩ := hB.out.f.fs.int (show i < v.k by have := hkv.out; omega)
      rw [hzC]
      have hgd : f.frm.getD i 0 = z := by rw [List.getD_eq_getElem?_getD, hz]; rfl
      have hrs := rfPs_succ f.frm i
      rw [hgd] at hrs
      have hpl : (rfPs f.frm i).length ≤ 4096 := Nat.le_trans (rfPs_len _ _) (by omega)
      clear hgd
      by_cases hz00 : 0 ≤ z
      · rw [if_pos hz00] at hrs
        have e0 : decide (0 ≤ z) = true := decide_eq_true hz00
        have e1 : decide (z ≥ 0) = true := decide_eq_true hz00
        replace hrs := Lib.hid hrs
        have hownD := hown.out
        have hbD := hbb.out
        have hbase : W1.heap.size ≤ wr.heap.size := hbD.size
        clear hz hzo hzC hib
        go_wp2_with (at_builtin; refine wpList_append_lies _ rfl (.tmp 18) (.tmp 22) _ rfl W1.heap.size 62 i0 _ 2 16 Try.underlying61 hi0.out hz0.out hz1.out hz2.out rfl (by omega) _ _ _ (by rfl) (hownD.alloc _) ⟨wr.heap.size, 0, none⟩ 1 1 [.int .i64 z, .int .i64 (i : Int)] rfl rfl (cell_two_new _ _ _ _) (by simp [Value.oneCell']) (by omega) (by unfold maxLen; omega) (by omega) (by simp; omega) _ rfl ?_; intro g1 cap w2 hown2 hgrow hat hlt1; have hb2 := Lib.hid ((hbD.alloc hbD.size _).grown hgrow (by have := hbD.size; simp; omega) (own_lt_block hownD)); clear hgrow hat hlt1)
        go_roundw
        case rel =>
          refine ⟨i + 1, by omega, by go_num, ?_, hb2⟩
          rw [hrs.out, List.length_append, cellsP_snoc]
          exact Lib.hid hown2
        case measure => simp [intOf]; omega
      · rw [if_neg hz00] at hrs
        have e0 : decide (0 ≤ z) = false := decide_eq_false hz00
        have e1 : decide (z ≥ 0) = false := decide_eq_false hz00
        replace hrs := Lib.hid hrs
        clear hzC hz hzo
        go_wp2_with fail
        exact ⟨⟨i + 1, by omega, by go_num, Lib.hid (by rw [hrs.out]; exact hown.out), hbb⟩, by simp [intOf]; omega⟩
    · have hik : ¬ (i : Int) < (v.k : Int) := by have := hkv.out; omega
      have him : i = v.m := by omega
      subst him
      have hpl : (rfPs f.frm v.m).length ≤ 4096 := Nat.le_trans (rfPs_len _ _) (by omega)
      obtain ⟨A, c, rfl, hP⟩ := PairsAt.of_own hown.out hoi.out
      have hcall := Lib.hid (cO.out A _ c wr hP (by omega))
      have p0 := hB.out.c0
      have p1 := hB.out.c1
      have p2 := hB.out.c2
      clear hown hP
      go_wp2_with fail
      refine hcall.out.mono ?_; rintro e w2 ⟨C, n2, c2, rfl, r2, hc2, b2⟩
      obtain rfl : n2 = v.m := by rw [← r2.len]; exact hrl.out
      have bU : Below W1.heap.size W1 w2 := below_trans2 hbb.out b2
      obtain ⟨M, hM⟩ : ∃ M, M = w2.heap.size := ⟨_, rfl⟩
      obtain ⟨W2, hW2⟩ : ∃ W2, W2 = w2.alloc (.cells #[.int .i64 0, .slice none 0 0] 35) := ⟨_, rfl⟩
      have b3 : Below w2.heap.size w2 W2 := by rw [hW2]; exact (Below.refl _ _).alloc (Nat.le_refl _) _
      have kM : MatB W2 M 35 0 none 0 0 := by rw [hW2, hM]; exact MatB.new w2 _
      have hne : 0 < v.m → ∀ ad, C = some ad → ad.block ≠ M := fun h0 ad e => by have := r2.block_lt h0 ad e; omega
      have r3 := r2.below b3
      have hUM : W1.heap.size ≤ M := by have := bU.size; omega
      have bV := below_trans2 bU b3
      obtain ⟨W3, hW3⟩ : ∃ W3, W3 = (World.setCell W2 ⟨M, 0, none⟩ (.int .i64 (v.m : Int))).setCell ⟨M, 1, none⟩ (.slice C v.m c2) := ⟨_, rfl⟩
      have r4 := Lib.hid (show RowsAt W3 C v.m rm from by rw [hW3]; exact r3.putB kM hne _ _)
      have k4 := Lib.hid (show MatB W3 M 35 (v.m : Int) C v.m c2 from by rw [hW3]; exact kM.put _ _ _ _)
      have bW : Below W1.heap.size W1 W3 := by rw [hW3]; exact (bV.setCell (p := ⟨M, 0, none⟩) hUM _).setCell (p := ⟨M, 1, none⟩) hUM _
      have m0 := kM.c0
      have m1 := kM.c1
      have m2 := kM.frozen 0
      have m3 := kM.frozen 1
      have hfz := (r4.out).farZ (kR.out.below_ bW)
      have hne2 : 0 < v.m → ∀ ad, C = some ad → ad.block ≠ gr := fun h0 => hfz (hpos.out h0) h0
      have kR4 := kR.out.below_ bW
      have f0 := kR4.c0
      have f1 := kR4.c1
      have g0 := kR4.frozen 0
      have g1 := kR4.frozen 1
      have n0 := k4.out.c0
      have n1 := k4.out.c1
      have hcc := kR4.two (.int .i64 (v.m : Int)) (.slice C v.m c2)
      have hc3 := Lib.hid hcc.1
      have hc4 := Lib.hid hcc.2
      have hrf := Lib.hid (r4.out.putB kR4 hne2 (.int .i64 (v.m : Int)) (.slice C v.m c2))
      have hbf := Lib.hid (((below_trans2 hB1.out.o bW).setCell (p := ⟨gr, 0, none⟩) hgw.out (.int .i64 (v.m : Int))).setCell (p := ⟨gr, 1, none⟩) hgw.out (.slice C v.m c2))
      clear p0 p1 p2 hne hne2 hfz hcc r2 r3 b2 b3 bU bV bW kM kR4 r4 k4
      go_wp2_with (first | (rw [← hW2, ← hM]; clear hW2; replace hM := Lib.hid hM) | (rw [← hW3]; clear hW3 m0 m1 m2 m3))
      exact bodyPost_ret (v := .agg #[.int .i64 (v.m : Int), .slice C v.m c2]) (by simp [results, Try.results10, go_sem, hc3.out, hc4.out]) rfl ⟨C, v.m, c2, rfl, hrf.out, hc2, hbf.out⟩
set_option maxRecDepth 100000 in
set_option maxHeartbeats 2000000 in
theorem cause_Edges (v : FV) (f : Fac) (w : World) (hF : FactsAt w v f) (hm : v.m ≤ 4096) (hw : WholeF f) (hN : Nbr f.items) :
    Calls Try.prog 12 #[.agg #[.slice v.A v.n v.c, .slice v.B v.m v.d, .slice v.C v.k v.e]] w (RetMat1 (v.m : Int) (edgeM f) w) := by
  have hil := hF.is.len
  have gp := poM_good (is := f.items) (by omega)
  have gq := rfM_good hw (by omega)
  rw [hil] at gp gq
  obtain ⟨pm, hpm⟩ : ∃ m, m = poM f.items := ⟨_, rfl⟩
  obtain ⟨rm, hrm⟩ : ∃ m, m = rfM f.items.length f.frm := ⟨_, rfl⟩
  rw [hil] at hrm
  have cPo := fun W hW => session_Po v f W hW hm hN
  have cRf := fun W hW => cause_Rf v f W hW hm hw
  unfold edgeM
  rw [hil] at cRf ⊢
  rw [← hpm] at gp cPo ⊢
  rw [← hrm] at gq cRf ⊢
  have hpl := Lib.hid gp.1.len
  have hrl := Lib.hid gq.1.len
  have hpq := Lib.hid (show ∀ (i : Nat) (xs ys : List Nat), pm[i]? = some xs → rm[i]? = some ys → xs.length = ys.length ∧ xs.length ≤ 1024 from fun i xs ys h1 h2 => by
    have e1 := (gp.1.row xs (List.mem_of_getElem? h1)).2.2.1
    have e2 := (gq.1.row ys (List.mem_of_getElem? h2)).2.2.1
    have e3 := gp.1.small xs (List.mem_of_getElem? h1)
    omega)
  have hpos := Lib.hid (fun h0 => rows_len_pos (orM_good gp.1 gq.1).1 h0)
  replace cPo := Lib.hid cPo
  replace cRf := Lib.hid cRf
  clear gp gq hpm hrm hil
  -- a call with facts v: they are boxed at g, the world is W0 then
  have hB0 := Lib.hid (FBox.new hF)
  obtain ⟨g, hg⟩ : ∃ g, g = w.heap.size := ⟨_, rfl⟩
  obtain ⟨W0, hW0⟩ : ∃ W, W = w.alloc (.cells #[.slice v.A v.n v.c, .slice v.B v.m v.d, .slice v.C v.k v.e] 29) := ⟨_, rfl⟩
  rw [← hW0, ← hg] at hB0
  clear hF
  obtain ⟨gr, hgr⟩ : ∃ g, g = W0.heap.size := ⟨_, rfl⟩
  obtain ⟨W1, hW1⟩ : ∃ W, W = W0.alloc (.cells #[.int .i64 0, .slice none 0 0] 35) := ⟨_, rfl⟩
  have b1 : Below W0.heap.size W0 W1 := by rw [hW1]; exact (Below.refl _ _).alloc (Nat.le_refl _) _
  have kR : MatB W1 gr 35 0 none 0 0 := by rw [hW1, hgr]; exact MatB.new W0 _
  have hB1 := Lib.hid (hB0.out.later b1)
  have hgw := Lib.hid (show w.heap.size ≤ gr from by rw [hgr]; exact hB0.out.o.size)
  go_enter Try.func12, Try.ntmps12
  go_wp2_with (first | (rw [← hW0, ← hg]; clear hW0 hg) | (rw [← hW1, ← hgr]; clear hW1; replace hgr := Lib.hid hgr))
  refine wp_region_tree (.flt 0 (.flt 2 (.two 1 8 (.two 3 8 (.two 4 8 (.flt 5 (.flt 6 (.flt 7 (.one 8 (.one 9 (.flt 10 .done)))))) (.one 4 (.flt 5 (.flt 6 (.flt 7 (.one 9 (.flt 10 .done))))))) (.one 3 (.one 4 (.flt 5 (.flt 6 (.flt 7 (.one 9 (.flt 10 .done)))))))) (.one 1 (.one 3 (.one 4 (.flt 5 (.flt 6 (.flt 7 (.one 9 (.flt 10 .done))))))))))) (by kernel_rfl) (by kernel_rfl) (fun U hU => ?_)
  have hkR := Lib.hid (show MatB U gr 35 0 none 0 0 from by rw [hU.out]; exact kR.below_ (Below.refl _ _).drew)
  have hBU := Lib.hid (show FBox w g v f U from by rw [hU.out]; exact hB1.out.later (Below.refl _ _).drew)
  clear hU hB1 b1 kR hB0
  have bW : Below U.heap.size U U := Below.refl _ _
  have p0 := hBU.out.c0
  have p1 := hBU.out.c1
  have p2 := hBU.out.c2
  iterate 2
    refine wpPT_float (v := ?_) rfl (by rfl) (fun w' hw' => ?_) (fun K hK => ?_)
    rotate_left
    · (go_simp; try with_reducible rfl)
    go_simp
    refine hK _ ?_
    clear hK K
  clear p0 p1 p2
  refine wpPT_two rfl (by rfl) rfl (by rfl) (fun K hK => ?_) (fun K hK => ?_)
  · skip
    go_simp
    -- a call's matrix r1 : RowsAt, in the world U; the new world is v1
    refine (cPo.out U (hBU.out.later bW).f).mono ?_; rintro e v1 ⟨A1, n1, c1, rfl, r1, hc1, b⟩
    obtain rfl : n1 = v.m := by rw [← r1.len]; exact hpl.out
    replace bW := below_trans2 bW b
    refine hK _ _ bW ?_
    clear hK K
    replace r1 := Lib.hid r1
    clear b
    refine wpPT_two rfl (by rfl) rfl (by rfl) (fun K hK => ?_) (fun K hK => ?_)
    · skip
      go_simp
      -- a call's matrix r2 : RowsAt, in the world v1; the new world is v2
      refine (cRf.out v1 (hBU.out.later bW).f).mono ?_; rintro e v2 ⟨A2, n2, c2, rfl, r2, hc2, b⟩
      obtain rfl : n2 = v.m := by rw [← r2.len]; exact hrl.out
      replace bW := below_trans2 bW b
      refine hK _ _ bW ?_
      clear hK K
      replace r2 := Lib.hid r2
      replace r1 := Lib.hid (r1.out.below b)
      clear b
      refine wpPT_two rfl (by rfl) rfl (by rfl) (fun K hK => ?_) (fun K hK => ?_)
      · skip
        have cE := Lib.hid (mat_Or A1 A2 v.m c1 c2 pm rm v2 r1.out r2.out hm hpq.out)
        go_simp
        refine cE.out.mono ?_; rintro e v3 ⟨A3, n3, c3, rfl, r3, hc3, b⟩
        obtain rfl : n3 = v.m := by rw [← r3.len, orM_len]; exact hpl.out
        replace bW := below_trans2 bW b
        refine hK _ _ bW ?_
        clear hK K cE r1 r2
        clear b
        iterate 3
          refine wpPT_float (v := ?_) rfl (by rfl) (fun w' hw' => ?_) (fun K hK => ?_)
          rotate_left
          · (go_simp; try with_reducible rfl)
          go_simp
          refine hK _ ?_
          clear hK K
        refine wpPT_one rfl (by rfl) (fun K hK => ?_)
        go_simp
        obtain ⟨M, hM⟩ : ∃ M, M = (World.heap v3).size := ⟨_, rfl⟩
        obtain ⟨v4, hw⟩ : ∃ X : World, X = World.alloc v3 (.cells #[.int .i64 0, .slice none 0 0] 35) := ⟨_, rfl⟩
        rw [← hw, ← hM]
        have b : Below (World.heap v3).size v3 v4 := by rw [hw]; exact below_alloc _ _
        have hUM : U.heap.size ≤ M := by rw [hM]; exact bW.size
        replace bW := below_trans2 bW b
        refine hK _ _ bW ?_
        clear hK K
        have kM := Lib.hid (show MatB v4 M 35 0 none 0 0 from by rw [hw, hM]; exact MatB.new _ _)
        have hne : 0 < v.m → ∀ ad, A3 = some ad → ad.block ≠ M := fun h0 ad e => by have := r3.block_lt h0 ad e; omega
        replace r3 := r3.below b
        clear b
        clear hw hM
        -- M holds the zero matrix in v4; the rows lie apart from it (hne)
        have f0 := kM.out.c0
        have f1 := kM.out.c1
        have g0 := kM.out.frozen 0
        have g1 := kM.out.frozen 1
        refine wpPT_one rfl (by rfl) (fun K hK => ?_)
        go_simp
        obtain ⟨wz, hw⟩ : ∃ X : World, X = (World.setCell v4 ⟨M, 0, none⟩ (.int .i64 (v.m : Int))).setCell ⟨M, 1, none⟩ (.slice A3 v.m c3) := ⟨_, rfl⟩
        rw [← hw]
        have r4 := Lib.hid (show RowsAt wz A3 v.m (orM pm rm) from by rw [hw]; exact r3.putB kM.out hne _ _)
        have k4 := Lib.hid (show MatB wz M 35 (v.m : Int) A3 v.m c3 from by rw [hw]; exact kM.out.put _ _ _ _)
        replace bW : Below U.heap.size U wz := by rw [hw]; exact (bW.setCell (p := ⟨M, 0, none⟩) hUM _).setCell (p := ⟨M, 1, none⟩) hUM _
        refine hK _ _ bW ?_
        clear hK K f0 f1 g0 g1 hw r3 kM
        iterate 1
          refine wpPT_float (v := ?_) rfl (by rfl) (fun w' hw' => ?_) (fun K hK => ?_)
          rotate_left
          · (go_simp; try with_reducible rfl)
          go_simp
          refine hK _ ?_
          clear hK K
        refine wpPT_done (NoPanic.normal ?_)
        have kR4 := hkR.out.below_ bW
        have m0 := k4.out.c0
        have m1 := k4.out.c1
        have f0 := kR4.c0
        have f1 := kR4.c1
        have g0 := kR4.frozen 0
        have g1 := kR4.frozen 1
        have hcc := kR4.two (.int .i64 (v.m : Int)) (.slice A3 v.m c3)
        have hc1 := Lib.hid hcc.1
        have hc2 := Lib.hid hcc.2
        have hrf := Lib.hid (r4.out.putB kR4 (fun h0 => r4.out.farZ kR4 (hpos.out h0) h0) (.int .i64 (v.m : Int)) (.slice A3 v.m c3))
        have hbf := Lib.hid (((below_trans2 hBU.out.o bW).setCell (p := ⟨gr, 0, none⟩) hgw.out (.int .i64 (v.m : Int))).setCell (p := ⟨gr, 1, none⟩) hgw.out (.slice A3 v.m c3))
        clear hcc bW hne k4 r4
        go_wp2_with fail
        exact bodyPost_ret (v := .agg #[.int .i64 (v.m : Int), .slice A3 v.m c3]) (by simp [results, Try.results12, go_sem, hc1.out, hc2.out]) rfl ⟨A3, v.m, c3, rfl, hrf.out, hc3, hbf.out⟩
      · skip
        go_simp
        obtain ⟨M, hM⟩ : ∃ M, M = (World.heap v2).size := ⟨_, rfl⟩
        obtain ⟨v5, hw⟩ : ∃ X : World, X = World.alloc v2 (.cells #[.int .i64 0, .slice none 0 0] 35) := ⟨_, rfl⟩
        rw [← hw, ← hM]
        have b : Below (World.heap v2).size v2 v5 := by rw [hw]; exact below_alloc _ _
        have hUM : U.heap.size ≤ M := by rw [hM]; exact bW.size
        replace bW := below_trans2 bW b
        refine hK _ _ bW ?_
        clear hK K
        have kM := Lib.hid (show MatB v5 M 35 0 none 0 0 from by rw [hw, hM]; exact MatB.new _ _)
        replace r1 := Lib.hid (r1.out.below b)
        replace r2 := Lib.hid (r2.out.below b)
        clear b
        clear hw hM
        refine wpPT_one rfl (by rfl) (fun K hK => ?_)
        have cE := Lib.hid (mat_Or A1 A2 v.m c1 c2 pm rm v5 r1.out r2.out hm hpq.out)
        go_simp
        refine cE.out.mono ?_; rintro e v6 ⟨A3, n3, c3, rfl, r3, hc3, b⟩
        obtain rfl : n3 = v.m := by rw [← r3.len, orM_len]; exact hpl.out
        replace bW := below_trans2 bW b
        refine hK _ _ bW ?_
        clear hK K cE r1 r2
        have hne : 0 < v.m → ∀ ad, A3 = some ad → ad.block ≠ M := fun h0 => r3.farZ (kM.out.below_ b) (hpos.out h0) h0
        replace kM := Lib.hid (kM.out.below_ b)
        clear b
        iterate 3
          refine wpPT_float (v := ?_) rfl (by rfl) (fun w' hw' => ?_) (fun K hK => ?_)
          rotate_left
          · (go_simp; try with_reducible rfl)
          go_simp
          refine hK _ ?_
          clear hK K
        -- M holds the zero matrix in v6; the rows lie apart from it (hne)
        have f0 := kM.out.c0
        have f1 := kM.out.c1
        have g0 := kM.out.frozen 0
        have g1 := kM.out.frozen 1
        refine wpPT_one rfl (by rfl) (fun K hK => ?_)
        go_simp
        obtain ⟨wz, hw⟩ : ∃ X : World, X = (World.setCell v6 ⟨M, 0, none⟩ (.int .i64 (v.m : Int))).setCell ⟨M, 1, none⟩ (.slice A3 v.m c3) := ⟨_, rfl⟩
        rw [← hw]
        have r4 := Lib.hid (show RowsAt wz A3 v.m (orM pm rm) from by rw [hw]; exact r3.putB kM.out hne _ _)
        have k4 := Lib.hid (show MatB wz M 35 (v.m : Int) A3 v.m c3 from by rw [hw]; exact kM.out.put _ _ _ _)
        replace bW : Below U.heap.size U wz := by rw [hw]; exact (bW.setCell (p := ⟨M, 0, none⟩) hUM _).setCell (p := ⟨M, 1, none⟩) hUM _
        refine hK _ _ bW ?_
        clear hK K f0 f1 g0 g1 hw r3 kM
        iterate 1
          refine wpPT_float (v := ?_) rfl (by rfl) (fun w' hw' => ?_) (fun K hK => ?_)
          rotate_left
          · (go_simp; try with_reducible rfl)
          go_simp
          refine hK _ ?_
          clear hK K
        refine wpPT_done (NoPanic.normal ?_)
        have kR4 := hkR.out.below_ bW
        have m0 := k4.out.c0
        have m1 := k4.out.c1
        have f0 := kR4.c0
        have f1 := kR4.c1
        have g0 := kR4.frozen 0
        have g1 := kR4.frozen 1
        have hcc := kR4.two (.int .i64 (v.m : Int)) (.slice A3 v.m c3)
        have hc1 := Lib.hid hcc.1
        have hc2 := Lib.hid hcc.2
        have hrf := Lib.hid (r4.out.putB kR4 (fun h0 => r4.out.farZ kR4 (hpos.out h0) h0) (.int .i64 (v.m : Int)) (.slice A3 v.m c3))
        have hbf := Lib.hid (((below_trans2 hBU.out.o bW).setCell (p := ⟨gr, 0, none⟩) hgw.out (.int .i64 (v.m : Int))).setCell (p := ⟨gr, 1, none⟩) hgw.out (.slice A3 v.m c3))
        clear hcc bW hne k4 r4
        go_wp2_with fail
        exact bodyPost_ret (v := .agg #[.int .i64 (v.m : Int), .slice A3 v.m c3]) (by simp [results, Try.results12, go_sem, hc1.out, hc2.out]) rfl ⟨A3, v.m, c3, rfl, hrf.out, hc3, hbf.out⟩
    · skip
      go_simp
      obtain ⟨M, hM⟩ : ∃ M, M = (World.heap v1).size := ⟨_, rfl⟩
      obtain ⟨v7, hw⟩ : ∃ X : World, X = World.alloc v1 (.cells #[.int .i64 0, .slice none 0 0] 35) := ⟨_, rfl⟩
      rw [← hw, ← hM]
      have b : Below (World.heap v1).size v1 v7 := by rw [hw]; exact below_alloc _ _
      have hUM : U.heap.size ≤ M := by rw [hM]; exact bW.size
      replace bW := below_trans2 bW b
      refine hK _ _ bW ?_
      clear hK K
      have kM := Lib.hid (show MatB v7 M 35 0 none 0 0 from by rw [hw, hM]; exact MatB.new _ _)
      replace r1 := Lib.hid (r1.out.below b)
      clear b
      clear hw hM
      refine wpPT_one rfl (by rfl) (fun K hK => ?_)
      go_simp
      -- a call's matrix r2 : RowsAt, in the world v7; the new world is v8
      refine (cRf.out v7 (hBU.out.later bW).f).mono ?_; rintro e v8 ⟨A2, n2, c2, rfl, r2, hc2, b⟩
      obtain rfl : n2 = v.m := by rw [← r2.len]; exact hrl.out
      replace bW := below_trans2 bW b
      refine hK _ _ bW ?_
      clear hK K
      replace r2 := Lib.hid r2
      replace r1 := Lib.hid (r1.out.below b)
      replace kM := Lib.hid (kM.out.below_ b)
      clear b
      refine wpPT_one rfl (by rfl) (fun K hK => ?_)
      have cE := Lib.hid (mat_Or A1 A2 v.m c1 c2 pm rm v8 r1.out r2.out hm hpq.out)
      go_simp
      refine cE.out.mono ?_; rintro e v9 ⟨A3, n3, c3, rfl, r3, hc3, b⟩
      obtain rfl : n3 = v.m := by rw [← r3.len, orM_len]; exact hpl.out
      replace bW := below_trans2 bW b
      refine hK _ _ bW ?_
      clear hK K cE r1 r2
      have hne : 0 < v.m → ∀ ad, A3 = some ad → ad.block ≠ M := fun h0 => r3.farZ (kM.out.below_ b) (hpos.out h0) h0
      replace kM := Lib.hid (kM.out.below_ b)
      clear b
      iterate 3
        refine wpPT_float (v := ?_) rfl (by rfl) (fun w' hw' => ?_) (fun K hK => ?_)
        rotate_left
        · (go_simp; try with_reducible rfl)
        go_simp
        refine hK _ ?_
        clear hK K
      -- M holds the zero matrix in v9; the rows lie apart from it (hne)
      have f0 := kM.out.c0
      have f1 := kM.out.c1
      have g0 := kM.out.frozen 0
      have g1 := kM.out.frozen 1
      refine wpPT_one rfl (by rfl) (fun K hK => ?_)
      go_simp
      obtain ⟨wz, hw⟩ : ∃ X : World, X = (World.setCell v9 ⟨M, 0, none⟩ (.int .i64 (v.m : Int))).setCell ⟨M, 1, none⟩ (.slice A3 v.m c3) := ⟨_, rfl⟩
      rw [← hw]
      have r4 := Lib.hid (show RowsAt wz A3 v.m (orM pm rm) from by rw [hw]; exact r3.putB kM.out hne _ _)
      have k4 := Lib.hid (show MatB wz M 35 (v.m : Int) A3 v.m c3 from by rw [hw]; exact kM.out.put _ _ _ _)
      replace bW : Below U.heap.size U wz := by rw [hw]; exact (bW.setCell (p := ⟨M, 0, none⟩) hUM _).setCell (p := ⟨M, 1, none⟩) hUM _
      refine hK _ _ bW ?_
      clear hK K f0 f1 g0 g1 hw r3 kM
      iterate 1
        refine wpPT_float (v := ?_) rfl (by rfl) (fun w' hw' => ?_) (fun K hK => ?_)
        rotate_left
        · (go_simp; try with_reducible rfl)
        go_simp
        refine hK _ ?_
        clear hK K
      refine wpPT_done (NoPanic.normal ?_)
      have kR4 := hkR.out.below_ bW
      have m0 := k4.out.c0
      have m1 := k4.out.c1
      have f0 := kR4.c0
      have f1 := kR4.c1
      have g0 := kR4.frozen 0
      have g1 := kR4.frozen 1
      have hcc := kR4.two (.int .i64 (v.m : Int)) (.slice A3 v.m c3)
      have hc1 := Lib.hid hcc.1
      have hc2 := Lib.hid hcc.2
      have hrf := Lib.hid (r4.out.putB kR4 (fun h0 => r4.out.farZ kR4 (hpos.out h0) h0) (.int .i64 (v.m : Int)) (.slice A3 v.m c3))
      have hbf := Lib.hid (((below_trans2 hBU.out.o bW).setCell (p := ⟨gr, 0, none⟩) hgw.out (.int .i64 (v.m : Int))).setCell (p := ⟨gr, 1, none⟩) hgw.out (.slice A3 v.m c3))
      clear hcc bW hne k4 r4
      go_wp2_with fail
      exact bodyPost_ret (v := .agg #[.int .i64 (v.m : Int), .slice A3 v.m c3]) (by simp [results, Try.results12, go_sem, hc1.out, hc2.out]) rfl ⟨A3, v.m, c3, rfl, hrf.out, hc3, hbf.out⟩
  · skip
    go_simp
    obtain ⟨M, hM⟩ : ∃ M, M = (World.heap U).size := ⟨_, rfl⟩
    obtain ⟨v10, hw⟩ : ∃ X : World, X = World.alloc U (.cells #[.int .i64 0, .slice none 0 0] 35) := ⟨_, rfl⟩
    rw [← hw, ← hM]
    have b : Below (World.heap U).size U v10 := by rw [hw]; exact below_alloc _ _
    have hUM : U.heap.size ≤ M := by rw [hM]; exact bW.size
    replace bW := below_trans2 bW b
    refine hK _ _ bW ?_
    clear hK K
    have kM := Lib.hid (show MatB v10 M 35 0 none 0 0 from by rw [hw, hM]; exact MatB.new _ _)
    clear b
    clear hw hM
    refine wpPT_one rfl (by rfl) (fun K hK => ?_)
    go_simp
    -- a call's matrix r1 : RowsAt, in the world v10; the new world is v11
    refine (cPo.out v10 (hBU.out.later bW).f).mono ?_; rintro e v11 ⟨A1, n1, c1, rfl, r1, hc1, b⟩
    obtain rfl : n1 = v.m := by rw [← r1.len]; exact hpl.out
    replace bW := below_trans2 bW b
    refine hK _ _ bW ?_
    clear hK K
    replace r1 := Lib.hid r1
    replace kM := Lib.hid (kM.out.below_ b)
    clear b
    refine wpPT_one rfl (by rfl) (fun K hK => ?_)
    go_simp
    -- a call's matrix r2 : RowsAt, in the world v11; the new world is v12
    refine (cRf.out v11 (hBU.out.later bW).f).mono ?_; rintro e v12 ⟨A2, n2, c2, rfl, r2, hc2, b⟩
    obtain rfl : n2 = v.m := by rw [← r2.len]; exact hrl.out
    replace bW := below_trans2 bW b
    refine hK _ _ bW ?_
    clear hK K
    replace r2 := Lib.hid r2
    replace kM := Lib.hid (kM.out.below_ b)
    replace r1 := Lib.hid (r1.out.below b)
    clear b
    refine wpPT_one rfl (by rfl) (fun K hK => ?_)
    have cE := Lib.hid (mat_Or A1 A2 v.m c1 c2 pm rm v12 r1.out r2.out hm hpq.out)
    go_simp
    refine cE.out.mono ?_; rintro e v13 ⟨A3, n3, c3, rfl, r3, hc3, b⟩
    obtain rfl : n3 = v.m := by rw [← r3.len, orM_len]; exact hpl.out
    replace bW := below_trans2 bW b
    refine hK _ _ bW ?_
    clear hK K cE r1 r2
    have hne : 0 < v.m → ∀ ad, A3 = some ad → ad.block ≠ M := fun h0 => r3.farZ (kM.out.below_ b) (hpos.out h0) h0
    replace kM := Lib.hid (kM.out.below_ b)
    clear b
    iterate 3
      refine wpPT_float (v := ?_) rfl (by rfl) (fun w' hw' => ?_) (fun K hK => ?_)
      rotate_left
      · (go_simp; try with_reducible rfl)
      go_simp
      refine hK _ ?_
      clear hK K
    -- M holds the zero matrix in v13; the rows lie apart from it (hne)
    have f0 := kM.out.c0
    have f1 := kM.out.c1
    have g0 := kM.out.frozen 0
    have g1 := kM.out.frozen 1
    refine wpPT_one rfl (by rfl) (fun K hK => ?_)
    go_simp
    obtain ⟨wz, hw⟩ : ∃ X : World, X = (World.setCell v13 ⟨M, 0, none⟩ (.int .i64 (v.m : Int))).setCell ⟨M, 1, none⟩ (.slice A3 v.m c3) := ⟨_, rfl⟩
    rw [← hw]
    have r4 := Lib.hid (show RowsAt wz A3 v.m (orM pm rm) from by rw [hw]; exact r3.putB kM.out hne _ _)
    have k4 := Lib.hid (show MatB wz M 35 (v.m : Int) A3 v.m c3 from by rw [hw]; exact kM.out.put _ _ _ _)
    replace bW : Below U.heap.size U wz := by rw [hw]; exact (bW.setCell (p := ⟨M, 0, none⟩) hUM _).setCell (p := ⟨M, 1, none⟩) hUM _
    refine hK _ _ bW ?_
    clear hK K f0 f1 g0 g1 hw r3 kM
    iterate 1
      refine wpPT_float (v := ?_) rfl (by rfl) (fun w' hw' => ?_) (fun K hK => ?_)
      rotate_left
      · (go_simp; try with_reducible rfl)
      go_simp
      refine hK _ ?_
      clear hK K
    refine wpPT_done (NoPanic.normal ?_)
    have kR4 := hkR.out.below_ bW
    have m0 := k4.out.c0
    have m1 := k4.out.c1
    have f0 := kR4.c0
    have f1 := kR4.c1
    have g0 := kR4.frozen 0
    have g1 := kR4.frozen 1
    have hcc := kR4.two (.int .i64 (v.m : Int)) (.slice A3 v.m c3)
    have hc1 := Lib.hid hcc.1
    have hc2 := Lib.hid hcc.2
    have hrf := Lib.hid (r4.out.putB kR4 (fun h0 => r4.out.farZ kR4 (hpos.out h0) h0) (.int .i64 (v.m : Int)) (.slice A3 v.m c3))
    have hbf := Lib.hid (((below_trans2 hBU.out.o bW).setCell (p := ⟨gr, 0, none⟩) hgw.out (.int .i64 (v.m : Int))).setCell (p := ⟨gr, 1, none⟩) hgw.out (.slice A3 v.m c3))
    clear hcc bW hne k4 r4
    go_wp2_with fail
    exact bodyPost_ret (v := .agg #[.int .i64 (v.m : Int), .slice A3 v.m c3]) (by simp [results, Try.results12, go_sem, hc1.out, hc2.out]) rfl ⟨A3, v.m, c3, rfl, hrf.out, hc3, hbf.out⟩
theorem cause_Co (v : FV) (f : Fac) (w : World) (hF : FactsAt w v f) (hm : v.m < 64) (hw : WholeF f) (hN : Nbr f.items) :
    Calls Try.prog 14 #[.agg #[.slice v.A v.n v.c, .slice v.B v.m v.d, .slice v.C v.k v.e]] w (RetMat1 (v.m : Int) (coM f) w) := by
  have hil0 := hF.is.len
  have cF := Lib.hid (fun W hW => cause_Edges v f W hW (by omega) hw hN)
  have ge := (edgeM_good hw (by omega)).1
  rw [hil0] at ge
  have hel := Lib.hid ge.len
  have cC := fun A c W hW => hull_Close A v.m c (edgeM f) W hW ge
  rw [show closeK (edgeM f) v.m = coM f from by unfold coM; rw [hil0]] at cC
  replace cC := Lib.hid cC
  clear ge hil0
  have hil := hF.is.len
  have gc := (coM_hull hw (by omega)).1
  have hpos := Lib.hid (fun h0 => rows_len_pos gc h0)
  have hcl := Lib.hid gc.len
  replace hil := Lib.hid hil
  clear gc
  -- a call with facts v: they are boxed at g, the world is W0 then
  have hB0 := Lib.hid (FBox.new hF)
  obtain ⟨g, hg⟩ : ∃ g, g = w.heap.size := ⟨_, rfl⟩
  obtain ⟨W0, hW0⟩ : ∃ W, W = w.alloc (.cells #[.slice v.A v.n v.c, .slice v.B v.m v.d, .slice v.C v.k v.e] 29) := ⟨_, rfl⟩
  rw [← hW0, ← hg] at hB0
  clear hF
  obtain ⟨gr, hgr⟩ : ∃ g, g = W0.heap.size := ⟨_, rfl⟩
  obtain ⟨W1, hW1⟩ : ∃ W, W = W0.alloc (.cells #[.int .i64 0, .slice none 0 0] 35) := ⟨_, rfl⟩
  have b1 : Below W0.heap.size W0 W1 := by rw [hW1]; exact (Below.refl _ _).alloc (Nat.le_refl _) _
  have kR : MatB W1 gr 35 0 none 0 0 := by rw [hW1, hgr]; exact MatB.new W0 _
  have hB1 := Lib.hid (hB0.out.later b1)
  have hgw : w.heap.size ≤ gr := by rw [hgr]; exact hB0.out.o.size
  have p0 := hB1.out.c0
  have p1 := hB1.out.c1
  have p2 := hB1.out.c2
  go_enter Try.func14, Try.ntmps14
  go_wp2_with (first | (rw [← hW0, ← hg]; clear hW0 hg) | (rw [← hW1, ← hgr]; clear hW1; replace hgr := Lib.hid hgr))
  refine (cF.out W1 hB1.out.f).mono ?_; rintro e w2 ⟨A1, n1, c1, rfl, r1, hc1, b2⟩
  obtain rfl : n1 = v.m := by rw [← r1.len]; exact hel.out
  go_wp2_with fail
  refine (cC.out A1 c1 w2 r1).mono ?_; rintro e w3 ⟨A, n, c, rfl, hrows, hnc, b3⟩
  replace b3 := below_trans2 b2 b3
  have kR3 := kR.below_ b3
  have f0 := kR3.c0
  have f1 := kR3.c1
  have g0 := kR3.frozen 0
  have g1 := kR3.frozen 1
  have hcc := kR3.two (.int .i64 (v.m : Int)) (.slice A n c)
  have hc1 := Lib.hid hcc.1
  have hc2 := Lib.hid hcc.2
  have hrf := Lib.hid (hrows.putB kR3 (fun h0 => hrows.farZ kR3 (hpos.out (by have h1 := hrows.len; have h2 := hcl.out; omega)) h0) (.int .i64 (v.m : Int)) (.slice A n c))
  have hbf := Lib.hid (((below_trans2 hB1.out.o b3).setCell (p := ⟨gr, 0, none⟩) hgw (.int .i64 (v.m : Int))).setCell (p := ⟨gr, 1, none⟩) hgw (.slice A n c))
  clear hcc hrows b3 p0 p1 p2
  go_wp2_with fail
  exact bodyPost_ret (v := .agg #[.int .i64 (v.m : Int), .slice A n c]) (by simp [results, Try.results14, go_sem, hc1.out, hc2.out]) rfl ⟨A, n, c, rfl, hrf.out, hnc, hbf.out⟩
end Go.Proofs.Ytmgockkjoogcaaa
