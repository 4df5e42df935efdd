/- A region that draws its order, walked by a tree of orders: what only reads (in every world that meets S) is taken as soon as it may come up; what changes memory, and stays in S, comes up alone, or as one of two: then both ways are walked. S is the prover's: as a rule 'the blocks that were there at the region's start are as they were': so an alloc beside calls, and stores into what the region made, are steps too. No function of the program is named here. -/
import Derived.Test.YtcdfpodhiogpiaaPlan
namespace Go.Proofs.Ytcdfpodhiogpiaa
open Go.RowKit
set_option linter.unusedVariables false

section
variable {P : Program} {ops : Array Oper} {md : Region.Mode} {Q : Exit → Act → World → Prop} {S : World → Prop}

def wpAnyS (S : World → Prop) (P : Program) (md : Region.Mode) (ops : Array Oper) (Q : Exit → Act → World → Prop) : Nat → Array Bool → Act → World → Prop
  | 0, listed, a, w => Region.ready md ops listed = [] ∧ Q .normal a w
  | f + 1, listed, a, w => Region.ready md ops listed ≠ [] ∧ ∀ i ∈ Region.ready md ops listed, wpOp P ops Q i (fun a' w' => S w' ∧ wpAnyS S P md ops Q f (listed.setIfInBounds i true) a' w') a w
theorem wpAny_of_S : ∀ (f : Nat) (listed : Array Bool) (a : Act) (w : World), wpAnyS S P md ops Q f listed a w → wpAny P md ops Q f listed a w
  | 0, _, _, _, h => h
  | f + 1, listed, a, w, h => ⟨fun h0 => absurd h0 h.1, fun i hi => wpOp_mono (fun a' w' h' => wpAny_of_S f _ a' w' h'.2) (h.2 i hi)⟩

theorem wpAnyS_first {i : Nat} {oi : Oper} {v : Value} (hi : ops[i]? = some oi) (hsel : ∀ (j : Nat) (o : Oper) cs b, ops[j]? = some o → o.op ≠ .select cs b)
    (hQ : ∀ c a w, Q (.panic c) (a.put oi.dst v) w → Q (.panic c) a w) :
    ∀ (f : Nat) (listed : Array Bool) (a : Act) (w : World), S w →
      (∀ j oj, ops[j]? = some oj → j ≠ i → listed.getD j true = false → (∀ e ∈ oj.after, Region.binds md e = true → e.on ≠ i) → oi.apart ops oj = true) →
      i ∈ Region.ready md ops listed → YieldsIf P ops S oi v a →
      wpAnyS S P md ops Q f (listed.setIfInBounds i true) (a.put oi.dst v) w → wpAnyS S P md ops Q (f + 1) listed a w := by
  intro f
  induction f with
  | zero =>
    intro listed a w hS _ hr hy H
    refine ⟨fun h => (by rw [h] at hr; cases hr), fun j hj => ?_⟩
    by_cases hji : j = i
    · subst hji; exact hy.wpOp hi hS ⟨hS, H⟩
    · have h1 := ready_mono hj hji
      rw [H.1] at h1
      cases h1
  | succ f ih =>
    intro listed a w hS hfree hr hy H
    have hun := (mem_ready.1 hr).1
    refine ⟨fun h => (by rw [h] at hr; cases hr), fun j hj => ?_⟩
    by_cases hji : j = i
    · subst hji; exact hy.wpOp hi hS ⟨hS, H⟩
    · have h1 := H.2 j (ready_mono hj hji)
      obtain ⟨hjun, oj, hoj, hall⟩ := mem_ready.1 hj
      have hnot : ∀ e ∈ oj.after, Region.binds md e = true → e.on ≠ i := fun e he hb heq => by
        have h1 := hall e he hb
        rw [heq, getD_both hun] at h1
        cases h1
      have h2 := wpOp_putIf hoj (hfree j oj hoj hji hjun hnot) (fun cs b => hsel i oi cs b hi) (fun cs b => hsel j oj cs b hoj) hQ hy h1
      have hfree' : ∀ k ok, ops[k]? = some ok → k ≠ i → (listed.setIfInBounds j true).getD k true = false →
          (∀ e ∈ ok.after, Region.binds md e = true → e.on ≠ i) → oi.apart ops ok = true := fun k ok hk hki hun hno => by
        refine hfree k ok hk hki ?_ hno
        by_cases hjk : j = k
        · subst hjk; exact hjun
        · rw [getD_set_ne true hjk] at hun; exact hun
      refine wpOp_mono (fun a' w' h3 => ⟨h3.2.1, ih (listed.setIfInBounds j true) a' w' h3.2.1 hfree' (ready_mono hr (Ne.symm hji)) h3.1 ?_⟩) h2
      rw [Array.setIfInBounds_comm _ _ hji]
      exact h3.2.2

/-- a tree of orders -/
inductive PT where
  | done
  | flt (i : Nat) (t : PT)
  | one (i : Nat) (t : PT)
  | two (i j : Nat) (ti tj : PT)
  | three (i j k : Nat) (ti tj tk : PT)
def PT.depth : PT → Nat
  | .done => 0
  | .flt _ t => t.depth + 1
  | .one _ t => t.depth + 1
  | .two _ _ t _ => t.depth + 1
  | .three _ _ _ t _ _ => t.depth + 1
def PT.ok (md : Region.Mode) (ops : Array Oper) : PT → Array Bool → Bool
  | .done, listed => (Region.ready md ops listed).isEmpty
  | .flt i t, listed => (Region.ready md ops listed).contains i && Region.free md ops listed i && t.ok md ops (listed.setIfInBounds i true)
  | .one i t, listed => decide (Region.ready md ops listed = [i]) && t.ok md ops (listed.setIfInBounds i true)
  | .two i j t u, listed => decide (Region.ready md ops listed = [i, j]) && decide (t.depth = u.depth) && t.ok md ops (listed.setIfInBounds i true) && u.ok md ops (listed.setIfInBounds j true)
  | .three i j k t u v, listed => decide (Region.ready md ops listed = [i, j, k]) && (decide (t.depth = u.depth) && decide (t.depth = v.depth)) && t.ok md ops (listed.setIfInBounds i true) && u.ok md ops (listed.setIfInBounds j true) && v.ok md ops (listed.setIfInBounds k true)
def wpPT (S : World → Prop) (P : Program) (ops : Array Oper) (Q : Exit → Act → World → Prop) : PT → Act → World → Prop
  | .done, a, w => Q .normal a w
  | .flt i t, a, w => ∃ o v, ops[i]? = some o ∧ YieldsIf P ops S o v a ∧ wpPT S P ops Q t (a.put o.dst v) w
  | .one i t, a, w => wpOp P ops Q i (fun a' w' => S w' ∧ wpPT S P ops Q t a' w') a w
  | .two i j t u, a, w => wpOp P ops Q i (fun a' w' => S w' ∧ wpPT S P ops Q t a' w') a w ∧ wpOp P ops Q j (fun a' w' => S w' ∧ wpPT S P ops Q u a' w') a w
  | .three i j k t u v, a, w => wpOp P ops Q i (fun a' w' => S w' ∧ wpPT S P ops Q t a' w') a w ∧ wpOp P ops Q j (fun a' w' => S w' ∧ wpPT S P ops Q u a' w') a w ∧ wpOp P ops Q k (fun a' w' => S w' ∧ wpPT S P ops Q v a' w') a w

theorem wpAnyS_tree (hsel : Region.noSelect ops = true) (hQ : ∀ c a d v w, Q (.panic c) (a.put d v) w → Q (.panic c) a w) :
    ∀ (t : PT) (listed : Array Bool) (a : Act) (w : World), S w → t.ok md ops listed = true → wpPT S P ops Q t a w → wpAnyS S P md ops Q t.depth listed a w
  | .done, listed, a, w, _, hB, h => ⟨by simpa [PT.ok] using hB, h⟩
  | .flt i t, listed, a, w, hS, hB, h => by
    simp only [PT.ok, Bool.and_eq_true] at hB
    obtain ⟨⟨hr, hf⟩, hB'⟩ := hB
    obtain ⟨o, v, ho, hy, h'⟩ := h
    exact wpAnyS_first ho (Region.noSelect_spec hsel) (fun c a w => hQ c a o.dst v w) t.depth listed a w hS (Region.free_spec ho hf) (by simpa using hr) hy (wpAnyS_tree hsel hQ t _ _ _ hS hB' h')
  | .one i t, listed, a, w, hS, hB, h => by
    simp only [PT.ok, Bool.and_eq_true, decide_eq_true_eq] at hB
    refine ⟨by rw [hB.1]; simp, fun j hj => ?_⟩
    rw [hB.1] at hj
    have hji : j = i := by simpa using hj
    subst hji
    exact wpOp_mono (fun a' w' h3 => ⟨h3.1, wpAnyS_tree hsel hQ t _ a' w' h3.1 hB.2 h3.2⟩) h
  | .two i k t u, listed, a, w, hS, hB, h => by
    simp only [PT.ok, Bool.and_eq_true, decide_eq_true_eq] at hB
    obtain ⟨⟨⟨hr, hd⟩, h1⟩, h2⟩ := hB
    refine ⟨by rw [hr]; simp, fun j hj => ?_⟩
    rw [hr] at hj
    have hjik : j = i ∨ j = k := by simpa using hj
    rcases hjik with rfl | rfl
    · exact wpOp_mono (fun a' w' h3 => ⟨h3.1, wpAnyS_tree hsel hQ t _ a' w' h3.1 h1 h3.2⟩) h.1
    · refine wpOp_mono (fun a' w' h3 => ⟨h3.1, ?_⟩) h.2
      rw [hd]
      exact wpAnyS_tree hsel hQ u _ a' w' h3.1 h2 h3.2
  | .three i j k t u v, listed, a, w, hS, hB, h => by
    simp only [PT.ok, Bool.and_eq_true, decide_eq_true_eq] at hB
    obtain ⟨⟨⟨⟨hr, hd, hd2⟩, h1⟩, h2⟩, h3⟩ := hB
    refine ⟨by rw [hr]; simp, fun q hq => ?_⟩
    rw [hr] at hq
    have hqs : q = i ∨ q = j ∨ q = k := by simpa using hq
    rcases hqs with rfl | rfl | rfl
    · exact wpOp_mono (fun a' w' h3' => ⟨h3'.1, wpAnyS_tree hsel hQ t _ a' w' h3'.1 h1 h3'.2⟩) h.1
    · refine wpOp_mono (fun a' w' h3' => ⟨h3'.1, ?_⟩) h.2.1
      rw [hd]
      exact wpAnyS_tree hsel hQ u _ a' w' h3'.1 h2 h3'.2
    · refine wpOp_mono (fun a' w' h3' => ⟨h3'.1, ?_⟩) h.2.2
      rw [hd2]
      exact wpAnyS_tree hsel hQ v _ a' w' h3'.1 h3 h3'.2

theorem wp_region_tree {id : Nat} {a : Act} {w : World} {l : List Oper} (t : PT) (hm : P.follows .mixedOrders = true) (hB : (Region.noSelect l.toArray && decide (t.depth = l.toArray.size) && t.ok .any l.toArray (Array.replicate l.toArray.size false)) = true)
    (h : ∀ W : World, Hid (W = w.drew) → wpPT (fun x => Below W.heap.size W x) P l.toArray (NoPanic Q) t a W) : (Code.region id l.toArray true).wp P Q a w := by
  refine wp_region_noPanic ?_
  have hQ : ∀ c a d v w, NoPanic Q (.panic c) (a.put d v) w → NoPanic Q (.panic c) a w := fun _ _ _ _ _ h => h
  simp only [Bool.and_eq_true, decide_eq_true_eq] at hB
  obtain ⟨⟨hsel, hd⟩, hok⟩ := hB
  refine wp_region_any hm ?_
  have H := wpAny_of_S _ _ _ _ (wpAnyS_tree (md := .any) hsel hQ t _ a w.drew (Below.refl _ _) hok (h w.drew (Lib.hid rfl)))
  rw [hd] at H
  exact H

/-! ### the steps -/
section
variable {W : World} {t u : PT} {a : Act} {w : World} {i j : Nat} {o : Oper}
theorem wpPT_float {v : Value} (hi : ops[i]? = some o) (hw : Region.wanted o (yielded ops a.tmps) = true)
    (hy : ∀ w' : World, (∀ p, (W.cell? p).isSome = true → w'.cell? p = W.cell? p) → (execOp a.eval o).run P w' = .ok (.value v) w') (h : ∀ K : Act → Prop, (∀ a', wpPT (fun x => Below W.heap.size W x) P ops Q t a' w → K a') → K (a.put o.dst v)) : wpPT (fun x => Below W.heap.size W x) P ops Q (.flt i t) a w :=
  ⟨o, v, hi, .inl ⟨hw, fun w' hb => hy w' (fun p hp => by
    have hlt : p.block < W.heap.size := by
      cases hc : W.cell? p with
      | none => rw [hc] at hp; cases hp
      | some u => exact block_lt_of_cell hc
    exact hb.cell hlt)⟩, h _ (fun _ h => h)⟩
theorem wpPT_skip (hi : ops[i]? = some o) (hw : Region.wanted o (yielded ops a.tmps) = false) (h : ∀ K : Act → Prop, (∀ a', wpPT S P ops Q t a' w → K a') → K (a.put o.dst undef)) : wpPT S P ops Q (.flt i t) a w :=
  ⟨o, undef, hi, .inr ⟨hw, rfl⟩, h _ (fun _ h => h)⟩
theorem wpOp_step {K0 : Act → World → Prop} (hi : ops[i]? = some o) (hw : Region.wanted o (yielded ops a.tmps) = true)
    (h : ∀ K : Act → World → Prop, (∀ a' w', S w' → K0 a' w' → K a' w') → o.wp P a w K Q) : wpOp P ops Q i (fun a' w' => S w' ∧ K0 a' w') a w := by
  unfold wpOp
  simp only [hi, hw, if_true]
  exact .inl (h _ (fun a' w' hb hp => ⟨hb, hp⟩))
theorem wpPT_one (hi : ops[i]? = some o) (hw : Region.wanted o (yielded ops a.tmps) = true)
    (h : ∀ K : Act → World → Prop, (∀ a' w', S w' → wpPT S P ops Q t a' w' → K a' w') → o.wp P a w K Q) : wpPT S P ops Q (.one i t) a w := wpOp_step hi hw h
theorem wpPT_two {o' : Oper} (hi : ops[i]? = some o) (hw : Region.wanted o (yielded ops a.tmps) = true) (hj : ops[j]? = some o') (hw' : Region.wanted o' (yielded ops a.tmps) = true)
    (h : ∀ K : Act → World → Prop, (∀ a' w', S w' → wpPT S P ops Q t a' w' → K a' w') → o.wp P a w K Q)
    (h' : ∀ K : Act → World → Prop, (∀ a' w', S w' → wpPT S P ops Q u a' w' → K a' w') → o'.wp P a w K Q) : wpPT S P ops Q (.two i j t u) a w := ⟨wpOp_step hi hw h, wpOp_step hj hw' h'⟩
theorem wpPT_three {v : PT} {k : Nat} {o' o'' : Oper} (hi : ops[i]? = some o) (hw : Region.wanted o (yielded ops a.tmps) = true) (hj : ops[j]? = some o') (hw' : Region.wanted o' (yielded ops a.tmps) = true) (hk : ops[k]? = some o'') (hw'' : Region.wanted o'' (yielded ops a.tmps) = true)
    (h : ∀ K : Act → World → Prop, (∀ a' w', S w' → wpPT S P ops Q t a' w' → K a' w') → o.wp P a w K Q)
    (h' : ∀ K : Act → World → Prop, (∀ a' w', S w' → wpPT S P ops Q u a' w' → K a' w') → o'.wp P a w K Q)
    (h'' : ∀ K : Act → World → Prop, (∀ a' w', S w' → wpPT S P ops Q v a' w' → K a' w') → o''.wp P a w K Q) : wpPT S P ops Q (.three i j k t u v) a w := ⟨wpOp_step hi hw h, wpOp_step hj hw' h', wpOp_step hk hw'' h''⟩
theorem wpPT_done (h : Q .normal a w) : wpPT S P ops Q .done a w := h
end
end
end Go.Proofs.Ytcdfpodhiogpiaa
