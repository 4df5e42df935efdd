/- Plain mathematics of layer 10: writes of values, differentiated facts. Nothing of the program is named. -/
import Derived.Test.YtcdfpodhiogpiaaInternMathD
namespace Go.Proofs.Ytcdfpodhiogpiaa
set_option linter.unusedVariables false

/-- is it a write of this value to this variable? -/
def hitW (v val : Int) (x : It) : Bool := x.wr && (decide (x.va = v) && decide (x.vl = val))
/-- the first write of a value to a variable -/
def writeF (is : List It) (v val : Int) : Option Nat := is.findIdx? (hitW v val)
theorem writeF_at {is : List It} {v val : Int} {k : Nat} {x : It} (hx : is[k]? = some x) (h : hitW v val x = true) (hn : ∀ j, j < k → ∀ y, is[j]? = some y → hitW v val y = false) : writeF is v val = some k := by
  obtain ⟨hk, he⟩ := List.getElem?_eq_some_iff.1 hx
  unfold writeF
  rw [List.findIdx?_eq_some_iff_getElem]
  exact ⟨hk, by rw [he]; exact h, fun j hj => by rw [hn j hj _ (List.getElem?_eq_getElem (by omega))]; simp⟩
theorem writeF_none {is : List It} {v val : Int} (hn : ∀ (j : Nat) (y : It), is[j]? = some y → hitW v val y = false) : writeF is v val = none := by
  unfold writeF
  rw [List.findIdx?_eq_none_iff]
  intro x hx
  obtain ⟨j, hj, e⟩ := List.mem_iff_getElem.1 hx
  exact hn j x (by rw [← e]; exact List.getElem?_eq_getElem hj)
theorem writeF_some {is : List It} {v val : Int} {k : Nat} (h : writeF is v val = some k) : ∃ x, is[k]? = some x ∧ hitW v val x = true ∧ ∀ (j : Nat) (y : It), j < k → is[j]? = some y → hitW v val y = false := by
  unfold writeF at h
  rw [List.findIdx?_eq_some_iff_getElem] at h
  obtain ⟨hk, h1, h2⟩ := h
  refine ⟨is[k], List.getElem?_eq_getElem hk, h1, fun j y hj hy => ?_⟩
  obtain ⟨hjl, e⟩ := List.getElem?_eq_some_iff.1 hy
  have := h2 j hj
  rw [e] at this
  simpa using this
theorem writeF_own {is : List It} {j : Nat} {x : It} (hx : is[j]? = some x) (hw : x.wr = true) : ∃ i, writeF is x.va x.vl = some i ∧ i ≤ j := by
  cases h : writeF is x.va x.vl with
  | none =>
    unfold writeF at h
    rw [List.findIdx?_eq_none_iff] at h
    have := h x (List.mem_of_getElem? hx)
    simp [hitW, hw] at this
  | some i =>
    refine ⟨i, rfl, ?_⟩
    obtain ⟨_, _, _, h3⟩ := writeF_some h
    rcases Nat.lt_or_ge j i with h4 | h4
    · have := h3 j x h4 hx
      simp [hitW, hw] at this
    · exact h4
theorem writeF_append {is l : List It} {v val : Int} {k : Nat} (h : writeF is v val = some k) : writeF (is ++ l) v val = some k := by
  obtain ⟨x, h1, h2, h3⟩ := writeF_some h
  have hk := (List.getElem?_eq_some_iff.1 h1).1
  exact writeF_at (by rw [List.getElem?_append_left hk]; exact h1) h2 (fun j hj y hy => h3 j y hj (by rw [List.getElem?_append_left (by omega)] at hy; exact hy))
/-- what item j says of it -/
def stepC (is : List It) (j : Nat) : Option (Int × Int × Int) :=
  match is[j]? with
  | none => none
  | some x => if x.wr = false then none else if x.vl = 0 then some (j, j, 5) else if (writeF is x.va x.vl).getD 0 < j then some (((writeF is x.va x.vl).getD 0 : Nat), j, 4) else none
/-- is a history differentiated? -/
def checkF (is : List It) : Int × Int × Int := ((List.range is.length).findSome? (stepC is)).getD (0, 0, 0)
theorem range_first {n j : Nat} {α : Type} {f : Nat → Option α} {a : α} (hj : j < n) (h : f j = some a) (hn : ∀ i, i < j → f i = none) : (List.range n).findSome? f = some a := by
  rw [List.findSome?_eq_some_iff]
  refine ⟨List.range j, j, List.range' (j + 1) (n - j - 1), ?_, h, fun x hx => hn x (by simpa using hx)⟩
  rw [List.range_eq_range', List.range_eq_range', show n = j + (n - j) by omega, ← List.range'_append_1, show j + (n - j) - j - 1 = n - j - 1 by omega]
  congr 1
  rw [show n - j = (n - j - 1) + 1 by omega, List.range'_succ]
  simp
theorem checkF_at {is : List It} {j : Nat} {r : Int × Int × Int} (h : stepC is j = some r) (hn : ∀ i, i < j → stepC is i = none) : checkF is = r := by
  have hj : j < is.length := by
    rcases Nat.lt_or_ge j is.length with h1 | h1
    · exact h1
    · unfold stepC at h; rw [List.getElem?_eq_none h1] at h; cases h
  unfold checkF
  rw [range_first hj h hn]; rfl
theorem checkF_none {is : List It} (hn : ∀ i, i < is.length → stepC is i = none) : checkF is = (0, 0, 0) := by
  unfold checkF
  have : (List.range is.length).findSome? (stepC is) = none := by
    rw [List.findSome?_eq_none_iff]
    exact fun x hx => hn x (by simpa using hx)
  rw [this]; rfl
theorem least_none {α : Type} (f : Nat → Option α) (j : Nat) (h : f j ≠ none) : ∃ j, f j ≠ none ∧ ∀ i, i < j → f i = none := by
  induction j using Nat.strongRecOn with
  | ind j ih =>
    rcases Classical.em (∃ i, i < j ∧ f i ≠ none) with ⟨i, h1, h2⟩ | hn
    · exact ih i h1 h2
    · exact ⟨j, h, fun i hi => Classical.byContradiction fun h' => hn ⟨i, hi, h'⟩⟩
theorem checkF_cases (is : List It) : ((∀ i, stepC is i = none) ∧ checkF is = (0, 0, 0)) ∨ ∃ j r, stepC is j = some r ∧ (∀ i, i < j → stepC is i = none) ∧ checkF is = r := by
  rcases Classical.em (∃ j, stepC is j ≠ none) with h | h
  · obtain ⟨j, hj⟩ := h
    have : ∃ j, stepC is j ≠ none ∧ ∀ i, i < j → stepC is i = none := least_none (stepC is) j hj
    obtain ⟨j, hj, hn⟩ := this
    cases hs : stepC is j with
    | none => exact absurd hs hj
    | some r => exact .inr ⟨j, r, hs, hn, checkF_at hs hn⟩
  · have h' : ∀ i, stepC is i = none := fun i => Classical.byContradiction fun hi => h ⟨i, hi⟩
    exact .inl ⟨h', checkF_none fun i _ => h' i⟩
/-- what is told of facts that aren't differentiated -/
theorem stepC_some {is : List It} {j : Nat} {r : Int × Int × Int} (h : stepC is j = some r) : ∃ (i : Nat) (a b : It), is[i]? = some a ∧ is[j]? = some b ∧ r.1 = (i : Int) ∧ r.2.1 = (j : Int) ∧ a.wr = true ∧ b.wr = true ∧ a.va = b.va ∧ a.vl = b.vl ∧
    ((r.2.2 = 5 ∧ i = j ∧ a.vl = 0) ∨ (r.2.2 = 4 ∧ i < j ∧ a.vl ≠ 0)) := by
  unfold stepC at h
  split at h
  · cases h
  · rename_i x hx
    split at h
    · cases h
    · rename_i hw
      have hw' : x.wr = true := by cases hx : x.wr with | true => rfl | false => exact absurd hx hw
      split at h
      · rename_i h0
        injection h with h
        subst h
        exact ⟨j, x, x, hx, hx, rfl, rfl, hw', hw', rfl, rfl, .inl ⟨rfl, rfl, h0⟩⟩
      · rename_i h0
        split at h
        · rename_i hlt
          injection h with h
          subst h
          obtain ⟨i, hi, hij⟩ := writeF_own hx hw'
          rw [hi] at hlt
          obtain ⟨a, h1, h2, _⟩ := writeF_some hi
          simp only [hitW, Bool.and_eq_true, decide_eq_true_eq] at h2
          rw [hi]
          exact ⟨i, a, x, h1, hx, rfl, rfl, h2.1, hw', h2.2.1, h2.2.2, .inr ⟨rfl, hlt, by rw [h2.2.2]; exact h0⟩⟩
        · cases h
/-- of differentiated ones each write is the first of its value, and no write of 0 -/
theorem stepC_none {is : List It} {j : Nat} {x : It} (h : stepC is j = none) (hx : is[j]? = some x) (hw : x.wr = true) : writeF is x.va x.vl = some j ∧ x.vl ≠ 0 := by
  unfold stepC at h
  rw [hx] at h
  simp only at h
  rw [if_neg (by rw [hw]; simp)] at h
  split at h
  · cases h
  · rename_i h0
    split at h
    · cases h
    · rename_i hlt
      obtain ⟨i, hi, hij⟩ := writeF_own hx hw
      rw [hi] at hlt
      have : i = j := by simp at hlt; omega
      rw [hi, this]
      exact ⟨rfl, h0⟩
theorem stepC_append {is l : List It} {j : Nat} (hj : j < is.length) : stepC (is ++ l) j = stepC is j := by
  unfold stepC
  rw [List.getElem?_append_left hj]
  cases hx : is[j]? with
  | none => rfl
  | some x =>
    simp only
    cases hw : x.wr with
    | false => rfl
    | true =>
      obtain ⟨i, hi, _⟩ := writeF_own hx hw
      rw [hi, writeF_append hi]
/-- what isn't differentiated stays so with more behind; what is is so up to there -/
theorem checkF_append (is l : List It) : ((checkF is).2.2 = 0 ∧ ((checkF (is ++ l)).2.2 = 0 ∨ (is.length : Int) ≤ (checkF (is ++ l)).2.1)) ∨ ((checkF is).2.2 ≠ 0 ∧ checkF (is ++ l) = checkF is) := by
  rcases checkF_cases is with ⟨h, e⟩ | ⟨j, r, hs, hn, e⟩
  · left
    rw [e]
    refine ⟨rfl, ?_⟩
    rcases checkF_cases (is ++ l) with ⟨h2, e2⟩ | ⟨j, r, hs, hn, e2⟩
    · rw [e2]; exact .inl rfl
    · right
      rw [e2]
      obtain ⟨i, a, b, _, _, _, hj, _⟩ := stepC_some hs
      rw [hj]
      rcases Nat.lt_or_ge j is.length with h1 | h1
      · rw [stepC_append h1, h j] at hs; cases hs
      · omega
  · right
    have hj : j < is.length := by
      rcases Nat.lt_or_ge j is.length with h1 | h1
      · exact h1
      · unfold stepC at hs; rw [List.getElem?_eq_none h1] at hs; cases hs
    rw [e]
    obtain ⟨i, a, b, _, _, _, _, _, _, _, _, h5⟩ := stepC_some hs
    refine ⟨by rcases h5 with h | h <;> (rw [h.1]; decide), ?_⟩
    exact checkF_at (by rw [stepC_append hj]; exact hs) (fun i hi => by rw [stepC_append (by omega)]; exact hn i hi)
/-- a history's items are those of its beginning, and more -/
theorem hisF_append (xs ys : List (List OpT)) : ∃ l, (hisF (xs ++ ys)).2 = (hisF xs).2 ++ l := by
  induction ys using snoc_ind with
  | h0 => exact ⟨[], by simp⟩
  | h1 ys os ih =>
    obtain ⟨l, h⟩ := ih
    rw [← List.append_assoc, hisF_snoc]
    obtain ⟨l', h', _⟩ := sesF_items (xs ++ ys).length os (hisF (xs ++ ys))
    exact ⟨l ++ l', by rw [h', h, List.append_assoc]⟩
end Go.Proofs.Ytcdfpodhiogpiaa
