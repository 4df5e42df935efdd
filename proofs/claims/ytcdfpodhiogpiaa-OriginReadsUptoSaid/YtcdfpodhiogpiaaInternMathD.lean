/- Plain mathematics of layer 9: each item stands where its operation does, and says the same. Nothing of the program is named. -/
import Derived.Test.YtcdfpodhiogpiaaInternMathC
namespace Go.Proofs.Ytcdfpodhiogpiaa
set_option linter.unusedVariables false

theorem spotN_front : ∀ (hs : List (List OpT)) (os : List OpT) (i : Nat), i < (allO hs).length → spotN (hs ++ [os]) i = spotN hs i
  | [], os, i, h => by simp [allO] at h
  | x :: r, os, i, h => by
    have h' : i < x.length + (allO r).length := by rw [← List.length_append, ← allO_cons]; exact h
    rw [List.cons_append]
    unfold spotN
    by_cases hi : i < x.length
    · rw [if_pos hi, if_pos hi]
    · rw [if_neg hi, if_neg hi, spotN_front r os _ (by omega)]
theorem spotN_last : ∀ (hs : List (List OpT)) (os : List OpT) (i : Nat), i < os.length → spotN (hs ++ [os]) ((allO hs).length + i) = some (hs.length, i)
  | [], os, i, h => by
    show spotN [os] (0 + i) = _
    unfold spotN
    rw [Nat.zero_add, if_pos h]; rfl
  | x :: r, os, i, h => by
    rw [List.cons_append]
    unfold spotN
    have e : (allO (x :: r)).length = x.length + (allO r).length := by rw [allO_cons, List.length_append]
    rw [if_neg (by omega), show (allO (x :: r)).length + i - x.length = (allO r).length + i from by omega, spotN_last r os i h]
    simp
theorem sesF_items (se : Nat) (os : List OpT) (st : StF) : ∃ l, (sesF se os st).2 = st.2 ++ l ∧ l.length = os.length ∧
    ∀ (i : Nat) (o : OpT), os[i]? = some o → ∃ va : Int, l[i]? = some ⟨se, i, o.1, va, o.2.2⟩ ∧ 0 ≤ va ∧ (sesF se os st).1[va.toNat]? = some o.2.1 := by
  induction os using snoc_ind with
  | h0 => exact ⟨[], by simp [sesF_nil], rfl, fun i o h => by simp at h⟩
  | h1 os o ih =>
    obtain ⟨l, h1, h2, h3⟩ := ih
    obtain ⟨q, hq⟩ := sesF_front se os o st
    have e2 : (sesF se (os ++ [o]) st).2 = (sesF se os st).2 ++ [⟨se, os.length, o.1, findZ (addV (sesF se os st).1 o.2.1) o.2.1, o.2.2⟩] := by rw [sesF_snoc]; rfl
    have e1 : (sesF se (os ++ [o]) st).1 = addV (sesF se os st).1 o.2.1 := by rw [sesF_snoc]; rfl
    refine ⟨l ++ [⟨se, os.length, o.1, findZ (addV (sesF se os st).1 o.2.1) o.2.1, o.2.2⟩], by rw [e2, h1, List.append_assoc], by simp [h2], fun i x hx => ?_⟩
    rcases Nat.lt_or_ge i os.length with hlt | hge
    · rw [List.getElem?_append_left hlt] at hx
      obtain ⟨va, g1, g2, g3⟩ := h3 i x hx
      refine ⟨va, by rw [List.getElem?_append_left (by omega)]; exact g1, g2, ?_⟩
      rw [hq, List.getElem?_append_left (List.getElem?_eq_some_iff.1 g3).1]; exact g3
    · have hi : i = os.length := by
        have := (List.getElem?_eq_some_iff.1 hx).1
        simp at this; omega
      subst hi
      simp at hx
      subst hx
      have hm := findZ_mem.2 (addV_mem (sesF se os st).1 o.2.1)
      refine ⟨findZ (addV (sesF se os st).1 o.2.1) o.2.1, by rw [← h2]; simp, hm, ?_⟩
      rw [e1]; exact findZ_get hm
/-- each item stands where its operation does, and says the same -/
theorem hisF_item (hs : List (List OpT)) : ∀ (i : Nat) (o : OpT), (allO hs)[i]? = some o →
    ∃ (s p : Nat) (va : Int), spotN hs i = some (s, p) ∧ (hisF hs).2[i]? = some ⟨s, p, o.1, va, o.2.2⟩ ∧ 0 ≤ va ∧ (hisF hs).1[va.toNat]? = some o.2.1 := by
  induction hs using snoc_ind with
  | h0 => intro i o h; simp [allO] at h
  | h1 hs os ih =>
    intro i o h
    rw [hisF_snoc]
    obtain ⟨l, h1, h2, h3⟩ := sesF_items hs.length os (hisF hs)
    obtain ⟨q, hq⟩ := sesF_first hs.length os (hisF hs)
    have hl := hisF_len hs
    have ho : allO [os] = os := by simp [allO]
    rw [allO_append, ho] at h
    rcases Nat.lt_or_ge i (allO hs).length with hlt | hge
    · rw [List.getElem?_append_left hlt] at h
      obtain ⟨s, p, va, g1, g2, g3, g4⟩ := ih i o h
      refine ⟨s, p, va, by rw [spotN_front hs os i hlt]; exact g1, by rw [h1, List.getElem?_append_left (by omega)]; exact g2, g3, ?_⟩
      rw [hq, List.getElem?_append_left (List.getElem?_eq_some_iff.1 g4).1]; exact g4
    · rw [List.getElem?_append_right hge] at h
      obtain ⟨k, rfl⟩ : ∃ k, i = (allO hs).length + k := ⟨i - (allO hs).length, by omega⟩
      rw [Nat.add_sub_cancel_left] at h
      obtain ⟨va, g1, g2, g3⟩ := h3 k o h
      refine ⟨hs.length, k, va, spotN_last hs os k (List.getElem?_eq_some_iff.1 h).1, ?_, g2, g3⟩
      rw [h1, List.getElem?_append_right (by omega), hl, Nat.add_sub_cancel_left]; exact g1
/-- sessions of items are few -/
theorem hisF_se (hs : List (List OpT)) : ∀ x ∈ (hisF hs).2, 0 ≤ x.se ∧ x.se < hs.length := by
  intro x hx
  obtain ⟨i, hi⟩ := List.getElem?_of_mem hx
  have hlt := (List.getElem?_eq_some_iff.1 hi).1
  rw [hisF_len] at hlt
  obtain ⟨s, p, va, g1, g2, -, -⟩ := hisF_item hs i (allO hs)[i] (List.getElem?_eq_getElem hlt)
  rw [hi] at g2
  injection g2 with g2
  have := (spotN_some hs i s p g1).1
  rw [g2]
  exact ⟨by simp only; omega, by simp only; omega⟩
end Go.Proofs.Ytcdfpodhiogpiaa
