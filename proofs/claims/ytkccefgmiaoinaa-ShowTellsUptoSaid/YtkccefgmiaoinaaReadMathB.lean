/- Plain mathematics of layer 7, more of it. -/
import Derived.Test.YtkccefgmiaoinaaReadMath
namespace Go.Proofs.Ytkccefgmiaoinaa
set_option linter.unusedVariables false

/-! ### what an operation is -/
theorem oneL_bad_ne {l : List UInt8} {k : Nat} {e : Int} (h : oneL l = .bad k e) : e = 2 ∨ e = 3 := by
  unfold oneL at h
  split at h
  · injection h with h1 h2; exact .inl h2.symm
  · split at h
    · injection h with h1 h2; exact .inl h2.symm
    · split at h
      · injection h with h1 h2; exact .inl h2.symm
      · split at h
        · unfold varL at h
          split at h
          · injection h with h1 h2; exact .inl h2.symm
          · split at h
            · rename_i hg
              injection h with h1 h2
              rw [← h2]
              unfold getE at hg ⊢
              split
              · split
                · rename_i a b; rw [if_pos a, if_pos b] at hg; exact absurd rfl hg
                · exact .inr rfl
              · exact .inl rfl
            · simp at h
        · injection h with h1 h2; exact .inl h2.symm
theorem getV_bounds (l : List UInt8) : -9223372036854775808 ≤ getV l ∧ getV l < 9223372036854775808 := by
  unfold getV
  split
  · rename_i h
    simp only [Bool.and_eq_true, fits64, decide_eq_true_eq] at h
    omega
  · omega
theorem oneL_ok {l : List UInt8} {o : OpT} {k : Nat} (h : oneL l = .ok (o, k)) : k ≤ l.length ∧ isWR l = true ∧ OkO [o] ∧ o.2.1.size ≤ 8 := by
  unfold oneL at h
  split at h
  · simp at h
  · rename_i c r
    split at h
    · simp at h
    · rename_i hc
      split at h
      · simp at h
      · rename_i d q
        split at h
        · unfold varL at h
          split at h
          · simp at h
          · rename_i hq
            split at h
            · simp at h
            · injection h with h
              injection h with h1 h2
              have hn : nameN q < q.length := by
                rcases Nat.lt_or_ge (nameN q) q.length with h | h
                · exact h
                · exact absurd (Or.inr (by rw [List.getElem?_eq_none h]; simp)) hq
              have hs := spanN_le (q.drop (nameN q + 1))
              rw [List.length_drop] at hs
              have h8 : nameN q ≤ 8 := by unfold nameN; exact Nat.min_le_left _ _
              have hz : (⟨(q.take (nameN q)).toArray⟩ : ByteArray).size ≤ 8 := by
                show (q.take (nameN q)).toArray.size ≤ 8
                simp; omega
              have hv := getV_bounds (numAt (q.drop (nameN q + 1)))
              subst h1
              refine ⟨by simp only [List.length_cons]; omega, ?_, ?_, hz⟩
              · show (isW c || isR c) = true
                cases hh : (isW c || isR c) with
                | true => rfl
                | false => exact absurd hh hc
              · intro o ho
                simp at ho
                subst ho
                exact ⟨hv, by simp only; omega⟩
        · simp at h
theorem opS_blank {all : Nat} {l : List UInt8} {c : UInt8} (h : l[0]? = some c) (hc : ¬ c.toNat = 32) : opS false all l = .bad 0 2 := by
  unfold opS; rw [if_pos ⟨rfl, fun d hd => by rw [h] at hd; injection hd with hd; subst hd; exact hc⟩]
theorem opS_large {first : Bool} {l : List UInt8} (hs : first = true ∨ ∃ c, l[0]? = some c ∧ c.toNat = 32) (hw : isWR (l.drop (skN first)) = true) : opS first 4096 l = .bad (skN first) 3 := by
  unfold opS
  rw [if_neg (by
    rintro ⟨h1, h2⟩
    rcases hs with h | ⟨c, hc, h32⟩
    · rw [h] at h1; cases h1
    · exact h2 c hc h32), if_pos ⟨rfl, hw⟩]
theorem opS_one_bad {first : Bool} {all k : Nat} {e : Int} {l : List UInt8} (hs : first = true ∨ ∃ c, l[0]? = some c ∧ c.toNat = 32) (hw : ¬ (all = 4096 ∧ isWR (l.drop (skN first)) = true))
    (h : oneL (l.drop (skN first)) = .bad k e) : opS first all l = .bad (skN first + k) e := by
  unfold opS
  rw [if_neg (by
    rintro ⟨h1, h2⟩
    rcases hs with h | ⟨c, hc, h32⟩
    · rw [h] at h1; cases h1
    · exact h2 c hc h32), if_neg hw, h]
theorem opS_one_ok {first : Bool} {all k : Nat} {o : OpT} {l : List UInt8} (hs : first = true ∨ ∃ c, l[0]? = some c ∧ c.toNat = 32) (hw : ¬ (all = 4096 ∧ isWR (l.drop (skN first)) = true))
    (h : oneL (l.drop (skN first)) = .ok (o, k)) : opS first all l = .ok (o, skN first + k) := by
  unfold opS
  rw [if_neg (by
    rintro ⟨h1, h2⟩
    rcases hs with h | ⟨c, hc, h32⟩
    · rw [h] at h1; cases h1
    · exact h2 c hc h32), if_neg hw, h]
end Go.Proofs.Ytkccefgmiaoinaa
