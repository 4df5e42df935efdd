/- Plain mathematics of layer 7: how many were read doesn't count while they are few; where one can't go on; what is read may be. -/
import Derived.Test.YtkccefgmiaoinaaReadMathC
namespace Go.Proofs.Ytkccefgmiaoinaa
set_option linter.unusedVariables false

theorem opS_all {first : Bool} {a b : Nat} (l : List UInt8) (ha : a ≠ 4096) (hb : b ≠ 4096) : opS first a l = opS first b l := by
  unfold opS
  rw [if_neg (fun h => ha h.1 : ¬ (a = 4096 ∧ isWR (l.drop (skN first)) = true)), if_neg (fun h => hb h.1 : ¬ (b = 4096 ∧ isWR (l.drop (skN first)) = true))]
theorem lineT_all : ∀ (n : Nat) (l : List UInt8), l.length ≤ n → ∀ (first : Bool) (a b : Nat), a + l.length ≤ 4096 → b + l.length ≤ 4096 → lineT l first a = lineT l first b
  | n, [], _, first, a, b, _, _ => by rw [lineT_nil, lineT_nil]
  | 0, c :: r, hn, _, _, _, _, _ => by simp at hn
  | n + 1, c :: r, hn, first, a, b, ha, hb => by
    by_cases hc : c.toNat = 10
    · rw [lineT_end hc, lineT_end hc]
    · simp only [List.length_cons] at hn ha hb
      have e := opS_all (first := first) (a := a) (b := b) (c :: r) (by omega) (by omega)
      cases ho : opS first a (c :: r) with
      | bad k e' => rw [lineT_bad hc ho, lineT_bad hc (by rw [← e]; exact ho)]
      | ok x =>
        obtain ⟨o, m⟩ := x
        have hpos := opS_pos ho
        rw [lineT_op hc ho, lineT_op hc (by rw [← e]; exact ho), lineT_all n ((c :: r).drop m) (by rw [List.length_drop, List.length_cons]; omega) false (a + 1) (b + 1) (by rw [List.length_drop, List.length_cons]; omega) (by rw [List.length_drop, List.length_cons]; omega)]
theorem lineT_len : ∀ (n : Nat) (l : List UInt8), l.length ≤ n → ∀ (first : Bool) (all : Nat) (os : List OpT) (k : Nat), lineT l first all = .ok (os, k) → os.length + 1 ≤ k ∧ k ≤ l.length
  | n, [], _, first, all, os, k, h => by rw [lineT_nil] at h; cases h
  | 0, c :: r, hn, _, _, _, _, _ => by simp at hn
  | n + 1, c :: r, hn, first, all, os, k, h => by
    by_cases hc : c.toNat = 10
    · rw [lineT_end hc] at h
      injection h with h; injection h with h1 h2
      subst h1; subst h2; simp
    · cases ho : opS first all (c :: r) with
      | bad m e => rw [lineT_bad hc ho] at h; cases h
      | ok x =>
        obtain ⟨o, m⟩ := x
        rw [lineT_op hc ho] at h
        have hpos := opS_pos ho
        cases hr : lineT ((c :: r).drop m) false (all + 1) with
        | bad p e => rw [hr] at h; cases h
        | ok y =>
          obtain ⟨ps, p⟩ := y
          rw [hr] at h
          injection h with h; injection h with h1 h2
          subst h1; subst h2
          have ih := lineT_len n ((c :: r).drop m) (by rw [List.length_drop]; simp at hn ⊢; omega) false (all + 1) ps p hr
          rw [List.length_drop] at ih
          rw [List.length_cons]
          omega
theorem textT_len : ∀ (n : Nat) (l : List UInt8), l.length ≤ n → ∀ (all : Nat) (hs : List (List OpT)), textT l all = .ok hs → (allO hs).length ≤ l.length ∧ hs.length ≤ l.length
  | n, [], _, all, hs, h => by rw [textT_nil] at h; injection h with h; subst h; simp [allO]
  | 0, c :: r, hn, _, _, _ => by simp at hn
  | n + 1, c :: r, hn, all, hs, h => by
    cases hl : lineT (c :: r) true all with
    | bad k e => rw [textT_bad hl] at h; cases h
    | ok x =>
      obtain ⟨os, k⟩ := x
      have hk := lineT_len _ _ (Nat.le_refl _) _ _ _ _ hl
      rw [textT_line hl] at h
      cases ht : textT ((c :: r).drop k) (all + os.length) with
      | bad m e => rw [ht] at h; cases h
      | ok ls =>
        rw [ht] at h
        injection h with h
        subst h
        have ih := textT_len n ((c :: r).drop k) (by rw [List.length_drop]; simp at hn ⊢; omega) (all + os.length) ls ht
        rw [List.length_drop] at ih
        rw [allO_cons, List.length_append, List.length_cons]
        simp only [List.length_cons] at ih hk ⊢
        omega
theorem textT_all : ∀ (n : Nat) (l : List UInt8), l.length ≤ n → ∀ (a b : Nat), a + l.length ≤ 4096 → b + l.length ≤ 4096 → textT l a = textT l b
  | n, [], _, a, b, _, _ => by rw [textT_nil, textT_nil]
  | 0, c :: r, hn, _, _, _, _ => by simp at hn
  | n + 1, c :: r, hn, a, b, ha, hb => by
    have e := lineT_all _ (c :: r) (Nat.le_refl _) true a b ha hb
    cases hl : lineT (c :: r) true a with
    | bad k e' => rw [textT_bad hl, textT_bad (by rw [← e]; exact hl)]
    | ok x =>
      obtain ⟨os, k⟩ := x
      have hk := lineT_len _ _ (Nat.le_refl _) _ _ _ _ hl
      simp only [List.length_cons] at hn ha hb hk
      rw [textT_line hl, textT_line (by rw [← e]; exact hl), textT_all n ((c :: r).drop k) (by rw [List.length_drop, List.length_cons]; omega) (a + os.length) (b + os.length) (by rw [List.length_drop, List.length_cons]; omega) (by rw [List.length_drop, List.length_cons]; omega)]
/-- two texts put together -/
theorem textL_append {s t : List UInt8} {a : List (List OpT)} (h : textL s = .ok a) (hst : s.length + t.length ≤ 4096) : textL (s ++ t) = shiftT s.length a (textL t) := by
  unfold textL at h ⊢
  rw [textT_append _ s (Nat.le_refl _) 0 a t h]
  have hl := (textT_len _ s (Nat.le_refl _) 0 a h).1
  rw [textT_all _ t (Nat.le_refl _) (0 + (allO a).length) 0 (by omega) (by omega)]
  cases textT t 0 <;> rfl

/-! ### where one can't go on -/
theorem varL_le {w : Bool} {q : List UInt8} {k : Nat} {e : Int} (h : varL w q = .bad k e) : k ≤ 2 + q.length := by
  have hn := nameN_le q
  unfold varL at h
  by_cases h1 : nameN q = 0 ∨ q[nameN q]? ≠ some 61
  · rw [if_pos h1] at h; injection h with h2 h3; omega
  · rw [if_neg h1] at h
    by_cases h2 : getE (numAt (q.drop (nameN q + 1))) ≠ 0
    · rw [if_pos h2] at h
      injection h with h3 h4
      have : nameN q < q.length := by
        rcases Nat.lt_or_ge (nameN q) q.length with h | h
        · exact h
        · exact absurd (Or.inr (by rw [List.getElem?_eq_none h]; simp)) h1
      omega
    · rw [if_neg h2] at h; cases h
theorem oneL_le {l : List UInt8} {k : Nat} {e : Int} (h : oneL l = .bad k e) : k ≤ l.length := by
  match l, h with
  | [], h => injection h with h1 h2; omega
  | [c], h =>
    rw [oneL_one] at h
    split at h
    · injection h with h1 h2; omega
    · injection h with h1 h2; simp; omega
  | c :: d :: q, h =>
    rw [oneL_two] at h
    simp only [List.length_cons]
    split at h
    · injection h with h1 h2; omega
    · split at h
      · have := varL_le h; omega
      · injection h with h1 h2; omega
theorem opS_le {first : Bool} {all k : Nat} {e : Int} {l : List UInt8} (h : opS first all l = .bad k e) (hl : l ≠ []) : k ≤ l.length ∧ (e = 2 ∨ e = 3) := by
  have hpos : 1 ≤ l.length := by cases l with
    | nil => exact absurd rfl hl
    | cons c r => simp
  have hsk : skN first ≤ 1 := by cases first <;> decide
  unfold opS at h
  split at h
  · injection h with h1 h2; exact ⟨by omega, .inl h2.symm⟩
  · split at h
    · injection h with h1 h2; exact ⟨by omega, .inr h2.symm⟩
    · cases ho : oneL (l.drop (skN first)) with
      | bad m e' =>
        rw [ho] at h
        injection h with h1 h2
        have := oneL_le ho
        rw [List.length_drop] at this
        exact ⟨by omega, by rw [← h2]; exact oneL_bad_ne ho⟩
      | ok x => rw [ho] at h; obtain ⟨o, m⟩ := x; cases h
theorem lineT_le : ∀ (n : Nat) (l : List UInt8), l.length ≤ n → ∀ (first : Bool) (all : Nat) (k : Nat) (e : Int), lineT l first all = .bad k e → k ≤ l.length ∧ (e = 2 ∨ e = 3)
  | n, [], _, first, all, k, e, h => by rw [lineT_nil] at h; injection h with h1 h2; exact ⟨by omega, .inl h2.symm⟩
  | 0, c :: r, hn, _, _, _, _, _ => by simp at hn
  | n + 1, c :: r, hn, first, all, k, e, h => by
    by_cases hc : c.toNat = 10
    · rw [lineT_end hc] at h; cases h
    · cases ho : opS first all (c :: r) with
      | bad m e' =>
        rw [lineT_bad hc ho] at h
        injection h with h1 h2
        have := opS_le ho (by simp)
        rw [← h1, ← h2]; exact this
      | ok x =>
        obtain ⟨o, m⟩ := x
        rw [lineT_op hc ho] at h
        have hpos := opS_pos ho
        cases hr : lineT ((c :: r).drop m) false (all + 1) with
        | ok y => rw [hr] at h; obtain ⟨ps, p⟩ := y; cases h
        | bad p e' =>
          rw [hr] at h
          injection h with h1 h2
          have ih := lineT_le n ((c :: r).drop m) (by rw [List.length_drop]; simp at hn ⊢; omega) false (all + 1) p e' hr
          rw [List.length_drop] at ih
          obtain ⟨hs, hw, q, hq, hmq⟩ := opS_shape ho
          have hqq := (oneL_ok hq).1
          rw [List.length_drop] at hqq
          have hsk : skN first ≤ 1 := by cases first <;> decide
          simp only [List.length_cons] at *
          exact ⟨by omega, by rw [← h2]; exact ih.2⟩
theorem textT_le : ∀ (n : Nat) (l : List UInt8), l.length ≤ n → ∀ (all : Nat) (k : Nat) (e : Int), textT l all = .bad k e → k ≤ l.length ∧ (e = 2 ∨ e = 3)
  | n, [], _, all, k, e, h => by rw [textT_nil] at h; cases h
  | 0, c :: r, hn, _, _, _, _ => by simp at hn
  | n + 1, c :: r, hn, all, k, e, h => by
    cases hl : lineT (c :: r) true all with
    | bad m e' =>
      rw [textT_bad hl] at h
      injection h with h1 h2
      have := lineT_le _ _ (Nat.le_refl _) _ _ _ _ hl
      rw [← h1, ← h2]; exact this
    | ok x =>
      obtain ⟨os, m⟩ := x
      have hk := lineT_len _ _ (Nat.le_refl _) _ _ _ _ hl
      rw [textT_line hl] at h
      cases ht : textT ((c :: r).drop m) (all + os.length) with
      | ok ls => rw [ht] at h; cases h
      | bad p e' =>
        rw [ht] at h
        injection h with h1 h2
        have ih := textT_le n ((c :: r).drop m) (by rw [List.length_drop]; simp at hn ⊢; omega) (all + os.length) p e' ht
        rw [List.length_drop] at ih
        exact ⟨by omega, by rw [← h2]; exact ih.2⟩

end Go.Proofs.Ytkccefgmiaoinaa
