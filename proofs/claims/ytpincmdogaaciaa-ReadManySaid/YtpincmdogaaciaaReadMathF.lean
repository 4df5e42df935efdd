/- Plain mathematics of layer 7: so many operations as may be. -/
import Derived.Test.YtpincmdogaaciaaReadMathE
namespace Go.Proofs.Ytpincmdogaaciaa
set_option linter.unusedVariables false

def rx0 : List UInt8 := [114, 58, 120, 61, 48]
def opM : OpT := (false, ⟨#[120]⟩, 0)
theorem one_rx0 {c : UInt8} (t : List UInt8) (hc : c = 32 ∨ c = 10) : oneL (rx0 ++ c :: t) = .ok (opM, 5) := by
  rcases hc with rfl | rfl
  · exact oneL_append (l := [114, 58, 120, 61, 48, 32]) (t := t) (by rfl) (by decide)
  · exact oneL_append (l := [114, 58, 120, 61, 48, 10]) (t := t) (by rfl) (by decide)
def tailB : Nat → List UInt8
  | 0 => [10]
  | j + 1 => 32 :: (rx0 ++ tailB j)
theorem tailB_head (j : Nat) : ∃ c t, tailB j = c :: t ∧ (c = 32 ∨ c = 10) := by
  cases j with
  | zero => exact ⟨10, [], rfl, .inr rfl⟩
  | succ j => exact ⟨32, _, rfl, .inl rfl⟩
theorem one_tailB (j : Nat) : oneL (rx0 ++ tailB j) = .ok (opM, 5) := by
  obtain ⟨c, t, h, hc⟩ := tailB_head j
  rw [h]; exact one_rx0 t hc
theorem lineB : ∀ (j all : Nat), all + j ≤ 4096 → lineT (tailB j) false all = .ok (List.replicate j opM, 6 * j + 1)
  | 0, all, _ => lineT_end rfl false all
  | j + 1, all, h => by
    have ho : opS false all (tailB (j + 1)) = .ok (opM, 1 + 5) := opS_one_ok (Or.inr ⟨32, rfl, rfl⟩) (by rintro ⟨h1, _⟩; omega) (one_tailB j)
    have e : tailB (j + 1) = 32 :: (rx0 ++ tailB j) := rfl
    rw [e] at ho ⊢
    rw [lineT_op (by decide) ho]
    show addL opM 6 (lineT (tailB j) false (all + 1)) = _
    rw [lineB j (all + 1) (by omega)]
    show PRes.ok (opM :: List.replicate j opM, 6 + (6 * j + 1)) = _
    rw [show 6 + (6 * j + 1) = 6 * (j + 1) + 1 by omega]; rfl
theorem lineB_bad : ∀ (j all : Nat), all ≤ 4096 → 4096 < all + j → lineT (tailB j) false all = .bad (6 * (4096 - all) + 1) 3
  | 0, all, h1, h2 => by omega
  | j + 1, all, h1, h2 => by
    have e : tailB (j + 1) = 32 :: (rx0 ++ tailB j) := rfl
    by_cases h4 : all = 4096
    · subst h4
      have ho : opS false 4096 (tailB (j + 1)) = .bad 1 3 := opS_large (Or.inr ⟨32, rfl, rfl⟩) rfl
      rw [e] at ho ⊢
      exact lineT_bad (by decide) ho
    · have ho : opS false all (tailB (j + 1)) = .ok (opM, 1 + 5) := opS_one_ok (Or.inr ⟨32, rfl, rfl⟩) (by rintro ⟨h1, _⟩; omega) (one_tailB j)
      rw [e] at ho ⊢
      rw [lineT_op (by decide) ho]
      show addL opM 6 (lineT (tailB j) false (all + 1)) = _
      rw [lineB_bad j (all + 1) (by omega) (by omega)]
      show PRes.bad (6 + (6 * (4096 - (all + 1)) + 1)) 3 = _
      rw [show 6 + (6 * (4096 - (all + 1)) + 1) = 6 * (4096 - all) + 1 by omega]
theorem textB (k : Nat) : textL (rx0 ++ tailB k) = if k + 1 ≤ 4096 then .ok [List.replicate (k + 1) opM] else .bad 24576 3 := by
  have ho : opS true 0 (rx0 ++ tailB k) = .ok (opM, 0 + 5) := opS_one_ok (Or.inl rfl) (by rintro ⟨h1, _⟩; omega) (one_tailB k)
  have e : rx0 ++ tailB k = 114 :: ([58, 120, 61, 48] ++ tailB k) := rfl
  have hl : lineT (rx0 ++ tailB k) true 0 = addL opM 5 (lineT (tailB k) false 1) := by
    rw [e] at ho ⊢
    rw [lineT_op (by decide) ho]; rfl
  show textT (rx0 ++ tailB k) 0 = _
  by_cases hk : k + 1 ≤ 4096
  · rw [if_pos hk]
    rw [lineB k 1 (by omega)] at hl
    have hl' : lineT (rx0 ++ tailB k) true 0 = .ok (opM :: List.replicate k opM, 5 + (6 * k + 1)) := hl
    have hlen : (tailB k).length = 6 * k + 1 := by
      clear hl hl' ho e hk
      induction k with
      | zero => rfl
      | succ k ih => show (32 :: (rx0 ++ tailB k)).length = _; rw [List.length_cons, List.length_append, ih]; show 5 + (6 * k + 1) + 1 = _; omega
    rw [e] at hl' ⊢
    rw [textT_line hl']
    have hd : (114 :: ([58, 120, 61, 48] ++ tailB k)).drop (5 + (6 * k + 1)) = [] := List.drop_eq_nil_of_le (by rw [← e, List.length_append, hlen]; show 5 + (6 * k + 1) ≤ _; omega)
    rw [hd, textT_nil]; rfl
  · rw [if_neg hk]
    rw [lineB_bad k 1 (by omega) (by omega)] at hl
    have hl' : lineT (rx0 ++ tailB k) true 0 = .bad 24576 3 := hl
    rw [e] at hl' ⊢
    exact textT_bad hl'
def linesN : Nat → List UInt8
  | 0 => []
  | j + 1 => rx0 ++ 10 :: linesN j
theorem textN : ∀ (j all : Nat), all ≤ 4096 → textT (linesN j) all = if all + j ≤ 4096 then .ok (List.replicate j [opM]) else .bad (6 * (4096 - all)) 3
  | 0, all, h => by rw [if_pos (by omega)]; exact textT_nil all
  | j + 1, all, h => by
    have e : linesN (j + 1) = 114 :: ([58, 120, 61, 48] ++ 10 :: linesN j) := rfl
    by_cases h4 : all = 4096
    · subst h4
      rw [if_neg (by omega)]
      have ho : opS true 4096 (linesN (j + 1)) = .bad 0 3 := opS_large (Or.inl rfl) rfl
      rw [e] at ho ⊢
      exact textT_bad (lineT_bad (by decide) ho)
    · have ho : opS true all (linesN (j + 1)) = .ok (opM, 0 + 5) := opS_one_ok (Or.inl rfl) (by rintro ⟨h1, _⟩; omega) (one_rx0 _ (.inr rfl))
      have hl : lineT (linesN (j + 1)) true all = .ok ([opM], 6) := by
        rw [e] at ho ⊢
        rw [lineT_op (by decide) ho]
        show addL opM 5 (lineT (10 :: linesN j) false (all + 1)) = _
        rw [lineT_end rfl]; rfl
      rw [e] at hl ⊢
      rw [textT_line hl]
      show addT [opM] 6 (textT (linesN j) (all + 1)) = _
      rw [textN j (all + 1) (by omega)]
      by_cases hj : all + (j + 1) ≤ 4096
      · rw [if_pos hj, if_pos (by omega)]; rfl
      · rw [if_neg hj, if_neg (by omega)]
        show PRes.bad (6 + 6 * (4096 - (all + 1))) 3 = _
        rw [show 6 + 6 * (4096 - (all + 1)) = 6 * (4096 - all) by omega]
def repU (c : UInt8) : Nat → List UInt8
  | 0 => []
  | j + 1 => repU c j ++ (rx0 ++ [c])
theorem repU_len (c : UInt8) : ∀ n, (repU c n).length = 6 * n
  | 0 => rfl
  | n + 1 => by show (repU c n ++ (rx0 ++ [c])).length = _; rw [List.length_append, repU_len c n]; show 6 * n + 6 = _; omega
theorem repU_add (c : UInt8) (a : Nat) : ∀ b, repU c (a + b) = repU c a ++ repU c b
  | 0 => by simp [repU]
  | b + 1 => by show repU c (a + b) ++ (rx0 ++ [c]) = repU c a ++ (repU c b ++ (rx0 ++ [c])); rw [repU_add c a b, List.append_assoc]
theorem repU_one (c : UInt8) (n : Nat) : repU c (n + 1) = (rx0 ++ [c]) ++ repU c n := by
  rw [Nat.add_comm, repU_add c 1 n]; rfl
theorem repU_take (c : UInt8) (k m : Nat) : (repU c (k + (m + 1))).take (6 * (k + 1) - 1) = repU c k ++ rx0 := by
  rw [repU_add, List.take_append, repU_len, List.take_of_length_le (by rw [repU_len]; omega), show 6 * (k + 1) - 1 - 6 * k = 5 by omega, repU_one]
  rfl
theorem repU_lines : ∀ n, repU 10 n ++ (rx0 ++ [10]) = linesN (n + 1)
  | 0 => rfl
  | n + 1 => by
    rw [repU_one, List.append_assoc, repU_lines n, List.append_assoc]; rfl
theorem repU_blank : ∀ n, repU 32 n ++ (rx0 ++ [10]) = rx0 ++ tailB n
  | 0 => rfl
  | n + 1 => by
    rw [repU_one, List.append_assoc, repU_blank n, List.append_assoc]; rfl
/-- the text of k + 1 operations, in a line each or all in one -/
theorem textL_many (c : UInt8) (hc : c = 32 ∨ c = 10) (k m : Nat) : ∃ hs : List (List OpT), (allO hs).length = k + 1 ∧ textL ((repU c (k + (m + 1))).take (6 * (k + 1) - 1) ++ [10]) = if k + 1 ≤ 4096 then .ok hs else .bad 24576 3 := by
  rw [repU_take, List.append_assoc]
  rcases hc with rfl | rfl
  · rw [repU_blank, textB]
    exact ⟨[List.replicate (k + 1) opM], by simp [allO], rfl⟩
  · rw [repU_lines]
    refine ⟨List.replicate (k + 1) [opM], by simp [allO], ?_⟩
    show textT (linesN (k + 1)) 0 = _
    rw [textN (k + 1) 0 (by omega)]
    by_cases hk : k + 1 ≤ 4096
    · rw [if_pos hk, if_pos (by omega)]
    · rw [if_neg hk, if_neg (by omega)]

end Go.Proofs.Ytpincmdogaaciaa
