/- Plain mathematics of layer 11: what reads read from. Nothing of the program is named. -/
import Derived.Test.YtcdfpodhiogpiaaDiffMath
namespace Go.Proofs.Ytcdfpodhiogpiaa
set_option linter.unusedVariables false

/-- what an item reads from -/
def fromOne (is : List It) (x : It) : Int := if x.wr = true then -3 else if x.vl = 0 then -1 else match writeF is x.va x.vl with | some w => (w : Int) | none => -2
def fromF (is : List It) : List Int := is.map (fromOne is)
def fillF (f : Fac) : Fac := ⟨f.vars, f.items, fromF f.items⟩
/-- the reads of a write -/
def readN (frm : List Int) (w : Int) (n : Nat) : List Nat := (List.range n).filter fun i => decide (0 ≤ w) && decide (frm.getD i 0 = w)
def readF (frm : List Int) (w : Int) (n : Nat) : List Int := (readN frm w n).map fun (i : Nat) => (i : Int)
theorem fromF_len (is : List It) : (fromF is).length = is.length := List.length_map _
theorem fromF_at {is : List It} {k : Nat} {x : It} (h : is[k]? = some x) : (fromF is)[k]? = some (fromOne is x) := by unfold fromF; rw [List.getElem?_map, h]; rfl
theorem fromF_take {is : List It} {k : Nat} {x : It} (h : is[k]? = some x) : (fromF is).take (k + 1) = (fromF is).take k ++ [fromOne is x] := by
  rw [List.take_add_one, fromF_at h]; rfl
theorem fromOne_range (is : List It) (x : It) : -3 ≤ fromOne is x ∧ fromOne is x < (is.length : Int) := by
  unfold fromOne
  split
  · omega
  · split
    · omega
    · cases h : writeF is x.va x.vl with
      | none => simp only; omega
      | some w =>
        obtain ⟨y, hy, _⟩ := writeF_some h
        have := (List.getElem?_eq_some_iff.1 hy).1
        simp only; omega
theorem readN_succ (frm : List Int) (w : Int) (n : Nat) : readN frm w (n + 1) = if (decide (0 ≤ w) && decide (frm.getD n 0 = w)) = true then readN frm w n ++ [n] else readN frm w n := by
  unfold readN
  rw [List.range_succ, List.filter_append]
  split
  · rename_i h; rw [List.filter_cons_of_pos (by exact h)]; rfl
  · rename_i h; rw [List.filter_cons_of_neg (by exact h)]; simp
theorem readF_succ (frm : List Int) (w : Int) (n : Nat) : readF frm w (n + 1) = if (decide (0 ≤ w) && decide (frm.getD n 0 = w)) = true then readF frm w n ++ [(n : Int)] else readF frm w n := by
  unfold readF
  rw [readN_succ]
  split
  · simp
  · rfl
theorem readF_len (frm : List Int) (w : Int) (n : Nat) : (readF frm w n).length ≤ n := by
  unfold readF readN
  rw [List.length_map]
  exact Nat.le_trans (List.length_filter_le _ _) (by simp)
theorem readF_ok (frm : List Int) (w : Int) (n : Nat) : ∀ z ∈ readF frm w n, 0 ≤ z ∧ z < (n : Int) := fun z hz => by
  unfold readF at hz
  obtain ⟨i, hi, rfl⟩ := List.mem_map.1 hz
  unfold readN at hi
  have := List.mem_range.1 (List.mem_filter.1 hi).1
  omega

/-! ### how many reads read from a write -/
def cntF (frm : List Int) (w : Int) (n : Nat) : Nat := ((List.range n).filter fun i => decide (0 ≤ frm.getD i 0) && decide (frm.getD i 0 < w)).length
def posF (frm : List Int) (n : Nat) : Nat := ((List.range n).filter fun i => decide (0 ≤ frm.getD i 0)).length
theorem filter_range_succ (p : Nat → Bool) (n : Nat) : ((List.range (n + 1)).filter p).length = ((List.range n).filter p).length + if p n = true then 1 else 0 := by
  rw [List.range_succ, List.filter_append, List.length_append]
  split
  · rename_i h; rw [List.filter_cons_of_pos h]; rfl
  · rename_i h; rw [List.filter_cons_of_neg h]; rfl
theorem posF_succ (frm : List Int) (n : Nat) : posF frm (n + 1) = posF frm n + if 0 ≤ frm.getD n 0 then 1 else 0 := by
  unfold posF; rw [filter_range_succ]; simp
theorem cntF_next (frm : List Int) (w : Int) (n : Nat) : cntF frm (w + 1) n = cntF frm w n + (readF frm w n).length := by
  unfold cntF readF readN
  rw [List.length_map]
  induction n with
  | zero => rfl
  | succ n ih =>
    rw [filter_range_succ, filter_range_succ, filter_range_succ, ih]
    have e : ∀ z : Int, (if (decide (0 ≤ z) && decide (z < w + 1)) = true then 1 else 0) = (if (decide (0 ≤ z) && decide (z < w)) = true then 1 else 0) + (if (decide (0 ≤ w) && decide (z = w)) = true then (1 : Nat) else 0) := fun z => by
      by_cases h0 : 0 ≤ z
      · rcases Int.lt_trichotomy z w with h | h | h
        · have h1 : z < w + 1 := by omega
          have h2 : ¬ z = w := by omega
          simp [h0, h, h1, h2]
        · subst h; simp [h0]; omega
        · have h1 : ¬ z < w + 1 := by omega
          have h2 : ¬ z = w := by omega
          have h3 : ¬ z < w := by omega
          simp [h1, h2, h3]
      · by_cases h2 : z = w
        · subst h2; simp [h0]
        · simp [h0, h2]
    have := e (frm.getD n 0)
    omega
theorem cntF_start (frm : List Int) {w : Int} (hw : w ≤ 0) (n : Nat) : cntF frm w n = 0 := by
  unfold cntF
  rw [List.filter_eq_nil_iff.2 (fun a _ => by simp; omega)]; rfl
theorem cntF_all {frm : List Int} {w : Int} {n : Nat} (h : ∀ i, i < n → frm.getD i 0 < w) : cntF frm w n = posF frm n := by
  unfold cntF posF
  congr 1
  refine List.filter_congr (fun i hi => ?_)
  rw [decide_eq_true (h i (List.mem_range.1 hi)), Bool.and_true]
theorem posF_le (frm : List Int) (n : Nat) : posF frm n ≤ n := by
  unfold posF; exact Nat.le_trans (List.length_filter_le _ _) (by simp)
theorem cntF_le (frm : List Int) (w : Int) (n : Nat) : cntF frm w n ≤ n := by
  unfold cntF; exact Nat.le_trans (List.length_filter_le _ _) (by simp)
theorem posF_mono (frm : List Int) {i n : Nat} (h : i ≤ n) : posF frm i ≤ posF frm n := by
  induction n with
  | zero => rw [Nat.le_zero.1 h]; exact Nat.le_refl _
  | succ n ih =>
    rcases Nat.lt_or_ge i (n + 1) with h1 | h1
    · rw [posF_succ]; have := ih (by omega); omega
    · rw [show i = n + 1 by omega]; exact Nat.le_refl _
theorem readF_at {frm : List Int} {w : Int} {n q : Nat} {z : Int} (h : (readF frm w n)[q]? = some z) : 0 ≤ w ∧ 0 ≤ z ∧ z < (n : Int) ∧ frm.getD z.toNat 0 = w := by
  unfold readF at h
  rw [List.getElem?_map] at h
  cases ha : (readN frm w n)[q]? with
  | none => rw [ha] at h; cases h
  | some a =>
    rw [ha] at h
    have h : some (a : Int) = some z := h
    injection h with h
    have hm := List.mem_of_getElem? ha
    unfold readN at hm
    obtain ⟨h1, h2⟩ := List.mem_filter.1 hm
    rw [Bool.and_eq_true, decide_eq_true_eq, decide_eq_true_eq] at h2
    have := List.mem_range.1 h1
    subst h
    exact ⟨h2.1, by omega, by omega, by rw [Int.toNat_natCast]; exact h2.2⟩
theorem readF_lt {frm : List Int} {w : Int} {n q : Nat} {y z : Int} (h1 : (readF frm w n)[q]? = some y) (h2 : (readF frm w n)[q + 1]? = some z) : y < z := by
  have hp : (readN frm w n).Pairwise (· < ·) := by unfold readN; exact List.pairwise_lt_range.filter _
  unfold readF at h1 h2
  rw [List.getElem?_map] at h1 h2
  cases ha : (readN frm w n)[q]? with
  | none => rw [ha] at h1; cases h1
  | some a =>
    cases hb : (readN frm w n)[q + 1]? with
    | none => rw [hb] at h2; cases h2
    | some b =>
      rw [ha] at h1
      rw [hb] at h2
      have h1 : some (a : Int) = some y := h1
      have h2 : some (b : Int) = some z := h2
      injection h1 with h1
      injection h2 with h2
      obtain ⟨la, ea⟩ := List.getElem?_eq_some_iff.1 ha
      obtain ⟨lb, eb⟩ := List.getElem?_eq_some_iff.1 hb
      have := List.pairwise_iff_getElem.1 hp q (q + 1) la lb (by omega)
      rw [ea, eb] at this
      omega
end Go.Proofs.Ytcdfpodhiogpiaa
