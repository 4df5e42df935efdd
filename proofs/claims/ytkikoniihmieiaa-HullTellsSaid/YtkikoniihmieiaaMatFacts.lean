/- Plain facts of matrices that may be: a pair that is set. -/
import Derived.Test.YtkikoniihmieiaaRowFacts
import Derived.Test.YtkikoniihmieiaaMatMath
import Derived.Test.YtkikoniihmieiaaMatPairs
namespace Go.Proofs.Ytkikoniihmieiaa
open Go.RowKit
set_option linter.unusedVariables false

theorem right_parts {N : Int} {xss : List (List Nat)} (h : rightM N xss = true) : 0 ≤ N ∧ N ≤ 4096 ∧ (xss.length : Int) = N ∧ ∀ r ∈ xss, fitsR r N = true := by
  unfold rightM at h
  simp only [Bool.and_eq_true, decide_eq_true_eq, List.all_eq_true] at h
  exact ⟨h.1.1.1, h.1.1.2, h.1.2, h.2⟩
theorem right_of {N : Int} {xss : List (List Nat)} (h0 : 0 ≤ N) (h1 : N ≤ 4096) (h2 : (xss.length : Int) = N) (h3 : ∀ r ∈ xss, fitsR r N = true) : rightM N xss = true := by
  unfold rightM
  simp only [Bool.and_eq_true, decide_eq_true_eq, List.all_eq_true]
  exact ⟨⟨⟨h0, h1⟩, h2⟩, h3⟩
theorem fits_parts {r : List Nat} {N : Int} (h : fitsR r N = true) : (r.length : Int) = wordsZ N ∧ ∀ j : Nat, j < 64 * r.length → N ≤ (j : Int) → hasR r (j : Int) = false := by
  unfold fitsR at h
  simp only [Bool.and_eq_true, decide_eq_true_eq, List.all_eq_true, List.mem_range, Bool.or_eq_true, Bool.not_eq_true'] at h
  exact ⟨h.1, fun j hj hN => (h.2 j hj).resolve_left (by omega)⟩
theorem fits_of {r : List Nat} {N : Int} (h1 : (r.length : Int) = wordsZ N) (h2 : ∀ j : Nat, j < 64 * r.length → N ≤ (j : Int) → hasR r (j : Int) = false) : fitsR r N = true := by
  unfold fitsR
  simp only [Bool.and_eq_true, decide_eq_true_eq, List.all_eq_true, List.mem_range, Bool.or_eq_true, Bool.not_eq_true']
  refine ⟨h1, fun j hj => ?_⟩
  by_cases h : (j : Int) < N
  · exact .inl h
  · exact .inr (h2 j hj (by omega))
/-- the rows of a matrix that may be: each of as many words as the number wants, and no bit behind it -/
structure Good (n : Nat) (xss : List (List Nat)) : Prop where
  le : n ≤ 4096
  len : xss.length = n
  row : ∀ r ∈ xss, W64 r ∧ n ≤ 64 * r.length ∧ r.length = (wordsZ (n : Int)).toNat ∧ ∀ j : Nat, n ≤ j → hasR r (j : Int) = false
theorem Good.of {N : Int} {xss : List (List Nat)} (h : rightM N xss = true) (hw : ∀ r ∈ xss, W64 r) : ∃ n : Nat, N = (n : Int) ∧ Good n xss := by
  obtain ⟨h0, h1, h2, h3⟩ := right_parts h
  obtain ⟨n, rfl⟩ := Int.eq_ofNat_of_zero_le h0
  refine ⟨n, rfl, by omega, by omega, fun r hr => ?_⟩
  obtain ⟨f1, f2⟩ := fits_parts (h3 r hr)
  have hp : 0 < n := by
    rcases Nat.eq_zero_or_pos n with rfl | hp
    · have : xss = [] := List.eq_nil_of_length_eq_zero (by omega)
      rw [this] at hr; cases hr
    · exact hp
  have hwp := (words_pos hp).2
  refine ⟨hw r hr, by omega, by omega, fun j hj => ?_⟩
  by_cases hj2 : j < 64 * r.length
  · exact f2 j hj2 (by omega)
  · exact hasR_out _ _ (.inr (by omega))
theorem Good.right {n : Nat} {xss : List (List Nat)} (h : Good n xss) : rightM (n : Int) xss = true := by
  refine right_of (by omega) (by have := h.le; omega) (by rw [h.len]) (fun r hr => ?_)
  obtain ⟨_, h2, h3, h4⟩ := h.row r hr
  refine fits_of ?_ (fun j _ hj => h4 j (by omega))
  have : 0 ≤ wordsZ (n : Int) := by unfold wordsZ; split <;> omega
  omega
theorem Good.at_ {n : Nat} {xss : List (List Nat)} (h : Good n xss) {a : Nat} (ha : a < n) : ∃ r, xss[a]? = some r ∧ W64 r ∧ n ≤ 64 * r.length := by
  have hl : a < xss.length := by rw [h.len]; exact ha
  exact ⟨xss[a], List.getElem?_eq_getElem hl, (h.row _ (List.getElem_mem hl)).1, (h.row _ (List.getElem_mem hl)).2.1⟩
theorem Good.small {n : Nat} {xss : List (List Nat)} (h : Good n xss) : ∀ r ∈ xss, r.length ≤ 64 := fun r hr => by
  have := (h.row r hr).2.2.1
  have := words_le h.le
  omega
theorem Good.set {n : Nat} {xss : List (List Nat)} (h : Good n xss) {a b : Nat} (ha : a < n) (hb : b < n) : Good n (setM xss (a : Int) (b : Int)) := by
  obtain ⟨r, hr, hw, hl⟩ := h.at_ ha
  rw [setM_nat hr]
  have hrow := h.row r (List.mem_of_getElem? hr)
  refine ⟨h.le, by rw [List.length_set]; exact h.len, fun r' hr' => ?_⟩
  rcases List.mem_or_eq_of_mem_set hr' with h1 | rfl
  · exact h.row r' h1
  · refine ⟨setR_w64 hw b, by rw [setR_len]; exact hl, by rw [setR_len]; exact hrow.2.2.1, fun j hj => ?_⟩
    rw [hasR_setR r b j (by omega), hrow.2.2.2 j hj, decide_eq_false (by omega)]; rfl

theorem set_at {α : Type} {xss : List α} {a : Nat} {r r' : α} (h : xss[a]? = some r) : (xss.set a r')[a]? = some r' := by
  rw [List.getElem?_set, if_pos rfl, if_pos (List.getElem?_eq_some_iff.1 h).1]
theorem set_has {n : Nat} {xss : List (List Nat)} (h : Good n xss) {a b : Nat} (ha : a < n) (hb : b < n) : hasM (setM xss (a : Int) (b : Int)) (a : Int) (b : Int) = true := by
  obtain ⟨r, hr, hw, hl⟩ := h.at_ ha
  rw [setM_nat hr, hasM_in (set_at hr), hasR_setR r b b (by omega), decide_eq_true rfl, Bool.or_true]
theorem subR_self {r : List Nat} (h : W64 r) : subR r r = true := (subR_iff r r h).2 fun _ h => h
theorem set_sub {n : Nat} {xss : List (List Nat)} (h : Good n xss) {a b : Nat} (ha : a < n) (hb : b < n) : subM xss (setM xss (a : Int) (b : Int)) = true := by
  obtain ⟨r, hr, hw, hl⟩ := h.at_ ha
  rw [setM_nat hr]
  unfold subM
  rw [List.all_eq_true]
  intro i hi
  have hi' : i < xss.length := List.mem_range.1 hi
  have hx : xss[i]? = some xss[i] := List.getElem?_eq_getElem hi'
  by_cases hia : a = i
  · subst hia
    rw [getD_at hr, getD_at (set_at hr)]; exact subR_setR hw b
  · rw [getD_at hx, getD_at (xs := xss[i]) (by rw [List.getElem?_set, if_neg hia]; exact hx)]
    exact subR_self (h.row _ (List.getElem_mem hi')).1
theorem orR_sub {a b : List Nat} (ha : W64 a) (hb : W64 b) (hl : a.length = b.length) (h : ∀ i : Nat, hasR a (i : Int) = true → hasR b (i : Int) = true) : orR a b = b := by
  refine row_ext (orR_w64 ha hb) hb (by rw [orR_len]; omega) (fun i _ => ?_)
  rw [hasR_orR]
  cases h1 : hasR a (i : Int) with
  | false => rfl
  | true => rw [h i h1]; rfl
theorem set_or {n : Nat} {xss : List (List Nat)} (h : Good n xss) {a b : Nat} (ha : a < n) (hb : b < n) : orM xss (setM xss (a : Int) (b : Int)) = setM xss (a : Int) (b : Int) := by
  obtain ⟨r, hr, hw, hl⟩ := h.at_ ha
  rw [setM_nat hr]
  unfold orM
  apply List.ext_getElem?
  intro i
  by_cases hi : i < xss.length
  · have hx : xss[i]? = some xss[i] := List.getElem?_eq_getElem hi
    rw [List.getElem?_map, List.getElem?_range hi, Option.map_some]
    by_cases hia : a = i
    · subst hia
      rw [getD_at hr, getD_at (set_at hr), set_at hr, orR_sub hw (setR_w64 hw b) (by rw [setR_len]) (fun j hj => by rw [hasR_setR r b j (by omega), hj]; rfl)]
    · have h2 : (xss.set a (setR r (b : Int)))[i]? = some xss[i] := by rw [List.getElem?_set, if_neg hia]; exact hx
      have h3 := (h.row _ (List.getElem_mem hi)).1
      rw [getD_at hx, getD_at h2, h2, orR_sub h3 h3 rfl (fun _ h => h)]
  · rw [List.getElem?_eq_none (by simpa using hi), List.getElem?_eq_none (by simpa using hi)]
theorem map_range_getD {α β : Type} (l : List α) (d : α) (f : α → β) : (List.range l.length).map (fun i => f (l.getD i d)) = l.map f := by
  apply List.ext_getElem?
  intro i
  by_cases hi : i < l.length
  · rw [List.getElem?_map, List.getElem?_range hi, List.getElem?_map, List.getElem?_eq_getElem hi, Option.map_some, Option.map_some, getD_at (List.getElem?_eq_getElem hi)]
  · rw [List.getElem?_eq_none (by simpa using hi), List.getElem?_eq_none (by simpa using hi)]
theorem pairsM_len (xss : List (List Nat)) : (pairsM xss).length = (xss.map countR).sum := by
  unfold pairsM pairsK
  rw [List.length_flatMap, ← map_range_getD xss [] countR]
  congr 1
  apply List.map_congr_left
  intro i _
  rw [List.length_map, listR_len]
theorem sum_set : ∀ (l : List Nat) (i x y : Nat), l[i]? = some y → (l.set i x).sum + y = l.sum + x
  | [], i, x, y, h => by simp at h
  | z :: l, 0, x, y, h => by
    simp at h; subst h
    simp only [List.set_cons_zero, List.sum_cons]; omega
  | z :: l, i + 1, x, y, h => by
    have := sum_set l i x y (by simpa using h)
    simp only [List.set_cons_succ, List.sum_cons]; omega
theorem set_pairs {n : Nat} {xss : List (List Nat)} (h : Good n xss) {a b : Nat} (ha : a < n) (hb : b < n) : (pairsM (setM xss (a : Int) (b : Int))).length = (pairsM xss).length + (if hasM xss (a : Int) (b : Int) = true then 0 else 1) := by
  obtain ⟨r, hr, hw, hl⟩ := h.at_ ha
  rw [setM_nat hr, hasM_in hr, pairsM_len, pairsM_len, List.map_set]
  have hs := sum_set (xss.map countR) a (countR (setR r (b : Int))) (countR r) (by rw [List.getElem?_map, hr]; rfl)
  have hc : countR (setR r (b : Int)) = countR r + (if hasR r (b : Int) = true then 0 else 1) := by
    cases hh : hasR r (b : Int) with
    | true => rw [setR_has hw b hh]; simp
    | false => rw [countR_setR r b (by omega) hh]; simp
  rw [hc] at hs ⊢
  omega

end Go.Proofs.Ytkikoniihmieiaa
