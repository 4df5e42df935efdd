/- Plain facts of matrices that may be: a pair that is set. Plain facts of matrices that may be: made of pairs, turned about. Plain facts of matrices that may be: parts of one another, together, whether a pair is there. Words for memory: a variable that holds a matrix, with its rows. No function of the program is named here. Plain mathematics of what follows from pairs: hulls, as the least closed ones. Nothing of the program is named. Plain mathematics of layer 12: the matrix of a history's sessions is closed, doesn't go round, and has n (n - 1) / 2 pairs of each session. Nothing of the program is named. Plain mathematics of layer 13: writes and their reads, the edges, causal order. Nothing of the program is named. A queue of numbers of a call's own: 'q = q[1:]', 'q = append(q, x)'. No function of the program is named here. And the search over a matrix's pairs, as plain mathematics. Contracts of package hull: place, below, Closed, Loop. Contracts of the document's own answers of layer 4: Closed, Loop. Contract of the document's own answer: Reach (a search with a queue). Contracts of the document's own answers of layer 4: Close, Add. The contracts of the document's own answers of layer 13: Rf, Edges, Co. -/
import Derived.Test.YtmgockkjoogcaaaCauseLeastPk2
import Derived.Test.YtmgockkjoogcaaaCauseLeastPk3
import Derived.Test.YtmgockkjoogcaaaCauseLeastPk4
import Derived.ArgAppend
namespace Go.Proofs.Ytmgockkjoogcaaa
open Go.RowKit
set_option linter.unusedVariables false

theorem right_parts {N : Int} {xss : List (List Nat)} (h : rightM N xss = true) : 0 ≤ N ∧ N ≤ 4096 ∧ (xss.length : Int) = N ∧ ∀ r ∈ xss, fitsR r N = true := by
  unfold rightM at h
  simp only [Bool.and_eq_true, decide_eq_true_eq, List.all_eq_true] at h
  exact ⟨h.1.1.1, h.1.1.2, h.1.2, h.2⟩
theorem right_of {N : Int} {xss : List (List Nat)} (h0 : 0 ≤ N) (h1 : N ≤ 4096) (h2 : (xss.length : Int) = N) (h3 : ∀ r ∈ xss, fitsR r N = true) : rightM N xss = true := by
  unfold rightM
  simp only [Bool.and_eq_true, decide_eq_true_eq, List.all_eq_true]
  exact ⟨⟨⟨h0, h1⟩, h2⟩, h3⟩
theorem fits_parts {r : List Nat} {N : Int} (h : fitsR r N = true) : (r.length : Int) = wordsZ N ∧ ∀ j : Nat, j < 64 * r.length → N ≤ (j : Int) → hasR r (j : Int) = false := by
  unfold fitsR at h
  simp only [Bool.and_eq_true, decide_eq_true_eq, List.all_eq_true, List.mem_range, Bool.or_eq_true, Bool.not_eq_true'] at h
  exact ⟨h.1, fun j hj hN => (h.2 j hj).resolve_left (by omega)⟩
theorem fits_of {r : List Nat} {N : Int} (h1 : (r.length : Int) = wordsZ N) (h2 : ∀ j : Nat, j < 64 * r.length → N ≤ (j : Int) → hasR r (j : Int) = false) : fitsR r N = true := by
  unfold fitsR
  simp only [Bool.and_eq_true, decide_eq_true_eq, List.all_eq_true, List.mem_range, Bool.or_eq_true, Bool.not_eq_true']
  refine ⟨h1, fun j hj => ?_⟩
  by_cases h : (j : Int) < N
  · exact .inl h
  · exact .inr (h2 j hj (by omega))
/-- the rows of a matrix that may be: each of as many words as the number wants, and no bit behind it -/
structure Good (n : Nat) (xss : List (List Nat)) : Prop where
  le : n ≤ 4096
  len : xss.length = n
  row : ∀ r ∈ xss, W64 r ∧ n ≤ 64 * r.length ∧ r.length = (wordsZ (n : Int)).toNat ∧ ∀ j : Nat, n ≤ j → hasR r (j : Int) = false
theorem Good.of {N : Int} {xss : List (List Nat)} (h : rightM N xss = true) (hw : ∀ r ∈ xss, W64 r) : ∃ n : Nat, N = (n : Int) ∧ Good n xss := by
  obtain ⟨h0, h1, h2, h3⟩ := right_parts h
  obtain ⟨n, rfl⟩ := Int.eq_ofNat_of_zero_le h0
  refine ⟨n, rfl, by omega, by omega, fun r hr => ?_⟩
  obtain ⟨f1, f2⟩ := fits_parts (h3 r hr)
  have hp : 0 < n := by
    rcases Nat.eq_zero_or_pos n with rfl | hp
    · have : xss = [] := List.eq_nil_of_length_eq_zero (by omega)
      rw [this] at hr; cases hr
    · exact hp
  have hwp := (words_pos hp).2
  refine ⟨hw r hr, by omega, by omega, fun j hj => ?_⟩
  by_cases hj2 : j < 64 * r.length
  · exact f2 j hj2 (by omega)
  · exact hasR_out _ _ (.inr (by omega))
theorem Good.right {n : Nat} {xss : List (List Nat)} (h : Good n xss) : rightM (n : Int) xss = true := by
  refine right_of (by omega) (by have := h.le; omega) (by rw [h.len]) (fun r hr => ?_)
  obtain ⟨_, h2, h3, h4⟩ := h.row r hr
  refine fits_of ?_ (fun j _ hj => h4 j (by omega))
  have : 0 ≤ wordsZ (n : Int) := by unfold wordsZ; split <;> omega
  omega
theorem Good.at_ {n : Nat} {xss : List (List Nat)} (h : Good n xss) {a : Nat} (ha : a < n) : ∃ r, xss[a]? = some r ∧ W64 r ∧ n ≤ 64 * r.length := by
  have hl : a < xss.length := by rw [h.len]; exact ha
  exact ⟨xss[a], List.getElem?_eq_getElem hl, (h.row _ (List.getElem_mem hl)).1, (h.row _ (List.getElem_mem hl)).2.1⟩
theorem Good.small {n : Nat} {xss : List (List Nat)} (h : Good n xss) : ∀ r ∈ xss, r.length ≤ 64 := fun r hr => by
  have := (h.row r hr).2.2.1
  have := words_le h.le
  omega
theorem Good.set {n : Nat} {xss : List (List Nat)} (h : Good n xss) {a b : Nat} (ha : a < n) (hb : b < n) : Good n (setM xss (a : Int) (b : Int)) := by
  obtain ⟨r, hr, hw, hl⟩ := h.at_ ha
  rw [setM_nat hr]
  have hrow := h.row r (List.mem_of_getElem? hr)
  refine ⟨h.le, by rw [List.length_set]; exact h.len, fun r' hr' => ?_⟩
  rcases List.mem_or_eq_of_mem_set hr' with h1 | rfl
  · exact h.row r' h1
  · refine ⟨setR_w64 hw b, by rw [setR_len]; exact hl, by rw [setR_len]; exact hrow.2.2.1, fun j hj => ?_⟩
    rw [hasR_setR r b j (by omega), hrow.2.2.2 j hj, decide_eq_false (by omega)]; rfl

theorem set_at {α : Type} {xss : List α} {a : Nat} {r r' : α} (h : xss[a]? = some r) : (xss.set a r')[a]? = some r' := by
  rw [List.getElem?_set, if_pos rfl, if_pos (List.getElem?_eq_some_iff.1 h).1]
theorem set_has {n : Nat} {xss : List (List Nat)} (h : Good n xss) {a b : Nat} (ha : a < n) (hb : b < n) : hasM (setM xss (a : Int) (b : Int)) (a : Int) (b : Int) = true := by
  obtain ⟨r, hr, hw, hl⟩ := h.at_ ha
  rw [setM_nat hr, hasM_in (set_at hr), hasR_setR r b b (by omega), decide_eq_true rfl, Bool.or_true]
theorem subR_self {r : List Nat} (h : W64 r) : subR r r = true := (subR_iff r r h).2 fun _ h => h
theorem set_sub {n : Nat} {xss : List (List Nat)} (h : Good n xss) {a b : Nat} (ha : a < n) (hb : b < n) : subM xss (setM xss (a : Int) (b : Int)) = true := by
  obtain ⟨r, hr, hw, hl⟩ := h.at_ ha
  rw [setM_nat hr]
  unfold subM
  rw [List.all_eq_true]
  intro i hi
  have hi' : i < xss.length := List.mem_range.1 hi
  have hx : xss[i]? = some xss[i] := List.getElem?_eq_getElem hi'
  by_cases hia : a = i
  · subst hia
    rw [getD_at hr, getD_at (set_at hr)]; exact subR_setR hw b
  · rw [getD_at hx, getD_at (xs := xss[i]) (by rw [List.getElem?_set, if_neg hia]; exact hx)]
    exact subR_self (h.row _ (List.getElem_mem hi')).1
theorem orR_sub {a b : List Nat} (ha : W64 a) (hb : W64 b) (hl : a.length = b.length) (h : ∀ i : Nat, hasR a (i : Int) = true → hasR b (i : Int) = true) : orR a b = b := by
  refine row_ext (orR_w64 ha hb) hb (by rw [orR_len]; omega) (fun i _ => ?_)
  rw [hasR_orR]
  cases h1 : hasR a (i : Int) with
  | false => rfl
  | true => rw [h i h1]; rfl
theorem set_or {n : Nat} {xss : List (List Nat)} (h : Good n xss) {a b : Nat} (ha : a < n) (hb : b < n) : orM xss (setM xss (a : Int) (b : Int)) = setM xss (a : Int) (b : Int) := by
  obtain ⟨r, hr, hw, hl⟩ := h.at_ ha
  rw [setM_nat hr]
  unfold orM
  apply List.ext_getElem?
  intro i
  by_cases hi : i < xss.length
  · have hx : xss[i]? = some xss[i] := List.getElem?_eq_getElem hi
    rw [List.getElem?_map, List.getElem?_range hi, Option.map_some]
    by_cases hia : a = i
    · subst hia
      rw [getD_at hr, getD_at (set_at hr), set_at hr, orR_sub hw (setR_w64 hw b) (by rw [setR_len]) (fun j hj => by rw [hasR_setR r b j (by omega), hj]; rfl)]
    · have h2 : (xss.set a (setR r (b : Int)))[i]? = some xss[i] := by rw [List.getElem?_set, if_neg hia]; exact hx
      have h3 := (h.row _ (List.getElem_mem hi)).1
      rw [getD_at hx, getD_at h2, h2, orR_sub h3 h3 rfl (fun _ h => h)]
  · rw [List.getElem?_eq_none (by simpa using hi), List.getElem?_eq_none (by simpa using hi)]
theorem map_range_getD {α β : Type} (l : List α) (d : α) (f : α → β) : (List.range l.length).map (fun i => f (l.getD i d)) = l.map f := by
  apply List.ext_getElem?
  intro i
  by_cases hi : i < l.length
  · rw [List.getElem?_map, List.getElem?_range hi, List.getElem?_map, List.getElem?_eq_getElem hi, Option.map_some, Option.map_some, getD_at (List.getElem?_eq_getElem hi)]
  · rw [List.getElem?_eq_none (by simpa using hi), List.getElem?_eq_none (by simpa using hi)]
theorem pairsM_len (xss : List (List Nat)) : (pairsM xss).length = (xss.map countR).sum := by
  unfold pairsM pairsK
  rw [List.length_flatMap, ← map_range_getD xss [] countR]
  congr 1
  apply List.map_congr_left
  intro i _
  rw [List.length_map, listR_len]
theorem sum_set : ∀ (l : List Nat) (i x y : Nat), l[i]? = some y → (l.set i x).sum + y = l.sum + x
  | [], i, x, y, h => by simp at h
  | z :: l, 0, x, y, h => by
    simp at h; subst h
    simp only [List.set_cons_zero, List.sum_cons]; omega
  | z :: l, i + 1, x, y, h => by
    have := sum_set l i x y (by simpa using h)
    simp only [List.set_cons_succ, List.sum_cons]; omega
theorem set_pairs {n : Nat} {xss : List (List Nat)} (h : Good n xss) {a b : Nat} (ha : a < n) (hb : b < n) : (pairsM (setM xss (a : Int) (b : Int))).length = (pairsM xss).length + (if hasM xss (a : Int) (b : Int) = true then 0 else 1) := by
  obtain ⟨r, hr, hw, hl⟩ := h.at_ ha
  rw [setM_nat hr, hasM_in hr, pairsM_len, pairsM_len, List.map_set]
  have hs := sum_set (xss.map countR) a (countR (setR r (b : Int))) (countR r) (by rw [List.getElem?_map, hr]; rfl)
  have hc : countR (setR r (b : Int)) = countR r + (if hasR r (b : Int) = true then 0 else 1) := by
    cases hh : hasR r (b : Int) with
    | true => rw [setR_has hw b hh]; simp
    | false => rw [countR_setR r b (by omega) hh]; simp
  rw [hc] at hs ⊢
  omega

end Go.Proofs.Ytmgockkjoogcaaa

namespace Go.Proofs.Ytmgockkjoogcaaa
open Go.RowKit
set_option linter.unusedVariables false

theorem hasM_setM {n : Nat} {xss : List (List Nat)} (h : Good n xss) {a b : Nat} (ha : a < n) (hb : b < n) (i j : Nat) : hasM (setM xss (a : Int) (b : Int)) (i : Int) (j : Int) = (hasM xss (i : Int) (j : Int) || decide (i = a ∧ j = b)) := by
  obtain ⟨r, hr, hw, hl⟩ := h.at_ ha
  rw [setM_nat hr]
  by_cases hia : i = a
  · subst hia
    rw [hasM_in (set_at hr), hasM_in hr, hasR_setR r b j (by omega)]
    congr 1
    simp
  · rw [decide_eq_false (by omega), Bool.or_false]
    by_cases hi : i < xss.length
    · have hx : xss[i]? = some xss[i] := List.getElem?_eq_getElem hi
      rw [hasM_in hx, hasM_in (xs := xss[i]) (by rw [List.getElem?_set, if_neg (Ne.symm hia)]; exact hx)]
    · rw [hasM_out (xss := xss) (.inr (by omega)), hasM_out (xss := xss.set a (setR r (b : Int))) (.inr (by rw [List.length_set]; omega))]
theorem Good.new {n : Nat} (hn : n ≤ 4096) : Good n (newM n) := by
  refine ⟨hn, by simp [newM], fun r hr => ?_⟩
  have hp : 0 < n := by
    rcases Nat.eq_zero_or_pos n with rfl | hp
    · simp [newM] at hr
    · exact hp
  have he : r = List.replicate (wordsZ (n : Int)).toNat 0 := by unfold newM at hr; exact (List.mem_replicate.1 hr).2
  subst he
  refine ⟨fun x hx => by rw [(List.mem_replicate.1 hx).2]; omega, by rw [List.length_replicate]; exact (words_pos hp).2, by rw [List.length_replicate], fun j _ => hasR_zeros _ _⟩
theorem newM_has (n i j : Nat) : hasM (newM n) (i : Int) (j : Int) = false := by
  by_cases hi : i < n
  · rw [hasM_in (xs := List.replicate (wordsZ (n : Int)).toNat 0) (by unfold newM; rw [List.getElem?_replicate, if_pos hi])]; exact hasR_zeros _ _
  · exact hasM_out (.inr (by simp [newM]; omega))
theorem okP_nat {n : Nat} {x : Int × Int} (h : okP (n : Int) x = true) : ∃ a b : Nat, x = ((a : Int), (b : Int)) ∧ a < n ∧ b < n := by
  obtain ⟨i, j⟩ := x
  have h' : (((0 ≤ i) ∧ i < (n : Int)) ∧ 0 ≤ j) ∧ j < (n : Int) := by simpa [okP, inM] using h
  obtain ⟨⟨⟨i0, i1⟩, j0⟩, j1⟩ := h'
  obtain ⟨a, rfl⟩ := Int.eq_ofNat_of_zero_le i0
  obtain ⟨b, rfl⟩ := Int.eq_ofNat_of_zero_le j0
  exact ⟨a, b, rfl, by omega, by omega⟩
theorem fold_facts {n : Nat} : ∀ (ps : List (Int × Int)) (m : List (List Nat)), Good n m → (∀ x ∈ ps, okP (n : Int) x = true) →
    Good n (ps.foldl setP m) ∧ ∀ i j : Nat, hasM (ps.foldl setP m) (i : Int) (j : Int) = (hasM m (i : Int) (j : Int) || decide (((i : Int), (j : Int)) ∈ ps))
  | [], m, hG, _ => ⟨hG, fun i j => by simp⟩
  | p :: ps, m, hG, hok => by
    obtain ⟨a, b, rfl, ha, hb⟩ := okP_nat (hok p (List.mem_cons_self ..))
    have h := fold_facts ps (setP m ((a : Int), (b : Int))) (hG.set ha hb) (fun x hx => hok x (List.mem_cons_of_mem _ hx))
    refine ⟨h.1, fun i j => ?_⟩
    rw [List.foldl_cons, h.2 i j]
    unfold setP
    rw [hasM_setM hG ha hb, Bool.or_assoc]
    congr 1
    simp only [List.mem_cons, Prod.mk.injEq, Int.natCast_inj, Bool.decide_or]
theorem foldP_facts {n : Nat} (hn : n ≤ 4096) (ps : List (Int × Int)) (hok : ∀ x ∈ ps, okP (n : Int) x = true) :
    Good n (foldP n ps) ∧ ∀ i j : Nat, hasM (foldP n ps) (i : Int) (j : Int) = decide (((i : Int), (j : Int)) ∈ ps) := by
  have h := fold_facts ps (newM n) (Good.new hn) hok
  refine ⟨h.1, fun i j => ?_⟩
  have := h.2 i j
  rw [newM_has, Bool.false_or] at this
  exact this
theorem good_ext {n : Nat} {a b : List (List Nat)} (ha : Good n a) (hb : Good n b) (h : ∀ i j : Nat, i < n → j < n → hasM a (i : Int) (j : Int) = hasM b (i : Int) (j : Int)) : a = b := by
  apply List.ext_getElem?
  intro i
  by_cases hi : i < n
  · obtain ⟨r, hr, hw, hl⟩ := ha.at_ hi
    obtain ⟨s, hs, hw2, hl2⟩ := hb.at_ hi
    rw [hr, hs]
    have h1 := ha.row r (List.mem_of_getElem? hr)
    have h2 := hb.row s (List.mem_of_getElem? hs)
    congr 1
    refine row_ext hw hw2 (by rw [h1.2.2.1, h2.2.2.1]) (fun j _ => ?_)
    by_cases hj : j < n
    · have := h i j hi hj
      rw [hasM_in hr, hasM_in hs] at this; exact this
    · rw [h1.2.2.2 j (by omega), h2.2.2.2 j (by omega)]
  · rw [List.getElem?_eq_none (by rw [ha.len]; omega), List.getElem?_eq_none (by rw [hb.len]; omega)]
theorem mem_pairsM (xss : List (List Nat)) (i j : Nat) : ((i : Int), (j : Int)) ∈ pairsM xss ↔ hasM xss (i : Int) (j : Int) = true := by
  unfold pairsM pairsK
  rw [List.mem_flatMap]
  constructor
  · rintro ⟨k, hk, hm⟩
    obtain ⟨z, hz, he⟩ := List.mem_map.1 hm
    simp only [Prod.mk.injEq, Int.natCast_inj] at he
    obtain ⟨rfl, rfl⟩ := he
    have hk' : k < xss.length := List.mem_range.1 hk
    have hx : xss[k]? = some xss[k] := List.getElem?_eq_getElem hk'
    rw [getD_at hx] at hz
    obtain ⟨u, hu, he⟩ := List.mem_map.1 hz
    rw [hasM_in hx]
    have hju : u = j := Int.ofNat.inj he
    subst hju
    exact ((listN_mem _ _).1 hu).2
  · intro h
    by_cases hi : i < xss.length
    · have hx : xss[i]? = some xss[i] := List.getElem?_eq_getElem hi
      rw [hasM_in hx] at h
      refine ⟨i, List.mem_range.2 hi, List.mem_map.2 ⟨(j : Int), ?_, rfl⟩⟩
      rw [getD_at hx]
      refine List.mem_map.2 ⟨j, (listN_mem _ _).2 ⟨?_, h⟩, rfl⟩
      by_cases hj : j < 64 * (xss[i]).length
      · exact hj
      · rw [hasR_out _ _ (.inr (by omega))] at h; cases h
    · rw [hasM_out (.inr (by omega))] at h; cases h
theorem pairsM_nat {xss : List (List Nat)} {x : Int × Int} (h : x ∈ pairsM xss) : ∃ i j : Nat, x = ((i : Int), (j : Int)) ∧ hasM xss (i : Int) (j : Int) = true := by
  have h0 := h
  unfold pairsM pairsK at h
  rw [List.mem_flatMap] at h
  obtain ⟨k, hk, hm⟩ := h
  obtain ⟨z, hz, he⟩ := List.mem_map.1 hm
  obtain ⟨u, hu, he2⟩ := List.mem_map.1 hz
  subst he he2
  exact ⟨k, u, rfl, (mem_pairsM _ _ _).1 h0⟩
theorem Good.has_lt {n : Nat} {xss : List (List Nat)} (h : Good n xss) {i j : Nat} (hh : hasM xss (i : Int) (j : Int) = true) : i < n ∧ j < n := by
  by_cases hi : i < n
  · obtain ⟨r, hr, hw, hl⟩ := h.at_ hi
    refine ⟨hi, ?_⟩
    by_cases hj : j < n
    · exact hj
    · rw [hasM_in hr, (h.row r (List.mem_of_getElem? hr)).2.2.2 j (by omega)] at hh; cases hh
  · rw [hasM_out (.inr (by rw [h.len]; omega))] at hh; cases hh
theorem Good.ok {n : Nat} {xss : List (List Nat)} (h : Good n xss) : ∀ x ∈ pairsM xss, okP (n : Int) x = true := fun x hx => by
  obtain ⟨i, j, rfl, hh⟩ := pairsM_nat hx
  obtain ⟨h1, h2⟩ := h.has_lt hh
  unfold okP inM; simp; omega
/-- a matrix is made again of its pairs -/
theorem fold_back {n : Nat} {xss : List (List Nat)} (h : Good n xss) : foldP n (pairsM xss) = xss := by
  have hf := foldP_facts h.le (pairsM xss) h.ok
  refine good_ext hf.1 h (fun i j _ _ => ?_)
  rw [hf.2 i j]
  cases hh : hasM xss (i : Int) (j : Int) with
  | true => exact decide_eq_true ((mem_pairsM _ _ _).2 hh)
  | false => exact decide_eq_false (fun hm => by rw [(mem_pairsM _ _ _).1 hm] at hh; cases hh)

theorem words_one {n : Nat} (h0 : 0 < n) (h : n < 64) : (wordsZ (n : Int)).toNat = 1 := by
  unfold wordsZ; rw [if_neg (by omega)]; omega
theorem Good.one {n : Nat} {xss : List (List Nat)} (h : Good n xss) (hn : n < 64) : ∀ r ∈ xss, r.length = 1 := fun r hr => by
  have hp : 0 < n := by
    rcases Nat.eq_zero_or_pos n with rfl | hp
    · have : xss = [] := List.eq_nil_of_length_eq_zero h.len
      rw [this] at hr; cases hr
    · exact hp
  rw [(h.row r hr).2.2.1, words_one hp hn]
theorem turnM_bit {n : Nat} {xss : List (List Nat)} (h : Good n xss) (hn : n < 64) {r : Nat} (hr : r < n) : ∃ x : Nat, (turnM xss)[r]? = some [x] ∧ x < 18446744073709551616 ∧ ∀ j : Nat, x.testBit j = hasM xss (j : Int) (r : Int) := by
  unfold turnM
  rw [h.len]
  have hw : W64 (padK xss n) := padK_w64 (fun xs hx => (h.row xs hx).1) n
  have hfw := flipB_w64 hw
  refine ⟨(flipB (padK xss n)).getD r 0, by rw [layK_get _ _ hr, if_pos hr], getD_w64 hfw r, fun j => ?_⟩
  by_cases hj : j < 64
  · rw [flipB_bit _ r j (by omega) hj, padK_get _ hj]
    by_cases hjn : j < n
    · rw [if_pos hjn]
      obtain ⟨xs, hx, _, _⟩ := h.at_ hjn
      rw [getD_at hx, hasM_in hx, hasR_nat, Nat.div_eq_of_lt (by omega), Nat.mod_eq_of_lt (by omega)]
    · rw [if_neg hjn, hasM_out (.inr (by rw [h.len]; omega))]; simp
  · rw [hasM_out (.inr (by rw [h.len]; omega))]
    exact bit_out (getD_w64 hfw r) (by omega)
theorem hasR_single (x j : Nat) (hx : x < 18446744073709551616) : hasR [x] (j : Int) = x.testBit j := by
  rw [hasR_nat]
  by_cases hj : j < 64
  · rw [Nat.div_eq_of_lt hj, Nat.mod_eq_of_lt hj]; rfl
  · have h1 : 1 ≤ j / 64 := by omega
    rw [getD_out [x] (j / 64) (by simpa using h1), bit_out hx (by omega)]; simp
theorem turnM_has {n : Nat} {xss : List (List Nat)} (h : Good n xss) (hn : n < 64) (i j : Nat) : hasM (turnM xss) (i : Int) (j : Int) = hasM xss (j : Int) (i : Int) := by
  by_cases hi : i < n
  · obtain ⟨x, hx, hx64, hb⟩ := turnM_bit h hn hi
    rw [hasM_in hx, hasR_single x j hx64, hb j]
  · have hl : (turnM xss).length = n := by unfold turnM; rw [layK_len, h.len]
    rw [hasM_out (.inr (by rw [hl]; omega))]
    cases hh : hasM xss (j : Int) (i : Int) with
    | false => rfl
    | true => exact absurd (h.has_lt hh).2 hi
theorem Good.turn {n : Nat} {xss : List (List Nat)} (h : Good n xss) (hn : n < 64) : Good n (turnM xss) := by
  refine ⟨h.le, by unfold turnM; rw [layK_len, h.len], fun r hr => ?_⟩
  obtain ⟨i, hi⟩ := List.getElem?_of_mem hr
  have hin : i < n := by
    have := (List.getElem?_eq_some_iff.1 hi).1
    unfold turnM at this; rwa [layK_len, h.len] at this
  obtain ⟨x, hx, hx64, hb⟩ := turnM_bit h hn hin
  rw [hi] at hx
  injection hx with hx
  subst hx
  refine ⟨fun y hy => by rw [List.mem_singleton.1 hy]; exact hx64, by simp; omega, by rw [words_one (by omega) hn]; rfl, fun j hj => ?_⟩
  rw [hasR_single x j hx64, hb j]
  exact hasM_out (.inr (by rw [h.len]; omega))
theorem turn_turn {n : Nat} {xss : List (List Nat)} (h : Good n xss) (hn : n < 64) : turnM (turnM xss) = xss :=
  good_ext ((h.turn hn).turn hn) h (fun i j _ _ => by rw [turnM_has (h.turn hn) hn, turnM_has h hn])
theorem mem_turned (ps : List (Int × Int)) (i j : Int) : (i, j) ∈ ps.map (fun x => (x.2, x.1)) ↔ (j, i) ∈ ps := by
  rw [List.mem_map]
  constructor
  · rintro ⟨⟨a, b⟩, h, he⟩
    simp only [Prod.mk.injEq] at he
    obtain ⟨rfl, rfl⟩ := he
    exact h
  · intro h; exact ⟨(j, i), h, rfl⟩
theorem Good.okT {n : Nat} {xss : List (List Nat)} (h : Good n xss) : ∀ x ∈ (pairsM xss).map (fun x => (x.2, x.1)), okP (n : Int) x = true := fun x hx => by
  obtain ⟨y, hy, rfl⟩ := List.mem_map.1 hx
  obtain ⟨i, j, rfl, hh⟩ := pairsM_nat hy
  obtain ⟨h1, h2⟩ := h.has_lt hh
  unfold okP inM; simp; omega
/-- what the pairs turned about make is the matrix turned about -/
theorem fold_turned {n : Nat} {xss : List (List Nat)} (h : Good n xss) (hn : n < 64) : foldP n ((pairsM xss).map fun x => (x.2, x.1)) = turnM xss := by
  have hf := foldP_facts h.le _ h.okT
  refine good_ext hf.1 (h.turn hn) (fun i j _ _ => ?_)
  rw [hf.2 i j, turnM_has h hn]
  cases hh : hasM xss (j : Int) (i : Int) with
  | true => exact decide_eq_true ((mem_turned _ _ _).2 ((mem_pairsM _ _ _).2 hh))
  | false => exact decide_eq_false (fun hm => by rw [(mem_pairsM _ _ _).1 ((mem_turned _ _ _).1 hm)] at hh; cases hh)
def sumF (n : Nat) (f : Nat → Nat) : Nat := ((List.range n).map f).sum
theorem sumF_succ (n : Nat) (f : Nat → Nat) : sumF (n + 1) f = sumF n f + f n := by
  unfold sumF; rw [List.range_succ, List.map_append, List.sum_append]; simp
theorem sumF_congr {n : Nat} {f g : Nat → Nat} (h : ∀ i, i < n → f i = g i) : sumF n f = sumF n g := by
  unfold sumF; congr 1; exact List.map_congr_left fun i hi => h i (List.mem_range.1 hi)
theorem sumF_add (n : Nat) (f g : Nat → Nat) : sumF n (fun i => f i + g i) = sumF n f + sumF n g := by
  induction n with
  | zero => rfl
  | succ n ih => rw [sumF_succ, sumF_succ, sumF_succ, ih]; omega
theorem sumF_zero (n : Nat) : sumF n (fun _ => 0) = 0 := by
  induction n with
  | zero => rfl
  | succ n ih => rw [sumF_succ, ih]
theorem sumF_swap (a b : Nat) (f : Nat → Nat → Nat) : sumF a (fun i => sumF b fun j => f i j) = sumF b (fun j => sumF a fun i => f i j) := by
  induction a with
  | zero => exact (sumF_zero b).symm
  | succ a ih =>
    rw [sumF_succ, ih, ← sumF_add]
    exact sumF_congr fun j _ => (sumF_succ a _).symm
theorem count_sum (n : Nat) (p : Nat → Bool) : ∀ N, n ≤ N → (∀ j, n ≤ j → p j = false) → ((List.range N).filter p).length = sumF n fun j => (p j).toNat := by
  have h0 : ∀ k, ((List.range k).filter p).length = sumF k fun j => (p j).toNat := by
    intro k
    induction k with
    | zero => rfl
    | succ k ih =>
      rw [List.range_succ, List.filter_append, List.length_append, ih, sumF_succ]
      cases h : p k <;> simp [h]
  intro N hN hz
  rw [h0 N]
  obtain ⟨d, rfl⟩ := Nat.exists_eq_add_of_le hN
  clear hN h0
  induction d with
  | zero => rfl
  | succ d ih => rw [← Nat.add_assoc, sumF_succ, ih, hz (n + d) (by omega)]; rfl
theorem pairs_sum {n : Nat} {xss : List (List Nat)} (h : Good n xss) : (pairsM xss).length = sumF n fun i => sumF n fun j => (hasM xss (i : Int) (j : Int)).toNat := by
  rw [pairsM_len, ← map_range_getD xss [] countR, h.len]
  refine sumF_congr fun i hi => ?_
  obtain ⟨r, hr, hw, hl⟩ := h.at_ hi
  show countR (xss.getD i []) = _
  rw [getD_at hr, ← count_far r (64 * r.length) (Nat.le_refl _), count_sum n _ _ hl (fun j hj => (h.row r (List.mem_of_getElem? hr)).2.2.2 j hj)]
  exact sumF_congr fun j _ => by rw [hasM_in hr]
/-- as many pairs, turned about -/
theorem turn_pairs {n : Nat} {xss : List (List Nat)} (h : Good n xss) (hn : n < 64) : (pairsM (turnM xss)).length = (pairsM xss).length := by
  rw [pairs_sum (h.turn hn), pairs_sum h, sumF_swap]
  exact sumF_congr fun j _ => sumF_congr fun i _ => by rw [turnM_has h hn]

end Go.Proofs.Ytmgockkjoogcaaa

namespace Go.Proofs.Ytmgockkjoogcaaa
open Go.RowKit
set_option linter.unusedVariables false

theorem subM_iff {n : Nat} {a b : List (List Nat)} (ha : Good n a) (hb : Good n b) : subM a b = true ↔ ∀ i j : Nat, hasM a (i : Int) (j : Int) = true → hasM b (i : Int) (j : Int) = true := by
  unfold subM
  rw [List.all_eq_true]
  constructor
  · intro h i j hh
    obtain ⟨h1, h2⟩ := ha.has_lt hh
    obtain ⟨r, hr, hw, _⟩ := ha.at_ h1
    obtain ⟨s, hs, _, _⟩ := hb.at_ h1
    have h3 := h i (List.mem_range.2 (by rw [ha.len]; exact h1))
    rw [getD_at hr, getD_at hs] at h3
    rw [hasM_in hr] at hh
    rw [hasM_in hs]
    exact (subR_iff r s hw).1 h3 j hh
  · intro h i hi
    have h1 : i < n := by rw [← ha.len]; exact List.mem_range.1 hi
    obtain ⟨r, hr, hw, _⟩ := ha.at_ h1
    obtain ⟨s, hs, _, _⟩ := hb.at_ h1
    rw [getD_at hr, getD_at hs]
    refine (subR_iff r s hw).2 fun j hj => ?_
    have := h i j (by rw [hasM_in hr]; exact hj)
    rwa [hasM_in hs] at this
theorem same_sub {n : Nat} {a b : List (List Nat)} (ha : Good n a) (hb : Good n b) : sameM a b = (subM a b && subM b a) := by
  cases h : subM a b && subM b a with
  | true =>
    rw [Bool.and_eq_true, subM_iff ha hb, subM_iff hb ha] at h
    have : a = b := good_ext ha hb fun i j _ _ => by
      cases h1 : hasM a (i : Int) (j : Int) with
      | true => exact (h.1 i j h1).symm
      | false =>
        cases h2 : hasM b (i : Int) (j : Int) with
        | true => rw [h.2 i j h2] at h1; cases h1
        | false => rfl
    subst this
    simp [sameM]
  | false =>
    cases h1 : sameM a b with
    | false => rfl
    | true =>
      have : a = b := by simpa [sameM] using h1
      subst this
      rw [(subM_iff ha ha).2 fun _ _ h => h] at h
      cases h
theorem Good.in_has {n : Nat} {a : List (List Nat)} (h : Good n a) (i j : Int) : (inM (n : Int) i j && hasM a i j) = hasM a i j := by
  cases hh : hasM a i j with
  | false => rw [Bool.and_false]
  | true =>
    have h0 : 0 ≤ i := by
      refine Decidable.byContradiction fun hc => ?_
      rw [hasM_out (.inl (by omega))] at hh; cases hh
    obtain ⟨k, rfl⟩ := Int.eq_ofNat_of_zero_le h0
    have h1 : 0 ≤ j := by
      refine Decidable.byContradiction fun hc => ?_
      by_cases hk : k < a.length
      · rw [hasM_in (List.getElem?_eq_getElem hk), hasR_out _ _ (.inl (by omega))] at hh; cases hh
      · rw [hasM_out (.inr (by omega))] at hh; cases hh
    obtain ⟨q, rfl⟩ := Int.eq_ofNat_of_zero_le h1
    obtain ⟨h2, h3⟩ := h.has_lt hh
    rw [Bool.and_true]
    unfold inM; simp; omega
theorem orM_len (a b : List (List Nat)) : (orM a b).length = a.length := by simp [orM]
theorem orM_small {n : Nat} {a b : List (List Nat)} (ha : Good n a) (hb : Good n b) : ∀ r ∈ orM a b, r.length ≤ 64 := by
  intro r hr
  unfold orM at hr
  obtain ⟨i, hi, rfl⟩ := List.mem_map.1 hr
  have h1 : i < n := by rw [← ha.len]; exact List.mem_range.1 hi
  obtain ⟨r, hr, _, _⟩ := ha.at_ h1
  obtain ⟨s, hs, _, _⟩ := hb.at_ h1
  rw [getD_at hr, getD_at hs, orR_len]
  have := ha.small r (List.mem_of_getElem? hr)
  have := hb.small s (List.mem_of_getElem? hs)
  omega
theorem Good.same_len {n : Nat} {a b : List (List Nat)} (ha : Good n a) (hb : Good n b) : ∀ (i : Nat) (xs ys : List Nat), a[i]? = some xs → b[i]? = some ys → xs.length = ys.length ∧ xs.length ≤ 1024 := fun i xs ys h1 h2 => by
  have k1 := ha.row xs (List.mem_of_getElem? h1)
  have k2 := hb.row ys (List.mem_of_getElem? h2)
  have k3 := ha.small xs (List.mem_of_getElem? h1)
  exact ⟨by rw [k1.2.2.1, k2.2.2.1], by omega⟩
theorem equalM_self' (N : Int) (xss : List (List Nat)) : equalM N N xss xss = true := by simp [equalM, sameM]

end Go.Proofs.Ytmgockkjoogcaaa

namespace Go.Proofs.Ytmgockkjoogcaaa
open Go.RowKit
set_option linter.unusedVariables false

/-- block g is a variable that holds the matrix of N and xss -/
def MatK (w : World) (g : Nat) (t : TypeId) (N : Int) (A : Option Addr) (n c : Nat) (xss : List (List Nat)) : Prop := MatB w g t N A n c ∧ RowsAt w A n xss
section
variable {w w' : World} {g : Nat} {t : TypeId} {N : Int} {A : Option Addr} {n c : Nat} {xss : List (List Nat)}
theorem MatB.below (h : MatB w g t N A n c) (hb : Below w.heap.size w w') : MatB w' g t N A n c := h.below_ hb
theorem MatK.below (h : MatK w g t N A n c xss) (hb : Below w.heap.size w w') : MatK w' g t N A n c xss := ⟨h.1.below_ hb, h.2.below hb⟩
theorem MatK.new (w : World) (t : TypeId) (hr : RowsAt w A n xss) : MatK (w.alloc (.cells #[.int .i64 N, .slice A n c] t)) w.heap.size t N A n c xss := ⟨MatB.new w t, hr.below ((Below.refl _ _).alloc (Nat.le_refl _) _)⟩
theorem MatK.put (h : MatB w g t 0 none 0 0) {G : Nat} {t' : TypeId} {M : Int} {B : Option Addr} {m d : Nat} {yss : List (List Nat)} (k : MatK w G t' M B m d yss) (hne : G ≠ g) (hb : 0 < m → ∀ ad, B = some ad → ad.block ≠ g) (x y : Value) : MatK ((w.setCell ⟨g, 0, none⟩ x).setCell ⟨g, 1, none⟩ y) G t' M B m d yss :=
  ⟨(k.1.farB (p := ⟨g, 0, none⟩) (by simpa using hne) _).farB (p := ⟨g, 1, none⟩) (by simpa using hne) _, k.2.putB h hb _ _⟩
theorem MatK.drew (h : MatK w g t N A n c xss) : MatK w.drew g t N A n c xss := ⟨Blk.drew h.1, h.2⟩
theorem below_alloc (w : World) (o : Obj) : Below w.heap.size w (w.alloc o) := (Below.refl _ _).alloc (Nat.le_refl _) _
end

/-- what comes behind several orders, walked once: 'apply cut_three (F := ..)'; the orders first, each ends in 'key'; then the rest -/
theorem cut_three {Goal F : Nat → Nat → World → Prop} {R : Prop} (h1 : (∀ a b c, F a b c → Goal a b c) → R) (h2 : ∀ a b c, F a b c → Goal a b c) : R := h1 h2
theorem cut_five {T1 T2 T3 T4 T5 : Type} {Goal F : T1 → T2 → T3 → T4 → T5 → Prop} {R : Prop} (h1 : (∀ a b c d e, F a b c d e → Goal a b c d e) → R) (h2 : ∀ a b c d e, F a b c d e → Goal a b c d e) : R := h1 h2
theorem cut_seven {T1 T2 T3 T4 T5 T6 T7 : Type} {Goal F : T1 → T2 → T3 → T4 → T5 → T6 → T7 → Prop} {R : Prop} (h1 : (∀ a b c d e f g, F a b c d e f g → Goal a b c d e f g) → R) (h2 : ∀ a b c d e f g, F a b c d e f g → Goal a b c d e f g) : R := h1 h2

theorem RowsAt.farM {w : World} {C : Option Addr} {n G : Nat} {t : TypeId} {xss : List (List Nat)} (h : RowsAt w C n xss) (hM : MatB w G t 0 none 0 0) (h1 : ∀ r ∈ xss, r.length = 1) : 0 < n → ∀ ad, C = some ad → ad.block ≠ G := by
  intro h0 ad e hb
  obtain ⟨b, off, B, m, c, xs, e2, _, hx, hc, hr⟩ := h.at_ h0
  rw [e] at e2
  cases e2
  have hb' : b = G := hb
  subst hb'
  have hxl := h1 xs (List.mem_of_getElem? hx)
  have hrl := hr.len
  rw [Blk.cell hM] at hc
  match off + 0, hc with
  | 0, hc => simp at hc
  | 1, hc =>
    simp at hc
    omega
  | k + 2, hc => simp at hc

end Go.Proofs.Ytmgockkjoogcaaa

namespace Go.Proofs.Ytmgockkjoogcaaa
open Go.RowKit
set_option linter.unusedVariables false

/-- what follows from r -/
inductive Conn (r : Nat → Nat → Prop) : Nat → Nat → Prop where
  | one {i j : Nat} (h : r i j) : Conn r i j
  | step {i j k : Nat} (h : Conn r i j) (h2 : r j k) : Conn r i k
def Trans2 (s : Nat → Nat → Prop) : Prop := ∀ i j k, s i j → s j k → s i k
theorem Conn.trans {r : Nat → Nat → Prop} {i j k : Nat} (h1 : Conn r i j) (h2 : Conn r j k) : Conn r i k := by
  induction h2 with
  | one h => exact .step h1 h
  | step _ h ih => exact .step ih h
theorem Conn.least {r s : Nat → Nat → Prop} (hs : Trans2 s) (h : ∀ i j, r i j → s i j) {i j : Nat} (hc : Conn r i j) : s i j := by
  induction hc with
  | one h1 => exact h _ _ h1
  | step _ h2 ih => exact hs _ _ _ ih (h _ _ h2)
theorem Conn.mono {r s : Nat → Nat → Prop} (h : ∀ i j, r i j → s i j) {i j : Nat} (hc : Conn r i j) : Conn s i j :=
  Conn.least (s := Conn s) (fun a b c h1 h2 => Conn.trans h1 h2) (fun a b h1 => .one (h a b h1)) hc
theorem Conn.same {r s : Nat → Nat → Prop} (h : ∀ i j, r i j ↔ s i j) (i j : Nat) : Conn r i j ↔ Conn s i j := ⟨Conn.mono fun _ _ h1 => (h _ _).1 h1, Conn.mono fun _ _ h1 => (h _ _).2 h1⟩
theorem Conn.of_trans {r : Nat → Nat → Prop} (hr : Trans2 r) {i j : Nat} : Conn r i j ↔ r i j := ⟨Conn.least hr fun _ _ h => h, .one⟩
theorem Conn.swap {r : Nat → Nat → Prop} {i j : Nat} (h : Conn r i j) : Conn (fun x y => r y x) j i := by
  induction h with
  | one h => exact .one h
  | step _ h ih => exact Conn.trans (.one h) ih
theorem Conn.swap_iff {r : Nat → Nat → Prop} {i j : Nat} : Conn (fun x y => r y x) i j ↔ Conn r j i := ⟨fun h => h.swap, fun h => h.swap⟩

/-- Warshall: what follows over numbers below k -/
def Wk (r : Nat → Nat → Prop) : Nat → Nat → Nat → Prop
  | 0, i, j => r i j
  | k + 1, i, j => Wk r k i j ∨ (Wk r k i k ∧ Wk r k k j)
theorem Wk.conn {r : Nat → Nat → Prop} : ∀ (k i j : Nat), Wk r k i j → Conn r i j
  | 0, _, _, h => .one h
  | k + 1, i, j, .inl h => Wk.conn k i j h
  | k + 1, i, j, .inr h => (Wk.conn k i k h.1).trans (Wk.conn k k j h.2)
theorem Wk.mono {r : Nat → Nat → Prop} {i j : Nat} (h : r i j) : ∀ k, Wk r k i j
  | 0 => h
  | k + 1 => .inl (Wk.mono h k)
theorem Wk.join {r : Nat → Nat → Prop} : ∀ (k m i j : Nat), m < k → Wk r k i m → Wk r k m j → Wk r k i j
  | 0, m, _, _, hm, _, _ => absurd hm (by omega)
  | k + 1, m, i, j, hm, h1, h2 => by
    have e1 : Wk r k i m ∨ (Wk r k i k ∧ Wk r k k m) := h1
    have e2 : Wk r k m j ∨ (Wk r k m k ∧ Wk r k k j) := h2
    show Wk r k i j ∨ (Wk r k i k ∧ Wk r k k j)
    rcases Nat.lt_succ_iff_lt_or_eq.1 hm with hlt | rfl
    · rcases e1 with a | ⟨a, b⟩ <;> rcases e2 with c | ⟨c, d⟩
      · exact .inl (Wk.join k m i j hlt a c)
      · exact .inr ⟨Wk.join k m i k hlt a c, d⟩
      · exact .inr ⟨a, Wk.join k m k j hlt b c⟩
      · exact .inr ⟨a, d⟩
    · have a : Wk r m i m := e1.elim (fun h => h) (fun h => h.1)
      have b : Wk r m m j := e2.elim (fun h => h) (fun h => h.2)
      exact .inr ⟨a, b⟩
theorem Wk.all {r : Nat → Nat → Prop} {n : Nat} (hr : ∀ i j, r i j → i < n ∧ j < n) (i j : Nat) : Wk r n i j ↔ Conn r i j := by
  refine ⟨Wk.conn n i j, fun h => ?_⟩
  induction h with
  | one h => exact Wk.mono h n
  | step h1 h2 ih => exact Wk.join n _ _ _ (hr _ _ h2).1 ih (Wk.mono h2 n)

/-- the relation of a matrix -/
def Rel (a : List (List Nat)) (i j : Nat) : Prop := hasM a (i : Int) (j : Int) = true
theorem Good.rel_lt {n : Nat} {a : List (List Nat)} (h : Good n a) : ∀ i j, Rel a i j → i < n ∧ j < n := fun _ _ h1 => h.has_lt h1
/-- h is the hull of r among n numbers -/
def IsHull (n : Nat) (r : Nat → Nat → Prop) (h : List (List Nat)) : Prop := Good n h ∧ ∀ i j : Nat, Rel h i j ↔ Conn r i j
def ClosedM (a : List (List Nat)) : Prop := Trans2 (Rel a)
theorem rel_ext {n : Nat} {a b : List (List Nat)} (ha : Good n a) (hb : Good n b) (h : ∀ i j : Nat, Rel a i j ↔ Rel b i j) : a = b :=
  good_ext ha hb fun i j _ _ => by
    have := h i j
    unfold Rel at this
    cases h1 : hasM a (i : Int) (j : Int) with
    | true => rw [this.1 h1]
    | false =>
      cases h2 : hasM b (i : Int) (j : Int) with
      | true => rw [this.2 h2] at h1; cases h1
      | false => rfl
theorem IsHull.unique {n : Nat} {r s : Nat → Nat → Prop} {h k : List (List Nat)} (h1 : IsHull n r h) (h2 : IsHull n s k) (he : ∀ i j, Conn r i j ↔ Conn s i j) : h = k :=
  rel_ext h1.1 h2.1 fun i j => by rw [h1.2, h2.2, he]
theorem IsHull.closed {n : Nat} {r : Nat → Nat → Prop} {h : List (List Nat)} (h1 : IsHull n r h) : ClosedM h := fun i j k a b => by
  rw [h1.2] at a b ⊢
  exact a.trans b
theorem IsHull.self {n : Nat} {h : List (List Nat)} (hG : Good n h) (hc : ClosedM h) : IsHull n (Rel h) h := ⟨hG, fun i j => (Conn.of_trans hc).symm⟩
theorem sub_rel {n : Nat} {a b : List (List Nat)} (ha : Good n a) (hb : Good n b) : subM a b = true ↔ ∀ i j, Rel a i j → Rel b i j := subM_iff ha hb
theorem IsHull.sub {n : Nat} {a h : List (List Nat)} (ha : Good n a) (h1 : IsHull n (Rel a) h) : subM a h = true := (sub_rel ha h1.1).2 fun i j hh => (h1.2 i j).2 (.one hh)
theorem IsHull.least {n : Nat} {a h b : List (List Nat)} (ha : Good n a) (h1 : IsHull n (Rel a) h) (hb : Good n b) (hc : ClosedM b) (hs : subM a b = true) : subM h b = true :=
  (sub_rel h1.1 hb).2 fun i j hh => Conn.least hc ((sub_rel ha hb).1 hs) ((h1.2 i j).1 hh)
theorem rel_set {n : Nat} {a : List (List Nat)} (ha : Good n a) {i j : Nat} (hi : i < n) (hj : j < n) (x y : Nat) : Rel (setM a (i : Int) (j : Int)) x y ↔ Rel a x y ∨ (x = i ∧ y = j) := by
  unfold Rel
  rw [hasM_setM ha hi hj]
  simp
theorem rel_turn {n : Nat} {a : List (List Nat)} (ha : Good n a) (hn : n < 64) (x y : Nat) : Rel (turnM a) x y ↔ Rel a y x := by
  unfold Rel; rw [turnM_has ha hn]
theorem IsHull.turn {n : Nat} {a h : List (List Nat)} (ha : Good n a) (hn : n < 64) (h1 : IsHull n (Rel a) h) : IsHull n (Rel (turnM a)) (turnM h) :=
  ⟨h1.1.turn hn, fun i j => by
    rw [rel_turn h1.1 hn, h1.2, Conn.same (fun x y => rel_turn ha hn x y), Conn.swap_iff]⟩
/-- what one pair more makes of a closed one -/
def AddR (r : Nat → Nat → Prop) (i j : Nat) (x y : Nat) : Prop := r x y ∨ ((x = i ∨ r x i) ∧ (y = j ∨ r j y))
theorem AddR.conn {r : Nat → Nat → Prop} (hr : Trans2 r) (i j x y : Nat) : AddR r i j x y ↔ Conn (fun a b => r a b ∨ (a = i ∧ b = j)) x y := by
  constructor
  · rintro (h | ⟨h1, h2⟩)
    · exact .one (.inl h)
    · have hm : Conn (fun a b => r a b ∨ (a = i ∧ b = j)) i j := .one (.inr ⟨rfl, rfl⟩)
      have ha : Conn (fun a b => r a b ∨ (a = i ∧ b = j)) x j := by
        rcases h1 with rfl | h1
        · exact hm
        · exact Conn.trans (.one (.inl h1)) hm
      rcases h2 with rfl | h2
      · exact ha
      · exact .step ha (.inl h2)
  · refine Conn.least (fun a b c h1 h2 => ?_) (fun a b h => ?_)
    · rcases h1 with h1 | ⟨p1, p2⟩ <;> rcases h2 with h2 | ⟨q1, q2⟩
      · exact .inl (hr _ _ _ h1 h2)
      · refine .inr ⟨.inr ?_, q2⟩
        rcases q1 with rfl | q1
        · exact h1
        · exact hr _ _ _ h1 q1
      · refine .inr ⟨p1, .inr ?_⟩
        rcases p2 with rfl | p2
        · exact h2
        · exact hr _ _ _ p2 h2
      · exact .inr ⟨p1, q2⟩
    · rcases h with h | ⟨rfl, rfl⟩
      · exact .inl h
      · exact .inr ⟨.inl rfl, .inl rfl⟩
/-- the hull of a hull and a pair is that of all -/
theorem conn_add {r : Nat → Nat → Prop} (i j x y : Nat) : Conn (fun a b => Conn r a b ∨ (a = i ∧ b = j)) x y ↔ Conn (fun a b => r a b ∨ (a = i ∧ b = j)) x y :=
  ⟨fun hc => Conn.least (s := Conn (fun a b => r a b ∨ (a = i ∧ b = j))) (fun a b c h1 h2 => Conn.trans h1 h2) (fun a b h => by
    rcases h with h | h
    · exact h.mono fun _ _ h1 => .inl h1
    · exact .one (.inr h)) hc, fun hc => hc.mono fun a b h => h.imp .one id⟩

/-- is it closed? as the program looks: row by row -/
def closedB (a : List (List Nat)) : Bool := (List.range a.length).all fun i => (listN (a.getD i [])).all fun j => subR (a.getD j []) (a.getD i [])
theorem closedB_iff {n : Nat} {a : List (List Nat)} (ha : Good n a) : closedB a = true ↔ ClosedM a := by
  unfold closedB
  rw [List.all_eq_true]
  constructor
  · intro h i j k h1 h2
    obtain ⟨hi, hj⟩ := ha.has_lt h1
    have hk := (ha.has_lt h2).2
    obtain ⟨r, hr, hw, hl⟩ := ha.at_ hi
    obtain ⟨s, hs, hws, _⟩ := ha.at_ hj
    have h3 := h i (List.mem_range.2 (by rw [ha.len]; exact hi))
    rw [getD_at hr, List.all_eq_true] at h3
    unfold Rel at h1 h2 ⊢
    rw [hasM_in hr] at h1
    rw [hasM_in hs] at h2
    have h4 := h3 j ((listN_mem _ _).2 ⟨by omega, h1⟩)
    rw [getD_at hs] at h4
    rw [hasM_in hr]
    exact (subR_iff s r hws).1 h4 k h2
  · intro h i hi
    have hi' : i < n := by rw [← ha.len]; exact List.mem_range.1 hi
    obtain ⟨r, hr, hw, hl⟩ := ha.at_ hi'
    rw [getD_at hr, List.all_eq_true]
    intro j hj
    have h1 := ((listN_mem _ _).1 hj).2
    have h1' : Rel a i j := by unfold Rel; rw [hasM_in hr]; exact h1
    have hjn := (ha.has_lt h1').2
    obtain ⟨s, hs, hws, _⟩ := ha.at_ hjn
    rw [getD_at hs]
    refine (subR_iff s r hws).2 fun k hk => ?_
    have := h i j k h1' (by unfold Rel; rw [hasM_in hs]; exact hk)
    unfold Rel at this
    rwa [hasM_in hr] at this
theorem closedB_no {a : List (List Nat)} {i j : Nat} {r s : List Nat} (hr : a[i]? = some r) (hs : a[j]? = some s) (hj : j ∈ listN r) (h : subR s r = false) : closedB a = false := by
  cases hc : closedB a with
  | false => rfl
  | true =>
    unfold closedB at hc
    rw [List.all_eq_true] at hc
    have h1 := hc i (List.mem_range.2 (List.getElem?_eq_some_iff.1 hr).1)
    rw [getD_at hr, List.all_eq_true] at h1
    have h2 := h1 j hj
    rw [getD_at hs, h] at h2
    cases h2
theorem closedB_yes {a : List (List Nat)} (h : ∀ (i : Nat) (r : List Nat), a[i]? = some r → ∀ j, j ∈ listN r → ∀ s, a[j]? = some s → subR s r = true) (hl : ∀ (i : Nat) (r : List Nat), a[i]? = some r → ∀ j, j ∈ listN r → j < a.length) : closedB a = true := by
  unfold closedB
  rw [List.all_eq_true]
  intro i hi
  have hi' := List.mem_range.1 hi
  have hx : a[i]? = some a[i] := List.getElem?_eq_getElem hi'
  rw [getD_at hx, List.all_eq_true]
  intro j hj
  have hj' := hl i _ hx j hj
  have hy : a[j]? = some a[j] := List.getElem?_eq_getElem hj'
  rw [getD_at hy]
  exact h i _ hx j hj _ hy
/-- the row i of step k: joined with row k, if it has k -/
def stepR (a : List (List Nat)) (k : Nat) (r : List Nat) : List Nat := if hasR r (k : Int) = true then orR r (a.getD k []) else r
def stepM (a : List (List Nat)) (k q : Nat) : List (List Nat) := (List.range a.length).map fun i => if i < q then stepR a k (a.getD i []) else a.getD i []
theorem stepM_len (a : List (List Nat)) (k q : Nat) : (stepM a k q).length = a.length := by simp [stepM]
theorem stepM_get {a : List (List Nat)} {k q i : Nat} {r : List Nat} (h : a[i]? = some r) : (stepM a k q)[i]? = some (if i < q then stepR a k r else r) := by
  unfold stepM
  have hi := (List.getElem?_eq_some_iff.1 h).1
  rw [List.getElem?_map, List.getElem?_range hi, Option.map_some, getD_at h]
theorem stepM_zero (a : List (List Nat)) (k : Nat) : stepM a k 0 = a := by
  unfold stepM
  simp only [Nat.not_lt_zero, if_false]
  rw [map_range_getD a [] (fun x => x)]; simp
theorem stepM_succ {a : List (List Nat)} {k q : Nat} {r : List Nat} (h : a[q]? = some r) : stepM a k (q + 1) = (stepM a k q).set q (stepR a k r) := by
  apply List.ext_getElem?
  intro i
  rw [List.getElem?_set]
  by_cases hi : i < a.length
  · have hx : a[i]? = some a[i] := List.getElem?_eq_getElem hi
    rw [stepM_get hx, stepM_len]
    by_cases hq : q = i
    · subst hq
      rw [h] at hx
      injection hx with hx
      rw [if_pos (by omega), if_pos rfl, if_pos hi, hx]
    · rw [if_neg hq, stepM_get hx]
      by_cases h1 : i < q
      · rw [if_pos h1, if_pos (by omega)]
      · rw [if_neg h1, if_neg (by omega)]
  · rw [List.getElem?_eq_none (by rw [stepM_len]; omega)]
    split
    · rename_i h1
      subst h1
      exact absurd (List.getElem?_eq_some_iff.1 h).1 hi
    · rw [List.getElem?_eq_none (by rw [stepM_len]; omega)]
theorem stepR_self {a : List (List Nat)} {k : Nat} {r : List Nat} (h : a[k]? = some r) : stepR a k r = r := by
  unfold stepR
  split
  · rw [getD_at h]
    unfold orR
    apply List.ext_getElem?
    intro j
    rw [Nat.max_self, List.getElem?_map]
    by_cases hj : j < r.length
    · rw [List.getElem?_range hj, Option.map_some, Nat.or_self, List.getD_eq_getElem?_getD, List.getElem?_eq_getElem hj]; rfl
    · rw [List.getElem?_eq_none (by simpa using hj), List.getElem?_eq_none (by omega)]; rfl
  · rfl
theorem stepM_through {a : List (List Nat)} {k q : Nat} {r : List Nat} (h : a[k]? = some r) : (stepM a k q)[k]? = some r := by
  rw [stepM_get h, stepR_self h]; simp
theorem stepR_good {n : Nat} {a : List (List Nat)} (ha : Good n a) {k : Nat} (hk : k < n) {r : List Nat} (hr : r ∈ a) : W64 (stepR a k r) ∧ (stepR a k r).length = r.length ∧ ∀ j : Nat, hasR (stepR a k r) (j : Int) = (hasR r (j : Int) || (hasR r (k : Int) && hasM a (k : Int) (j : Int))) := by
  obtain ⟨s, hs, hws, _⟩ := ha.at_ hk
  have h1 := ha.row r hr
  have h2 := ha.row s (List.mem_of_getElem? hs)
  unfold stepR
  rw [getD_at hs]
  by_cases h : hasR r (k : Int) = true
  · rw [if_pos h]
    refine ⟨orR_w64 h1.1 hws, by rw [orR_len, h1.2.2.1, h2.2.2.1, Nat.max_self], fun j => ?_⟩
    rw [hasR_orR, h, hasM_in hs, Bool.true_and]
  · rw [if_neg h]
    refine ⟨h1.1, rfl, fun j => ?_⟩
    rw [Bool.not_eq_true] at h
    rw [h, Bool.false_and, Bool.or_false]
theorem stepM_good {n : Nat} {a : List (List Nat)} (ha : Good n a) {k : Nat} (hk : k < n) (q : Nat) : Good n (stepM a k q) := by
  refine ⟨ha.le, by rw [stepM_len, ha.len], fun r hr => ?_⟩
  obtain ⟨i, hi⟩ := List.getElem?_of_mem hr
  have hil : i < a.length := by
    have := (List.getElem?_eq_some_iff.1 hi).1
    rwa [stepM_len] at this
  have hx : a[i]? = some a[i] := List.getElem?_eq_getElem hil
  rw [stepM_get hx] at hi
  injection hi with hi
  have h0 := ha.row _ (List.mem_of_getElem? hx)
  by_cases hq : i < q
  · rw [if_pos hq] at hi
    obtain ⟨h1, h2, h3⟩ := stepR_good ha hk (List.mem_of_getElem? hx)
    subst hi
    refine ⟨h1, by rw [h2]; exact h0.2.1, by rw [h2]; exact h0.2.2.1, fun j hj => ?_⟩
    rw [h3 j, h0.2.2.2 j hj]
    cases hh : hasM a (k : Int) (j : Int) with
    | false => simp
    | true => exact absurd (ha.has_lt hh).2 (by omega)
  · rw [if_neg hq] at hi
    subst hi
    exact h0
theorem stepM_rel {n : Nat} {a : List (List Nat)} (ha : Good n a) {k : Nat} (hk : k < n) (i j : Nat) : Rel (stepM a k n) i j ↔ Rel a i j ∨ (Rel a i k ∧ Rel a k j) := by
  unfold Rel
  by_cases hi : i < n
  · obtain ⟨r, hr, _, _⟩ := ha.at_ hi
    have h1 := stepM_get (k := k) (q := n) hr
    rw [if_pos hi] at h1
    obtain ⟨_, _, h3⟩ := stepR_good ha hk (List.mem_of_getElem? hr)
    rw [hasM_in h1, h3 j, hasM_in hr, hasM_in hr, Bool.or_eq_true, Bool.and_eq_true]
  · rw [hasM_out (xss := stepM a k n) (.inr (by rw [stepM_len, ha.len]; omega)), hasM_out (xss := a) (i := (i : Int)) (.inr (by rw [ha.len]; omega)), hasM_out (xss := a) (i := (i : Int)) (.inr (by rw [ha.len]; omega))]
    simp
/-- the hull, step by step -/
def closeK (a : List (List Nat)) : Nat → List (List Nat)
  | 0 => a
  | k + 1 => stepM (closeK a k) k a.length
theorem closeK_facts {n : Nat} {a : List (List Nat)} (ha : Good n a) : ∀ k, k ≤ n → Good n (closeK a k) ∧ ∀ i j, Rel (closeK a k) i j ↔ Wk (Rel a) k i j
  | 0, _ => ⟨ha, fun i j => Iff.rfl⟩
  | k + 1, hk => by
    obtain ⟨h1, h2⟩ := closeK_facts ha k (by omega)
    show Good n (stepM (closeK a k) k a.length) ∧ ∀ i j, Rel (stepM (closeK a k) k a.length) i j ↔ _
    rw [ha.len]
    refine ⟨stepM_good h1 (by omega) n, fun i j => ?_⟩
    rw [stepM_rel h1 (by omega)]
    show _ ↔ Wk (Rel a) k i j ∨ (Wk (Rel a) k i k ∧ Wk (Rel a) k k j)
    rw [h2, h2, h2]
theorem closeK_hull {n : Nat} {a : List (List Nat)} (ha : Good n a) : IsHull n (Rel a) (closeK a n) := by
  obtain ⟨h1, h2⟩ := closeK_facts ha n (Nat.le_refl _)
  exact ⟨h1, fun i j => by rw [h2, Wk.all ha.rel_lt]⟩

end Go.Proofs.Ytmgockkjoogcaaa

namespace Go.Proofs.Ytmgockkjoogcaaa
set_option linter.unusedVariables false

theorem mem_rowPo {is : List It} {a n : Nat} {i j : Nat} : ((i : Int), (j : Int)) ∈ rowPo is a n ↔ i = a ∧ j < n ∧ aheadF is a j = true := by
  unfold rowPo
  rw [List.mem_map]
  constructor
  · rintro ⟨k, hk, he⟩
    obtain ⟨h1, h2⟩ := List.mem_filter.1 hk
    have h1 := List.mem_range.1 h1
    injection he with e1 e2
    have e1 : a = i := by omega
    have e2 : k = j := by omega
    subst e1; subst e2
    exact ⟨rfl, h1, h2⟩
  · rintro ⟨rfl, h1, h2⟩
    exact ⟨j, List.mem_filter.2 ⟨List.mem_range.2 h1, h2⟩, rfl⟩
theorem mem_uptoPo {is : List It} {n m : Nat} {i j : Nat} : ((i : Int), (j : Int)) ∈ uptoPo is n m ↔ i < m ∧ j < n ∧ aheadF is i j = true := by
  unfold uptoPo
  rw [List.mem_flatMap]
  constructor
  · rintro ⟨a, ha, h⟩
    obtain ⟨rfl, h1, h2⟩ := mem_rowPo.1 h
    exact ⟨List.mem_range.1 ha, h1, h2⟩
  · rintro ⟨h0, h1, h2⟩
    exact ⟨i, List.mem_range.2 h0, mem_rowPo.2 ⟨rfl, h1, h2⟩⟩
theorem uptoPo_ok (is : List It) (n m : Nat) (h : m ≤ n) : ∀ x ∈ uptoPo is n m, okP (n : Int) x = true := fun x hx => by
  unfold uptoPo at hx
  obtain ⟨a, ha, h1⟩ := List.mem_flatMap.1 hx
  have ha := List.mem_range.1 ha
  unfold rowPo at h1
  obtain ⟨k, hk, rfl⟩ := List.mem_map.1 h1
  have hk := List.mem_range.1 (List.mem_filter.1 hk).1
  unfold okP inM
  simp; omega
theorem poM_good {is : List It} (h : is.length ≤ 4096) : Good is.length (poM is) ∧ ∀ i j : Nat, hasM (poM is) (i : Int) (j : Int) = aheadF is i j := by
  obtain ⟨h1, h2⟩ := foldP_facts h (uptoPo is is.length is.length) (uptoPo_ok is _ _ (Nat.le_refl _))
  refine ⟨h1, fun i j => ?_⟩
  unfold poM
  rw [h2 i j, Bool.eq_iff_iff, decide_eq_true_eq, mem_uptoPo]
  constructor
  · exact fun h => h.2.2
  · intro h
    have := aheadF_in h
    exact ⟨by omega, by omega, h⟩
theorem aheadF_says {is : List It} {i j : Int} (h : aheadF is i j = true) : ∃ x y : It, is[i.toNat]? = some x ∧ is[j.toNat]? = some y ∧ x.se = y.se ∧ x.pl < y.pl := by
  have hb := aheadF_in h
  obtain ⟨x, hx⟩ : ∃ x, is[i.toNat]? = some x := ⟨_, List.getElem?_eq_getElem (by omega)⟩
  obtain ⟨y, hy⟩ : ∃ x, is[j.toNat]? = some x := ⟨_, List.getElem?_eq_getElem (by omega)⟩
  rw [aheadF_at hb.1 hb.2.1 hx hy, Bool.and_eq_true, decide_eq_true_eq, decide_eq_true_eq] at h
  exact ⟨x, y, hx, hy, h.1, h.2⟩
theorem aheadF_not {is : List It} {i j : Int} (h : aheadF is i j = true) : aheadF is j i = false := by
  cases hh : aheadF is j i with
  | false => rfl
  | true =>
    obtain ⟨x, y, x1, y1, -, h1⟩ := aheadF_says h
    obtain ⟨y', x', y2, x2, -, h2⟩ := aheadF_says hh
    rw [x1] at x2; injection x2 with x2; subst x2
    rw [y1] at y2; injection y2 with y2; subst y2
    omega
theorem poM_closed {is : List It} (h : is.length ≤ 4096) : closedB (poM is) = true := (closedB_iff (poM_good h).1).2 fun i j k h1 h2 => by
  unfold Rel at *
  rw [(poM_good h).2] at *
  obtain ⟨x, y, x1, y1, e1, l1⟩ := aheadF_says h1
  obtain ⟨y', z, y2, z1, e2, l2⟩ := aheadF_says h2
  rw [y1] at y2; injection y2 with y2; subst y2
  rw [aheadF_at (by omega) (by omega) x1 z1, Bool.and_eq_true, decide_eq_true_eq, decide_eq_true_eq]
  exact ⟨by rw [e1, e2], by omega⟩
theorem poM_loop {is : List It} (h : is.length ≤ 4096) (i : Nat) : ¬ Rel (poM is) i i := fun h1 => by
  unfold Rel at h1
  rw [(poM_good h).2] at h1
  rw [aheadF_not h1] at h1; cases h1
/-- what one session of n operations has -/
def triN : Nat → Nat
  | 0 => 0
  | n + 1 => triN n + n
theorem triN_le : ∀ n, triN n ≤ n * n
  | 0 => Nat.le_refl _
  | n + 1 => by have := triN_le n; show triN n + n ≤ (n + 1) * (n + 1); rw [Nat.add_mul, Nat.mul_add]; omega
theorem triN_two : ∀ n : Nat, (n : Int) * ((n : Int) - 1) = 2 * (triN n : Int)
  | 0 => rfl
  | n + 1 => by
    have := triN_two n
    show ((n + 1 : Nat) : Int) * (((n + 1 : Nat) : Int) - 1) = 2 * ((triN n + n : Nat) : Int)
    rw [show (((n + 1 : Nat) : Int) - 1) = (n : Int) by omega, Int.natCast_add n 1, Int.natCast_add (triN n) n, Int.mul_add, ← this, Int.add_mul, Int.mul_sub]
    omega
theorem triN_quo (n : Nat) : ((n : Int) * ((n : Int) - 1)).tdiv 2 = (triN n : Int) := by
  rw [triN_two, Int.mul_tdiv_cancel_left _ (by omega)]
/-- how many pairs the first sessions have -/
def pairsO (hs : List (List OpT)) (s : Nat) : Nat := sumF s fun t => triN (hs.getD t []).length
theorem pairsO_succ {hs : List (List OpT)} {s : Nat} {os : List OpT} (h : hs[s]? = some os) : pairsO hs (s + 1) = pairsO hs s + triN os.length := by
  unfold pairsO; rw [sumF_succ, List.getD_eq_getElem?_getD, h]; rfl
theorem pairsO_le (hs : List (List OpT)) : ∀ s, s ≤ hs.length → pairsO hs s ≤ baseO hs s * baseO hs s
  | 0, _ => by unfold pairsO baseO; exact Nat.zero_le _
  | s + 1, h => by
    obtain ⟨os, hos⟩ : ∃ os, hs[s]? = some os := ⟨_, List.getElem?_eq_getElem (by omega)⟩
    have := pairsO_le hs s (by omega)
    have h1 := triN_le os.length
    rw [pairsO_succ hos, baseO_succ hos, Nat.add_mul, Nat.mul_add, Nat.mul_add]
    omega
def plc (hs : List (List OpT)) (j : Nat) : Nat := match spotN hs j with | some (_, p) => p | none => 0
theorem sum_session {hs : List (List OpT)} {s : Nat} {os : List OpT} (h : hs[s]? = some os) : ∀ m, m ≤ os.length → sumF (baseO hs s + m) (plc hs) = sumF (baseO hs s) (plc hs) + triN m
  | 0, _ => rfl
  | m + 1, hm => by
    have := sum_session h m (by omega)
    rw [← Nat.add_assoc, sumF_succ, this]
    have e : plc hs (baseO hs s + m) = m := by unfold plc; rw [spotN_atO h (by omega)]
    rw [e]
    show _ = _ + (triN m + m)
    omega
theorem sum_places (hs : List (List OpT)) : ∀ s, s ≤ hs.length → sumF (baseO hs s) (plc hs) = pairsO hs s
  | 0, _ => by unfold pairsO baseO; rfl
  | s + 1, h => by
    obtain ⟨os, hos⟩ : ∃ os, hs[s]? = some os := ⟨_, List.getElem?_eq_getElem (by omega)⟩
    rw [pairsO_succ hos, baseO_succ hos, sum_session hos _ (Nat.le_refl _), sum_places hs s (by omega)]
theorem poM_pairs (hs : List (List OpT)) (hN : (allO hs).length ≤ 4096) : (pairsM (poM (hisF hs).2)).length = pairsO hs hs.length := by
  have hl := hisF_len hs
  have hG := poM_good (is := (hisF hs).2) (by rw [hl]; exact hN)
  rw [pairs_sum hG.1, sumF_swap, hl, ← sum_places hs hs.length (Nat.le_refl _)]
  have eb : baseO hs hs.length = (allO hs).length := by unfold baseO; rw [List.take_length]
  rw [eb]
  refine sumF_congr fun j hj => ?_
  obtain ⟨s, p, x, x1, x2, x3, x4, x5, x6, x7⟩ := items_at hj
  have e : plc hs j = p := by unfold plc; rw [x1]
  rw [e, ← count_sum (allO hs).length (fun i => hasM (poM (hisF hs).2) (i : Int) (j : Int)) (allO hs).length (Nat.le_refl _) (fun i hi => by
    rw [hG.2]; exact aheadF_out (by rw [hl]; omega))]
  rw [List.filter_congr (q := fun i => decide (baseO hs s ≤ i ∧ i < j)) (fun i hi => by rw [hG.2]; exact ahead_hist (List.mem_range.1 hi) hj x1 x5)]
  rcases Nat.eq_zero_or_pos p with hp | hp
  · rw [List.filter_eq_nil_iff.2 (fun a ha => by simp; omega)]; rw [hp]; rfl
  · rw [filter_span (b := baseO hs s) (k := j - 1) (by omega) (by omega) _ (fun i hi => by rw [Bool.eq_iff_iff, decide_eq_true_eq, decide_eq_true_eq]; omega), List.length_range']
    omega
end Go.Proofs.Ytmgockkjoogcaaa

namespace Go.Proofs.Ytmgockkjoogcaaa
set_option linter.unusedVariables false

/-- the pairs of writes and their reads, of the first i reads -/
def rfPs (frm : List Int) (i : Nat) : List (Int × Int) := ((List.range i).filter fun k => decide (0 ≤ frm.getD k 0)).map fun (k : Nat) => (frm.getD k 0, (k : Int))
def rfM (n : Nat) (frm : List Int) : List (List Nat) := foldP n (rfPs frm frm.length)
def edgeM (f : Fac) : List (List Nat) := orM (poM f.items) (rfM f.items.length f.frm)
def coM (f : Fac) : List (List Nat) := closeK (edgeM f) f.items.length
theorem rfPs_succ (frm : List Int) (i : Nat) : rfPs frm (i + 1) = if 0 ≤ frm.getD i 0 then rfPs frm i ++ [(frm.getD i 0, (i : Int))] else rfPs frm i := by
  unfold rfPs
  rw [List.range_succ, List.filter_append]
  split
  · rename_i h; rw [List.filter_cons_of_pos (by exact decide_eq_true h)]; simp
  · rename_i h; rw [List.filter_cons_of_neg (by simpa using h)]; simp
theorem mem_rfPs {frm : List Int} {n i j : Nat} : ((i : Int), (j : Int)) ∈ rfPs frm n ↔ j < n ∧ frm.getD j 0 = (i : Int) := by
  unfold rfPs
  rw [List.mem_map]
  constructor
  · rintro ⟨k, hk, he⟩
    obtain ⟨h1, h2⟩ := List.mem_filter.1 hk
    have h1 := List.mem_range.1 h1
    injection he with e1 e2
    have e2 : k = j := by omega
    subst e2
    exact ⟨h1, e1⟩
  · rintro ⟨h1, h2⟩
    exact ⟨j, List.mem_filter.2 ⟨List.mem_range.2 h1, by rw [h2]; exact decide_eq_true (by omega)⟩, by rw [h2]⟩
/-- of whole facts: each read's write is an item -/
structure WholeF (f : Fac) : Prop where
  len : f.frm.length = f.items.length
  lt : ∀ z ∈ f.frm, z < (f.items.length : Int)
theorem fillF_whole (f : Fac) : WholeF (fillF f) := ⟨fromF_len _, fun z hz => by
  have hz : z ∈ f.items.map (fromOne f.items) := hz
  obtain ⟨x, -, rfl⟩ := List.mem_map.1 hz
  exact (fromOne_range _ _).2⟩
theorem rfPs_ok {f : Fac} (hw : WholeF f) : ∀ x ∈ rfPs f.frm f.frm.length, okP (f.items.length : Int) x = true := fun x hx => by
  unfold rfPs at hx
  obtain ⟨k, hk, rfl⟩ := List.mem_map.1 hx
  obtain ⟨h1, h2⟩ := List.mem_filter.1 hk
  have h1 := List.mem_range.1 h1
  have h2 := of_decide_eq_true h2
  have h3 := hw.len
  have h4 : f.frm.getD k 0 < (f.items.length : Int) := hw.lt _ (by rw [List.getD_eq_getElem?_getD, List.getElem?_eq_getElem h1]; exact List.getElem_mem h1)
  unfold okP inM
  simp only [Bool.and_eq_true, decide_eq_true_eq]
  omega
theorem rfM_good {f : Fac} (hw : WholeF f) (h : f.items.length ≤ 4096) : Good f.items.length (rfM f.items.length f.frm) ∧ ∀ i j : Nat, Rel (rfM f.items.length f.frm) i j ↔ j < f.items.length ∧ f.frm.getD j 0 = (i : Int) := by
  obtain ⟨h1, h2⟩ := foldP_facts h (rfPs f.frm f.frm.length) (rfPs_ok hw)
  refine ⟨h1, fun i j => ?_⟩
  unfold Rel rfM
  rw [h2 i j, decide_eq_true_eq, mem_rfPs, hw.len]
theorem orM_at {a b : List (List Nat)} {i : Nat} {r s : List Nat} (hr : a[i]? = some r) (hs : b[i]? = some s) : (orM a b)[i]? = some (orR r s) := by
  have hi := (List.getElem?_eq_some_iff.1 hr).1
  unfold orM
  rw [List.getElem?_map, List.getElem?_range hi, Option.map_some, getD_at hr, getD_at hs]
theorem orM_good {n : Nat} {a b : List (List Nat)} (ha : Good n a) (hb : Good n b) : Good n (orM a b) ∧ ∀ i j : Nat, Rel (orM a b) i j ↔ Rel a i j ∨ Rel b i j := by
  have hat : ∀ i, i < n → ∃ r s, a[i]? = some r ∧ b[i]? = some s ∧ (orM a b)[i]? = some (orR r s) := fun i hi => by
    obtain ⟨r, hr, -, -⟩ := ha.at_ hi
    obtain ⟨s, hs, -, -⟩ := hb.at_ hi
    exact ⟨r, s, hr, hs, orM_at hr hs⟩
  have hG : Good n (orM a b) := by
    refine ⟨ha.le, by rw [orM_len, ha.len], fun x hx => ?_⟩
    obtain ⟨i, hi⟩ := List.getElem?_of_mem hx
    have hil : i < n := by
      have := (List.getElem?_eq_some_iff.1 hi).1
      rwa [orM_len, ha.len] at this
    obtain ⟨r, s, hr, hs, ho⟩ := hat i hil
    rw [ho] at hi
    injection hi with hi
    subst hi
    have h1 := ha.row r (List.mem_of_getElem? hr)
    have h2 := hb.row s (List.mem_of_getElem? hs)
    have hl : (orR r s).length = r.length := by rw [orR_len, h1.2.2.1, h2.2.2.1]; omega
    refine ⟨orR_w64 h1.1 h2.1, by rw [hl]; exact h1.2.1, by rw [hl]; exact h1.2.2.1, fun j hj => ?_⟩
    rw [hasR_orR, h1.2.2.2 j hj, h2.2.2.2 j hj]; rfl
  refine ⟨hG, fun i j => ?_⟩
  unfold Rel
  by_cases hi : i < n
  · obtain ⟨r, s, hr, hs, ho⟩ := hat i hi
    rw [hasM_in ho, hasM_in hr, hasM_in hs, hasR_orR, Bool.or_eq_true]
  · rw [hasM_out (.inr (by rw [orM_len, ha.len]; omega)), hasM_out (.inr (by rw [ha.len]; omega)), hasM_out (.inr (by rw [hb.len]; omega))]; simp
/-- the edges of whole facts -/
theorem edgeM_good {f : Fac} (hw : WholeF f) (h : f.items.length ≤ 4096) : Good f.items.length (edgeM f) ∧ ∀ i j : Nat, Rel (edgeM f) i j ↔ aheadF f.items i j = true ∨ (j < f.items.length ∧ f.frm.getD j 0 = (i : Int)) := by
  have hp := poM_good h
  have hr := rfM_good hw h
  have ho := orM_good hp.1 hr.1
  refine ⟨ho.1, fun i j => ?_⟩
  rw [show edgeM f = orM (poM f.items) (rfM f.items.length f.frm) from rfl, ho.2, hr.2]
  unfold Rel
  rw [hp.2]
theorem coM_hull {f : Fac} (hw : WholeF f) (h : f.items.length ≤ 4096) : IsHull f.items.length (Rel (edgeM f)) (coM f) := closeK_hull (edgeM_good hw h).1
end Go.Proofs.Ytmgockkjoogcaaa

namespace Go.Proofs.Ytmgockkjoogcaaa
open Go.RowKit
set_option linter.unusedVariables false

/-- a slice somewhere in a block of the call's own, that reads as the numbers zs -/
def QN (w : World) (base : Nat) (t : TypeId) (v : Value) (zs : List Nat) : Prop :=
  ∃ g off cap cs, v = .slice (some ⟨g, off, none⟩) zs.length cap ∧ base ≤ g ∧ w.heap[g]? = some (.cells cs t (0, 0)) ∧ zs.length ≤ cap ∧ cap ≤ maxLen ∧ off + cap ≤ cs.size ∧ ∀ (j z : Nat), zs[j]? = some z → cs[off + j]? = some (.int .i64 (z : Int))
def qlen : Value → Nat
  | .slice _ n _ => n
  | _ => 0
section
variable {w w' : World} {base : Nat} {t : TypeId} {v : Value} {zs : List Nat}
theorem cell_cells {w : World} {g : Nat} {cs : Array Value} {t : TypeId} {fr : Nat × Nat} (h : w.heap[g]? = some (.cells cs t fr)) (i : Nat) : w.cell? ⟨g, i, none⟩ = cs[i]? := cell_of_row w g i cs t fr h
theorem frozen_cells {w : World} {g : Nat} {cs : Array Value} {t : TypeId} (h : w.heap[g]? = some (.cells cs t (0, 0))) (i : Nat) : w.frozen? ⟨g, i, none⟩ = false := by simp [World.frozen?, h]
theorem QN.qlen_ (h : QN w base t v zs) : qlen v = zs.length := by obtain ⟨g, off, cap, cs, rfl, _⟩ := h; rfl
theorem QN.of_own {n : Nat} (h : w.ownsRow base t 1 v n (zs.map natv)) (h0 : 0 < n) : QN w base t v zs := by
  have hl : zs.length = n := by have := h.1; simpa using this
  rcases h.2 with ⟨h1, h2⟩ | ⟨g, cap, cur, rfl, hbg, hg, hnc, hcm, hcs, htake⟩
  · omega
  · refine ⟨g, 0, cap, cur, by rw [hl], hbg, hg, by omega, hcm, by omega, fun j z hj => ?_⟩
    have hjl := (List.getElem?_eq_some_iff.1 hj).1
    have : (zs.map natv)[j]? = some (natv z) := by rw [List.getElem?_map, hj]; rfl
    rw [← htake, List.getElem?_take_of_lt (by omega)] at this
    rw [Nat.zero_add]
    simpa [natv] using this
theorem QN.lt (h : QN w base t v zs) : ∀ g, v.ownBlock = some g → base ≤ g ∧ g < w.heap.size := by
  obtain ⟨g, off, cap, cs, rfl, hb, hg, _⟩ := h
  intro k hk
  have : g = k := by simpa [Value.ownBlock] using hk
  subst this
  exact ⟨hb, (Array.getElem?_eq_some_iff.1 hg).1⟩
theorem QN.below (h : QN w base t v zs) (hb : Below w.heap.size w w') : QN w' base t v zs := by
  obtain ⟨g, off, cap, cs, hv, h1, hg, r⟩ := h
  exact ⟨g, off, cap, cs, hv, h1, (hb.block g (Array.getElem?_eq_some_iff.1 hg).1).trans hg, r⟩
theorem QN.far (h : QN w base t v zs) {p : Addr} (hp : v.ownBlock ≠ some p.block) (u : Value) : QN (w.setCell p u) base t v zs := by
  obtain ⟨g, off, cap, cs, rfl, h1, hg, r⟩ := h
  refine ⟨g, off, cap, cs, rfl, h1, ?_, r⟩
  rw [Below.heap_setCell w p u g (fun e => hp (by rw [← e]; rfl))]; exact hg
/-- 'q[0]', 'q[1:]' -/
theorem QN.pop {z : Nat} (h : QN w base t v (z :: zs)) : ∃ g off cap, v = .slice (some ⟨g, off, none⟩) (zs.length + 1) cap ∧ w.cell? ⟨g, off, none⟩ = some (.int .i64 (z : Int)) ∧ zs.length + 1 ≤ cap ∧
    (cap = 1 → QN w base t (.slice (some ⟨g, off, none⟩) zs.length 0) zs) ∧ (cap ≠ 1 → QN w base t (.slice (some ⟨g, off + 1, none⟩) zs.length (cap - 1)) zs) := by
  obtain ⟨g, off, cap, cs, hv, h1, hg, hl, hm, hs, hc⟩ := h
  have hl' : zs.length + 1 ≤ cap := by simpa using hl
  refine ⟨g, off, cap, by rw [hv]; simp, ?_, hl', fun hc1 => ?_, fun hc1 => ?_⟩
  · rw [cell_cells hg]
    have := hc 0 z rfl
    simpa using this
  · have : zs = [] := List.eq_nil_of_length_eq_zero (by omega)
    subst this
    exact ⟨g, off, 0, cs, rfl, h1, hg, Nat.le_refl _, by omega, by omega, fun j z h => by simp at h⟩
  · refine ⟨g, off + 1, cap - 1, cs, rfl, h1, hg, by omega, by omega, by omega, fun j z' hj => ?_⟩
    have := hc (j + 1) z' (by simpa using hj)
    rw [show off + 1 + j = off + (j + 1) by omega]; exact this
theorem QN.nil (h : QN w base t v []) : ∃ g off cap, v = .slice (some ⟨g, off, none⟩) 0 cap := by
  obtain ⟨g, off, cap, cs, hv, _⟩ := h
  exact ⟨g, off, cap, by simpa using hv⟩
end
section
variable {P : Program}
/-- 'q = append(q, x)' -/
theorem run_append_q (w : World) (base : Nat) (t ty e : TypeId) (i : TypeInfo) (z : Value) (ht : P.underlying t = some (.slice e)) (hi : P.info? e = some i) (hz : i.zero = some z) (hsize : i.size = 1) (hby : i.bytes = 8) (hzs : z.cells.size = 1)
    {v : Value} {zs : List Nat} (hq : QN w base e v zs) (ad : Addr) (c x : Nat) (hx : w.cell? ad = some (.int .i64 (x : Int))) (hn : zs.length ≤ 1073741824) (hbase : base ≤ w.heap.size) :
    ∃ v' w', (Builtin.append_ #[t, t] ty #[v, .slice (some ad) 1 c]).run P w = .ok v' w' ∧ QN w' base e v' (zs ++ [x]) ∧ w.grownBy w' v.ownBlock := by
  obtain ⟨g, off, cap, cs, rfl, hb, hg, hl, hm, hs, hc⟩ := hq
  have hnews : ∀ j u, [Value.int .i64 (x : Int)][j]? = some u → w.cell? (ad.add j) = some u := fun j u hj => by
    match j, hj with
    | 0, hj =>
      have ha : ad.add 0 = ad := by obtain ⟨b, o, s⟩ := ad; unfold Addr.add; split <;> simp_all
      rw [ha, hx]
      simpa using hj
    | j + 1, hj => simp at hj
  by_cases hr : zs.length + 1 ≤ cap
  · have hcell : (w.cell? ⟨g, off + zs.length, none⟩).isSome = true := by
      rw [cell_cells hg, Array.getElem?_eq_getElem (by omega)]; rfl
    have hrun := run_append_room_cells (P := P) w t ty e i ht hi g off zs.length cap ad 1 c [.int .i64 (x : Int)] (by rw [hsize]; rfl) hnews (by simp [Value.oneCell']) hr
      (fun j hj => by
        have : j = 0 := by simpa using hj
        subst this
        rw [hsize]; simpa using hcell)
      (fun j hj => frozen_cells hg _)
    rw [hsize, Nat.mul_one] at hrun
    have hset : w.setCells g (off + zs.length) [.int .i64 (x : Int)] = w.setCell ⟨g, off + zs.length, none⟩ (.int .i64 (x : Int)) := rfl
    rw [hset] at hrun
    refine ⟨_, _, hrun, ⟨g, off, cap, cs.set! (off + zs.length) (.int .i64 (x : Int)), by simp, hb, ?_, by simpa using hr, hm, by simpa using hs, fun j z' hj => ?_⟩, ?_⟩
    · simp [World.setCell, Array.getElem?_modify, hg]
    · simp only [Array.set!_eq_setIfInBounds, Array.getElem?_setIfInBounds]
      rcases Nat.lt_or_ge j zs.length with hj' | hj'
      · rw [List.getElem?_append_left hj'] at hj
        rw [if_neg (by omega)]
        exact hc j z' hj
      · rw [List.getElem?_append_right hj'] at hj
        have hj0 : j - zs.length = 0 := by
          have := (List.getElem?_eq_some_iff.1 hj).1
          simpa using this
        rw [hj0] at hj
        simp at hj
        rw [if_pos (by omega), if_pos (by omega), hj]
    · exact ⟨rfl, rfl, rfl, by simp, fun k hk hne => Below.heap_setCell w _ _ k (by
        intro e'
        apply hne
        have e2 : k = g := e'
        rw [e2]; rfl)⟩
  · obtain ⟨v', w', hrun, hown, hgrow⟩ := run_append_arg_grows (P := P) w t ty e i z 1 8 ht hi hz hsize hby hzs (by omega) ⟨g, off, none⟩ zs.length cap (zs.map natv) (by simp)
      (fun j u hj => by
        rw [List.getElem?_map] at hj
        cases hh : zs[j]? with
        | none => rw [hh] at hj; cases hj
        | some y =>
          rw [hh] at hj
          have ha : (⟨g, off, none⟩ : Addr).add j = ⟨g, off + j, none⟩ := by unfold Addr.add; split <;> simp_all
          rw [ha, cell_cells hg, hc j y hh]
          simpa [natv] using hj)
      ad 1 c [.int .i64 (x : Int)] rfl hnews (by omega) (by unfold maxLen; omega) (by omega)
    refine ⟨v', w', hrun, ?_, ⟨hgrow.os, hgrow.tape, hgrow.output, hgrow.size, fun k hk _ => hgrow.block k hk (by simp)⟩⟩
    have h2 : w'.ownsRow base e 1 v' (zs.length + 1) ((zs ++ [x]).map natv) := by
      rw [List.map_append]
      exact own_base hown hbase
    exact QN.of_own h2 (by omega)
theorem wpList_append_q (w : World) {ops : Array Oper} {rest : List Oper} {o : Oper} {a : Act} {Q : Exit → Act → World → Prop} (hgd : o.guard = none) (s x : Operand) (t : TypeId)
    (ho : o.op = .call { callee := .builtin .append, args := #[s, x], argTypes := #[t, t] })
    (base : Nat) (e : TypeId) (i : TypeInfo) (z : Value) (ht : P.underlying t = some (.slice e)) (hi : P.info? e = some i) (hz : i.zero = some z) (hsize : i.size = 1) (hby : i.bytes = 8) (hzs : z.cells.size = 1)
    {v : Value} {zs : List Nat} (hs : a.eval s = v) (hq : QN w base e v zs) (ad : Addr) (c y : Nat) (hx : a.eval x = .slice (some ad) 1 c) (hy : w.cell? ad = some (.int .i64 (y : Int))) (hn : zs.length ≤ 1073741824) (hbase : base ≤ w.heap.size)
    (hK : ∀ v' w', QN w' base e v' (zs ++ [y]) → w.grownBy w' v.ownBlock → wpList P ops Q rest (a.put o.dst v') w') : wpList P ops Q (o :: rest) a w := by
  refine wpList_plain hgd fun K hK' => ?_
  obtain ⟨v', w', hrun, h1, h2⟩ := run_append_q (P := P) w base t o.type e i z ht hi hz hsize hby hzs hq ad c y hy hn hbase
  unfold Oper.wp
  simp [execOp, ho, resolve, invoke, builtin, hs, hx, hrun, Result.andThen]
  exact hK' _ _ (hK v' w' h1 h2)
end

/-! ### how many are not seen yet -/
def zeroOf : Bool → Nat
  | true => 0
  | false => 1
def unseen (bs : List Bool) : Nat := (bs.map zeroOf).sum
theorem unseen_set {bs : List Bool} {j : Nat} (h : bs[j]? = some false) : unseen (bs.set j true) + 1 = unseen bs := by
  unfold unseen
  rw [List.map_set]
  have := sum_set (bs.map zeroOf) j (zeroOf true) (zeroOf false) (by rw [List.getElem?_map, h]; rfl)
  simpa [zeroOf] using this
theorem unseen_all (n : Nat) : unseen (List.replicate n false) = n := by
  unfold unseen
  induction n with
  | zero => rfl
  | succ n ih => rw [List.replicate_succ, List.map_cons, List.sum_cons, ih]; simp [zeroOf]; omega
def zeroV : Value → Nat
  | .bool false => 1
  | _ => 0
/-- .. as memory has it -/
def unseenW (w : World) (g : Nat) : Nat := match w.heap[g]? with
  | some (.cells cs _ _) => (cs.toList.map zeroV).sum
  | _ => 0
theorem unseenW_blk {w : World} {g : Nat} {t : TypeId} {bs : List Bool} (h : Blk w g t (bs.map .bool)) : unseenW w g = unseen bs := by
  unfold Blk at h
  unfold unseenW unseen
  rw [h]
  simp only [List.map_map]
  congr 1
  apply List.map_congr_left
  intro b _
  cases b <;> rfl

/-! ### the search -/
structure ReachI (n : Nat) (a : List (List Nat)) (i : Nat) (E : Nat → Nat → Prop) (bs : List Bool) (zs : List Nat) : Prop where
  len : bs.length = n
  seen : ∀ x : Nat, bs[x]? = some true → Conn (Rel a) i x
  todo : ∀ z ∈ zs, z < n ∧ (z = i ∨ Conn (Rel a) i z)
  done : ∀ x y : Nat, (x = i ∨ bs[x]? = some true) → Rel a x y → bs[y]? = some true ∨ x ∈ zs ∨ E x y
section
variable {n : Nat} {a : List (List Nat)} {i : Nat} {bs : List Bool} {zs : List Nat}
theorem ReachI.start (hi : i < n) : ReachI n a i (fun _ _ => False) (List.replicate n false) [i] :=
  ⟨by simp, fun x h => by rw [List.getElem?_replicate] at h; split at h <;> simp at h, fun z hz => by rw [List.mem_singleton.1 hz]; exact ⟨hi, .inl rfl⟩, fun x y h _ => by
    rcases h with rfl | h
    · exact .inr (.inl (List.mem_singleton.2 rfl))
    · rw [List.getElem?_replicate] at h; split at h <;> simp at h⟩
theorem ReachI.pop {z : Nat} (h : ReachI n a i (fun _ _ => False) bs (z :: zs)) : ReachI n a i (fun x y => x = z ∧ 0 ≤ y) bs zs :=
  ⟨h.len, h.seen, fun y hy => h.todo y (List.mem_cons_of_mem _ hy), fun x y h1 h2 => by
    rcases h.done x y h1 h2 with h3 | h3 | h3
    · exact .inl h3
    · rcases List.mem_cons.1 h3 with rfl | h4
      · exact .inr (.inr ⟨rfl, Nat.zero_le _⟩)
      · exact .inr (.inl h4)
    · exact h3.elim⟩
theorem ReachI.skip {z j : Nat} (h : ReachI n a i (fun x y => x = z ∧ j ≤ y) bs zs) (hj : ¬ Rel a z j ∨ bs[j]? = some true) : ReachI n a i (fun x y => x = z ∧ j + 1 ≤ y) bs zs :=
  ⟨h.len, h.seen, h.todo, fun x y h1 h2 => by
    rcases h.done x y h1 h2 with h3 | h3 | ⟨rfl, h4⟩
    · exact .inl h3
    · exact .inr (.inl h3)
    · rcases Nat.lt_or_ge j y with h5 | h5
      · exact .inr (.inr ⟨rfl, h5⟩)
      · obtain rfl : j = y := by omega
        rcases hj with hj | hj
        · exact absurd h2 hj
        · exact .inl hj⟩
theorem ReachI.push {z j : Nat} (h : ReachI n a i (fun x y => x = z ∧ j ≤ y) bs zs) (hz : z = i ∨ Conn (Rel a) i z) (hj : Rel a z j) (hjn : j < n) : ReachI n a i (fun x y => x = z ∧ j + 1 ≤ y) (bs.set j true) (zs ++ [j]) := by
  have hc : Conn (Rel a) i j := by
    rcases hz with rfl | hz
    · exact .one hj
    · exact .step hz hj
  have hjs : (bs.set j true)[j]? = some true := by rw [List.getElem?_set, if_pos rfl, if_pos (by rw [h.len]; exact hjn)]
  have old : ∀ x : Nat, (bs.set j true)[x]? = some true → x = j ∨ bs[x]? = some true := fun x hx => by
    rw [List.getElem?_set] at hx
    by_cases e : j = x
    · exact .inl e.symm
    · rw [if_neg e] at hx; exact .inr hx
  have new : ∀ x : Nat, bs[x]? = some true → (bs.set j true)[x]? = some true := fun x hx => by
    by_cases e : j = x
    · subst e; exact hjs
    · rw [List.getElem?_set, if_neg e]; exact hx
  refine ⟨by rw [List.length_set]; exact h.len, fun x hx => ?_, fun y hy => ?_, fun x y h1 h2 => ?_⟩
  · rcases old x hx with rfl | hx
    · exact hc
    · exact h.seen x hx
  · rcases List.mem_append.1 hy with hy | hy
    · exact h.todo y hy
    · rw [List.mem_singleton.1 hy]; exact ⟨hjn, .inr hc⟩
  · have h1' : x = j ∨ (x = i ∨ bs[x]? = some true) := by
      rcases h1 with h1 | h1
      · exact .inr (.inl h1)
      · rcases old x h1 with h3 | h3
        · exact .inl h3
        · exact .inr (.inr h3)
    rcases h1' with rfl | h1'
    · exact .inr (.inl (List.mem_append.2 (.inr (List.mem_singleton.2 rfl))))
    · rcases h.done x y h1' h2 with h3 | h3 | ⟨rfl, h4⟩
      · exact .inl (new y h3)
      · exact .inr (.inl (List.mem_append.2 (.inl h3)))
      · rcases Nat.lt_or_ge j y with h5 | h5
        · exact .inr (.inr ⟨rfl, h5⟩)
        · obtain rfl : j = y := by omega
          exact .inl hjs
theorem ReachI.next {z : Nat} (hG : Good n a) (h : ReachI n a i (fun x y => x = z ∧ n ≤ y) bs zs) : ReachI n a i (fun _ _ => False) bs zs :=
  ⟨h.len, h.seen, h.todo, fun x y h1 h2 => by
    rcases h.done x y h1 h2 with h3 | h3 | ⟨rfl, h4⟩
    · exact .inl h3
    · exact .inr (.inl h3)
    · exact absurd (hG.has_lt h2).2 (by omega)⟩
theorem ReachI.all (h : ReachI n a i (fun _ _ => False) bs []) (x : Nat) : bs[x]? = some true ↔ Conn (Rel a) i x := by
  refine ⟨h.seen x, fun hc => ?_⟩
  induction hc with
  | one h1 =>
    rcases h.done i _ (.inl rfl) h1 with h2 | h2 | h2
    · exact h2
    · cases h2
    · exact h2.elim
  | step _ h1 ih =>
    rcases h.done _ _ (.inr ih) h1 with h2 | h2 | h2
    · exact h2
    · cases h2
    · exact h2.elim
end

end Go.Proofs.Ytmgockkjoogcaaa

namespace Go.Proofs.Ytmgockkjoogcaaa
open Go.RowKit
set_option linter.unusedVariables false

set_option maxHeartbeats 400000 in
theorem hull_place (m : Nat) (hm : m ≤ 1073741824) (w : World) :
    Calls Try.prog 55 #[.int .i64 (m : Int)] w fun e w' => e = .returned (.tuple #[.int .i64 ((m / 64 : Nat) : Int), .int .u64 ((p2 (m % 64) : Nat) : Int)]) ∧ w = w' := by
  have hA := Lib.hid (i64_and_63 m (by omega))
  have hB := Lib.hid (word_BitN (m % 64) (by omega) w)
  go_enter Try.func55, Try.ntmps55
  go_wp2_with fail
  rw [hA.out]
  refine hB.out.mono ?_; rintro e w' ⟨rfl, rfl⟩
  go_wp2_with fail
  exact bodyPost_ret (v := .tuple #[.int .i64 ((m / 64 : Nat) : Int), .int .u64 ((p2 (m % 64) : Nat) : Int)]) (by simp [results, Try.results55, go_sem]) rfl ⟨rfl, rfl⟩


/-- the least number that goes round -/
def LoopIs (n : Nat) (a : List (List Nat)) (r : Int) (b : Bool) : Prop := (b = true ∧ ∃ i : Nat, r = (i : Int) ∧ i < n ∧ Rel a i i ∧ ∀ j, j < i → ¬ Rel a j j) ∨ (b = false ∧ r = 0 ∧ ∀ i, i < n → ¬ Rel a i i)
theorem LoopIs.unique {n : Nat} {a : List (List Nat)} {r s : Int} {b c : Bool} (h : LoopIs n a r b) (k : LoopIs n a s c) : r = s ∧ b = c := by
  rcases h with ⟨rfl, i, rfl, hi, h1, h2⟩ | ⟨rfl, rfl, h1⟩ <;> rcases k with ⟨rfl, j, rfl, hj, k1, k2⟩ | ⟨rfl, rfl, k1⟩
  · refine ⟨?_, rfl⟩
    rcases Nat.lt_trichotomy i j with h3 | h3 | h3
    · exact absurd h1 (k2 i h3)
    · rw [h3]
    · exact absurd k1 (h2 j h3)
  · exact absurd h1 (k1 i hi)
  · exact absurd k1 (h1 j hj)
  · exact ⟨rfl, rfl⟩
def RetLoop (n : Nat) (a : List (List Nat)) (w : World) (e : Ending) (w' : World) : Prop := ∃ r b, e = .returned (.tuple #[.int .i64 r, .bool b]) ∧ LoopIs n a r b ∧ Below w.heap.size w w'


end Go.Proofs.Ytmgockkjoogcaaa

namespace Go.Proofs.Ytmgockkjoogcaaa
open Go.RowKit
set_option linter.unusedVariables false

theorem ref3_HasG (A : Option Addr) (n c : Nat) (a : List (List Nat)) (hG : Good n a) (i j : Int) (w : World) (hr : RowsAt w A n a) :
    Calls Try.prog 20 #[.agg #[.int .i64 (n : Int), .slice A n c], .int .i64 i, .int .i64 j] w (RetB (hasM a i j) w) := by
  have h := ref3_Has A n c a i j w hr hG.le (fun k xs hx => by have := hG.small xs (List.mem_of_getElem? hx); omega)
  rwa [hG.in_has] at h
set_option maxRecDepth 100000 in
set_option maxHeartbeats 2000000 in
theorem ref4_Closed (A : Option Addr) (n c : Nat) (a : List (List Nat)) (w : World) (hr : RowsAt w A n a) (hG : Good n a) :
    Calls Try.prog 17 #[.agg #[.int .i64 (n : Int), .slice A n c]] w (RetB (closedB a) w) := by
  obtain ⟨W0, hW0⟩ : ∃ W0, W0 = w.alloc (.cells #[.int .i64 n, .slice A n c] 35) := ⟨_, rfl⟩
  have ha : Below w.heap.size w W0 := by rw [hW0]; exact below_alloc _ _
  have hB : MatB W0 w.heap.size 35 n A n c := by rw [hW0]; exact MatB.new w _
  have l0 := hB.c0
  have l1 := hB.c1
  have hnn : n ≤ 4096 := hG.le
  have hr' := Lib.hid (hr.below ha)
  have hH := Lib.hid (fun (i j : Nat) W (hW : RowsAt W A n a) => ref3_HasG A n c a hG (i : Int) (j : Int) W hW)
  have hyes : Hid ((∀ i, i < n → ∀ j, j < n → ∀ k, k < n → Rel a i j → Rel a j k → Rel a i k) → closedB a = true) := Lib.hid (fun h => (closedB_iff hG).2 (fun i j k h1 h2 => h i (hG.has_lt h1).1 j (hG.has_lt h1).2 k (hG.has_lt h2).2 h1 h2))
  have hno : Hid (∀ i j k : Nat, hasM a (i : Int) (j : Int) = true → hasM a (j : Int) (k : Int) = true → hasM a (i : Int) (k : Int) = false → closedB a = false) := Lib.hid (fun i j k h1 h2 h3 => by
    cases hc : closedB a with
    | false => rfl
    | true =>
      have := (closedB_iff hG).1 hc i j k h1 h2
      unfold Rel at this
      rw [h3] at this; cases this)
  replace ha := Lib.hid ha
  replace hB := Lib.hid hB
  clear hr hG
  go_enter Try.func17, Try.ntmps17
  go_wp2_with fail
  rw [← hW0]
  clear hW0
  go_wp2_with fail
  clear l0 l1
  go_loopw [3] (fun i wr => ∃ i0 : Nat, i0 ≤ n ∧ i = .int .i64 i0 ∧ Hid (∀ i, i < i0 → ∀ j, j < n → ∀ k, k < n → Rel a i j → Rel a j k → Rel a i k) ∧ Hid (Below W0.heap.size W0 wr)) (fun i _ => n - (intOf i).toNat)
  case atStart => exact ⟨0, Nat.zero_le _, rfl, Lib.hid (fun i hi => absurd hi (by omega)), Lib.hid (Below.refl _ _)⟩
  case round =>
    obtain ⟨i, hi, rfl, halli, hbr⟩ := hrel
    have l0 := (hB.out.below_ hbr.out).c0
    have l1 := (hB.out.below_ hbr.out).c1
    by_cases hlt : i < n
    · go_wp2_with fail
      clear l0 l1
      go_loopw [4] (fun t wr => ∃ j0 : Nat, j0 ≤ n ∧ t = .int .i64 j0 ∧ Hid (∀ j, j < j0 → ∀ k, k < n → Rel a i j → Rel a j k → Rel a i k) ∧ Hid (Below W0.heap.size W0 wr)) (fun t _ => n - (intOf t).toNat)
      case atStart => exact ⟨0, Nat.zero_le _, rfl, Lib.hid (fun j hj => absurd hj (by omega)), hbr⟩
      case round =>
        clear hbr
        obtain ⟨j, hj, rfl, hallj, hbr⟩ := hrel
        have l0 := (hB.out.below_ hbr.out).c0
        have l1 := (hB.out.below_ hbr.out).c1
        by_cases hltj : j < n
        · go_wp2_with fail
          clear l0 l1
          go_loopw [5] (fun t wr => ∃ k0 : Nat, k0 ≤ n ∧ t = .int .i64 k0 ∧ Hid (∀ k, k < k0 → Rel a i j → Rel a j k → Rel a i k) ∧ Hid (Below W0.heap.size W0 wr)) (fun t _ => n - (intOf t).toNat)
          case atStart => exact ⟨0, Nat.zero_le _, rfl, Lib.hid (fun k hk => absurd hk (by omega)), hbr⟩
          case round =>
            clear hbr
            obtain ⟨k, hk, rfl, hallk, hbr⟩ := hrel
            have l0 := (hB.out.below_ hbr.out).c0
            have l1 := (hB.out.below_ hbr.out).c1
            have hnextj : Hid ((∀ k, k < n → Rel a i j → Rel a j k → Rel a i k) → ∀ j', j' < j + 1 → ∀ k, k < n → Rel a i j' → Rel a j' k → Rel a i k) := Lib.hid (fun h j' hj' => by
              rcases Nat.lt_succ_iff_lt_or_eq.1 hj' with h1 | h1
              · exact hallj.out j' h1
              · subst h1; exact h)
            by_cases hltk : k < n
            · have hHij := Lib.hid (hH.out i j wr (hr'.out.below hbr.out))
              cases h1 : hasM a (i : Int) (j : Int) with
              | false =>
                have hres := Lib.hid (hnextj.out (fun k hk h => by unfold Rel at h; rw [h1] at h; cases h))
                go_wp2_with fail
                refine hHij.out.mono ?_; rintro e w1 ⟨rfl, hb1⟩
                rw [h1]
                have hb01 := Lib.hid (below_trans2 hbr.out hb1)
                clear hb1 hHij h1 hnextj
                go_wp2_with fail
                go_roundw
                case rel => exact ⟨j + 1, by omega, by go_num, hres, hb01⟩
                case measure => simp [intOf]; omega
              | true =>
                go_wp2_with fail
                refine hHij.out.mono ?_; rintro e w1 ⟨rfl, hb1⟩
                rw [h1]
                have hb01 := Lib.hid (below_trans2 hbr.out hb1)
                have l0 := (hB.out.below_ hb01.out).c0
                have l1 := (hB.out.below_ hb01.out).c1
                have hHjk := Lib.hid (hH.out j k w1 (hr'.out.below hb01.out))
                clear hb1 hHij hbr
                cases h2 : hasM a (j : Int) (k : Int) with
                | false =>
                  have hres : Hid (∀ k', k' < k + 1 → Rel a i j → Rel a j k' → Rel a i k') := Lib.hid (fun k' hk' h3 h4 => by
                    rcases Nat.lt_succ_iff_lt_or_eq.1 hk' with h5 | h5
                    · exact hallk.out k' h5 h3 h4
                    · subst h5
                      unfold Rel at h4
                      rw [h2] at h4; cases h4)
                  replace h1 := Lib.hid h1
                  go_wp2_with fail
                  refine hHjk.out.mono ?_; rintro e w2 ⟨rfl, hb2⟩
                  rw [h2]
                  have hb02 := Lib.hid (below_trans2 hb01.out hb2)
                  clear hb2 hHjk h2
                  go_wp2_with fail
                  go_roundw
                  case rel => exact ⟨k + 1, by omega, by go_num, hres, hb02⟩
                  case measure => simp [intOf]; omega
                | true =>
                  go_wp2_with fail
                  refine hHjk.out.mono ?_; rintro e w2 ⟨rfl, hb2⟩
                  rw [h2]
                  have hb02 := Lib.hid (below_trans2 hb01.out hb2)
                  have l0 := (hB.out.below_ hb02.out).c0
                  have l1 := (hB.out.below_ hb02.out).c1
                  have hHik := Lib.hid (hH.out i k w2 (hr'.out.below hb02.out))
                  clear hb2 hHjk hb01
                  cases h3 : hasM a (i : Int) (k : Int) with
                  | false =>
                    have hres := Lib.hid (hno.out i j k h1 h2 h3)
                    go_wp2_with fail
                    refine hHik.out.mono ?_; rintro e w3 ⟨rfl, hb3⟩
                    rw [h3]
                    have hb03 := Lib.hid (below_trans2 ha.out (below_trans2 hb02.out hb3))
                    clear hb3 hHik h3 h2 h1
                    go_wp2_with fail
                    go_ret
                    rw [hres.out]; exact ⟨rfl, hb03.out⟩
                  | true =>
                    have hres : Hid (∀ k', k' < k + 1 → Rel a i j → Rel a j k' → Rel a i k') := Lib.hid (fun k' hk' h4 h5 => by
                      rcases Nat.lt_succ_iff_lt_or_eq.1 hk' with h6 | h6
                      · exact hallk.out k' h6 h4 h5
                      · subst h6; exact h3)
                    go_wp2_with fail
                    refine hHik.out.mono ?_; rintro e w3 ⟨rfl, hb3⟩
                    rw [h3]
                    have hb03 := Lib.hid (below_trans2 hb02.out hb3)
                    clear hb3 hHik h3 h2 h1
                    go_wp2_with fail
                    go_roundw
                    case rel => exact ⟨k + 1, by omega, by go_num, hres, hb03⟩
                    case measure => simp [intOf]; omega
            · have hres := Lib.hid (hnextj.out (fun k' hk' => hallk.out k' (by omega)))
              clear hnextj
              go_wp2_with fail
              go_roundw
              case rel => exact ⟨j + 1, by omega, by go_num, hres, hbr⟩
              case measure => simp [intOf]; omega
        · have hres : Hid (∀ i', i' < i + 1 → ∀ j, j < n → ∀ k, k < n → Rel a i' j → Rel a j k → Rel a i' k) := Lib.hid (fun i' hi' j' hj' => by
            rcases Nat.lt_succ_iff_lt_or_eq.1 hi' with h1 | h1
            · exact halli.out i' h1 j' hj'
            · subst h1; exact hallj.out j' (by omega))
          go_wp2_with fail
          go_roundw
          case rel => exact ⟨i + 1, by omega, by go_num, hres, hbr⟩
          case measure => simp [intOf]; omega
    · have hres := Lib.hid (hyes.out (fun i' hi' => halli.out i' (by omega)))
      go_wp2_with fail
      go_ret
      rw [hres.out]; exact ⟨rfl, below_trans2 ha.out hbr.out⟩

end Go.Proofs.Ytmgockkjoogcaaa

namespace Go.Proofs.Ytmgockkjoogcaaa
open Go.RowKit
set_option linter.unusedVariables false

theorem cut1 {T1 : Type} {Goal F : T1 → Prop} {R : Prop} (h1 : (∀ a, F a → Goal a) → R) (h2 : ∀ a, F a → Goal a) : R := h1 h2
theorem info_bool : (Try.prog.info? 4).map (fun i => (i.zero, i.size, i.bytes)) = some (some (.bool false), 1, 1) := by kernel_rfl
theorem mk_bool (kl kc : IntKind) (n c : Nat) (hnc : n ≤ c) (hc : c ≤ 35184372088832) (W : World) :
    (Instr.makeSlice 91 (.int kl (n : Int)) (.int kc (c : Int))).run Try.prog W = .ok (.slice (some ⟨W.heap.size, 0, none⟩) n c) (W.alloc (.cells (zeros c (.bool false)) 4)) := by
  obtain ⟨i, hi, hz0, hz1, hz2⟩ := info_parts info_bool
  exact run_make_one _ _ i _ Try.underlying91 hi hz0 hz1 rfl kl kc n c hnc (by rw [hz2]; omega) (by omega) W
/-- what is known in the search: the queue, who was seen, the matrix -/
structure StR (w : World) (n : Nat) (A : Option Addr) (c : Nat) (v : Value) (bs : List Bool) (zs : List Nat) (wr : World) : Prop where
  q : QN wr (w.heap.size + 2) 3 v zs
  b : Blk wr (w.heap.size + 1) 4 (bs.map .bool)
  m : MatB wr w.heap.size 35 n A n c
  bel : Below w.heap.size w wr
  big : w.heap.size + 2 ≤ wr.heap.size
theorem StR.later {w : World} {n : Nat} {A : Option Addr} {c : Nat} {v : Value} {bs : List Bool} {zs : List Nat} {wr w' : World} (h : StR w n A c v bs zs wr) (hb : Below wr.heap.size wr w') : StR w n A c v bs zs w' :=
  ⟨h.q.below hb, h.b.below hb h.b.lt, h.m.below_ hb, below_trans2 h.bel hb, Nat.le_trans h.big hb.size⟩
def reachL (bs : List Bool) (k : Nat) : List Nat := (List.range k).filter fun x => bs[x]? == some true
theorem reachL_yes {bs : List Bool} {k : Nat} (h : bs[k]? = some true) : reachL bs (k + 1) = reachL bs k ++ [k] := by
  unfold reachL; rw [List.range_succ, List.filter_append]; simp [h]
theorem reachL_no {bs : List Bool} {k : Nat} (h : bs[k]? = some false) : reachL bs (k + 1) = reachL bs k := by
  unfold reachL; rw [List.range_succ, List.filter_append]; simp [h]
theorem reachL_len (bs : List Bool) (k : Nat) : (reachL bs k).length ≤ k := by
  have := List.length_filter_le (fun x => bs[x]? == some true) (List.range k)
  simpa [reachL] using this
theorem reachL_mem (bs : List Bool) (k x : Nat) : x ∈ reachL bs k ↔ x < k ∧ bs[x]? = some true := by
  unfold reachL; rw [List.mem_filter, List.mem_range, beq_iff_eq]
/-- a call that answers what is reached from i -/
def RetReach (n : Nat) (a : List (List Nat)) (i : Nat) (w : World) (e : Ending) (w' : World) : Prop :=
  ∃ (B : Option Addr) (m d : Nat) (l : List Nat), e = .returned (.slice B m d) ∧ Ints w' B m (l.map Int.ofNat) ∧ (∀ x : Nat, x ∈ l ↔ x < n ∧ Conn (Rel a) i x) ∧ l.length ≤ n ∧ (∀ ad, B = some ad → w.heap.size ≤ ad.block) ∧ Below w.heap.size w w'
set_option maxRecDepth 100000 in
set_option maxHeartbeats 4000000 in
theorem ref4_Reach (A : Option Addr) (n c : Nat) (a : List (List Nat)) (i : Nat) (w : World) (hr : RowsAt w A n a) (hG : Good n a) (hin : i < n) :
    Calls Try.prog 41 #[.agg #[.int .i64 (n : Int), .slice A n c], .int .i64 (i : Int)] w (RetReach n a i w) := by
  have hnn : n ≤ 4096 := hG.le
  obtain ⟨i0, hi, hz0, hz1, hz2⟩ := info_parts info_int
  replace hi := Lib.hid hi
  replace hz0 := Lib.hid hz0
  replace hz1 := Lib.hid hz1
  replace hz2 := Lib.hid hz2
  have hmk := mk_bool .i64 .i64 n n (Nat.le_refl _) (by omega)
  obtain ⟨W0, hW0⟩ : ∃ W0, W0 = w.alloc (.cells #[.int .i64 n, .slice A n c] 35) := ⟨_, rfl⟩
  obtain ⟨W1, hW1⟩ : ∃ W1, W1 = W0.alloc (.cells (zeros n (.bool false)) 4) := ⟨_, rfl⟩
  obtain ⟨W2, hW2⟩ : ∃ W2, W2 = W1.alloc (.cells #[.int .i64 (i : Int)] 3) := ⟨_, rfl⟩
  have b0 : Below w.heap.size w W0 := by rw [hW0]; exact below_alloc _ _
  have b1 : Below W0.heap.size W0 W1 := by rw [hW1]; exact below_alloc _ _
  have b2 : Below W1.heap.size W1 W2 := by rw [hW2]; exact below_alloc _ _
  have hs0 : W0.heap.size = w.heap.size + 1 := by rw [hW0]; simp
  have hs1 : W1.heap.size = w.heap.size + 2 := by rw [hW1]; simp [hs0]
  have hs2 : W2.heap.size = w.heap.size + 3 := by rw [hW2]; simp [hs1]
  have hB0 : MatB W0 w.heap.size 35 n A n c := by rw [hW0]; exact MatB.new w _
  have l0 := hB0.c0
  have hSt : Hid (StR w n A c (.slice (some ⟨w.heap.size + 2, 0, none⟩) 1 1) (List.replicate n false) [i] W2) := Lib.hid
    { q := ⟨w.heap.size + 2, 0, 1, #[.int .i64 (i : Int)], rfl, Nat.le_refl _, by rw [hW2, ← hs1]; exact heap_alloc_new _ _, Nat.le_refl _, by unfold maxLen; omega, by simp, fun j z hj => by
        match j, hj with
        | 0, hj => simp at hj; subst hj; rfl
        | j + 1, hj => simp at hj⟩
      b := by
        have h : Blk W1 (w.heap.size + 1) 4 ((List.replicate n false).map .bool) := by
          rw [hW1, ← hs0, List.map_replicate]
          exact Blk.new W0 _ _
        exact h.below b2 h.lt
      m := (hB0.below_ b1).below_ b2
      bel := below_trans2 (below_trans2 b0 b1) b2
      big := by omega }
  have hR : Hid (ReachI n a i (fun _ _ => False) (List.replicate n false) [i]) := Lib.hid (ReachI.start hin)
  have hU : Hid (unseen (List.replicate n false) + [i].length ≤ n + 1) := Lib.hid (by rw [unseen_all]; simp)
  have hH := Lib.hid (fun (x y : Nat) W (hW : RowsAt W A n a) => ref3_HasG A n c a hG (x : Int) (y : Int) W hW)
  have hn1 := Lib.hid (fun z bs zs => ReachI.next (n := n) (a := a) (i := i) (bs := bs) (zs := zs) (z := z) hG)
  replace hs0 := Lib.hid hs0
  replace hs1 := Lib.hid hs1
  replace hr := Lib.hid hr
  replace hG := Lib.hid hG
  clear b0 b1 b2 hB0 hs2
  have p1 : W0.heap.size = w.heap.size + 1 := hs0.out
  have p2 : W1.heap.size = w.heap.size + 2 := hs1.out
  go_enter Try.func41, Try.ntmps41
  go_wp2_with fail
  rw [← hW0]
  clear hW0
  go_wp2_with fail
  rw [← hW1, ← hW2]
  clear hW1 hW2 hmk l0 p1 p2
  go_loopw [7] (fun v wr => ∃ (bs : List Bool) (zs : List Nat), Hid (ReachI n a i (fun _ _ => False) bs zs) ∧ Hid (unseen bs + zs.length ≤ n + 1) ∧ Hid (StR w n A c v bs zs wr)) (fun v wr => unseenW wr (w.heap.size + 1) + qlen v)
  case atStart => exact ⟨_, _, hR, hU, hSt⟩
  case round =>
    clear hR hU hSt
    obtain ⟨bs, zs, hR, hU, hSt⟩ := hrel
    cases zs with
    | nil =>
      obtain ⟨g, off, cap, rfl⟩ := hSt.out.q.nil
      have hall := Lib.hid hR.out.all
      have hbl := Lib.hid hR.out.len
      have hB := Lib.hid hSt.out.b
      have hMm := Lib.hid hSt.out.m
      have hbel := Lib.hid hSt.out.bel
      have hbig := Lib.hid hSt.out.big
      clear hR hU hSt
      go_wp2_with fail
      go_loopw [5, 10] (fun l t wi => ∃ j : Nat, j ≤ n ∧ t = .int .i64 j ∧ Hid (wi.ownsRow (w.heap.size + 2) 3 1 l (reachL bs j).length ((reachL bs j).map natv)) ∧ Hid (Blk wi (w.heap.size + 1) 4 (bs.map .bool)) ∧ Hid (MatB wi w.heap.size 35 n A n c) ∧ Hid (Below w.heap.size w wi) ∧ Hid (w.heap.size + 2 ≤ wi.heap.size)) (fun _ t _ => n - (intOf t).toNat)
      case atStart => exact ⟨0, Nat.zero_le _, rfl, Lib.hid (World.ownsRow_nil _ _ _ _), hB, hMm, hbel, hbig⟩
      case round =>
        clear hB hMm hbel hbig
        obtain ⟨j, hj, rfl, hown, hB, hMm, hbel, hbig⟩ := hrel
        have l0 := hMm.out.c0
        by_cases hlt : j < n
        · obtain ⟨bj, hbj⟩ : ∃ b, bs[j]? = some b := ⟨_, List.getElem?_eq_getElem (by rw [hbl.out]; exact hlt)⟩
          have cb := Blk.cell hB.out j
          rw [List.getElem?_map, hbj, Option.map_some] at cb
          have hj0 : (0 : Int) ≤ (j : Int) := by omega
          have hjn : (j : Int) < (n : Int) := by omega
          have hrl := reachL_len bs j
          cases bj with
          | true =>
            have hy := Lib.hid (reachL_yes hbj)
            replace hbj := Lib.hid hbj
            go_wp2_with (at_builtin; refine wpList_append_lies _ rfl (.tmp 58) (.tmp 60) _ rfl (w.heap.size + 2) 3 i0 _ 1 8 Try.underlying27 hi.out hz0.out hz1.out hz2.out rfl (by omega) _ _ _ (by rfl) (hown.out.alloc _) ⟨wr.heap.size, 0, none⟩ 1 1 [.int .i64 (j : Int)] rfl rfl (cell_one_new _ _ _) (by simp [Value.oneCell']) (by omega) (by unfold maxLen; omega) (by omega) (by have := hbig.out; simp; omega) _ rfl ?_; intro g2 cap2 w1 hown1 hgrow hat hlt1)
            have hB1 := Lib.hid (Blk.grown (hB.out.alloc _) hgrow (fun e => by have := own_lt_block hown.out _ e.symm; omega))
            have hM1 := Lib.hid (Blk.grown (Blk.alloc hMm.out _) hgrow (fun e => by have := own_lt_block hown.out _ e.symm; omega))
            have hb1 := Lib.hid ((hbel.out.alloc hbel.out.size _).grown hgrow (by have := hbel.out.size; simp; omega) (fun k hk => by have := own_lt_block hown.out k hk; omega))
            have hg1 : Hid (w.heap.size + 2 ≤ w1.heap.size) := Lib.hid (by have := hgrow.size; have := hbig.out; simp at *; omega)
            clear hgrow hat hlt1 cb l0
            go_roundw
            case rel =>
              refine ⟨j + 1, by omega, by go_num, Lib.hid ?_, hB1, hM1, hb1, hg1⟩
              rw [hy.out, List.length_append, List.map_append]
              exact hown1
            case measure => simp [intOf]; omega
          | false =>
            have hy := Lib.hid (reachL_no hbj)
            replace hbj := Lib.hid hbj
            go_wp2_with fail
            go_roundw
            case rel => exact ⟨j + 1, by omega, by go_num, Lib.hid (by rw [hy.out]; exact hown.out), hB, hMm, hbel, hbig⟩
            case measure => simp [intOf]; omega
        · obtain rfl : j = n := by omega
          have hfr := Lib.hid (fun k hk => own_lt_block hown.out k hk)
          obtain ⟨A', c', rfl, hI⟩ := own_ints hown.out (fun x hx => by have := ((reachL_mem _ _ _).1 hx).1; omega)
          replace hI := Lib.hid hI
          clear hown
          go_wp2_with fail
          go_ret
          exact ⟨_, _, _, reachL bs j, rfl, hI.out, fun x => by
            rw [reachL_mem, hall.out], reachL_len _ _, fun ad e => by subst e; have := hfr.out ad.block rfl; omega, hbel.out⟩
    | cons z zs =>
      obtain ⟨g, off, cap, rfl, hcz, hcap, hq1, hq2⟩ := hSt.out.q.pop
      have hM : Hid (unseenW wr (w.heap.size + 1) = unseen bs) := Lib.hid (unseenW_blk hSt.out.b)
      have hz := Lib.hid (hR.out.todo z (List.mem_cons_self ..))
      have hRp := Lib.hid hR.out.pop
      have hzl : 0 < zs.length + 1 := by omega
      replace hq1 := Lib.hid hq1
      replace hq2 := Lib.hid hq2
      have hc1 : 1 ≤ cap := by omega
      clear hR
      go_wp2_with fail
      · have hS : Hid (StR w n A c (.slice (some ⟨g, off, none⟩) zs.length 0) bs zs wr) := Lib.hid { q := hq1.out (by first | rfl | assumption), b := hSt.out.b, m := hSt.out.m, bel := hSt.out.bel, big := hSt.out.big }
        clear hcz hSt hq1 hq2
        go_loopw [7, 9] (fun v t wi => ∃ (j : Nat) (bs' : List Bool) (zs' : List Nat), j ≤ n ∧ t = .int .i64 j ∧ Hid (ReachI n a i (fun x y => x = z ∧ j ≤ y) bs' zs') ∧ Hid (unseen bs' + zs'.length + 1 ≤ unseen bs + (zs.length + 1)) ∧ Hid (StR w n A c v bs' zs' wi)) (fun _ t _ => n - (intOf t).toNat)
        case atStart => exact ⟨0, bs, zs, Nat.zero_le _, rfl, hRp, Lib.hid (by omega), hS⟩
        case round =>
          obtain ⟨j, bs', zs', hj, rfl, hR', hU', hS'⟩ := hrel
          clear hS
          have l0 := hS'.out.m.c0
          have l1 := hS'.out.m.c1
          by_cases hlt : j < n
          · have hC := Lib.hid (hH.out z j wr (hr.out.below hS'.out.bel))
            go_wp2_with fail
            refine hC.out.mono ?_; rintro e w1 ⟨rfl, hb1⟩
            replace hS' := Lib.hid (hS'.out.later hb1)
            clear hb1 hC l0 l1
            cases hh : hasM a (z : Int) (j : Int) with
            | false =>
              have hR2 := Lib.hid (hR'.out.skip (.inl (by unfold Rel; rw [hh]; simp)))
              go_wp2_with fail
              go_roundw
              case rel => exact ⟨j + 1, bs', zs', by omega, by go_num, hR2, hU', hS'⟩
              case measure => simp [intOf]; omega
            | true =>
              have hbl : bs'.length = n := hR'.out.len
              obtain ⟨bj, hbj⟩ : ∃ b, bs'[j]? = some b := ⟨_, List.getElem?_eq_getElem (by omega)⟩
              have cb := Blk.cell hS'.out.b j
              rw [List.getElem?_map, hbj, Option.map_some] at cb
              have hj0 : (0 : Int) ≤ (j : Int) := by omega
              have hjn : (j : Int) < (n : Int) := by omega
              replace hbl := Lib.hid hbl
              cases bj with
              | true =>
                have hR2 := Lib.hid (hR'.out.skip (.inr hbj))
                replace hbj := Lib.hid hbj
                go_wp2_with fail
                go_roundw
                case rel => exact ⟨j + 1, bs', zs', by omega, by go_num, hR2, hU', hS'⟩
                case measure => simp [intOf]; omega
              | false =>
                have hR2 := Lib.hid (hR'.out.push hz.out.2 (by unfold Rel; exact hh) hlt)
                have hun := Lib.hid (unseen_set hbj)
                have fz := Blk.frozen hS'.out.b j
                have hzs : zs'.length ≤ 1073741824 := by have := hU'.out; have := hU.out; simp at this; omega
                have hqw := Lib.hid (hS'.out.q.far (p := ⟨w.heap.size + 1, j, none⟩) (fun e => by have := (hS'.out.q.lt _ e).1; simp at this) (.bool true))
                replace hbj := Lib.hid hbj
                go_wp2_with (at_builtin; refine wpList_append_q _ rfl (.tmp 44) (.tmp 46) _ rfl (w.heap.size + 2) 3 i0 _ Try.underlying27 hi.out hz0.out hz1.out hz2.out rfl (by rfl) (hqw.out.below (below_alloc _ _)) ⟨w1.heap.size, 0, none⟩ 1 j rfl (by have h := Blk.cell (Blk.new (w1.setCell ⟨w.heap.size + 1, j, none⟩ (.bool true)) 3 [.int .i64 (j : Int)]) 0; simpa using h) hzs (by have := hS'.out.big; simp; omega) ?_; intro v' w2 hq' hgrow)
                have hS2 : Hid (StR w n A c v' (bs'.set j true) (zs' ++ [j]) w2) := Lib.hid
                  { q := hq'
                    b := by
                      rw [List.map_set]
                      exact Blk.grown (((hS'.out.b.set_ j (.bool true))).alloc _) hgrow (fun e => by have := (hqw.out.lt _ e.symm).1; omega)
                    m := Blk.grown (((Blk.far hS'.out.m (p := ⟨w.heap.size + 1, j, none⟩) (by simp) (.bool true))).alloc _) hgrow (fun e => by have := (hqw.out.lt _ e.symm).1; omega)
                    bel := ((hS'.out.bel.setCell (p := ⟨w.heap.size + 1, j, none⟩) (by simp) (.bool true)).alloc (by have := hS'.out.big; simp; omega) _).grown hgrow (by have := hS'.out.big; simp; omega) (fun k hk => by have := (hqw.out.lt k hk).1; omega)
                    big := by have := hgrow.size; have := hS'.out.big; simp at *; omega }
                clear hq' hgrow hqw cb fz
                go_roundw
                case rel => exact ⟨j + 1, bs'.set j true, zs' ++ [j], by omega, by go_num, hR2, Lib.hid (by have := hun.out; have := hU'.out; simp; omega), hS2⟩
                case measure => simp [intOf]; omega
          · obtain rfl : j = n := by omega
            have hR2 := Lib.hid (hn1.out z bs' zs' hR'.out)
            have hU2 : Hid (unseen bs' + zs'.length ≤ j + 1) := Lib.hid (by have := hU'.out; have := hU.out; simp at this; omega)
            go_wp2_with fail
            go_roundw
            case rel => exact ⟨bs', zs', hR2, hU2, hS'⟩
            case measure =>
              have h1 := unseenW_blk hS'.out.b
              have h2 := hS'.out.q.qlen_
              have h3 := hU'.out
              rw [h1, h2, hM.out]
              simp only [qlen]
              omega
      · have hS : Hid (StR w n A c (.slice (some ⟨g, off + 1, none⟩) zs.length (cap - 1)) bs zs wr) := Lib.hid { q := hq2.out (by assumption), b := hSt.out.b, m := hSt.out.m, bel := hSt.out.bel, big := hSt.out.big }
        clear hcz hSt hq1 hq2
        go_loopw [7, 9] (fun v t wi => ∃ (j : Nat) (bs' : List Bool) (zs' : List Nat), j ≤ n ∧ t = .int .i64 j ∧ Hid (ReachI n a i (fun x y => x = z ∧ j ≤ y) bs' zs') ∧ Hid (unseen bs' + zs'.length + 1 ≤ unseen bs + (zs.length + 1)) ∧ Hid (StR w n A c v bs' zs' wi)) (fun _ t _ => n - (intOf t).toNat)
        case atStart => exact ⟨0, bs, zs, Nat.zero_le _, rfl, hRp, Lib.hid (by omega), hS⟩
        case round =>
          obtain ⟨j, bs', zs', hj, rfl, hR', hU', hS'⟩ := hrel
          clear hS
          have l0 := hS'.out.m.c0
          have l1 := hS'.out.m.c1
          by_cases hlt : j < n
          · have hC := Lib.hid (hH.out z j wr (hr.out.below hS'.out.bel))
            go_wp2_with fail
            refine hC.out.mono ?_; rintro e w1 ⟨rfl, hb1⟩
            replace hS' := Lib.hid (hS'.out.later hb1)
            clear hb1 hC l0 l1
            cases hh : hasM a (z : Int) (j : Int) with
            | false =>
              have hR2 := Lib.hid (hR'.out.skip (.inl (by unfold Rel; rw [hh]; simp)))
              go_wp2_with fail
              go_roundw
              case rel => exact ⟨j + 1, bs', zs', by omega, by go_num, hR2, hU', hS'⟩
              case measure => simp [intOf]; omega
            | true =>
              have hbl : bs'.length = n := hR'.out.len
              obtain ⟨bj, hbj⟩ : ∃ b, bs'[j]? = some b := ⟨_, List.getElem?_eq_getElem (by omega)⟩
              have cb := Blk.cell hS'.out.b j
              rw [List.getElem?_map, hbj, Option.map_some] at cb
              have hj0 : (0 : Int) ≤ (j : Int) := by omega
              have hjn : (j : Int) < (n : Int) := by omega
              replace hbl := Lib.hid hbl
              cases bj with
              | true =>
                have hR2 := Lib.hid (hR'.out.skip (.inr hbj))
                replace hbj := Lib.hid hbj
                go_wp2_with fail
                go_roundw
                case rel => exact ⟨j + 1, bs', zs', by omega, by go_num, hR2, hU', hS'⟩
                case measure => simp [intOf]; omega
              | false =>
                have hR2 := Lib.hid (hR'.out.push hz.out.2 (by unfold Rel; exact hh) hlt)
                have hun := Lib.hid (unseen_set hbj)
                have fz := Blk.frozen hS'.out.b j
                have hzs : zs'.length ≤ 1073741824 := by have := hU'.out; have := hU.out; simp at this; omega
                have hqw := Lib.hid (hS'.out.q.far (p := ⟨w.heap.size + 1, j, none⟩) (fun e => by have := (hS'.out.q.lt _ e).1; simp at this) (.bool true))
                replace hbj := Lib.hid hbj
                go_wp2_with (at_builtin; refine wpList_append_q _ rfl (.tmp 44) (.tmp 46) _ rfl (w.heap.size + 2) 3 i0 _ Try.underlying27 hi.out hz0.out hz1.out hz2.out rfl (by rfl) (hqw.out.below (below_alloc _ _)) ⟨w1.heap.size, 0, none⟩ 1 j rfl (by have h := Blk.cell (Blk.new (w1.setCell ⟨w.heap.size + 1, j, none⟩ (.bool true)) 3 [.int .i64 (j : Int)]) 0; simpa using h) hzs (by have := hS'.out.big; simp; omega) ?_; intro v' w2 hq' hgrow)
                have hS2 : Hid (StR w n A c v' (bs'.set j true) (zs' ++ [j]) w2) := Lib.hid
                  { q := hq'
                    b := by
                      rw [List.map_set]
                      exact Blk.grown (((hS'.out.b.set_ j (.bool true))).alloc _) hgrow (fun e => by have := (hqw.out.lt _ e.symm).1; omega)
                    m := Blk.grown (((Blk.far hS'.out.m (p := ⟨w.heap.size + 1, j, none⟩) (by simp) (.bool true))).alloc _) hgrow (fun e => by have := (hqw.out.lt _ e.symm).1; omega)
                    bel := ((hS'.out.bel.setCell (p := ⟨w.heap.size + 1, j, none⟩) (by simp) (.bool true)).alloc (by have := hS'.out.big; simp; omega) _).grown hgrow (by have := hS'.out.big; simp; omega) (fun k hk => by have := (hqw.out.lt k hk).1; omega)
                    big := by have := hgrow.size; have := hS'.out.big; simp at *; omega }
                clear hq' hgrow hqw cb fz
                go_roundw
                case rel => exact ⟨j + 1, bs'.set j true, zs' ++ [j], by omega, by go_num, hR2, Lib.hid (by have := hun.out; have := hU'.out; simp; omega), hS2⟩
                case measure => simp [intOf]; omega
          · obtain rfl : j = n := by omega
            have hR2 := Lib.hid (hn1.out z bs' zs' hR'.out)
            have hU2 : Hid (unseen bs' + zs'.length ≤ j + 1) := Lib.hid (by have := hU'.out; have := hU.out; simp at this; omega)
            go_wp2_with fail
            go_roundw
            case rel => exact ⟨bs', zs', hR2, hU2, hS'⟩
            case measure =>
              have h1 := unseenW_blk hS'.out.b
              have h2 := hS'.out.q.qlen_
              have h3 := hU'.out
              rw [h1, h2, hM.out]
              simp only [qlen]
              omega

end Go.Proofs.Ytmgockkjoogcaaa

namespace Go.Proofs.Ytmgockkjoogcaaa
open Go.RowKit
set_option linter.unusedVariables false

theorem RowsAt.farK {w : World} {C : Option Addr} {p g : Nat} {t : TypeId} {xss : List (List Nat)} {N : Int} {A : Option Addr} {n c : Nat} {yss : List (List Nat)} (h : RowsAt w C p xss) (hM : MatK w g t N A n c yss) (hn : 0 < n) : 0 < p → ∀ ad, C = some ad → ad.block ≠ g := by
  intro h0 ad e
  obtain ⟨b, off, B, m, d, xs, e2, _, hx, hc, hr⟩ := h.at_ h0
  rw [e] at e2
  cases e2
  intro hb
  have hb' : b = g := hb
  subst hb'
  rw [Blk.cell hM.1] at hc
  match off + 0, hc with
  | 0, hc => simp at hc
  | 1, hc =>
    simp at hc
    obtain ⟨rfl, rfl, rfl⟩ := hc
    obtain ⟨b3, o3, x, e3, _, _, _, h3⟩ := hr.at_ hn
    obtain ⟨b4, o4, B4, m4, d4, xs4, e4, _, _, h4, _⟩ := hM.2.at_ hn
    rw [e3] at e4
    cases e4
    rw [h3] at h4
    cases h4
  | k + 2, hc => simp at hc
theorem MatK.put2 {w : World} {g : Nat} {t : TypeId} {N : Int} {A : Option Addr} {n c : Nat} (h : MatB w g t N A n c) {G : Nat} {t' : TypeId} {M : Int} {B : Option Addr} {m d : Nat} {yss : List (List Nat)} (k : MatK w G t' M B m d yss) (hne : G ≠ g) (hb : 0 < m → ∀ ad, B = some ad → ad.block ≠ g) (x y : Value) : MatK ((w.setCell ⟨g, 0, none⟩ x).setCell ⟨g, 1, none⟩ y) G t' M B m d yss :=
  ⟨(k.1.farB (p := ⟨g, 0, none⟩) (by simpa using hne) _).farB (p := ⟨g, 1, none⟩) (by simpa using hne) _, k.2.putB h hb _ _⟩
theorem Ints.setCell {w : World} {A : Option Addr} {n : Nat} {zs : List Int} {p : Addr} (h : Ints w A n zs) (hne : ∀ ad, A = some ad → ad.block ≠ p.block) (u : Value) : Ints (w.setCell p u) A n zs := ⟨h.1.setCell hne u, h.2⟩
theorem Conn.lt {n : Nat} {a : List (List Nat)} (hG : Good n a) {i j : Nat} (h : Conn (Rel a) i j) : i < n ∧ j < n := by
  induction h with
  | one h => exact hG.has_lt h
  | step _ h ih => exact ⟨ih.1, (hG.has_lt h).2⟩
/-- what is laid so far: the rows ahead of i, and some of row i -/
def CloseR (n : Nat) (a : List (List Nat)) (i : Nat) (l : List Nat) (X : List (List Nat)) : Prop := Good n X ∧ ∀ x y : Nat, Rel X x y ↔ (x < i ∧ Conn (Rel a) x y) ∨ (x = i ∧ y ∈ l)
section
variable {n : Nat} {a X : List (List Nat)} {i : Nat} {l : List Nat}
theorem CloseR.start (hn : n ≤ 4096) : CloseR n a 0 [] (newM n) := ⟨Good.new hn, fun x y => by
  unfold Rel
  rw [newM_has]
  constructor
  · intro h; cases h
  · rintro (⟨h, _⟩ | ⟨_, h⟩)
    · omega
    · cases h⟩
theorem CloseR.set (h : CloseR n a i l X) {y : Nat} (hi : i < n) (hy : y < n) : CloseR n a i (l ++ [y]) (setM X (i : Int) (y : Int)) := ⟨h.1.set hi hy, fun u v => by
  rw [rel_set h.1 hi hy, h.2]
  simp only [List.mem_append, List.mem_singleton]
  constructor
  · rintro ((h1 | ⟨h1, h2⟩) | ⟨h1, h2⟩)
    · exact .inl h1
    · exact .inr ⟨h1, .inl h2⟩
    · exact .inr ⟨h1, .inr h2⟩
  · rintro (h1 | ⟨h1, h2 | h2⟩)
    · exact .inl (.inl h1)
    · exact .inl (.inr ⟨h1, h2⟩)
    · exact .inr ⟨h1, h2⟩⟩
theorem CloseR.next (h : CloseR n a i l X) (hG : Good n a) (hl : ∀ x : Nat, x ∈ l ↔ x < n ∧ Conn (Rel a) i x) : CloseR n a (i + 1) [] X := ⟨h.1, fun u v => by
  rw [h.2, hl]
  constructor
  · rintro (⟨h1, h2⟩ | ⟨rfl, _, h2⟩)
    · exact .inl ⟨by omega, h2⟩
    · exact .inl ⟨by omega, h2⟩
  · rintro (⟨h1, h2⟩ | ⟨_, h2⟩)
    · rcases Nat.lt_succ_iff_lt_or_eq.1 h1 with h3 | h3
      · exact .inl ⟨h3, h2⟩
      · subst h3
        exact .inr ⟨rfl, (Conn.lt hG h2).2, h2⟩
    · cases h2⟩
theorem CloseR.all (h : CloseR n a n [] X) (hG : Good n a) : X = closeK a n :=
  IsHull.unique (r := Rel a) ⟨h.1, fun u v => by
    rw [h.2]
    constructor
    · rintro (⟨_, h2⟩ | ⟨_, h2⟩)
      · exact h2
      · cases h2
    · intro h2
      exact .inl ⟨(Conn.lt hG h2).1, h2⟩⟩ (closeK_hull hG) fun _ _ => Iff.rfl
end
/-- a matrix all of whose blocks are the call's own -/
def RetMat1G (N : Int) (xss : List (List Nat)) (w : World) (e : Ending) (w' : World) : Prop :=
  ∃ A n c, e = .returned (.agg #[.int .i64 N, .slice A n c]) ∧ RowsG w.heap.size w' A n xss ∧ n ≤ c ∧ Below w.heap.size w w'
set_option maxRecDepth 100000 in
set_option maxHeartbeats 4000000 in
theorem ref4_CloseG (A : Option Addr) (n c : Nat) (a : List (List Nat)) (w : World) (hr : RowsAt w A n a) (hG : Good n a) (hn64 : n < 64) :
    Calls Try.prog 22 #[.agg #[.int .i64 (n : Int), .slice A n c]] w (RetMat1G (n : Int) (closeK a n) w) := by
  have hnn : n ≤ 4096 := hG.le
  obtain ⟨W0, hW0⟩ : ∃ W0, W0 = (w.alloc (.cells #[.int .i64 n, .slice A n c] 35)).alloc (.cells #[.int .i64 0, .slice none 0 0] 35) := ⟨_, rfl⟩
  have bb := Lib.hid (show Below w.heap.size w W0 by rw [hW0]; exact ((Below.refl _ _).alloc (Nat.le_refl _) _).alloc (by simp) _)
  have k1 := Lib.hid (show MatK W0 w.heap.size 35 n A n c a by rw [hW0]; exact (MatK.new w _ hr).below (below_alloc _ _))
  have m2 := Lib.hid (show MatB W0 (w.heap.size + 1) 35 0 none 0 0 by rw [hW0]; exact MatB.new1 w _ _)
  have cN := Lib.hid (fun W => ref3_NewG n hnn W)
  have cR := Lib.hid (fun (i : Nat) (hi : i < n) W (hW : RowsAt W A n a) => ref4_Reach A n c a i W hW hG hi)
  have cS := Lib.hid (fun (i y : Nat) (hi : i < n) (hy : y < n) C d X (hX : Good n X) W (hW : RowsG w.heap.size W C n X) (hs : w.heap.size ≤ W.heap.size) => ref3_SetG w.heap.size (n : Int) C n d X (i : Int) (y : Int) W hW hs rfl hnn (fun xs hx => by have := hX.small xs hx; omega) (by unfold inM; simp; omega))
  replace hG := Lib.hid hG
  clear hr
  have qk10 := k1.out.1.c0
  have qk11 := k1.out.1.c1
  go_enter Try.func22, Try.ntmps22
  go_wp2_with fail
  rw [← hW0]
  clear hW0
  go_wp2_with fail
  refine (cN.out W0).mono ?_; rintro e w1 ⟨A3, n3, c3, rfl, s3, hc3, b, -⟩
  have r3 := s3.at
  obtain rfl : n = n3 := by have := r3.len; simp [newM] at this; omega
  replace s3 := s3.mono (show w.heap.size ≤ W0.heap.size from bb.out.size)
  replace m2 := Lib.hid (m2.out.below b)
  obtain ⟨W1, hW1⟩ : ∃ W1, W1 = w1.alloc (.cells #[.int .i64 n, .slice A3 n c3] 35) := ⟨_, rfl⟩
  obtain ⟨G3, hG3⟩ : ∃ G, G = w1.heap.size := ⟨_, rfl⟩
  have ba : Below w1.heap.size w1 W1 := by rw [hW1]; exact below_alloc _ _
  have k3 := Lib.hid (show MatK W1 G3 35 n A3 n c3 (newM n) from ⟨by rw [hW1, hG3]; exact MatB.new _ _, r3.below ba⟩)
  replace s3 := Lib.hid (s3.below ba)
  have hlt := m2.out.lt
  have h23 : w.heap.size + 1 < G3 := by omega
  replace m2 := Lib.hid (m2.out.below ba)
  replace b := below_trans2 b ba
  replace k1 := Lib.hid (k1.out.below b)
  replace qk10 := k1.out.1.c0
  replace qk11 := k1.out.1.c1
  replace bb := Lib.hid (below_trans2 bb.out b)
  clear b
  rw [hW1] at qk10 qk11
  clear ba r3 hlt
  go_wp2_with fail
  rw [← hW1, ← hG3]
  clear hW1 hG3 qk10 qk11
  go_loopw [5] (fun t wr => ∃ (i : Nat) (A3 : Option Addr) (c3 : Nat) (X : List (List Nat)), i ≤ n ∧ t = .int .i64 i ∧ Hid (CloseR n a i [] X) ∧ Hid (n ≤ c3) ∧ Hid (MatK wr w.heap.size 35 n A n c a) ∧ Hid (MatB wr (w.heap.size + 1) 35 0 none 0 0) ∧ Hid (MatK wr G3 35 n A3 n c3 X) ∧ Hid (RowsG w.heap.size wr A3 n X) ∧ Hid (Below w.heap.size w wr)) (fun t _ => n - (intOf t).toNat)
  case atStart => exact ⟨0, A3, c3, newM n, Nat.zero_le _, rfl, Lib.hid (CloseR.start hnn), Lib.hid hc3, k1, m2, k3, s3, bb⟩
  case round =>
    clear k1 m2 k3 s3 bb
    obtain ⟨i, A3, c3, X, hi, rfl, hX, hc3', k1, m2, k3, s3, bb⟩ := hrel
    have qk10 := k1.out.1.c0
    have qk11 := k1.out.1.c1
    by_cases hlt : i < n
    · have cRi := Lib.hid (cR.out i hlt wr k1.out.2)
      go_wp2_with fail
      refine cRi.out.mono ?_; rintro e w2 ⟨B, m, d, l, rfl, hl, hmem, hll, hfr, b⟩
      have hlm : l.length = m := by have := hl.len; simpa using this
      have h3 : G3 < wr.heap.size := k3.out.1.lt
      have hfr3 : Hid (∀ ad, B = some ad → ad.block ≠ G3) := Lib.hid (fun ad e => by have := hfr ad e; omega)
      replace m2 := Lib.hid (m2.out.below b)
      replace s3 := Lib.hid (s3.out.below b)
      replace k1 := Lib.hid (k1.out.below b)
      replace qk10 := k1.out.1.c0
      replace qk11 := k1.out.1.c1
      replace k3 := Lib.hid (k3.out.below b)
      replace qk30 := k3.out.1.c0
      replace qk31 := k3.out.1.c1
      replace bb := Lib.hid (below_trans2 bb.out b)
      clear b
      replace hl := Lib.hid hl
      replace hmem := Lib.hid hmem
      have hm64 : m ≤ 64 := by omega
      replace hlm := Lib.hid hlm
      clear cRi hfr h3 hll
      go_wp2_with fail
      clear qk10 qk11 qk30 qk31
      go_loopw [7] (fun t wr => ∃ (k : Nat) (A3 : Option Addr) (c3 : Nat) (X : List (List Nat)), k ≤ m ∧ t = .int .i64 k ∧ Hid (CloseR n a i (l.take k) X) ∧ Hid (n ≤ c3) ∧ Hid (MatK wr w.heap.size 35 n A n c a) ∧ Hid (MatB wr (w.heap.size + 1) 35 0 none 0 0) ∧ Hid (MatK wr G3 35 n A3 n c3 X) ∧ Hid (RowsG w.heap.size wr A3 n X) ∧ Hid (Below w.heap.size w wr) ∧ Hid (Ints wr B m (l.map Int.ofNat))) (fun t _ => m - (intOf t).toNat)
      case atStart => exact ⟨0, A3, c3, X, Nat.zero_le _, rfl, hX, hc3', k1, m2, k3, s3, bb, hl⟩
      case round =>
        clear hX hc3' k1 m2 k3 s3 bb hl
        obtain ⟨k, A3, c3, X, hk, rfl, hX, hc3', k1, m2, k3, s3, bb, hl⟩ := hrel
        by_cases hkm : k < m
        · obtain ⟨b4, o4, x, rfl, hb4, hx, hx64, c4⟩ := hl.out.at_ hkm
          obtain ⟨y, hy, rfl⟩ : ∃ y : Nat, l[k]? = some y ∧ (y : Int) = x := by
            rw [List.getElem?_map] at hx
            cases hh : l[k]? with
            | none => rw [hh] at hx; cases hx
            | some y => rw [hh] at hx; exact ⟨y, rfl, by simpa using hx⟩
          have hyn : y < n := ((hmem.out y).1 (List.mem_of_getElem? hy)).1
          have cSk := Lib.hid (cS.out i y hlt hyn A3 c3 X hX.out.1)
          have hX2 := Lib.hid (hX.out.set hlt hyn)
          rw [show l.take k ++ [y] = l.take (k + 1) by rw [List.take_succ_eq_append_getElem (List.getElem?_eq_some_iff.1 hy).1, (List.getElem?_eq_some_iff.1 hy).2]] at hX2
          have hk0 : (0 : Int) ≤ (k : Int) := by omega
          have hkm' : (k : Int) < (m : Int) := by omega
          clear hx hx64 hy
          have qk30 := k3.out.1.c0
          have qk31 := k3.out.1.c1
          go_wp2_with fail
          refine wp_region_planT 8 [(true, 0), (true, 1), (true, 2), (true, 3), (true, 4), (true, 5), (false, 6), (true, 7)] 10 [8, 9] (by kernel_rfl) (by kernel_rfl) (fun W1 hW1 => ?_)
          replace k1 := Lib.hid (show MatK W1 w.heap.size 35 n A n c a by rw [hW1.out]; exact k1.out.drew)
          replace s3 := Lib.hid (show RowsG w.heap.size W1 A3 n X by rw [hW1.out]; exact s3.out.below (Below.refl _ _).drew)
          replace k3 := Lib.hid (show MatK W1 G3 35 n A3 n c3 X by rw [hW1.out]; exact k3.out.drew)
          replace m2 := Lib.hid (show MatB W1 (w.heap.size + 1) 35 0 none 0 0 by rw [hW1.out]; exact Blk.drew m2.out)
          replace bb := Lib.hid (show Below w.heap.size w W1 by rw [hW1.out]; exact bb.out.drew)
          replace hl := Lib.hid (show Ints W1 (some ⟨b4, o4, none⟩) m (l.map Int.ofNat) by rw [hW1.out]; exact hl.out)
          replace c4 : W1.cell? ⟨b4, o4 + k, none⟩ = some (.int .i64 (y : Int)) := by rw [hW1.out]; exact c4
          clear hW1 qk30 qk31
          simp only [List.drop_succ_cons, List.drop_zero]
          have qk30 := k3.out.1.c0
          have qk31 := k3.out.1.c1
          iterate 6
            refine wpPlanE_float (v := ?_) rfl (by rfl) (fun w' hw' => ?_) (fun K hK => ?_)
            rotate_left
            · (go_simp; try with_reducible rfl)
            go_simp
            refine hK _ ?_
            clear hK K
          clear c4 qk30 qk31
          refine wpPlanE_only rfl (by rfl) (fun K hK => ?_)
          go_simp
          refine (cSk.out W1 s3.out bb.out.size).mono ?_
          rintro e w3 ⟨D, nn, dd, rfl, sD, hcD, b, -⟩
          have rD := sD.at
          obtain rfl : n = nn := by have := rD.len; have := hX2.out.1.len; omega
          refine hK _ _ b ?_
          clear hK K cSk
          replace m2 := Lib.hid (m2.out.below b)
          replace hl := Lib.hid (hl.out.below b)
          replace k1 := Lib.hid (k1.out.below b)
          replace k3 := Lib.hid (k3.out.below b)
          replace bb := Lib.hid (below_trans2 bb.out b)
          replace rD := Lib.hid rD
          replace sD := Lib.hid sD
          clear s3
          replace hcD := Lib.hid hcD
          clear b
          iterate 1
            refine wpPlanE_float (v := ?_) rfl (by rfl) (fun w' hw' => ?_) (fun K hK => ?_)
            rotate_left
            · (go_simp; try with_reducible rfl)
            go_simp
            refine hK _ ?_
            clear hK K
          refine wpPlanE_nil ?_
          iterate 2
            refine wpPlanT_float (v := ?_) rfl (by rfl) (fun w' => ?_) (fun K hK => ?_)
            rotate_left
            · (go_simp; try with_reducible rfl)
            go_simp
            refine hK _ ?_
            clear hK K
          refine wpPlanT_nil ?_
          have qk30 := k3.out.1.c0
          have qk31 := k3.out.1.c1
          have f0 := k3.out.1.frozen 0
          have f1 := k3.out.1.frozen 1
          go_wp2_with fail
          refine NoPanic.normal ?_
          clear f0 f1 qk30 qk31
          obtain ⟨Wz, hWz⟩ : ∃ X : World, X = (w3.setCell ⟨G3, 0, none⟩ (.int .i64 n)).setCell ⟨G3, 1, none⟩ (.slice D n dd) := ⟨_, rfl⟩
          rw [← hWz]
          have hn0 : 0 < n := by omega
          have k3' := Lib.hid (show MatK Wz G3 35 n D n dd (setM X (i : Int) (y : Int)) by rw [hWz]; exact ⟨k3.out.1.put n D n dd, rD.out.putB k3.out.1 (rD.out.farK k3.out hn0) _ _⟩)
          have s3' := Lib.hid (show RowsG w.heap.size Wz D n (setM X (i : Int) (y : Int)) by rw [hWz]; exact sD.out.putB k3.out.1 (rD.out.farK k3.out hn0) _ _)
          have k1' := Lib.hid (show MatK Wz w.heap.size 35 n A n c a by rw [hWz]; exact MatK.put2 k3.out.1 k1.out (by omega) (k1.out.2.farK k3.out hn0) _ _)
          have m2' := Lib.hid (show MatB Wz (w.heap.size + 1) 35 0 none 0 0 by rw [hWz]; exact (m2.out.farB (p := ⟨G3, 0, none⟩) (by simp <;> omega) _).farB (p := ⟨G3, 1, none⟩) (by simp <;> omega) _)
          have hl' := Lib.hid (show Ints Wz (some ⟨b4, o4, none⟩) m (l.map Int.ofNat) by rw [hWz]; exact (hl.out.setCell (p := ⟨G3, 0, none⟩) (fun ad e => hfr3.out ad e) _).setCell (p := ⟨G3, 1, none⟩) (fun ad e => hfr3.out ad e) _)
          replace bb := Lib.hid (show Below w.heap.size w Wz by rw [hWz]; exact (bb.out.setCell (p := ⟨G3, 0, none⟩) (by simp <;> omega) _).setCell (p := ⟨G3, 1, none⟩) (by simp <;> omega) _)
          clear hWz k1 k3 m2 hl rD sD
          go_wp2_with fail
          go_roundw
          case rel => exact ⟨k + 1, D, dd, _, by omega, by go_num, hX2, hcD, k1', m2', k3', s3', bb, hl'⟩
          case measure => simp [intOf]; omega
        · obtain rfl : k = m := by omega
          rw [List.take_of_length_le (by rw [hlm.out]; exact Nat.le_refl _)] at hX
          have hX2 := Lib.hid (hX.out.next hG.out hmem.out)
          clear hl
          go_wp2_with fail
          go_roundw
          case rel => exact ⟨i + 1, A3, c3, X, by omega, by go_num, hX2, hc3', k1, m2, k3, s3, bb⟩
          case measure => simp [intOf]; omega
    · obtain rfl : i = n := by omega
      have he := hX.out.all hG.out
      have hone := hX.out.1.one hn64
      replace he := Lib.hid he
      replace hone := Lib.hid hone
      have qk30 := k3.out.1.c0
      have qk31 := k3.out.1.c1
      have f0 := m2.out.c0
      have f1 := m2.out.c1
      have g0 := m2.out.frozen 0
      have g1 := m2.out.frozen 1
      clear hX
      go_wp2_with fail
      have hcc := m2.out.two (.int .i64 i) (.slice A3 i c3)
      have hc1 := hcc.1
      have hc2 := hcc.2
      clear hcc f0 f1 g0 g1
      refine bodyPost_ret (v := .agg #[.int .i64 i, .slice A3 i c3]) (by simp [results, Try.results22, go_sem, hc1, hc2]) rfl ⟨_, _, _, rfl, ?_, hc3'.out, ?_⟩
      · rw [← he.out]
        exact s3.out.putB m2.out (k3.out.2.farM m2.out hone.out) _ _
      · exact (bb.out.setCell (p := ⟨w.heap.size + 1, 0, none⟩) (by simp) _).setCell (p := ⟨w.heap.size + 1, 1, none⟩) (by simp) _
theorem ref4_Close (A : Option Addr) (n c : Nat) (a : List (List Nat)) (w : World) (hr : RowsAt w A n a) (hG : Good n a) (hn64 : n < 64) :
    Calls Try.prog 22 #[.agg #[.int .i64 (n : Int), .slice A n c]] w (RetMat1 (n : Int) (closeK a n) w) :=
  (ref4_CloseG A n c a w hr hG hn64).mono fun _ _ ⟨A', n', c', h1, h2, h3, h4⟩ => ⟨A', n', c', h1, h2.at, h3, h4⟩


end Go.Proofs.Ytmgockkjoogcaaa

namespace Go.Proofs.Ytmgockkjoogcaaa
open Go.RowKit
set_option linter.unusedVariables false
theorem foldP_len1024 {n : Nat} (hn : n ≤ 4096) (ps : List (Int × Int)) : ∀ xs ∈ foldP n ps, xs.length ≤ 1024 := poM_len hn ps
set_option maxRecDepth 100000 in
set_option maxHeartbeats 2000000 in
theorem ref13_Rf (v : FV) (f : Fac) (w : World) (hF : FactsAt w v f) (hm : v.m ≤ 4096) (hw : WholeF f) :
    Calls Try.prog 11 #[.agg #[.slice v.A v.n v.c, .slice v.B v.m v.d, .slice v.C v.k v.e]] w (RetMat1F (v.m : Int) (rfM f.items.length f.frm) w) := by
  have hil := hF.is.len
  have hfl := hF.fs.len
  have hkv : v.k = v.m := by rw [← hil, ← hfl]; exact hw.len
  rw [show rfM f.items.length f.frm = foldP v.m (rfPs f.frm v.m) from by unfold rfM; rw [hil, hfl, hkv]]
  have hlt' := hw.lt
  rw [hil] at hlt'
  replace hlt' := Lib.hid hlt'
  have cN := Lib.hid (ref3_NewF v.m hm)
  replace hil := Lib.hid hil
  replace hfl := Lib.hid hfl
  replace hkv := Lib.hid hkv
  -- a call with facts v: they are boxed at g, the world is W0 then
  have hB0 := Lib.hid (FBox.new hF)
  obtain ⟨g, hg⟩ : ∃ g, g = w.heap.size := ⟨_, rfl⟩
  obtain ⟨W0, hW0⟩ : ∃ W, W = w.alloc (.cells #[.slice v.A v.n v.c, .slice v.B v.m v.d, .slice v.C v.k v.e] 29) := ⟨_, rfl⟩
  rw [← hW0, ← hg] at hB0
  clear hF
  obtain ⟨gr, hgr⟩ : ∃ g, g = W0.heap.size := ⟨_, rfl⟩
  obtain ⟨W1, hW1⟩ : ∃ W, W = W0.alloc (.cells #[.int .i64 0, .slice none 0 0] 35) := ⟨_, rfl⟩
  have b1 : Below W0.heap.size W0 W1 := by rw [hW1]; exact (Below.refl _ _).alloc (Nat.le_refl _) _
  have kR : MatB W1 gr 35 0 none 0 0 := by rw [hW1, hgr]; exact MatB.new W0 _
  have hB1 := Lib.hid (hB0.out.later b1)
  have p0 := hB1.out.c0
  have p1 := hB1.out.c1
  have p2 := hB1.out.c2
  go_enter Try.func11, Try.ntmps11
  go_wp2_with (first | (rw [← hW0, ← hg]; clear hW0 hg) | (rw [← hW1, ← hgr]; clear hW1))
  refine (cN.out _).mono ?_; rintro e w2 ⟨C, p, q, rfl, hrows, hcap, b2, hfar⟩
  have hpn : p = v.m := by rw [← hrows.len]; exact (DimM.new v.m).1
  subst hpn
  obtain ⟨M, hM⟩ : ∃ M, M = w2.heap.size := ⟨_, rfl⟩
  obtain ⟨W2, hW2⟩ : ∃ W2, W2 = w2.alloc (.cells #[.int .i64 v.m, .slice C v.m q] 35) := ⟨_, rfl⟩
  have b3 : Below w2.heap.size w2 W2 := by rw [hW2]; exact (Below.refl _ _).alloc (Nat.le_refl _) _
  have hbb := Lib.hid (below_trans2 (below_trans2 b1 b2) b3)
  have hMV := Lib.hid (show MV W2 M v.m C q (foldP v.m (rfPs f.frm 0)) from ⟨by rw [hW2, hM]; exact MatB.new w2 _, by rw [show rfPs f.frm 0 = [] from rfl, foldP_nil]; exact hrows.below b3, hcap, fun h0 ad e => by have := hrows.block_lt h0 ad e; omega⟩)
  have hgrM : gr < M := by have := kR.lt; have := b2.size; omega
  have kR2 := Lib.hid ((kR.below_ b2).below_ b3)
  have hgW : W0.heap.size ≤ gr := by omega
  have hAf := Lib.hid (show ∀ ad, C = some ad → gr < ad.block from fun ad e => by have := hfar ad e; have := kR.lt; omega)
  replace hgr := Lib.hid hgr
  clear hrows hcap b2 b3 hfar kR b1 hB1 p0 p1 p2 cN
  go_wp2_with (rw [← hW2, ← hM]; clear hW2; replace hM := Lib.hid hM)
  go_loopw [5] (fun t wr => ∃ (i : Nat) (A : Option Addr) (c : Nat), i ≤ v.m ∧ t = .int .i64 i ∧ Hid (Below W0.heap.size W0 wr) ∧ Hid (MatB wr gr 35 0 none 0 0) ∧ Hid (MV wr M v.m A c (foldP v.m (rfPs f.frm i))) ∧ Hid (∀ ad, A = some ad → gr < ad.block)) (fun t _ => v.m - (intOf t).toNat)
  case atStart => exact ⟨0, _, _, Nat.zero_le _, rfl, hbb, kR2, hMV, hAf⟩
  case round =>
    clear hbb kR2 hMV hAf
    obtain ⟨i, A, c, hi, rfl, hbb, kR, hMV, hAf⟩ := hrel
    have hB := Lib.hid (hB0.out.later hbb.out)
    by_cases hlt : i < v.m
    · have hik : (i : Int) < (v.k : Int) := by have := hkv.out; omega
      have p0 := hB.out.c0
      have p1 := hB.out.c1
      have p2 := hB.out.c2
      obtain ⟨ib, io, z, hzC, hib, hz, hzo, j0⟩ := hB.out.f.fs.int (show i < v.k by have := hkv.out; omega)
      rw [hzC] at p2
      have hgd : f.frm.getD i 0 = z := by rw [List.getD_eq_getElem?_getD, hz]; rfl
      have hrs := rfPs_succ f.frm i
      rw [hgd] at hrs
      have hzm : z < (v.m : Int) := hlt'.out z (List.mem_of_getElem? hz)
      replace hgd := Lib.hid hgd
      by_cases hz0 : 0 ≤ z
      · rw [if_pos hz0] at hrs
        have e0 : decide (0 ≤ z) = true := decide_eq_true hz0
        have cS := fun W (hW : RowsAt W A v.m (foldP v.m (rfPs f.frm i))) => ref3_SetF (v.m : Int) A v.m c _ z (i : Int) W hW rfl hm (foldP_len1024 hm _) (by unfold inM; simp; omega)
        replace cS := Lib.hid cS
        replace hrs := Lib.hid hrs
        replace hz := Lib.hid hz
        clear hzo hzC hib
        go_wp2_with fail
        refine wp_region_planT 9 [(true, 0), (true, 1), (true, 2), (true, 3), (true, 4), (true, 5), (true, 6), (false, 7), (true, 8)] 11 [9, 10] (by kernel_rfl) (by kernel_rfl) (fun W hW => ?_)
        have hWb : Below wr.heap.size wr W := by rw [hW.out]; exact (Below.refl _ _).drew
        replace hbb := Lib.hid (below_trans2 hbb.out hWb)
        replace kR := Lib.hid (kR.out.below_ hWb)
        replace hMV := Lib.hid (hMV.out.later hWb)
        replace hB := Lib.hid (hB.out.later hWb)
        clear p0 p1 p2 j0 hW hWb
        have p0 := hB.out.c0
        have p1 := hB.out.c1
        have p2 := hB.out.c2
        obtain ⟨ib', io', z', hzC, hib, hz', hzo, j0⟩ := hB.out.f.fs.int (show i < v.k by have := hkv.out; omega)
        rw [hz.out] at hz'
        injection hz' with hz'
        subst hz'
        rw [hzC] at p2
        have m0 := hMV.out.loc.c0
        have m1 := hMV.out.loc.c1
        clear hzo hib hzC
        simp only [List.drop_succ_cons, List.drop_zero]
        iterate 7
          refine wpPlanE_float (v := ?_) rfl (by rfl) (fun w' hw' => ?_) (fun K hK => ?_)
          rotate_left
          · (go_simp; try with_reducible rfl)
          go_simp
          refine hK _ ?_
          clear hK K
        refine wpPlanE_only rfl (by rfl) (fun K hK => ?_)
        go_simp
        refine (cS.out W hMV.out.rows).mono ?_
        rintro e w4 ⟨C2, n2, c2, rfl, hrows2, hcap2, b4, hfar2⟩
        have hn2 : n2 = v.m := by
          have h1 := hrows2.len
          rw [← foldP_last v.m (rfPs f.frm i) (z, (i : Int))] at h1
          rw [← h1]; exact (DimM.fold v.m _).1
        subst hn2
        refine hK _ _ b4 ?_
        clear hK K p0 p1 p2 j0 m0 m1
        have hMV4 := Lib.hid (hMV.out.put b4 hrows2 hcap2 hfar2)
        have hAf4 := Lib.hid (show ∀ ad, C2 = some ad → gr < ad.block from fun ad e => by have := hfar2 ad e; have := kR.out.lt; omega)
        have kM := hMV.out.loc.below_ b4
        have hbb4 := Lib.hid (((below_trans2 hbb.out b4).setCell (p := ⟨M, 0, none⟩) (by show W0.heap.size ≤ M; omega) (.int .i64 (v.m : Int))).setCell (p := ⟨M, 1, none⟩) (by show W0.heap.size ≤ M; omega) (.slice C2 v.m c2))
        have kR4 := Lib.hid (((kR.out.below_ b4).farB (p := ⟨M, 0, none⟩) (by show gr ≠ M; omega) (.int .i64 (v.m : Int))).farB (p := ⟨M, 1, none⟩) (by show gr ≠ M; omega) (.slice C2 v.m c2))
        clear cS hrows2 hfar2 b4
        iterate 1
          refine wpPlanE_float (v := ?_) rfl (by rfl) (fun w' hw' => ?_) (fun K hK => ?_)
          rotate_left
          · (go_simp; try with_reducible rfl)
          go_simp
          refine hK _ ?_
          clear hK K
        refine wpPlanE_nil ?_
        iterate 2
          refine wpPlanT_float (v := ?_) rfl (by rfl) (fun w' => ?_) (fun K hK => ?_)
          rotate_left
          · (go_simp; try with_reducible rfl)
          go_simp
          refine hK _ ?_
          clear hK K
        refine wpPlanT_nil ?_
        have m0 := kM.c0
        have m1 := kM.c1
        have g0 := kM.frozen 0
        have g1 := kM.frozen 1
        clear kM
        go_wp2_with fail
        refine NoPanic.normal ?_
        go_wp2_with fail
        go_roundw
        case rel => exact ⟨i + 1, C2, c2, by omega, by go_num, hbb4, kR4, Lib.hid (by rw [hrs.out, foldP_last]; exact hMV4.out), hAf4⟩
        case measure => simp [intOf]; omega
      · rw [if_neg hz0] at hrs
        have e0 : decide (0 ≤ z) = false := decide_eq_false hz0
        replace hrs := Lib.hid hrs
        clear hzC hz hzo
        go_wp2_with fail
        exact ⟨⟨i + 1, A, c, by omega, by go_num, hbb, kR, Lib.hid (by rw [hrs.out]; exact hMV.out), hAf⟩, by simp [intOf]; omega⟩
    · have hik : ¬ (i : Int) < (v.k : Int) := by have := hkv.out; omega
      have him : i = v.m := by omega
      rw [him] at hMV
      replace him := Lib.hid him
      have p2 := hB.out.c2
      have m0 := hMV.out.loc.c0
      have m1 := hMV.out.loc.c1
      have f0 := kR.out.c0
      have f1 := kR.out.c1
      have g0 := kR.out.frozen 0
      have g1 := kR.out.frozen 1
      have hcc := kR.out.two (.int .i64 (v.m : Int)) (.slice A v.m c)
      have hc1 := Lib.hid hcc.1
      have hc2 := Lib.hid hcc.2
      have hrf := Lib.hid (show RowsAt ((wr.setCell ⟨gr, 0, none⟩ (.int .i64 (v.m : Int))).setCell ⟨gr, 1, none⟩ (.slice A v.m c)) A v.m (foldP v.m (rfPs f.frm v.m)) from hMV.out.rows.putB kR.out (fun h0 ad e hb => by have := hAf.out ad e; omega) _ _)
      have hbf := Lib.hid (((below_trans2 hB0.out.o hbb.out).setCell (p := ⟨gr, 0, none⟩) (by have := hB0.out.o.size; show w.heap.size ≤ gr; omega) (.int .i64 (v.m : Int))).setCell (p := ⟨gr, 1, none⟩) (by have := hB0.out.o.size; show w.heap.size ≤ gr; omega) (.slice A v.m c))
      clear hcc hlt
      go_wp2_with fail
      exact bodyPost_ret (v := .agg #[.int .i64 (v.m : Int), .slice A v.m c]) (by simp [results, Try.results11, go_sem, hc1.out, hc2.out]) rfl ⟨A, v.m, c, rfl, hrf.out, hMV.out.cap, hbf.out, fun ad e => by have := hAf.out ad e; have := hB0.out.o.size; omega⟩
end Go.Proofs.Ytmgockkjoogcaaa
