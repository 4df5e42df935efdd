/- Plain facts of matrices that may be: made of pairs, turned about. -/
import Derived.Test.YtkikoniihmieiaaMatFacts
import Derived.Test.YtkikoniihmieiaaMatTurnB
namespace Go.Proofs.Ytkikoniihmieiaa
open Go.RowKit
set_option linter.unusedVariables false

theorem hasM_setM {n : Nat} {xss : List (List Nat)} (h : Good n xss) {a b : Nat} (ha : a < n) (hb : b < n) (i j : Nat) : hasM (setM xss (a : Int) (b : Int)) (i : Int) (j : Int) = (hasM xss (i : Int) (j : Int) || decide (i = a ∧ j = b)) := by
  obtain ⟨r, hr, hw, hl⟩ := h.at_ ha
  rw [setM_nat hr]
  by_cases hia : i = a
  · subst hia
    rw [hasM_in (set_at hr), hasM_in hr, hasR_setR r b j (by omega)]
    congr 1
    simp
  · rw [decide_eq_false (by omega), Bool.or_false]
    by_cases hi : i < xss.length
    · have hx : xss[i]? = some xss[i] := List.getElem?_eq_getElem hi
      rw [hasM_in hx, hasM_in (xs := xss[i]) (by rw [List.getElem?_set, if_neg (Ne.symm hia)]; exact hx)]
    · rw [hasM_out (xss := xss) (.inr (by omega)), hasM_out (xss := xss.set a (setR r (b : Int))) (.inr (by rw [List.length_set]; omega))]
theorem Good.new {n : Nat} (hn : n ≤ 4096) : Good n (newM n) := by
  refine ⟨hn, by simp [newM], fun r hr => ?_⟩
  have hp : 0 < n := by
    rcases Nat.eq_zero_or_pos n with rfl | hp
    · simp [newM] at hr
    · exact hp
  have he : r = List.replicate (wordsZ (n : Int)).toNat 0 := by unfold newM at hr; exact (List.mem_replicate.1 hr).2
  subst he
  refine ⟨fun x hx => by rw [(List.mem_replicate.1 hx).2]; omega, by rw [List.length_replicate]; exact (words_pos hp).2, by rw [List.length_replicate], fun j _ => hasR_zeros _ _⟩
theorem newM_has (n i j : Nat) : hasM (newM n) (i : Int) (j : Int) = false := by
  by_cases hi : i < n
  · rw [hasM_in (xs := List.replicate (wordsZ (n : Int)).toNat 0) (by unfold newM; rw [List.getElem?_replicate, if_pos hi])]; exact hasR_zeros _ _
  · exact hasM_out (.inr (by simp [newM]; omega))
theorem okP_nat {n : Nat} {x : Int × Int} (h : okP (n : Int) x = true) : ∃ a b : Nat, x = ((a : Int), (b : Int)) ∧ a < n ∧ b < n := by
  obtain ⟨i, j⟩ := x
  have h' : (((0 ≤ i) ∧ i < (n : Int)) ∧ 0 ≤ j) ∧ j < (n : Int) := by simpa [okP, inM] using h
  obtain ⟨⟨⟨i0, i1⟩, j0⟩, j1⟩ := h'
  obtain ⟨a, rfl⟩ := Int.eq_ofNat_of_zero_le i0
  obtain ⟨b, rfl⟩ := Int.eq_ofNat_of_zero_le j0
  exact ⟨a, b, rfl, by omega, by omega⟩
theorem fold_facts {n : Nat} : ∀ (ps : List (Int × Int)) (m : List (List Nat)), Good n m → (∀ x ∈ ps, okP (n : Int) x = true) →
    Good n (ps.foldl setP m) ∧ ∀ i j : Nat, hasM (ps.foldl setP m) (i : Int) (j : Int) = (hasM m (i : Int) (j : Int) || decide (((i : Int), (j : Int)) ∈ ps))
  | [], m, hG, _ => ⟨hG, fun i j => by simp⟩
  | p :: ps, m, hG, hok => by
    obtain ⟨a, b, rfl, ha, hb⟩ := okP_nat (hok p (List.mem_cons_self ..))
    have h := fold_facts ps (setP m ((a : Int), (b : Int))) (hG.set ha hb) (fun x hx => hok x (List.mem_cons_of_mem _ hx))
    refine ⟨h.1, fun i j => ?_⟩
    rw [List.foldl_cons, h.2 i j]
    unfold setP
    rw [hasM_setM hG ha hb, Bool.or_assoc]
    congr 1
    simp only [List.mem_cons, Prod.mk.injEq, Int.natCast_inj, Bool.decide_or]
theorem foldP_facts {n : Nat} (hn : n ≤ 4096) (ps : List (Int × Int)) (hok : ∀ x ∈ ps, okP (n : Int) x = true) :
    Good n (foldP n ps) ∧ ∀ i j : Nat, hasM (foldP n ps) (i : Int) (j : Int) = decide (((i : Int), (j : Int)) ∈ ps) := by
  have h := fold_facts ps (newM n) (Good.new hn) hok
  refine ⟨h.1, fun i j => ?_⟩
  have := h.2 i j
  rw [newM_has, Bool.false_or] at this
  exact this
theorem good_ext {n : Nat} {a b : List (List Nat)} (ha : Good n a) (hb : Good n b) (h : ∀ i j : Nat, i < n → j < n → hasM a (i : Int) (j : Int) = hasM b (i : Int) (j : Int)) : a = b := by
  apply List.ext_getElem?
  intro i
  by_cases hi : i < n
  · obtain ⟨r, hr, hw, hl⟩ := ha.at_ hi
    obtain ⟨s, hs, hw2, hl2⟩ := hb.at_ hi
    rw [hr, hs]
    have h1 := ha.row r (List.mem_of_getElem? hr)
    have h2 := hb.row s (List.mem_of_getElem? hs)
    congr 1
    refine row_ext hw hw2 (by rw [h1.2.2.1, h2.2.2.1]) (fun j _ => ?_)
    by_cases hj : j < n
    · have := h i j hi hj
      rw [hasM_in hr, hasM_in hs] at this; exact this
    · rw [h1.2.2.2 j (by omega), h2.2.2.2 j (by omega)]
  · rw [List.getElem?_eq_none (by rw [ha.len]; omega), List.getElem?_eq_none (by rw [hb.len]; omega)]
theorem mem_pairsM (xss : List (List Nat)) (i j : Nat) : ((i : Int), (j : Int)) ∈ pairsM xss ↔ hasM xss (i : Int) (j : Int) = true := by
  unfold pairsM pairsK
  rw [List.mem_flatMap]
  constructor
  · rintro ⟨k, hk, hm⟩
    obtain ⟨z, hz, he⟩ := List.mem_map.1 hm
    simp only [Prod.mk.injEq, Int.natCast_inj] at he
    obtain ⟨rfl, rfl⟩ := he
    have hk' : k < xss.length := List.mem_range.1 hk
    have hx : xss[k]? = some xss[k] := List.getElem?_eq_getElem hk'
    rw [getD_at hx] at hz
    obtain ⟨u, hu, he⟩ := List.mem_map.1 hz
    rw [hasM_in hx]
    have hju : u = j := Int.ofNat.inj he
    subst hju
    exact ((listN_mem _ _).1 hu).2
  · intro h
    by_cases hi : i < xss.length
    · have hx : xss[i]? = some xss[i] := List.getElem?_eq_getElem hi
      rw [hasM_in hx] at h
      refine ⟨i, List.mem_range.2 hi, List.mem_map.2 ⟨(j : Int), ?_, rfl⟩⟩
      rw [getD_at hx]
      refine List.mem_map.2 ⟨j, (listN_mem _ _).2 ⟨?_, h⟩, rfl⟩
      by_cases hj : j < 64 * (xss[i]).length
      · exact hj
      · rw [hasR_out _ _ (.inr (by omega))] at h; cases h
    · rw [hasM_out (.inr (by omega))] at h; cases h
theorem pairsM_nat {xss : List (List Nat)} {x : Int × Int} (h : x ∈ pairsM xss) : ∃ i j : Nat, x = ((i : Int), (j : Int)) ∧ hasM xss (i : Int) (j : Int) = true := by
  have h0 := h
  unfold pairsM pairsK at h
  rw [List.mem_flatMap] at h
  obtain ⟨k, hk, hm⟩ := h
  obtain ⟨z, hz, he⟩ := List.mem_map.1 hm
  obtain ⟨u, hu, he2⟩ := List.mem_map.1 hz
  subst he he2
  exact ⟨k, u, rfl, (mem_pairsM _ _ _).1 h0⟩
theorem Good.has_lt {n : Nat} {xss : List (List Nat)} (h : Good n xss) {i j : Nat} (hh : hasM xss (i : Int) (j : Int) = true) : i < n ∧ j < n := by
  by_cases hi : i < n
  · obtain ⟨r, hr, hw, hl⟩ := h.at_ hi
    refine ⟨hi, ?_⟩
    by_cases hj : j < n
    · exact hj
    · rw [hasM_in hr, (h.row r (List.mem_of_getElem? hr)).2.2.2 j (by omega)] at hh; cases hh
  · rw [hasM_out (.inr (by rw [h.len]; omega))] at hh; cases hh
theorem Good.ok {n : Nat} {xss : List (List Nat)} (h : Good n xss) : ∀ x ∈ pairsM xss, okP (n : Int) x = true := fun x hx => by
  obtain ⟨i, j, rfl, hh⟩ := pairsM_nat hx
  obtain ⟨h1, h2⟩ := h.has_lt hh
  unfold okP inM; simp; omega
/-- a matrix is made again of its pairs -/
theorem fold_back {n : Nat} {xss : List (List Nat)} (h : Good n xss) : foldP n (pairsM xss) = xss := by
  have hf := foldP_facts h.le (pairsM xss) h.ok
  refine good_ext hf.1 h (fun i j _ _ => ?_)
  rw [hf.2 i j]
  cases hh : hasM xss (i : Int) (j : Int) with
  | true => exact decide_eq_true ((mem_pairsM _ _ _).2 hh)
  | false => exact decide_eq_false (fun hm => by rw [(mem_pairsM _ _ _).1 hm] at hh; cases hh)

theorem words_one {n : Nat} (h0 : 0 < n) (h : n < 64) : (wordsZ (n : Int)).toNat = 1 := by
  unfold wordsZ; rw [if_neg (by omega)]; omega
theorem Good.one {n : Nat} {xss : List (List Nat)} (h : Good n xss) (hn : n < 64) : ∀ r ∈ xss, r.length = 1 := fun r hr => by
  have hp : 0 < n := by
    rcases Nat.eq_zero_or_pos n with rfl | hp
    · have : xss = [] := List.eq_nil_of_length_eq_zero h.len
      rw [this] at hr; cases hr
    · exact hp
  rw [(h.row r hr).2.2.1, words_one hp hn]
theorem turnM_bit {n : Nat} {xss : List (List Nat)} (h : Good n xss) (hn : n < 64) {r : Nat} (hr : r < n) : ∃ x : Nat, (turnM xss)[r]? = some [x] ∧ x < 18446744073709551616 ∧ ∀ j : Nat, x.testBit j = hasM xss (j : Int) (r : Int) := by
  unfold turnM
  rw [h.len]
  have hw : W64 (padK xss n) := padK_w64 (fun xs hx => (h.row xs hx).1) n
  have hfw := flipB_w64 hw
  refine ⟨(flipB (padK xss n)).getD r 0, by rw [layK_get _ _ hr, if_pos hr], getD_w64 hfw r, fun j => ?_⟩
  by_cases hj : j < 64
  · rw [flipB_bit _ r j (by omega) hj, padK_get _ hj]
    by_cases hjn : j < n
    · rw [if_pos hjn]
      obtain ⟨xs, hx, _, _⟩ := h.at_ hjn
      rw [getD_at hx, hasM_in hx, hasR_nat, Nat.div_eq_of_lt (by omega), Nat.mod_eq_of_lt (by omega)]
    · rw [if_neg hjn, hasM_out (.inr (by rw [h.len]; omega))]; simp
  · rw [hasM_out (.inr (by rw [h.len]; omega))]
    exact bit_out (getD_w64 hfw r) (by omega)
theorem hasR_single (x j : Nat) (hx : x < 18446744073709551616) : hasR [x] (j : Int) = x.testBit j := by
  rw [hasR_nat]
  by_cases hj : j < 64
  · rw [Nat.div_eq_of_lt hj, Nat.mod_eq_of_lt hj]; rfl
  · have h1 : 1 ≤ j / 64 := by omega
    rw [getD_out [x] (j / 64) (by simpa using h1), bit_out hx (by omega)]; simp
theorem turnM_has {n : Nat} {xss : List (List Nat)} (h : Good n xss) (hn : n < 64) (i j : Nat) : hasM (turnM xss) (i : Int) (j : Int) = hasM xss (j : Int) (i : Int) := by
  by_cases hi : i < n
  · obtain ⟨x, hx, hx64, hb⟩ := turnM_bit h hn hi
    rw [hasM_in hx, hasR_single x j hx64, hb j]
  · have hl : (turnM xss).length = n := by unfold turnM; rw [layK_len, h.len]
    rw [hasM_out (.inr (by rw [hl]; omega))]
    cases hh : hasM xss (j : Int) (i : Int) with
    | false => rfl
    | true => exact absurd (h.has_lt hh).2 hi
theorem Good.turn {n : Nat} {xss : List (List Nat)} (h : Good n xss) (hn : n < 64) : Good n (turnM xss) := by
  refine ⟨h.le, by unfold turnM; rw [layK_len, h.len], fun r hr => ?_⟩
  obtain ⟨i, hi⟩ := List.getElem?_of_mem hr
  have hin : i < n := by
    have := (List.getElem?_eq_some_iff.1 hi).1
    unfold turnM at this; rwa [layK_len, h.len] at this
  obtain ⟨x, hx, hx64, hb⟩ := turnM_bit h hn hin
  rw [hi] at hx
  injection hx with hx
  subst hx
  refine ⟨fun y hy => by rw [List.mem_singleton.1 hy]; exact hx64, by simp; omega, by rw [words_one (by omega) hn]; rfl, fun j hj => ?_⟩
  rw [hasR_single x j hx64, hb j]
  exact hasM_out (.inr (by rw [h.len]; omega))
theorem turn_turn {n : Nat} {xss : List (List Nat)} (h : Good n xss) (hn : n < 64) : turnM (turnM xss) = xss :=
  good_ext ((h.turn hn).turn hn) h (fun i j _ _ => by rw [turnM_has (h.turn hn) hn, turnM_has h hn])
theorem mem_turned (ps : List (Int × Int)) (i j : Int) : (i, j) ∈ ps.map (fun x => (x.2, x.1)) ↔ (j, i) ∈ ps := by
  rw [List.mem_map]
  constructor
  · rintro ⟨⟨a, b⟩, h, he⟩
    simp only [Prod.mk.injEq] at he
    obtain ⟨rfl, rfl⟩ := he
    exact h
  · intro h; exact ⟨(j, i), h, rfl⟩
theorem Good.okT {n : Nat} {xss : List (List Nat)} (h : Good n xss) : ∀ x ∈ (pairsM xss).map (fun x => (x.2, x.1)), okP (n : Int) x = true := fun x hx => by
  obtain ⟨y, hy, rfl⟩ := List.mem_map.1 hx
  obtain ⟨i, j, rfl, hh⟩ := pairsM_nat hy
  obtain ⟨h1, h2⟩ := h.has_lt hh
  unfold okP inM; simp; omega
/-- what the pairs turned about make is the matrix turned about -/
theorem fold_turned {n : Nat} {xss : List (List Nat)} (h : Good n xss) (hn : n < 64) : foldP n ((pairsM xss).map fun x => (x.2, x.1)) = turnM xss := by
  have hf := foldP_facts h.le _ h.okT
  refine good_ext hf.1 (h.turn hn) (fun i j _ _ => ?_)
  rw [hf.2 i j, turnM_has h hn]
  cases hh : hasM xss (j : Int) (i : Int) with
  | true => exact decide_eq_true ((mem_turned _ _ _).2 ((mem_pairsM _ _ _).2 hh))
  | false => exact decide_eq_false (fun hm => by rw [(mem_pairsM _ _ _).1 ((mem_turned _ _ _).1 hm)] at hh; cases hh)
def sumF (n : Nat) (f : Nat → Nat) : Nat := ((List.range n).map f).sum
theorem sumF_succ (n : Nat) (f : Nat → Nat) : sumF (n + 1) f = sumF n f + f n := by
  unfold sumF; rw [List.range_succ, List.map_append, List.sum_append]; simp
theorem sumF_congr {n : Nat} {f g : Nat → Nat} (h : ∀ i, i < n → f i = g i) : sumF n f = sumF n g := by
  unfold sumF; congr 1; exact List.map_congr_left fun i hi => h i (List.mem_range.1 hi)
theorem sumF_add (n : Nat) (f g : Nat → Nat) : sumF n (fun i => f i + g i) = sumF n f + sumF n g := by
  induction n with
  | zero => rfl
  | succ n ih => rw [sumF_succ, sumF_succ, sumF_succ, ih]; omega
theorem sumF_zero (n : Nat) : sumF n (fun _ => 0) = 0 := by
  induction n with
  | zero => rfl
  | succ n ih => rw [sumF_succ, ih]
theorem sumF_swap (a b : Nat) (f : Nat → Nat → Nat) : sumF a (fun i => sumF b fun j => f i j) = sumF b (fun j => sumF a fun i => f i j) := by
  induction a with
  | zero => exact (sumF_zero b).symm
  | succ a ih =>
    rw [sumF_succ, ih, ← sumF_add]
    exact sumF_congr fun j _ => (sumF_succ a _).symm
theorem count_sum (n : Nat) (p : Nat → Bool) : ∀ N, n ≤ N → (∀ j, n ≤ j → p j = false) → ((List.range N).filter p).length = sumF n fun j => (p j).toNat := by
  have h0 : ∀ k, ((List.range k).filter p).length = sumF k fun j => (p j).toNat := by
    intro k
    induction k with
    | zero => rfl
    | succ k ih =>
      rw [List.range_succ, List.filter_append, List.length_append, ih, sumF_succ]
      cases h : p k <;> simp [h]
  intro N hN hz
  rw [h0 N]
  obtain ⟨d, rfl⟩ := Nat.exists_eq_add_of_le hN
  clear hN h0
  induction d with
  | zero => rfl
  | succ d ih => rw [← Nat.add_assoc, sumF_succ, ih, hz (n + d) (by omega)]; rfl
theorem pairs_sum {n : Nat} {xss : List (List Nat)} (h : Good n xss) : (pairsM xss).length = sumF n fun i => sumF n fun j => (hasM xss (i : Int) (j : Int)).toNat := by
  rw [pairsM_len, ← map_range_getD xss [] countR, h.len]
  refine sumF_congr fun i hi => ?_
  obtain ⟨r, hr, hw, hl⟩ := h.at_ hi
  show countR (xss.getD i []) = _
  rw [getD_at hr, ← count_far r (64 * r.length) (Nat.le_refl _), count_sum n _ _ hl (fun j hj => (h.row r (List.mem_of_getElem? hr)).2.2.2 j hj)]
  exact sumF_congr fun j _ => by rw [hasM_in hr]
/-- as many pairs, turned about -/
theorem turn_pairs {n : Nat} {xss : List (List Nat)} (h : Good n xss) (hn : n < 64) : (pairsM (turnM xss)).length = (pairsM xss).length := by
  rw [pairs_sum (h.turn hn), pairs_sum h, sumF_swap]
  exact sumF_congr fun j _ => sumF_congr fun i _ => by rw [turnM_has h hn]

end Go.Proofs.Ytkikoniihmieiaa
