/- Plain facts of rows: what the statements of layer 2 say of them. -/
import Derived.Test.YtkikoniihmieiaaRowRef
import Derived.OpenShut
namespace Go.Proofs.Ytkikoniihmieiaa
open Go.RowKit
set_option linter.unusedVariables false

def W64 (xs : List Nat) : Prop := ∀ x ∈ xs, x < 18446744073709551616
theorem getD_w64 {xs : List Nat} (h : W64 xs) (j : Nat) : xs.getD j 0 < 18446744073709551616 := by
  rw [List.getD_eq_getElem?_getD]
  cases hx : xs[j]? with
  | none => simp
  | some x => simpa using h x (List.mem_of_getElem? hx)
theorem bit_out {x r : Nat} (hx : x < 18446744073709551616) (hr : 64 ≤ r) : x.testBit r = false :=
  Nat.testBit_lt_two_pow (Nat.lt_of_lt_of_le hx (by rw [show (18446744073709551616 : Nat) = 2 ^ 64 from rfl]; exact Nat.pow_le_pow_right (by omega) hr))
theorem hasR_w (xs : List Nat) (k r : Nat) (hr : r < 64) : hasR xs ((64 * k + r : Nat) : Int) = (xs.getD k 0).testBit r := by
  rw [hasR_nat, show (64 * k + r) / 64 = k from by omega, show (64 * k + r) % 64 = r from by omega]
/-- rows of one length with the same bits are the same -/
theorem row_ext {a b : List Nat} (ha : W64 a) (hb : W64 b) (hl : a.length = b.length) (h : ∀ i : Nat, i < 64 * a.length → hasR a (i : Int) = hasR b (i : Int)) : a = b := by
  apply List.ext_getElem hl
  intro k h1 h2
  apply Nat.eq_of_testBit_eq; intro r
  have ea : a[k] = a.getD k 0 := by rw [List.getD_eq_getElem?_getD, List.getElem?_eq_getElem h1]; rfl
  have eb : b[k] = b.getD k 0 := by rw [List.getD_eq_getElem?_getD, List.getElem?_eq_getElem h2]; rfl
  rw [ea, eb]
  by_cases hr : r < 64
  · rw [← hasR_w a k r hr, ← hasR_w b k r hr]; exact h _ (by omega)
  · rw [bit_out (getD_w64 ha k) (by omega), bit_out (getD_w64 hb k) (by omega)]
theorem setR_len (xs : List Nat) (i : Int) : (setR xs i).length = xs.length := by
  unfold setR; split <;> simp
theorem setR_w64 {xs : List Nat} (h : W64 xs) (m : Nat) : W64 (setR xs (m : Int)) := by
  by_cases hm : m < 64 * xs.length
  · have hx : xs[m / 64]? = some xs[m / 64] := List.getElem?_eq_getElem (by omega)
    rw [setR_in hm hx]
    exact mem_set_lt h (or_p2_lt (h _ (List.mem_of_getElem? hx)) (by omega))
  · rw [setR_out (.inr (by omega))]; exact h
theorem hasR_setR (xs : List Nat) (m j : Nat) (hm : m < 64 * xs.length) : hasR (setR xs (m : Int)) (j : Int) = (hasR xs (j : Int) || decide (j = m)) := by
  have hx : xs[m / 64]? = some xs[m / 64] := List.getElem?_eq_getElem (by omega)
  rw [setR_in hm hx, hasR_nat, hasR_nat, List.getD_eq_getElem?_getD, List.getD_eq_getElem?_getD, List.getElem?_set]
  by_cases h1 : m / 64 = j / 64
  · rw [if_pos h1, if_pos (by omega), ← h1, hx]
    simp only [Option.getD_some]
    rw [Nat.testBit_or]; unfold p2; rw [Nat.testBit_two_pow]
    by_cases h2 : j = m
    · subst h2; simp
    · rw [decide_eq_false h2, decide_eq_false (by omega)]
  · rw [if_neg h1, decide_eq_false (by rintro rfl; exact h1 rfl), Bool.or_false]
theorem setR_has {xs : List Nat} (h : W64 xs) (m : Nat) (hh : hasR xs (m : Int) = true) : setR xs (m : Int) = xs := by
  by_cases hm : m < 64 * xs.length
  · refine row_ext (setR_w64 h m) h (setR_len xs m) fun i _ => ?_
    rw [hasR_setR xs m i hm]
    by_cases hi : i = m
    · subst hi; rw [hh]; rfl
    · rw [decide_eq_false hi, Bool.or_false]
  · exact setR_out (.inr (by omega))
theorem setR_twice {xs : List Nat} (h : W64 xs) (m : Nat) : setR (setR xs (m : Int)) (m : Int) = setR xs (m : Int) := by
  by_cases hm : m < 64 * xs.length
  · exact setR_has (setR_w64 h m) m (by rw [hasR_setR xs m m hm]; simp)
  · rw [setR_out (.inr (by rw [setR_len]; omega))]
theorem subR_setR {xs : List Nat} (h : W64 xs) (m : Nat) : subR xs (setR xs (m : Int)) = true := by
  rw [subR_iff xs _ h]; intro i hi
  by_cases hm : m < 64 * xs.length
  · rw [hasR_setR xs m i hm, hi]; rfl
  · rw [setR_out (.inr (by omega))]; exact hi
theorem count_add (N m : Nat) (p q : Nat → Bool) (hm : m < N) (hp : p m = false) (hq : ∀ j, q j = (p j || decide (j = m))) : ((List.range N).filter q).length = ((List.range N).filter p).length + 1 := by
  induction N with
  | zero => omega
  | succ N ih =>
    rw [List.range_succ, List.filter_append, List.filter_append, List.length_append, List.length_append]
    by_cases h : m < N
    · rw [ih h]
      have : q N = p N := by rw [hq, decide_eq_false (by omega), Bool.or_false]
      simp [List.filter_cons, this]; split <;> simp <;> omega
    · obtain rfl : m = N := by omega
      have h1 : (List.range m).filter q = (List.range m).filter p := List.filter_congr fun j hj => by
        have := List.mem_range.1 hj
        rw [hq, decide_eq_false (by omega), Bool.or_false]
      rw [h1]; simp [hq, hp]
theorem countR_setR (xs : List Nat) (m : Nat) (hm : m < 64 * xs.length) (hh : hasR xs (m : Int) = false) : countR (setR xs (m : Int)) = countR xs + 1 := by
  rw [countR_list, countR_list]; unfold listN; rw [setR_len]
  exact count_add _ m _ _ hm hh (fun j => hasR_setR xs m j hm)

/-! ### both together -/
theorem orR_len (a b : List Nat) : (orR a b).length = max a.length b.length := by simp [orR]
theorem orR_getD (a b : List Nat) (k : Nat) : (orR a b).getD k 0 = a.getD k 0 ||| b.getD k 0 := by
  unfold orR
  rw [List.getD_eq_getElem?_getD, List.getElem?_map]
  by_cases h : k < max a.length b.length
  · rw [List.getElem?_range h]; rfl
  · rw [List.getElem?_eq_none (by simpa using h), getD_out a k (by omega), getD_out b k (by omega)]; rfl
theorem hasR_orR (a b : List Nat) (i : Nat) : hasR (orR a b) (i : Int) = (hasR a (i : Int) || hasR b (i : Int)) := by
  rw [hasR_nat, hasR_nat, hasR_nat, orR_getD, Nat.testBit_or]
theorem orR_w64 {a b : List Nat} (ha : W64 a) (hb : W64 b) : W64 (orR a b) := by
  intro x hx
  unfold orR at hx
  obtain ⟨j, _, rfl⟩ := List.mem_map.1 hx
  exact Nat.or_lt_two_pow (n := 64) (getD_w64 ha j) (getD_w64 hb j)
theorem subR_orl {a b : List Nat} (ha : W64 a) : subR a (orR a b) = true := by
  rw [subR_iff a _ ha]; intro i hi; rw [hasR_orR, hi]; rfl
theorem subR_orr {a b : List Nat} (hb : W64 b) : subR b (orR a b) = true := by
  rw [subR_iff b _ hb]; intro i hi; rw [hasR_orR, hi, Bool.or_true]
theorem sameR_refl (a : List Nat) : sameR a a = true := by unfold sameR; exact beq_self_eq_true a
theorem sameI_refl (a : List Int) : sameI a a = true := by unfold sameI; exact beq_self_eq_true a
/-- how many, counted up to any number that is far enough -/
theorem count_far (xs : List Nat) (N : Nat) (hN : 64 * xs.length ≤ N) : ((List.range N).filter fun i : Nat => hasR xs (i : Int)).length = countR xs := by
  obtain ⟨d, rfl⟩ : ∃ d, N = 64 * xs.length + d := ⟨N - 64 * xs.length, by omega⟩
  rw [List.range_add, List.filter_append, List.length_append, List.filter_map, countR_list]
  have : (List.range d).filter ((fun i : Nat => hasR xs (i : Int)) ∘ (64 * xs.length + ·)) = [] := by
    rw [List.filter_eq_nil_iff]; intro j _
    show ¬ hasR xs ((64 * xs.length + j : Nat) : Int) = true
    rw [hasR_out xs _ (.inr (by omega))]; simp
  rw [this]; rfl
theorem count_mono (N : Nat) (p q : Nat → Bool) (h : ∀ j, j < N → p j = true → q j = true) : ((List.range N).filter p).length ≤ ((List.range N).filter q).length ∧ (∀ m, m < N → p m = false → q m = true → ((List.range N).filter p).length < ((List.range N).filter q).length) := by
  induction N with
  | zero => simp
  | succ N ih =>
    obtain ⟨i1, i2⟩ := ih (fun j hj => h j (by omega))
    simp only [List.range_succ, List.filter_append, List.length_append]
    have h1 : ([N].filter p).length ≤ ([N].filter q).length := by
      cases hp : p N with
      | false => simp [hp]
      | true => simp [hp, h N (by omega) hp]
    refine ⟨by omega, fun m hm hp hq => ?_⟩
    by_cases hmN : m < N
    · have := i2 m hmN hp hq; omega
    · obtain rfl : m = N := by omega
      have h2 : ([m].filter p).length < ([m].filter q).length := by simp [hp, hq]
      omega
theorem subR_count {a b : List Nat} (ha : W64 a) : subR a b = decide (countR (orR a b) = countR b) := by
  have e1 : countR (orR a b) = ((List.range (64 * (orR a b).length)).filter fun i : Nat => hasR (orR a b) (i : Int)).length := (count_far _ _ (Nat.le_refl _)).symm
  have e2 : countR b = ((List.range (64 * (orR a b).length)).filter fun i : Nat => hasR b (i : Int)).length := (count_far b _ (by rw [orR_len]; omega)).symm
  rw [e1, e2]
  obtain ⟨hle, hlt⟩ := count_mono (64 * (orR a b).length) (fun i : Nat => hasR b (i : Int)) (fun i : Nat => hasR (orR a b) (i : Int)) (fun j _ hj => by rw [hasR_orR, hj, Bool.or_true])
  rw [Bool.eq_iff_iff, subR_iff a b ha, decide_eq_true_iff]
  constructor
  · intro h
    congr 1
    refine List.filter_congr fun j _ => ?_
    rw [hasR_orR]
    cases h1 : hasR a (j : Int) with
    | false => rfl
    | true => rw [h j h1]; rfl
  · intro h i hi
    cases hb : hasR b (i : Int) with
    | true => rfl
    | false =>
      exfalso
      have hi64 : i < 64 * (orR a b).length := by
        rcases Nat.lt_or_ge i (64 * (orR a b).length) with h' | h'
        · exact h'
        · rw [hasR_out a i (.inr (by rw [orR_len] at h'; omega))] at hi; cases hi
      have := hlt i hi64 hb (by rw [hasR_orR, hi]; rfl)
      omega

/-! ### a row of its list -/
theorem listN_rises (xs : List Nat) (k i j : Nat) (hi : (listN xs)[k]? = some i) (hj : (listN xs)[k + 1]? = some j) : i < j := by
  have hp : (listN xs).Pairwise (· < ·) := List.pairwise_lt_range.filter _
  obtain ⟨h1, e1⟩ := List.getElem?_eq_some_iff.1 hi
  obtain ⟨h2, e2⟩ := List.getElem?_eq_some_iff.1 hj
  rw [← e1, ← e2]
  exact List.pairwise_iff_getElem.1 hp k (k + 1) h1 h2 (by omega)
def setN (r : List Nat) (i : Nat) : List Nat := setR r (i : Int)
/-- the bits of l, set one by one in a row of n words -/
def setAll (n : Nat) (l : List Nat) : List Nat := l.foldl setN (List.replicate n 0)
theorem setAll_snoc (n : Nat) (l : List Nat) (i : Nat) : setAll n (l ++ [i]) = setR (setAll n l) (i : Int) := by
  unfold setAll; rw [List.foldl_append]; rfl
theorem hasR_zeros (n i : Nat) : hasR (List.replicate n 0) (i : Int) = false := by
  rw [hasR_nat, List.getD_eq_getElem?_getD, List.getElem?_replicate]
  split <;> simp
theorem setAll_facts (n : Nat) (l : List Nat) (h : ∀ i ∈ l, i < 64 * n) : (setAll n l).length = n ∧ W64 (setAll n l) ∧ ∀ j : Nat, hasR (setAll n l) (j : Int) = decide (j ∈ l) := by
  have : ∀ (r : List Nat), (∀ i ∈ l, i < 64 * r.length) → W64 r → (l.foldl setN r).length = r.length ∧ W64 (l.foldl setN r) ∧ ∀ j : Nat, hasR (l.foldl setN r) (j : Int) = (hasR r (j : Int) || decide (j ∈ l)) := by
    clear h
    induction l with
    | nil => intro r _ hw; exact ⟨rfl, hw, fun j => by simp⟩
    | cons i l ih =>
      intro r hl hw
      have hi := hl i (by simp)
      obtain ⟨h1, h2, h3⟩ := ih (setR r (i : Int)) (fun j hj => by rw [setR_len]; exact hl j (by simp [hj])) (setR_w64 hw i)
      refine ⟨h1.trans (setR_len r i), h2, fun j => ?_⟩
      show hasR (l.foldl _ (setR r (i : Int))) (j : Int) = _
      rw [h3 j, hasR_setR r i j hi, Bool.or_assoc]
      congr 1
      simp
  obtain ⟨h1, h2, h3⟩ := this (List.replicate n 0) (by simpa using h) (fun x hx => by have := (List.mem_replicate.1 hx).2; omega)
  refine ⟨h1.trans List.length_replicate, h2, fun j => ?_⟩
  have := h3 j
  rw [hasR_zeros, Bool.false_or] at this
  exact this
theorem setAll_back {xs : List Nat} (h : W64 xs) : setAll xs.length (listN xs) = xs := by
  obtain ⟨h1, h2, h3⟩ := setAll_facts xs.length (listN xs) (fun i hi => ((listN_mem xs i).1 hi).1)
  refine row_ext h2 h h1 fun i hi => ?_
  rw [h1] at hi
  rw [h3, Bool.eq_iff_iff, decide_eq_true_iff, listN_mem]
  exact ⟨fun h => h.2, fun h => ⟨hi, h⟩⟩

/-- what the statement's frame tells of an argument -/
theorem row_of_is {w : World} {A : Option Addr} {n c : Nat} {zs : List Int}
    (h : (A = none ∧ n = 0 ∧ c = 0 ∧ zs = []) ∨ ∃ x, A = some x ∧ n ≤ c ∧ c ≤ maxLen ∧ zs.length = c ∧ (∀ i, i < zs.length → w.cell? (x.add i) = some (.int .u64 (zs.getD i 0))) ∧ ∀ n ∈ zs, (Lit.int .u64 n).wf = true) : ∃ xs, Row w A n xs ∧ n ≤ 9223372036854775807 := by
  have hle : n ≤ 9223372036854775807 := by
    rcases h with ⟨_, h0, _⟩ | ⟨_, _, h1, h2, _⟩
    · omega
    · unfold maxLen at h2; omega
  suffices h' : ∃ xs, Row w A n xs from h'.imp fun xs hx => ⟨hx, hle⟩
  rcases h with ⟨rfl, rfl, rfl, rfl⟩ | ⟨⟨b, off, spot⟩, rfl, hl, hm, hz, hcell, hwz⟩
  · exact ⟨[], Row.nil _ _⟩
  · by_cases h0 : n = 0
    · subst h0; exact ⟨[], Row.nil _ _⟩
    · have hc := hcell 0 (by omega)
      have hspot : spot = none := by simpa [Addr.add] using World.cell?_spot hc
      subst hspot
      have hadd : ∀ j, (⟨b, off, none⟩ : Addr).add j = ⟨b, off + j, none⟩ := fun j => by unfold Addr.add; split <;> simp_all
      have hval : ∀ z ∈ zs, 0 ≤ z ∧ z < 18446744073709551616 := fun z hz' => by have := bounds_u64 (hwz z hz'); omega
      refine ⟨(zs.take n).map Int.toNat, ⟨by simp; omega, fun _ => ⟨b, off, rfl, ?_, fun j u hu => ?_⟩⟩, fun x hx => ?_⟩
      · have := World.block_lt_of_cell? w _ hc
        rwa [hadd] at this
      · rw [List.map_map, List.getElem?_map] at hu
        cases hx : (zs.take n)[j]? with
        | none => rw [hx] at hu; cases hu
        | some z =>
          rw [hx] at hu
          have hj : j < n := by have := (List.getElem?_eq_some_iff.1 hx).1; rw [List.length_take] at this; omega
          rw [List.getElem?_take_of_lt hj] at hx
          have h1 := hcell j (by omega)
          have h2 : zs.getD j 0 = z := by rw [List.getD_eq_getElem?_getD, hx]; rfl
          have h3 := hval z (List.mem_of_getElem? hx)
          rw [hadd, h2] at h1
          rw [h1]
          have : u64v z.toNat = u := by simpa using hu
          rw [← this]; unfold u64v; rw [Int.toNat_of_nonneg h3.1]
      · obtain ⟨z, hz1, rfl⟩ := List.mem_map.1 hx
        have := hval z (List.mem_of_mem_take hz1); omega

end Go.Proofs.Ytkikoniihmieiaa
