/- Plain mathematics of rows of words. -/
import Derived.Test.YtkikoniihmieiaaWordRef
import Derived.Test.YtkikoniihmieiaaMem
namespace Go.Proofs.Ytkikoniihmieiaa
open Go.RowKit
set_option linter.unusedVariables false

def wordsZ (n : Int) : Int := if n < 0 then 0 else (n + 63) / 64
def inR (n : Nat) (i : Int) : Bool := decide (0 ≤ i) && decide (i < 64 * (n : Int))
/-- is the bit i set? -/
def hasR (xs : List Nat) (i : Int) : Bool := decide (0 ≤ i) && (xs.getD (i.toNat / 64) 0).testBit (i.toNat % 64)
/-- with the bit i -/
def setR (xs : List Nat) (i : Int) : List Nat := if inR xs.length i then xs.set (i.toNat / 64) (xs.getD (i.toNat / 64) 0 ||| 2 ^ (i.toNat % 64)) else xs
/-- both together -/
def orR (a b : List Nat) : List Nat := (List.range (max a.length b.length)).map fun j => a.getD j 0 ||| b.getD j 0
def subR (a b : List Nat) : Bool := (List.range a.length).all fun j => a.getD j 0 &&& b.getD j 0 == a.getD j 0
def countR (xs : List Nat) : Nat := (xs.map pop).sum
def listN (xs : List Nat) : List Nat := (List.range (64 * xs.length)).filter fun i : Nat => hasR xs (i : Int)
def listR (xs : List Nat) : List Int := (listN xs).map Int.ofNat
def sameR (a b : List Nat) : Bool := a == b

theorem ofInt_i64 (a : Nat) (ha : a < 9223372036854775808) : (BitVec.ofInt 64 (a : Int)).toNat = a := by
  rw [BitVec.ofInt_natCast, BitVec.toNat_ofNat]; exact Nat.mod_eq_of_lt (by omega)
theorem i64_and_nat (a b : Nat) (ha : a < 9223372036854775808) (hb : b < 9223372036854775808) : bits .and .i64 (a : Int) (b : Int) = ((a &&& b : Nat) : Int) := by
  have hx : a &&& b < 2 ^ 63 := Nat.and_lt_two_pow _ (by omega)
  show IntKind.i64.wrap ((BitVec.ofInt 64 (a : Int) &&& BitVec.ofInt 64 (b : Int)).toNat : Int) = _
  rw [BitVec.toNat_and, ofInt_i64 a ha, ofInt_i64 b hb, IntKind.wrap_i64]
  omega
theorem i64_and_63 (a : Nat) (ha : a < 9223372036854775808) : bits .and .i64 (a : Int) 63 = ((a % 64 : Nat) : Int) := by
  rw [show (63 : Int) = ((63 : Nat) : Int) from rfl, i64_and_nat a 63 ha (by omega), show (63 : Nat) = 2 ^ 6 - 1 from rfl, Nat.and_two_pow_sub_one_eq_mod]

theorem inR_out (n : Nat) (i : Int) (h : i < 0 ∨ 64 * (n : Int) ≤ i) : inR n i = false := by
  unfold inR; rcases h with h | h
  · rw [decide_eq_false (by omega)]; rfl
  · rw [decide_eq_false (p := i < _) (by omega), Bool.and_false]
theorem inR_in (n m : Nat) (h : m < 64 * n) : inR n (m : Int) = true := by
  unfold inR; rw [decide_eq_true (by omega), decide_eq_true (by omega)]; rfl
theorem hasR_out (xs : List Nat) (i : Int) (h : i < 0 ∨ 64 * (xs.length : Int) ≤ i) : hasR xs i = false := by
  unfold hasR
  rcases h with h | h
  · rw [decide_eq_false (by omega)]; rfl
  · rw [List.getD_eq_getElem?_getD, List.getElem?_eq_none (by omega)]; simp
theorem hasR_in (xs : List Nat) (m x : Nat) (h : xs[m / 64]? = some x) : hasR xs (m : Int) = hasB x ((m % 64 : Nat) : Int) := by
  unfold hasR hasB
  rw [Int.toNat_natCast, Int.toNat_natCast, Row.get h, decide_eq_true (by omega), decide_eq_true (by omega)]

/-! ### both together -/
theorem map_range_set {α : Type} (n k : Nat) (f : Nat → α) (v : α) : ((List.range n).map f).set k v = (List.range n).map fun j => if j = k then v else f j := by
  apply List.ext_getElem?; intro j
  rw [List.getElem?_set]
  simp only [List.getElem?_map, List.length_map, List.length_range]
  by_cases hj : j < n
  · rw [List.getElem?_range hj]
    by_cases hk : k = j
    · subst hk; simp [hj]
    · rw [if_neg hk]; simp [Ne.symm hk]
  · rw [List.getElem?_eq_none (by simpa using hj)]
    by_cases hk : k = j
    · subst hk; simp [hj]
    · rw [if_neg hk]; rfl
/-- the longer one a, or'ed with the first k words of b -/
def orK (a b : List Nat) (k : Nat) : List Nat := (List.range a.length).map fun j => if j < k then a.getD j 0 ||| b.getD j 0 else a.getD j 0
theorem orK_zero (a b : List Nat) : orK a b 0 = a := by
  unfold orK; apply List.ext_getElem?; intro j
  simp only [List.getElem?_map]
  by_cases hj : j < a.length
  · rw [List.getElem?_range hj]; simp [List.getD_eq_getElem?_getD, List.getElem?_eq_getElem hj]
  · rw [List.getElem?_eq_none (by simpa using hj), List.getElem?_eq_none (by omega)]; rfl
theorem orK_len (a b : List Nat) (k : Nat) : (orK a b k).length = a.length := by simp [orK]
theorem orK_get (a b : List Nat) (k : Nat) (h : k < a.length) : (orK a b k)[k]? = some (a.getD k 0) := by
  unfold orK; rw [List.getElem?_map, List.getElem?_range h]; simp
theorem orK_set (a b : List Nat) (k : Nat) : (orK a b k).set k (a.getD k 0 ||| b.getD k 0) = orK a b (k + 1) := by
  unfold orK; rw [map_range_set]
  apply List.map_congr_left; intro j _
  by_cases hj : j = k
  · subst hj; simp
  · rw [if_neg hj]
    by_cases h2 : j < k
    · rw [if_pos h2, if_pos (by omega)]
    · rw [if_neg h2, if_neg (by omega)]
theorem orK_all (a b : List Nat) (h : b.length ≤ a.length) : orK a b b.length = orR a b := by
  unfold orK orR
  rw [show max a.length b.length = a.length from by omega]
  apply List.map_congr_left; intro j _
  by_cases hj : j < b.length
  · rw [if_pos hj]
  · rw [if_neg hj, List.getD_eq_getElem?_getD (l := b), List.getElem?_eq_none (by omega)]; simp
theorem orR_comm (a b : List Nat) : orR a b = orR b a := by
  unfold orR; rw [Nat.max_comm]
  apply List.map_congr_left; intro j _; exact Nat.or_comm _ _
theorem orK_lt (a b : List Nat) (k : Nat) (ha : ∀ x ∈ a, x < 18446744073709551616) (hb : ∀ x ∈ b, x < 18446744073709551616) : ∀ x ∈ orK a b k, x < 18446744073709551616 := by
  have hd : ∀ (l : List Nat), (∀ x ∈ l, x < 18446744073709551616) → ∀ j, l.getD j 0 < 18446744073709551616 := fun l hl j => by
    rw [List.getD_eq_getElem?_getD]
    cases hx : l[j]? with
    | none => simp
    | some x => simpa using hl x (List.mem_of_getElem? hx)
  intro x hx
  unfold orK at hx
  obtain ⟨j, _, rfl⟩ := List.mem_map.1 hx
  split
  · exact Nat.or_lt_two_pow (n := 64) (hd a ha j) (hd b hb j)
  · exact hd a ha j

/-! ### a part -/
theorem subR_no (a b : List Nat) (k : Nat) (hk : k < a.length) (h : (a.getD k 0 &&& b.getD k 0 == a.getD k 0) = false) : subR a b = false := by
  unfold subR; rw [List.all_eq_false]; exact ⟨k, List.mem_range.2 hk, by rw [h]; simp⟩
theorem subR_yes (a b : List Nat) (h : ∀ k, k < a.length → (a.getD k 0 &&& b.getD k 0 == a.getD k 0) = true) : subR a b = true := by
  unfold subR; rw [List.all_eq_true]; intro k hk; exact h k (List.mem_range.1 hk)
theorem and_not_zero (x y : Nat) (hx : x < 18446744073709551616) (hy : y < 18446744073709551616) : (x &&& (18446744073709551615 - y) == 0) = (x &&& y == x) := by
  have hb : ∀ j, (18446744073709551615 - y).testBit j = (decide (j < 64) && !y.testBit j) := fun j => by
    rw [show 18446744073709551615 - y = 2 ^ 64 - (y + 1) from by omega]; exact Nat.testBit_two_pow_sub_succ hy j
  have hout : ∀ j, 64 ≤ j → x.testBit j = false := fun j hj => Nat.testBit_lt_two_pow (Nat.lt_of_lt_of_le hx (by rw [show (18446744073709551616 : Nat) = 2 ^ 64 from rfl]; exact Nat.pow_le_pow_right (by omega) hj))
  rw [Bool.eq_iff_iff, beq_iff_eq, beq_iff_eq]
  constructor
  · intro h
    apply Nat.eq_of_testBit_eq; intro j
    have hj : (x &&& (18446744073709551615 - y)).testBit j = false := by rw [h, Nat.zero_testBit]
    rw [Nat.testBit_and, hb] at hj
    rw [Nat.testBit_and]
    by_cases h64 : j < 64
    · rw [decide_eq_true h64, Bool.true_and] at hj
      cases hxj : x.testBit j <;> cases hyj : y.testBit j <;> simp_all
    · rw [hout j (by omega)]; rfl
  · intro h
    apply Nat.eq_of_testBit_eq; intro j
    rw [Nat.testBit_and, hb, Nat.zero_testBit]
    have hj : (x &&& y).testBit j = x.testBit j := by rw [h]
    rw [Nat.testBit_and] at hj
    cases hxj : x.testBit j <;> cases hyj : y.testBit j <;> simp_all
theorem getD_out (b : List Nat) (k : Nat) (h : b.length ≤ k) : b.getD k 0 = 0 := by
  rw [List.getD_eq_getElem?_getD, List.getElem?_eq_none h]; rfl

/-! ### counts, sameness -/
theorem countR_le (xs : List Nat) : countR xs ≤ 64 * xs.length := by
  unfold countR
  induction xs with
  | nil => simp
  | cons x xs ih => simp only [List.map_cons, List.sum_cons, List.length_cons]; have := pop_le x; omega
theorem countR_take (xs : List Nat) (k x : Nat) (h : xs[k]? = some x) : countR (xs.take (k + 1)) = countR (xs.take k) + pop x := by
  have hk : k < xs.length := (List.getElem?_eq_some_iff.1 h).1
  rw [List.take_succ_eq_append_getElem hk]
  have : xs[k] = x := (List.getElem?_eq_some_iff.1 h).2
  unfold countR; simp [this]
theorem sameR_no_len (a b : List Nat) (h : a.length ≠ b.length) : sameR a b = false := by
  unfold sameR; rw [beq_eq_false_iff_ne]; rintro rfl; exact h rfl
theorem sameR_no (a b : List Nat) (k x y : Nat) (hx : a[k]? = some x) (hy : b[k]? = some y) (h : x ≠ y) : sameR a b = false := by
  unfold sameR; rw [beq_eq_false_iff_ne]; rintro rfl; rw [hx] at hy; injection hy with hy; exact h hy
theorem sameR_yes (a b : List Nat) (hl : a.length = b.length) (h : ∀ k, k < a.length → a[k]? = b[k]?) : sameR a b = true := by
  unfold sameR; rw [beq_iff_eq]; apply List.ext_getElem?; intro k
  by_cases hk : k < a.length
  · exact h k hk
  · rw [List.getElem?_eq_none (by omega), List.getElem?_eq_none (by omega)]

/-! ### the list of the bits -/
theorem filter_first (n l : Nat) (p q : Nat → Bool) (hl : l < n) (hp : p l = true) (hlow : ∀ j, j < l → p j = false) (hq : ∀ j, j < n → q j = (p j && decide (j ≠ l))) :
    (List.range n).filter p = l :: (List.range n).filter q := by
  induction n with
  | zero => omega
  | succ n ih =>
    rw [List.range_succ, List.filter_append, List.filter_append]
    by_cases h : l < n
    · rw [ih h (fun j hj => hq j (by omega))]
      have : q n = p n := by rw [hq n (by omega), decide_eq_true (by omega), Bool.and_true]
      simp [List.filter_cons, this]
    · obtain rfl : l = n := by omega
      have h1 : (List.range l).filter p = [] := by
        rw [List.filter_eq_nil_iff]; intro j hj; rw [hlow j (List.mem_range.1 hj)]; simp
      have h2 : (List.range l).filter q = [] := by
        rw [List.filter_eq_nil_iff]; intro j hj
        have hj' := List.mem_range.1 hj
        rw [hq j (by omega), hlow j hj']; simp
      have h3 : q l = false := by rw [hq l (by omega)]; simp
      simp [h1, h2, h3, hp]
def bitsOf (x : Nat) : List Nat := (List.range 64).filter fun j => x.testBit j
theorem bitsOf_zero : bitsOf 0 = [] := by
  unfold bitsOf; rw [List.filter_eq_nil_iff]; intro j _; simp
theorem low0_lt (x : Nat) (hx : x < 18446744073709551616) (h0 : x ≠ 0) : low0 x < 64 := by
  rcases Nat.lt_or_ge (low0 x) 64 with h | h
  · exact h
  · exfalso
    have hn := low0_le x
    refine h0 (Nat.eq_of_testBit_eq fun j => ?_)
    rw [Nat.zero_testBit]
    rcases Nat.lt_or_ge j 64 with h' | h'
    · exact low0_before x j (by omega)
    · exact Nat.testBit_lt_two_pow (Nat.lt_of_lt_of_le hx (by rw [show (18446744073709551616 : Nat) = 2 ^ 64 from rfl]; exact Nat.pow_le_pow_right (by omega) h'))
/-- without the bit i -/
def offN (x i : Nat) : Nat := x &&& (18446744073709551615 - p2 i)
theorem offN_lt (x i : Nat) (hx : x < 18446744073709551616) : offN x i < 18446744073709551616 := Nat.lt_of_le_of_lt Nat.and_le_left hx
theorem offN_bit (x i j : Nat) (hi : i < 64) (hj : j < 64) : (offN x i).testBit j = (x.testBit j && decide (j ≠ i)) := by
  unfold offN
  have hp := p2_lt i hi
  rw [Nat.testBit_and, show 18446744073709551615 - p2 i = 2 ^ 64 - (p2 i + 1) from by omega, Nat.testBit_two_pow_sub_succ (by omega)]
  unfold p2
  rw [Nat.testBit_two_pow, decide_eq_true hj, Bool.true_and]
  congr 1
  by_cases h : i = j
  · subst h; simp
  · simp [h, Ne.symm h]
theorem bitsOf_step (x : Nat) (hx : x < 18446744073709551616) (h0 : x ≠ 0) : bitsOf x = low0 x :: bitsOf (offN x (low0 x)) := by
  have hl := low0_lt x hx h0
  exact filter_first 64 (low0 x) _ _ hl (low0_bit x hl) (low0_before x) (fun j hj => offN_bit x (low0 x) j hl hj)
theorem pop_bits (x : Nat) : pop x = (bitsOf x).length := by
  rw [pop_def]; unfold bitsOf
  have : ∀ k, pcF k x = ((List.range k).filter fun j => x.testBit j).length := by
    intro k
    induction k with
    | zero => rfl
    | succ k ih =>
      rw [pcF_snoc, ih, List.range_succ, List.filter_append, List.length_append]
      cases h : x.testBit k <;> simp [h]
  exact this 64
/-- the list of the first k words' bits -/
def listK (xs : List Nat) (k : Nat) : List Nat := (List.range (64 * k)).filter fun i : Nat => hasR xs (i : Int)
theorem hasR_nat (xs : List Nat) (i : Nat) : hasR xs (i : Int) = (xs.getD (i / 64) 0).testBit (i % 64) := by
  unfold hasR; rw [Int.toNat_natCast, decide_eq_true (by omega), Bool.true_and]
theorem listK_succ (xs : List Nat) (k x : Nat) (h : xs[k]? = some x) : listK xs (k + 1) = listK xs k ++ (bitsOf x).map (64 * k + ·) := by
  unfold listK bitsOf
  rw [show 64 * (k + 1) = 64 * k + 64 from by omega, List.range_add, List.filter_append, List.filter_map]
  congr 2
  apply List.filter_congr
  intro j hj
  have := List.mem_range.1 hj
  show hasR xs ((64 * k + j : Nat) : Int) = _
  rw [hasR_nat, show (64 * k + j) / 64 = k from by omega, show (64 * k + j) % 64 = j from by omega, Row.get h]
theorem listK_all (xs : List Nat) : listK xs xs.length = listN xs := rfl
theorem listK_len (xs : List Nat) (k : Nat) : (listK xs k).length ≤ 64 * k := by
  have := List.length_filter_le (fun i : Nat => hasR xs (i : Int)) (List.range (64 * k))
  rwa [List.length_range] at this
theorem listK_lt (xs : List Nat) (k : Nat) : ∀ i ∈ listK xs k, i < 64 * k := fun i hi => by
  have := List.mem_filter.1 hi
  exact List.mem_range.1 this.1
theorem countR_list (xs : List Nat) : countR xs = (listN xs).length := by
  have : ∀ k, k ≤ xs.length → countR (xs.take k) = (listK xs k).length := by
    intro k hk
    induction k with
    | zero => simp [countR, listK]
    | succ k ih =>
      have hx : xs[k]? = some xs[k] := List.getElem?_eq_getElem (by omega)
      rw [countR_take xs k _ hx, listK_succ xs k _ hx, ih (by omega), List.length_append, List.length_map, pop_bits]
  have h := this xs.length (Nat.le_refl _)
  rwa [List.take_length] at h

/-! ### what the plain answers go through -/
def sameI (a b : List Int) : Bool := a == b
theorem sameI_no_len (a b : List Int) (h : a.length ≠ b.length) : sameI a b = false := by
  unfold sameI; rw [beq_eq_false_iff_ne]; rintro rfl; exact h rfl
theorem sameI_no (a b : List Int) (k : Nat) (x y : Int) (hx : a[k]? = some x) (hy : b[k]? = some y) (h : x ≠ y) : sameI a b = false := by
  unfold sameI; rw [beq_eq_false_iff_ne]; rintro rfl; rw [hx] at hy; injection hy with hy; exact h hy
theorem sameI_yes (a b : List Int) (hl : a.length = b.length) (h : ∀ k, k < a.length → a[k]? = b[k]?) : sameI a b = true := by
  unfold sameI; rw [beq_iff_eq]; apply List.ext_getElem?; intro k
  by_cases hk : k < a.length
  · exact h k hk
  · rw [List.getElem?_eq_none (by omega), List.getElem?_eq_none (by omega)]
/-- the bits below p that are set -/
def listP (xs : List Nat) (p : Nat) : List Nat := (List.range p).filter fun i : Nat => hasR xs (i : Int)
theorem listP_yes (xs : List Nat) (p : Nat) (h : hasR xs (p : Int) = true) : listP xs (p + 1) = listP xs p ++ [p] := by
  unfold listP; rw [List.range_succ, List.filter_append]; simp [h]
theorem listP_no (xs : List Nat) (p : Nat) (h : hasR xs (p : Int) = false) : listP xs (p + 1) = listP xs p := by
  unfold listP; rw [List.range_succ, List.filter_append]; simp [h]
theorem listP_len (xs : List Nat) (p : Nat) : (listP xs p).length ≤ p := by
  have := List.length_filter_le (fun i : Nat => hasR xs (i : Int)) (List.range p)
  rwa [List.length_range] at this
theorem listP_lt (xs : List Nat) (p : Nat) : ∀ i ∈ listP xs p, i < p := fun _ hi => List.mem_range.1 (List.mem_filter.1 hi).1
theorem listN_mem (xs : List Nat) (i : Nat) : i ∈ listN xs ↔ i < 64 * xs.length ∧ hasR xs (i : Int) = true := by
  unfold listN; rw [List.mem_filter, List.mem_range]
theorem listR_len (xs : List Nat) : (listR xs).length = countR xs := by rw [countR_list]; unfold listR; exact List.length_map _
/-- a is a part of b just where each bit of a is one of b -/
theorem subR_iff (a b : List Nat) (ha : ∀ x ∈ a, x < 18446744073709551616) : subR a b = true ↔ ∀ i : Nat, hasR a (i : Int) = true → hasR b (i : Int) = true := by
  have hd : ∀ j, a.getD j 0 < 18446744073709551616 := fun j => by
    rw [List.getD_eq_getElem?_getD]
    cases hx : a[j]? with
    | none => simp
    | some x => simpa using ha x (List.mem_of_getElem? hx)
  have hout : ∀ j r, 64 ≤ r → (a.getD j 0).testBit r = false := fun j r hr => Nat.testBit_lt_two_pow (Nat.lt_of_lt_of_le (hd j) (by rw [show (18446744073709551616 : Nat) = 2 ^ 64 from rfl]; exact Nat.pow_le_pow_right (by omega) hr))
  unfold subR
  rw [List.all_eq_true]
  constructor
  · intro h i hi
    rw [hasR_nat] at hi ⊢
    by_cases hk : i / 64 < a.length
    · have := h (i / 64) (List.mem_range.2 hk)
      rw [beq_iff_eq] at this
      rw [← this, Nat.testBit_and] at hi
      simp only [Bool.and_eq_true] at hi; exact hi.2
    · rw [getD_out a _ (by omega), Nat.zero_testBit] at hi; cases hi
  · intro h k _
    rw [beq_iff_eq]
    apply Nat.eq_of_testBit_eq; intro r
    rw [Nat.testBit_and]
    by_cases hr : r < 64
    · have := h (64 * k + r)
      rw [hasR_nat, hasR_nat, show (64 * k + r) / 64 = k from by omega, show (64 * k + r) % 64 = r from by omega] at this
      cases h1 : (a.getD k 0).testBit r with
      | false => rfl
      | true => rw [this h1]; rfl
    · rw [hout k r (by omega)]; rfl
theorem subR_list (a b : List Nat) (ha : ∀ x ∈ a, x < 18446744073709551616) : subR a b = (listN a).all fun i : Nat => hasR b (i : Int) := by
  rw [Bool.eq_iff_iff, subR_iff a b ha, List.all_eq_true]
  constructor
  · intro h i hi; exact h i ((listN_mem a i).1 hi).2
  · intro h i hi
    refine h i ((listN_mem a i).2 ⟨?_, hi⟩)
    rcases Nat.lt_or_ge i (64 * a.length) with h' | h'
    · exact h'
    · rw [hasR_out a i (.inr (by omega))] at hi; cases hi
/-- without the bit: adding it is or'ing it -/
theorem mod_snoc (x k : Nat) : x % 2 ^ (k + 1) = x % 2 ^ k + 2 ^ k * (x.testBit k).toNat := by
  rw [Nat.pow_succ, Nat.mod_mul, Nat.testBit_eq_decide_div_mod_eq]
  rcases Nat.mod_two_eq_zero_or_one (x / 2 ^ k) with h | h <;> simp [h]
theorem add_or (x r : Nat) (h : x.testBit r = false) : x + p2 r = x ||| p2 r := by
  have hm := mod_snoc x r
  rw [h] at hm
  have hlt := Nat.mod_lt x (Nat.two_pow_pos r)
  have hd := Nat.div_add_mod x (2 ^ (r + 1))
  have hdiv : (2 ^ r + x) / 2 ^ (r + 1) = x / 2 ^ (r + 1) := by
    have hp : 2 ^ (r + 1) = 2 * 2 ^ r := by rw [Nat.pow_succ]; omega
    have e : 2 ^ r + x = 2 ^ (r + 1) * (x / 2 ^ (r + 1)) + (2 ^ r + x % 2 ^ (r + 1)) := by omega
    rw [e, Nat.mul_add_div (Nat.two_pow_pos _), Nat.div_eq_of_lt (a := 2 ^ r + x % 2 ^ (r + 1)) (by simp at hm; omega)]; rfl
  unfold p2
  apply Nat.eq_of_testBit_eq; intro j
  rw [Nat.testBit_or, Nat.testBit_two_pow, Nat.add_comm]
  rcases Nat.lt_trichotomy j r with hj | hj | hj
  · rw [Nat.testBit_two_pow_add_gt hj, decide_eq_false (by omega), Bool.or_false]
  · subst hj; rw [Nat.testBit_two_pow_add_eq, h]; simp
  · obtain ⟨d, rfl⟩ : ∃ d, j = d + (r + 1) := ⟨j - (r + 1), by omega⟩
    rw [← Nat.testBit_div_two_pow, hdiv, Nat.testBit_div_two_pow, decide_eq_false (by omega), Bool.or_false]
theorem or_same (x r : Nat) (h : x.testBit r = true) : x ||| p2 r = x := by
  apply Nat.eq_of_testBit_eq; intro j
  rw [Nat.testBit_or]; unfold p2; rw [Nat.testBit_two_pow]
  by_cases hj : r = j
  · subst hj; rw [h]; rfl
  · simp [hj]
/-- the first k words of both together, nothing behind -/
def orP (N k : Nat) (a b : List Nat) : List Nat := (List.range N).map fun j => if j < k then a.getD j 0 ||| b.getD j 0 else 0
theorem orP_zero (N : Nat) (a b : List Nat) : orP N 0 a b = List.replicate N 0 := by
  unfold orP; apply List.ext_getElem (by simp); intro i _ _; simp
theorem orP_set (N k : Nat) (a b : List Nat) : (orP N k a b).set k (a.getD k 0 ||| b.getD k 0) = orP N (k + 1) a b := by
  unfold orP; rw [map_range_set]
  apply List.map_congr_left; intro j _
  by_cases hj : j = k
  · subst hj; simp
  · rw [if_neg hj]
    by_cases h2 : j < k
    · rw [if_pos h2, if_pos (by omega)]
    · rw [if_neg h2, if_neg (by omega)]
theorem orP_all (N : Nat) (a b : List Nat) (h : N = max a.length b.length) : orP N N a b = orR a b := by
  subst h; unfold orP orR
  apply List.map_congr_left; intro j hj
  rw [if_pos (List.mem_range.1 hj)]

end Go.Proofs.Ytkikoniihmieiaa
