/- Plain mathematics of rows of words. Contracts of package row. Contracts of package row: clone, Set. Contracts of package row: Or, Sub, Same, Count. Contracts of package row: List. Contracts of the document's own answers for rows (package eyewitnessref02). Contracts of the document's own answers for rows: Sub, Set, Or. Contracts of the document's own answers for rows: Set. Plain facts of rows: what the statements of layer 2 say of them. Plain mathematics of square matrices of bits. Nothing of the program is imported. Plain mathematics of layer 12: what stands ahead within a session. Nothing of the program is named. Plain mathematics of layer 12: the past of an operation of a history. Nothing of the program is named. Words for memory: slices of rows (matrices), pairs. No function of the program is named here. Contracts of package mat: below, fits, Has; and of the document's own answers: in, Has, Small. -/
import Derived.Test.YtjhjojklfdjmdaaGreatBadFieldsPk1
import Derived.Test.YtjhjojklfdjmdaaGreatRows
import Derived.WalkSpells
import Derived.WalkLawsBesides
import Derived.Deep.DeepCutAuto
import Derived.Deep.QuietTactic
import Derived.BigQuiet
import Derived.StillTailTactics
import Derived.Deep.RegionWith
import Derived.Deep.RegionHeld3
import Derived.BigRegion
import Derived.Deep.DrawnRows
import Derived.Laws.AppendOwnNone
import Derived.OpenShut
namespace Go.Proofs.YtjhjojklfdjmdaaGreat
open Go.RowKit
set_option linter.unusedVariables false

def wordsZ (n : Int) : Int := if n < 0 then 0 else (n + 63) / 64
def inR (n : Nat) (i : Int) : Bool := decide (0 ≤ i) && decide (i < 64 * (n : Int))
/-- is the bit i set? -/
def hasR (xs : List Nat) (i : Int) : Bool := decide (0 ≤ i) && (xs.getD (i.toNat / 64) 0).testBit (i.toNat % 64)
/-- with the bit i -/
def setR (xs : List Nat) (i : Int) : List Nat := if inR xs.length i then xs.set (i.toNat / 64) (xs.getD (i.toNat / 64) 0 ||| 2 ^ (i.toNat % 64)) else xs
/-- both together -/
def orR (a b : List Nat) : List Nat := (List.range (max a.length b.length)).map fun j => a.getD j 0 ||| b.getD j 0
def subR (a b : List Nat) : Bool := (List.range a.length).all fun j => a.getD j 0 &&& b.getD j 0 == a.getD j 0
def countR (xs : List Nat) : Nat := (xs.map pop).sum
def listN (xs : List Nat) : List Nat := (List.range (64 * xs.length)).filter fun i : Nat => hasR xs (i : Int)
def listR (xs : List Nat) : List Int := (listN xs).map Int.ofNat

theorem ofInt_i64 (a : Nat) (ha : a < 9223372036854775808) : (BitVec.ofInt 64 (a : Int)).toNat = a := by
  rw [BitVec.ofInt_natCast, BitVec.toNat_ofNat]; exact Nat.mod_eq_of_lt (by omega)
theorem i64_and_nat (a b : Nat) (ha : a < 9223372036854775808) (hb : b < 9223372036854775808) : bits .and .i64 (a : Int) (b : Int) = ((a &&& b : Nat) : Int) := by
  have hx : a &&& b < 2 ^ 63 := Nat.and_lt_two_pow _ (by omega)
  show IntKind.i64.wrap ((BitVec.ofInt 64 (a : Int) &&& BitVec.ofInt 64 (b : Int)).toNat : Int) = _
  rw [BitVec.toNat_and, ofInt_i64 a ha, ofInt_i64 b hb, IntKind.wrap_i64]
  omega
theorem i64_and_63 (a : Nat) (ha : a < 9223372036854775808) : bits .and .i64 (a : Int) 63 = ((a % 64 : Nat) : Int) := by
  rw [show (63 : Int) = ((63 : Nat) : Int) from rfl, i64_and_nat a 63 ha (by omega), show (63 : Nat) = 2 ^ 6 - 1 from rfl, Nat.and_two_pow_sub_one_eq_mod]

theorem inR_out (n : Nat) (i : Int) (h : i < 0 ∨ 64 * (n : Int) ≤ i) : inR n i = false := by
  unfold inR; rcases h with h | h
  · rw [decide_eq_false (by omega)]; rfl
  · rw [decide_eq_false (p := i < _) (by omega), Bool.and_false]
theorem inR_in (n m : Nat) (h : m < 64 * n) : inR n (m : Int) = true := by
  unfold inR; rw [decide_eq_true (by omega), decide_eq_true (by omega)]; rfl
theorem hasR_out (xs : List Nat) (i : Int) (h : i < 0 ∨ 64 * (xs.length : Int) ≤ i) : hasR xs i = false := by
  unfold hasR
  rcases h with h | h
  · rw [decide_eq_false (by omega)]; rfl
  · rw [List.getD_eq_getElem?_getD, List.getElem?_eq_none (by omega)]; simp
theorem hasR_in (xs : List Nat) (m x : Nat) (h : xs[m / 64]? = some x) : hasR xs (m : Int) = hasB x ((m % 64 : Nat) : Int) := by
  unfold hasR hasB
  rw [Int.toNat_natCast, Int.toNat_natCast, Row.get h, decide_eq_true (by omega), decide_eq_true (by omega)]

/-! ### both together -/
theorem map_range_set {α : Type} (n k : Nat) (f : Nat → α) (v : α) : ((List.range n).map f).set k v = (List.range n).map fun j => if j = k then v else f j := by
  apply List.ext_getElem?; intro j
  rw [List.getElem?_set]
  simp only [List.getElem?_map, List.length_map, List.length_range]
  by_cases hj : j < n
  · rw [List.getElem?_range hj]
    by_cases hk : k = j
    · subst hk; simp [hj]
    · rw [if_neg hk]; simp [Ne.symm hk]
  · rw [List.getElem?_eq_none (by simpa using hj)]
    by_cases hk : k = j
    · subst hk; simp [hj]
    · rw [if_neg hk]; rfl
/-- the longer one a, or'ed with the first k words of b -/
def orK (a b : List Nat) (k : Nat) : List Nat := (List.range a.length).map fun j => if j < k then a.getD j 0 ||| b.getD j 0 else a.getD j 0
theorem orK_zero (a b : List Nat) : orK a b 0 = a := by
  unfold orK; apply List.ext_getElem?; intro j
  simp only [List.getElem?_map]
  by_cases hj : j < a.length
  · rw [List.getElem?_range hj]; simp [List.getD_eq_getElem?_getD, List.getElem?_eq_getElem hj]
  · rw [List.getElem?_eq_none (by simpa using hj), List.getElem?_eq_none (by omega)]; rfl
theorem orK_get (a b : List Nat) (k : Nat) (h : k < a.length) : (orK a b k)[k]? = some (a.getD k 0) := by
  unfold orK; rw [List.getElem?_map, List.getElem?_range h]; simp
theorem orK_set (a b : List Nat) (k : Nat) : (orK a b k).set k (a.getD k 0 ||| b.getD k 0) = orK a b (k + 1) := by
  unfold orK; rw [map_range_set]
  apply List.map_congr_left; intro j _
  by_cases hj : j = k
  · subst hj; simp
  · rw [if_neg hj]
    by_cases h2 : j < k
    · rw [if_pos h2, if_pos (by omega)]
    · rw [if_neg h2, if_neg (by omega)]
theorem orK_all (a b : List Nat) (h : b.length ≤ a.length) : orK a b b.length = orR a b := by
  unfold orK orR
  rw [show max a.length b.length = a.length from by omega]
  apply List.map_congr_left; intro j _
  by_cases hj : j < b.length
  · rw [if_pos hj]
  · rw [if_neg hj, List.getD_eq_getElem?_getD (l := b), List.getElem?_eq_none (by omega)]; simp
theorem orR_comm (a b : List Nat) : orR a b = orR b a := by
  unfold orR; rw [Nat.max_comm]
  apply List.map_congr_left; intro j _; exact Nat.or_comm _ _
theorem orK_lt (a b : List Nat) (k : Nat) (ha : ∀ x ∈ a, x < 18446744073709551616) (hb : ∀ x ∈ b, x < 18446744073709551616) : ∀ x ∈ orK a b k, x < 18446744073709551616 := by
  have hd : ∀ (l : List Nat), (∀ x ∈ l, x < 18446744073709551616) → ∀ j, l.getD j 0 < 18446744073709551616 := fun l hl j => by
    rw [List.getD_eq_getElem?_getD]
    cases hx : l[j]? with
    | none => simp
    | some x => simpa using hl x (List.mem_of_getElem? hx)
  intro x hx
  unfold orK at hx
  obtain ⟨j, _, rfl⟩ := List.mem_map.1 hx
  split
  · exact Nat.or_lt_two_pow (n := 64) (hd a ha j) (hd b hb j)
  · exact hd a ha j

/-! ### a part -/
theorem subR_no (a b : List Nat) (k : Nat) (hk : k < a.length) (h : (a.getD k 0 &&& b.getD k 0 == a.getD k 0) = false) : subR a b = false := by
  unfold subR; rw [List.all_eq_false]; exact ⟨k, List.mem_range.2 hk, by rw [h]; simp⟩
theorem subR_yes (a b : List Nat) (h : ∀ k, k < a.length → (a.getD k 0 &&& b.getD k 0 == a.getD k 0) = true) : subR a b = true := by
  unfold subR; rw [List.all_eq_true]; intro k hk; exact h k (List.mem_range.1 hk)
theorem and_not_zero (x y : Nat) (hx : x < 18446744073709551616) (hy : y < 18446744073709551616) : (x &&& (18446744073709551615 - y) == 0) = (x &&& y == x) := by
  have hb : ∀ j, (18446744073709551615 - y).testBit j = (decide (j < 64) && !y.testBit j) := fun j => by
    rw [show 18446744073709551615 - y = 2 ^ 64 - (y + 1) from by omega]; exact Nat.testBit_two_pow_sub_succ hy j
  have hout : ∀ j, 64 ≤ j → x.testBit j = false := fun j hj => Nat.testBit_lt_two_pow (Nat.lt_of_lt_of_le hx (by rw [show (18446744073709551616 : Nat) = 2 ^ 64 from rfl]; exact Nat.pow_le_pow_right (by omega) hj))
  rw [Bool.eq_iff_iff, beq_iff_eq, beq_iff_eq]
  constructor
  · intro h
    apply Nat.eq_of_testBit_eq; intro j
    have hj : (x &&& (18446744073709551615 - y)).testBit j = false := by rw [h, Nat.zero_testBit]
    rw [Nat.testBit_and, hb] at hj
    rw [Nat.testBit_and]
    by_cases h64 : j < 64
    · rw [decide_eq_true h64, Bool.true_and] at hj
      cases hxj : x.testBit j <;> cases hyj : y.testBit j <;> simp_all
    · rw [hout j (by omega)]; rfl
  · intro h
    apply Nat.eq_of_testBit_eq; intro j
    rw [Nat.testBit_and, hb, Nat.zero_testBit]
    have hj : (x &&& y).testBit j = x.testBit j := by rw [h]
    rw [Nat.testBit_and] at hj
    cases hxj : x.testBit j <;> cases hyj : y.testBit j <;> simp_all
theorem getD_out (b : List Nat) (k : Nat) (h : b.length ≤ k) : b.getD k 0 = 0 := by
  rw [List.getD_eq_getElem?_getD, List.getElem?_eq_none h]; rfl

/-! ### counts, sameness -/
theorem countR_le (xs : List Nat) : countR xs ≤ 64 * xs.length := by
  unfold countR
  induction xs with
  | nil => simp
  | cons x xs ih => simp only [List.map_cons, List.sum_cons, List.length_cons]; have := pop_le x; omega
theorem countR_take (xs : List Nat) (k x : Nat) (h : xs[k]? = some x) : countR (xs.take (k + 1)) = countR (xs.take k) + pop x := by
  have hk : k < xs.length := (List.getElem?_eq_some_iff.1 h).1
  rw [List.take_succ_eq_append_getElem hk]
  have : xs[k] = x := (List.getElem?_eq_some_iff.1 h).2
  unfold countR; simp [this]

/-! ### the list of the bits -/
theorem filter_first (n l : Nat) (p q : Nat → Bool) (hl : l < n) (hp : p l = true) (hlow : ∀ j, j < l → p j = false) (hq : ∀ j, j < n → q j = (p j && decide (j ≠ l))) :
    (List.range n).filter p = l :: (List.range n).filter q := by
  induction n with
  | zero => omega
  | succ n ih =>
    rw [List.range_succ, List.filter_append, List.filter_append]
    by_cases h : l < n
    · rw [ih h (fun j hj => hq j (by omega))]
      have : q n = p n := by rw [hq n (by omega), decide_eq_true (by omega), Bool.and_true]
      simp [List.filter_cons, this]
    · obtain rfl : l = n := by omega
      have h1 : (List.range l).filter p = [] := by
        rw [List.filter_eq_nil_iff]; intro j hj; rw [hlow j (List.mem_range.1 hj)]; simp
      have h2 : (List.range l).filter q = [] := by
        rw [List.filter_eq_nil_iff]; intro j hj
        have hj' := List.mem_range.1 hj
        rw [hq j (by omega), hlow j hj']; simp
      have h3 : q l = false := by rw [hq l (by omega)]; simp
      simp [h1, h2, h3, hp]
def bitsOf (x : Nat) : List Nat := (List.range 64).filter fun j => x.testBit j
theorem bitsOf_zero : bitsOf 0 = [] := by
  unfold bitsOf; rw [List.filter_eq_nil_iff]; intro j _; simp
theorem low0_lt (x : Nat) (hx : x < 18446744073709551616) (h0 : x ≠ 0) : low0 x < 64 := by
  rcases Nat.lt_or_ge (low0 x) 64 with h | h
  · exact h
  · exfalso
    have hn := low0_le x
    refine h0 (Nat.eq_of_testBit_eq fun j => ?_)
    rw [Nat.zero_testBit]
    rcases Nat.lt_or_ge j 64 with h' | h'
    · exact low0_before x j (by omega)
    · exact Nat.testBit_lt_two_pow (Nat.lt_of_lt_of_le hx (by rw [show (18446744073709551616 : Nat) = 2 ^ 64 from rfl]; exact Nat.pow_le_pow_right (by omega) h'))
/-- without the bit i -/
def offN (x i : Nat) : Nat := x &&& (18446744073709551615 - p2 i)
theorem offN_lt (x i : Nat) (hx : x < 18446744073709551616) : offN x i < 18446744073709551616 := Nat.lt_of_le_of_lt Nat.and_le_left hx
theorem offN_bit (x i j : Nat) (hi : i < 64) (hj : j < 64) : (offN x i).testBit j = (x.testBit j && decide (j ≠ i)) := by
  unfold offN
  have hp := p2_lt i hi
  rw [Nat.testBit_and, show 18446744073709551615 - p2 i = 2 ^ 64 - (p2 i + 1) from by omega, Nat.testBit_two_pow_sub_succ (by omega)]
  unfold p2
  rw [Nat.testBit_two_pow, decide_eq_true hj, Bool.true_and]
  congr 1
  by_cases h : i = j
  · subst h; simp
  · simp [h, Ne.symm h]
theorem bitsOf_step (x : Nat) (hx : x < 18446744073709551616) (h0 : x ≠ 0) : bitsOf x = low0 x :: bitsOf (offN x (low0 x)) := by
  have hl := low0_lt x hx h0
  exact filter_first 64 (low0 x) _ _ hl (low0_bit x hl) (low0_before x) (fun j hj => offN_bit x (low0 x) j hl hj)
/-- the list of the first k words' bits -/
def listK (xs : List Nat) (k : Nat) : List Nat := (List.range (64 * k)).filter fun i : Nat => hasR xs (i : Int)
theorem hasR_nat (xs : List Nat) (i : Nat) : hasR xs (i : Int) = (xs.getD (i / 64) 0).testBit (i % 64) := by
  unfold hasR; rw [Int.toNat_natCast, decide_eq_true (by omega), Bool.true_and]
theorem listK_succ (xs : List Nat) (k x : Nat) (h : xs[k]? = some x) : listK xs (k + 1) = listK xs k ++ (bitsOf x).map (64 * k + ·) := by
  unfold listK bitsOf
  rw [show 64 * (k + 1) = 64 * k + 64 from by omega, List.range_add, List.filter_append, List.filter_map]
  congr 2
  apply List.filter_congr
  intro j hj
  have := List.mem_range.1 hj
  show hasR xs ((64 * k + j : Nat) : Int) = _
  rw [hasR_nat, show (64 * k + j) / 64 = k from by omega, show (64 * k + j) % 64 = j from by omega, Row.get h]
theorem listK_all (xs : List Nat) : listK xs xs.length = listN xs := rfl
theorem listK_len (xs : List Nat) (k : Nat) : (listK xs k).length ≤ 64 * k := by
  have := List.length_filter_le (fun i : Nat => hasR xs (i : Int)) (List.range (64 * k))
  rwa [List.length_range] at this
theorem listK_lt (xs : List Nat) (k : Nat) : ∀ i ∈ listK xs k, i < 64 * k := fun i hi => by
  have := List.mem_filter.1 hi
  exact List.mem_range.1 this.1

/-! ### what the plain answers go through -/
theorem listN_mem (xs : List Nat) (i : Nat) : i ∈ listN xs ↔ i < 64 * xs.length ∧ hasR xs (i : Int) = true := by
  unfold listN; rw [List.mem_filter, List.mem_range]
/-- a is a part of b just where each bit of a is one of b -/
theorem subR_iff (a b : List Nat) (ha : ∀ x ∈ a, x < 18446744073709551616) : subR a b = true ↔ ∀ i : Nat, hasR a (i : Int) = true → hasR b (i : Int) = true := by
  have hd : ∀ j, a.getD j 0 < 18446744073709551616 := fun j => by
    rw [List.getD_eq_getElem?_getD]
    cases hx : a[j]? with
    | none => simp
    | some x => simpa using ha x (List.mem_of_getElem? hx)
  have hout : ∀ j r, 64 ≤ r → (a.getD j 0).testBit r = false := fun j r hr => Nat.testBit_lt_two_pow (Nat.lt_of_lt_of_le (hd j) (by rw [show (18446744073709551616 : Nat) = 2 ^ 64 from rfl]; exact Nat.pow_le_pow_right (by omega) hr))
  unfold subR
  rw [List.all_eq_true]
  constructor
  · intro h i hi
    rw [hasR_nat] at hi ⊢
    by_cases hk : i / 64 < a.length
    · have := h (i / 64) (List.mem_range.2 hk)
      rw [beq_iff_eq] at this
      rw [← this, Nat.testBit_and] at hi
      simp only [Bool.and_eq_true] at hi; exact hi.2
    · rw [getD_out a _ (by omega), Nat.zero_testBit] at hi; cases hi
  · intro h k _
    rw [beq_iff_eq]
    apply Nat.eq_of_testBit_eq; intro r
    rw [Nat.testBit_and]
    by_cases hr : r < 64
    · have := h (64 * k + r)
      rw [hasR_nat, hasR_nat, show (64 * k + r) / 64 = k from by omega, show (64 * k + r) % 64 = r from by omega] at this
      cases h1 : (a.getD k 0).testBit r with
      | false => rfl
      | true => rw [this h1]; rfl
    · rw [hout k r (by omega)]; rfl

end Go.Proofs.YtjhjojklfdjmdaaGreat

namespace Go.Proofs.YtjhjojklfdjmdaaGreat
open Go.RowKit
set_option linter.unusedVariables false

theorem info_u64 : (Tryz.prog.info? 89).map (fun i => (i.zero, i.size, i.bytes)) = some (some (.int .u64 0), 1, 8) := by kernel_rfl
theorem info_int : (Tryz.prog.info? 3).map (fun i => (i.zero, i.size, i.bytes)) = some (some (.int .i64 0), 1, 8) := by kernel_rfl
theorem mk_u64 (kl kc : IntKind) (n c : Nat) (hnc : n ≤ c) (hc : c ≤ 35184372088832) (W : World) :
    (Instr.makeSlice 88 (.int kl (n : Int)) (.int kc (c : Int))).run Tryz.prog W = .ok (.slice (some ⟨W.heap.size, 0, none⟩) n c) (W.alloc (.cells (zeros c (.int .u64 0)) 89)) := by
  obtain ⟨i, hi, hz0, hz1, hz2⟩ := info_parts info_u64
  exact run_make_one _ _ i _ Tryz.underlying88 hi hz0 hz1 rfl kl kc n c hnc (by rw [hz2]; omega) (by omega) W
theorem mk_int (kl kc : IntKind) (n c : Nat) (hnc : n ≤ c) (hc : c ≤ 35184372088832) (W : World) :
    (Instr.makeSlice 27 (.int kl (n : Int)) (.int kc (c : Int))).run Tryz.prog W = .ok (.slice (some ⟨W.heap.size, 0, none⟩) n c) (W.alloc (.cells (zeros c (.int .i64 0)) 3)) := by
  obtain ⟨i, hi, hz0, hz1, hz2⟩ := info_parts info_int
  exact run_make_one _ _ i _ Tryz.underlying27 hi hz0 hz1 rfl kl kc n c hnc (by rw [hz2]; omega) (by omega) W

theorem within_eq (n : Nat) (i : Int) (hn : n ≤ 140737488355328) (h1 : -9223372036854775808 ≤ i) (h2 : i < 9223372036854775808) : decide (IntKind.u64.wrap i / 64 < (n : Int)) = inR n i := by
  unfold inR
  rw [IntKind.wrap_u64, Bool.eq_iff_iff]
  simp only [decide_eq_true_eq, Bool.and_eq_true]
  omega
set_option maxHeartbeats 400000 in
theorem row_within (A : Option Addr) (n c : Nat) (i : Int) (hn : n ≤ 140737488355328) (h1 : -9223372036854775808 ≤ i) (h2 : i < 9223372036854775808) (w : World) :
    Calls Tryz.prog 113 #[.slice A n c, .int .i64 i] w fun e w' => e = .returned (.bool (inR n i)) ∧ w = w' := by
  have H := Lib.hid (within_eq n i hn h1 h2)
  go_enter Tryz.func113, Tryz.ntmps113
  go_wp2
  go_ret
  exact ⟨ret_bool H.out, rfl⟩
set_option maxHeartbeats 400000 in
theorem row_Has (A : Option Addr) (n c : Nat) (xs : List Nat) (i : Int) (w : World) (hr : Row w A n xs) (hn : n ≤ 140737488355328) (h1 : -9223372036854775808 ≤ i) (h2 : i < 9223372036854775808) :
    Calls Tryz.prog 85 #[.slice A n c, .int .i64 i] w fun e w' => e = .returned (.bool (hasR xs i)) ∧ w = w' := by
  have hl := hr.len
  by_cases h : 0 ≤ i ∧ i < 64 * (n : Int)
  · obtain ⟨m, rfl⟩ := Int.eq_ofNat_of_zero_le h.1
    have hm : m < 64 * n := by omega
    obtain ⟨b, off, x, rfl, hb, hx, hx64, hc⟩ := hr.at_ (k := m / 64) (by omega)
    have H := Lib.hid (hasR_in xs m x hx)
    have hI := Lib.hid (inR_in n m hm)
    have hA := Lib.hid (i64_and_63 m (by omega))
    clear h hx hr hl
    go_enter Tryz.func85, Tryz.ntmps85
    go_wp2_with fail
    refine (row_within _ n _ m (by omega) (by omega) (by omega) _).mono ?_; rintro e w' ⟨rfl, rfl⟩
    rw [hI.out]
    go_wp2_with fail
    rw [hA.out]
    refine (word_Has x hx64 _ (by omega) (by omega) _).mono ?_; rintro e w' ⟨rfl, rfl⟩
    go_wp2
    go_ret
    rw [H.out]; exact ⟨rfl, rfl⟩
  · have H := Lib.hid (hasR_out xs i (by omega))
    have hI := Lib.hid (inR_out n i (by omega))
    clear h hl hr
    go_enter Tryz.func85, Tryz.ntmps85
    go_wp2_with fail
    refine (row_within _ n _ i (by omega) (by omega) (by omega) _).mono ?_; rintro e w' ⟨rfl, rfl⟩
    rw [hI.out]
    go_wp2
    go_ret
    rw [H.out]; exact ⟨rfl, rfl⟩

theorem wordsZ_nat (n : Int) (h0 : 0 ≤ n) : wordsZ n = (n + 63) / 64 := if_neg (by omega)
set_option maxHeartbeats 400000 in
theorem row_Words (n : Int) (h1 : -9223372036854775808 ≤ n) (h2 : n < 9223372036854775808) (w : World) :
    Calls Tryz.prog 130 #[.int .i64 n] w fun e w' => e = .returned (.int .i64 (wordsZ n)) ∧ w = w' := by
  by_cases h : n < 0
  · have H := Lib.hid (show wordsZ n = 0 from if_pos h)
    go_enter Tryz.func130, Tryz.ntmps130
    go_wp2
    go_ret
    rw [H.out]; exact ⟨rfl, rfl⟩
  · have H := Lib.hid (wordsZ_nat n (by omega))
    go_enter Tryz.func130, Tryz.ntmps130
    go_wp2
    go_ret
    rw [H.out]; exact ⟨rfl, rfl⟩

/-- how many words, as a number without a sign -/
def wordsN (n : Int) : Nat := (wordsZ n).toNat
theorem wordsZ_N (n : Int) : wordsZ n = (wordsN n : Nat) := by unfold wordsN wordsZ; split <;> omega
theorem wordsN_le (n : Int) (h : n ≤ 1099511627776) : wordsN n ≤ 17179869184 := by unfold wordsN wordsZ; split <;> omega
set_option maxHeartbeats 400000 in
theorem row_NewO (n : Int) (h1 : -9223372036854775808 ≤ n) (h2 : n ≤ 1099511627776) (w : World) :
    Calls Tryz.prog 107 #[.int .i64 n] w (RetRowO 89 (List.replicate (wordsN n) 0) w) := by
  have hw := Lib.hid (wordsZ_N n)
  have hle := wordsN_le n h2
  have hmk := mk_u64 .i64 .i64 (wordsN n) (wordsN n) (Nat.le_refl _) (by omega)
  go_enter Tryz.func107, Tryz.ntmps107
  go_wp2_with fail
  refine (row_Words _ (by omega) (by omega) _).mono ?_; rintro e w' ⟨rfl, rfl⟩
  rw [hw.out]
  go_wp2
  go_ret
  refine own_ret (by simpa [u64v] using own_zeros w (wordsN n) (.int .u64 0) 89 (by unfold maxLen; omega)) (by simp) ((Below.refl _ _).alloc (Nat.le_refl _) _)

end Go.Proofs.YtjhjojklfdjmdaaGreat

namespace Go.Proofs.YtjhjojklfdjmdaaGreat
open Go.RowKit
set_option linter.unusedVariables false

theorem splice_all (cur cs : List Value) (h : cs.length = cur.length) : splice cur 0 cs = cs := by
  unfold splice; simp [h]
theorem own_of_heap {w : World} {base g n : Nat} {t : TypeId} {cs : List Value} (hb : base ≤ g) (hn : cs.length = n) (hm : n ≤ maxLen) (h : w.heap[g]? = some (.cells cs.toArray t (0, 0))) :
    w.ownsRow base t 1 (.slice (some ⟨g, 0, none⟩) n n) n cs :=
  ⟨by simpa using hn, .inr ⟨g, n, cs.toArray, rfl, hb, h, Nat.le_refl _, hm, by simpa using hn, by rw [List.take_of_length_le (by simp; omega)]⟩⟩

/-- what a call that answers a new row of its own ends in -/
def RetOwn (n : Nat) (xs : List Nat) (w : World) (e : Ending) (w' : World) : Prop :=
  ∃ g, e = .returned (.slice (some ⟨g, 0, none⟩) n n) ∧ w'.ownsRow w.heap.size 89 1 (.slice (some ⟨g, 0, none⟩) n n) n (xs.map u64v) ∧ Below w.heap.size w w'

set_option maxHeartbeats 400000 in
theorem row_clone (A : Option Addr) (n c : Nat) (xs : List Nat) (w : World) (hr : Row w A n xs) (hn : n ≤ 17592186044416) :
    Calls Tryz.prog 129 #[.slice A n c] w (RetOwn n xs w) := by
  have hl := Lib.hid hr.len
  have hmk := mk_u64 .i64 .i64 n n (Nat.le_refl _) (by omega)
  obtain ⟨i0, hi, hz0, hz1, hz2⟩ := info_parts info_u64
  have hsz : (Tryz.prog.info? 89).map (·.size) = some 1 := by rw [hi]; simp [hz1]
  replace hsz := Lib.hid hsz
  replace hi := Lib.hid hi
  replace hz0 := Lib.hid hz0
  replace hz1 := Lib.hid hz1
  replace hz2 := Lib.hid hz2
  have hsrc : 0 < (xs.map u64v).length → some (⟨w.heap.size, 0, none⟩ : Addr) = some ⟨w.heap.size, 0, none⟩ ∧ ∃ ad, A = some ad ∧ ∀ j v, (xs.map u64v)[j]? = some v → (w.alloc (.cells (zeros n (.int .u64 0)) 89)).cell? (ad.add j) = some v := by
    intro hp
    obtain ⟨b, off, e, hb, hc⟩ := hr.1.2 (by have := hr.len; simp at hp; omega)
    refine ⟨rfl, _, e, fun j v hv => ?_⟩
    have h := hc j v hv
    have he : (⟨b, off, none⟩ : Addr).add j = ⟨b, off + j, none⟩ := by unfold Addr.add; split <;> simp_all
    rw [he, World.cell?_alloc_lt w _ _ hb]; exact h
  replace hsrc := Lib.hid hsrc
  clear hr
  go_enter Tryz.func129, Tryz.ntmps129
  go_wp2_with (with_reducible refine wpList_copy_splice rfl _ _ _ _ rfl 89 Tryz.underlying88 hsz.out (some ⟨w.heap.size, 0, none⟩) A n n n c rfl rfl w.heap.size 0 (List.replicate n (.int .u64 0)) 89 (heap_alloc_new _ _) (xs.map u64v) (by simp [hl.out]) hsrc.out (by simp [hl.out]) (by simp [u64v, Value.oneCell']) w.heap.size w ((Below.refl _ _).alloc (Nat.le_refl _) _) (Nat.le_refl _) ?_; intro w1 hg1 hb1)
  go_ret
  refine ⟨_, rfl, own_of_heap (Nat.le_refl _) (by simp [hl.out]) (by unfold maxLen; omega) ?_, hb1⟩
  rw [hg1.out, splice_all _ _ (by simp [hl.out])]

theorem word_BitN (r : Nat) (hr : r < 64) (w : World) : Calls Tryz.prog 78 #[.int .i64 (r : Int)] w fun e w' => e = .returned (.int .u64 (p2 r : Nat)) ∧ w = w' := by
  have h := word_Bit (r : Int) (by omega) (by omega) w
  rwa [bitZ_p2 (r : Int) (by omega) (by omega), Int.toNat_natCast] at h
theorem setR_in {xs : List Nat} {m x : Nat} (hm : m < 64 * xs.length) (hx : xs[m / 64]? = some x) : setR xs (m : Int) = xs.set (m / 64) (x ||| p2 (m % 64)) := by
  unfold setR p2
  rw [Int.toNat_natCast, if_pos (inR_in _ _ hm), Row.get hx]
theorem setR_out {xs : List Nat} {i : Int} (h : i < 0 ∨ 64 * (xs.length : Int) ≤ i) : setR xs i = xs := by
  unfold setR; rw [inR_out _ _ h]; rfl
theorem or_p2_lt {x r : Nat} (hx : x < 18446744073709551616) (hr : r < 64) : x ||| p2 r < 18446744073709551616 := by
  have := p2_lt r hr
  exact Nat.or_lt_two_pow (n := 64) hx (by omega)
theorem mem_set_lt {xs : List Nat} {k y B : Nat} (h : ∀ x ∈ xs, x < B) (hy : y < B) : ∀ x ∈ xs.set k y, x < B := fun x hx => by
  rcases List.mem_or_eq_of_mem_set hx with h1 | h1
  · exact h x h1
  · rw [h1]; exact hy

set_option maxHeartbeats 400000 in
theorem row_SetO (A : Option Addr) (n c : Nat) (xs : List Nat) (i : Int) (w : World) (hr : Row w A n xs) (hn : n ≤ 17592186044416) (h1 : -9223372036854775808 ≤ i) (h2 : i < 9223372036854775808) :
    Calls Tryz.prog 108 #[.slice A n c, .int .i64 i] w (RetRowO 89 (setR xs i) w) := by
  have hcl := Lib.hid (row_clone A n c xs w hr hn)
  have hlt := Lib.hid hr.2
  have hl := hr.len
  by_cases h : 0 ≤ i ∧ i < 64 * (n : Int)
  · obtain ⟨m, rfl⟩ := Int.eq_ofNat_of_zero_le h.1
    have hm : m < 64 * n := by omega
    have hI := Lib.hid (inR_in n m hm)
    obtain ⟨x, hx⟩ : ∃ x, xs[m / 64]? = some x := ⟨_, List.getElem?_eq_getElem (by omega)⟩
    have hx64 : x < 18446744073709551616 := hlt.out x (List.mem_of_getElem? hx)
    have hS := setR_in (m := m) (by omega) hx
    obtain ⟨r, hre⟩ : ∃ r, r = m % 64 := ⟨_, rfl⟩
    have hr64 : r < 64 := by omega
    have hA := i64_and_63 m (by omega)
    rw [← hre] at hS hA
    have hE := u64_or_nat x (p2 r) hx64 (by have := p2_lt r hr64; omega)
    have hO := or_p2_lt hx64 hr64
    replace hO := Lib.hid hO
    replace hE := Lib.hid hE
    replace hS := Lib.hid hS
    replace hA := Lib.hid hA
    replace hx := Lib.hid hx
    have hl' := Lib.hid hl
    clear h hl hr hre
    go_enter Tryz.func108, Tryz.ntmps108
    go_wp2_with fail
    refine hcl.out.mono ?_; rintro e w1 ⟨g, rfl, hown, hb⟩
    have hc : w1.cell? ⟨g, m / 64, none⟩ = some (.int .u64 (x : Int)) := by
      rw [hown.cellAt _ (by omega), List.getElem?_map, hx.out]; rfl
    have hf := hown.frozenAt (m / 64)
    have hg := (hown.lt g rfl).1
    go_wp2_with fail
    refine (row_within _ n _ m (by omega) (by omega) (by omega) _).mono ?_; rintro e w' ⟨rfl, rfl⟩
    rw [hI.out]
    go_wp2_with fail
    have hA1 : (0 : Int) ≤ (m : Int) / 64 := by omega
    have hA2 : (m : Int) / 64 < (n : Int) := by omega
    have hA3 : ((m : Int) / 64).toNat = m / 64 := by omega
    refine still_tail 10 (by kernel_rfl) (by kernel_rfl) (fun W hW => ?_)
    have hc' : W.cell? ⟨g, m / 64, none⟩ = some (.int .u64 (x : Int)) := by rw [hW.out]; exact hc
    have hf' : W.frozen? ⟨g, m / 64, none⟩ = false := by rw [hW.out]; exact hf
    have hown' : W.ownsRow w.heap.size 89 1 (.slice (some ⟨g, 0, none⟩) n n) n (xs.map u64v) := by rw [hW.out]; exact hown.drew
    have hb' : Below w.heap.size w W := by rw [hW.out]; exact hb.drew
    clear hc hf hb hown
    simp only [List.take_succ_cons, List.take_zero, List.drop_succ_cons, List.drop_zero]
    repeat
      refine @wpStill_step _ _ _ _ _ _ _ ?_
      intro K hK
      go_simp
      refine hK _ ?_
      clear hK K
    refine @wpStill_step _ _ _ _ _ _ _ ?_
    intro K hK
    go_simp
    rw [hA.out]
    refine ⟨_, still_call (word_BitN _ hr64 _), hK _ ?_⟩
    clear hK K
    repeat
      refine @wpStill_step _ _ _ _ _ _ _ ?_
      intro K hK
      go_simp
      refine hK _ ?_
      clear hK K
    refine wpStill_nil ?_
    go_wp2
    go_ret
    rw [hE.out, hS.out]
    refine own_ret (c := n) ?_ (mem_set_lt hlt.out hO.out) (hb'.setCell hg _)
    rw [List.map_set]
    exact (hown'.stored _ _).1
  · have hI := Lib.hid (inR_out n i (by omega))
    have hS := Lib.hid (setR_out (xs := xs) (i := i) (by omega))
    clear h hl hr
    go_enter Tryz.func108, Tryz.ntmps108
    go_wp2_with fail
    refine hcl.out.mono ?_; rintro e w1 ⟨g, rfl, hown, hb⟩
    go_wp2_with fail
    refine (row_within _ n _ i (by omega) (by omega) (by omega) _).mono ?_; rintro e w' ⟨rfl, rfl⟩
    rw [hI.out]
    go_wp2
    go_ret
    rw [hS.out]
    exact own_ret hown hlt.out (hb)
theorem row_Set (A : Option Addr) (n c : Nat) (xs : List Nat) (i : Int) (w : World) (hr : Row w A n xs) (hn : n ≤ 17592186044416) (h1 : -9223372036854775808 ≤ i) (h2 : i < 9223372036854775808) :
    Calls Tryz.prog 108 #[.slice A n c, .int .i64 i] w (RetRow (setR xs i) w) := (row_SetO A n c xs i w hr hn h1 h2).mono fun _ _ h => h.row

end Go.Proofs.YtjhjojklfdjmdaaGreat

namespace Go.Proofs.YtjhjojklfdjmdaaGreat
open Go.RowKit
set_option linter.unusedVariables false

theorem orv (x y : Nat) (hx : x < 18446744073709551616) (hy : y < 18446744073709551616) : bits BinOp.or IntKind.u64 (x : Int) (y : Int) = ((x ||| y : Nat) : Int) := u64_or_nat x y hx hy

set_option maxHeartbeats 400000 in
theorem row_Or_ge (A B : Option Addr) (n m c d : Nat) (xs ys : List Nat) (w : World) (hr : Row w A n xs) (hs : Row w B m ys) (hn : n ≤ 17592186044416) (h : m ≤ n) :
    Calls Tryz.prog 106 #[.slice A n c, .slice B m d] w (RetRowO 89 (orR xs ys) w) := by
  have hcl := Lib.hid (row_clone A n c xs w hr hn)
  have hl := Lib.hid hr.len
  have hl2 := Lib.hid hs.len
  have hlt := Lib.hid (orK_lt xs ys m hr.2 hs.2)
  have hd := Lib.hid (Row.getD_lt hr)
  have hall := orK_all xs ys (by rw [hl.out, hl2.out]; exact h)
  rw [hl2.out] at hall
  replace hall := Lib.hid hall
  have h0 : ¬ n < m := by omega
  replace hs := Lib.hid hs
  clear hr
  go_enter Tryz.func106, Tryz.ntmps106
  go_wp2_with fail
  refine hcl.out.mono ?_; rintro e w1 ⟨g, rfl, hown, hb⟩
  have hg := (hown.lt g rfl).1
  go_wp2_with fail
  go_loopw [19] (fun i wr => ∃ k : Nat, k ≤ m ∧ i = .int .i64 k ∧ wr.ownsRow w.heap.size 89 1 (.slice (some ⟨g, 0, none⟩) n n) n ((orK xs ys k).map u64v) ∧ Below w.heap.size w wr) (fun i _ => m - (intOf i).toNat)
  case atStart => exact ⟨0, Nat.zero_le _, rfl, by rw [orK_zero]; exact hown, hb⟩
  case round =>
    obtain ⟨k, hk, rfl, hownr, hbr⟩ := hrel
    clear hown hb
    by_cases hlt' : k < m
    · have hs' := hs.out.below hbr
      obtain ⟨b, off, y, rfl, hbk, hy, hy64, hc⟩ := hs'.at_ hlt'
      have hgx := orK_get xs ys k (by rw [hl.out]; omega)
      have hx64 := hd.out k
      obtain ⟨x, hx⟩ : ∃ x, x = xs.getD k 0 := ⟨_, rfl⟩
      rw [← hx] at hgx hx64
      have hcg : wr.cell? ⟨g, k, none⟩ = some (.int .u64 (x : Int)) := by
        rw [hownr.cellAt _ (by omega), List.getElem?_map, hgx]; rfl
      have hf := hownr.frozenAt k
      have hE := Lib.hid (orv x y hx64 hy64)
      have hst := orK_set xs ys k
      rw [← hx, Row.get hy] at hst
      have hst := Lib.hid hst
      clear hgx hy hs'
      replace hx := Lib.hid hx
      go_wp2
      go_roundw
      case rel =>
        refine ⟨k + 1, by omega, by go_num, ?_, hbr.setCell hg _⟩
        rw [hE.out, ← hst.out, List.map_set]
        exact (hownr.stored _ _).1
      case measure => simp [intOf]; omega
    · obtain rfl : k = m := by omega
      clear hlt'
      go_wp2
      go_ret
      rw [← hall.out]
      exact own_ret hownr hlt.out (hbr)
set_option maxHeartbeats 400000 in
theorem row_Or_lt (A B : Option Addr) (n m c d : Nat) (xs ys : List Nat) (w : World) (hr : Row w A n xs) (hs : Row w B m ys) (hn : n ≤ 17592186044416) (h : m < n) :
    Calls Tryz.prog 106 #[.slice B m d, .slice A n c] w (RetRowO 89 (orR xs ys) w) := by
  have hcl := Lib.hid (row_clone A n c xs w hr hn)
  have hl := Lib.hid hr.len
  have hl2 := Lib.hid hs.len
  have hlt := Lib.hid (orK_lt xs ys m hr.2 hs.2)
  have hd := Lib.hid (Row.getD_lt hr)
  have hall := orK_all xs ys (by rw [hl.out, hl2.out]; omega)
  rw [hl2.out] at hall
  replace hall := Lib.hid hall
  replace hs := Lib.hid hs
  clear hr
  go_enter Tryz.func106, Tryz.ntmps106
  go_wp2_with fail
  refine hcl.out.mono ?_; rintro e w1 ⟨g, rfl, hown, hb⟩
  have hg := (hown.lt g rfl).1
  go_wp2_with fail
  go_loopw [19] (fun i wr => ∃ k : Nat, k ≤ m ∧ i = .int .i64 k ∧ wr.ownsRow w.heap.size 89 1 (.slice (some ⟨g, 0, none⟩) n n) n ((orK xs ys k).map u64v) ∧ Below w.heap.size w wr) (fun i _ => m - (intOf i).toNat)
  case atStart => exact ⟨0, Nat.zero_le _, rfl, by rw [orK_zero]; exact hown, hb⟩
  case round =>
    obtain ⟨k, hk, rfl, hownr, hbr⟩ := hrel
    clear hown hb
    by_cases hlt' : k < m
    · have hs' := hs.out.below hbr
      obtain ⟨b, off, y, rfl, hbk, hy, hy64, hc⟩ := hs'.at_ hlt'
      have hgx := orK_get xs ys k (by rw [hl.out]; omega)
      have hx64 := hd.out k
      obtain ⟨x, hx⟩ : ∃ x, x = xs.getD k 0 := ⟨_, rfl⟩
      rw [← hx] at hgx hx64
      have hcg : wr.cell? ⟨g, k, none⟩ = some (.int .u64 (x : Int)) := by
        rw [hownr.cellAt _ (by omega), List.getElem?_map, hgx]; rfl
      have hf := hownr.frozenAt k
      have hE := Lib.hid (orv x y hx64 hy64)
      have hst := orK_set xs ys k
      rw [← hx, Row.get hy] at hst
      have hst := Lib.hid hst
      clear hgx hy hs'
      replace hx := Lib.hid hx
      go_wp2
      go_roundw
      case rel =>
        refine ⟨k + 1, by omega, by go_num, ?_, hbr.setCell hg _⟩
        rw [hE.out, ← hst.out, List.map_set]
        exact (hownr.stored _ _).1
      case measure => simp [intOf]; omega
    · obtain rfl : k = m := by omega
      clear hlt'
      go_wp2
      go_ret
      rw [← hall.out]
      exact own_ret hownr hlt.out (hbr)
theorem row_OrO (A B : Option Addr) (n m c d : Nat) (xs ys : List Nat) (w : World) (hr : Row w A n xs) (hs : Row w B m ys) (hn : n ≤ 17592186044416) (hm : m ≤ 17592186044416) :
    Calls Tryz.prog 106 #[.slice A n c, .slice B m d] w (RetRowO 89 (orR xs ys) w) := by
  rcases Nat.lt_or_ge n m with h | h
  · rw [orR_comm]; exact row_Or_lt B A m n d c ys xs w hs hr hm h
  · exact row_Or_ge A B n m c d xs ys w hr hs hn h

theorem andNot_eq (x y : Nat) (hx : x < 18446744073709551616) (hy : y < 18446744073709551616) : bits BinOp.andNot IntKind.u64 (x : Int) (y : Int) = ((x &&& (18446744073709551615 - y) : Nat) : Int) := u64_andNot_nat x y hx hy
theorem andNot_test (x y : Nat) (hx : x < 18446744073709551616) (hy : y < 18446744073709551616) : (bits BinOp.andNot IntKind.u64 (x : Int) (y : Int) != 0) = !(x &&& y == x) := by
  rw [andNot_eq x y hx hy, ← and_not_zero x y hx hy, bne]
  congr 1
  rw [Bool.eq_iff_iff, beq_iff_eq, beq_iff_eq]; omega
set_option maxHeartbeats 400000 in
theorem row_Sub (A B : Option Addr) (n m c d : Nat) (xs ys : List Nat) (w : World) (hr : Row w A n xs) (hs : Row w B m ys) (hn : n ≤ 17592186044416) (_hm : m ≤ 17592186044416) :
    Calls Tryz.prog 105 #[.slice A n c, .slice B m d] w fun e w' => e = .returned (.bool (subR xs ys)) ∧ w = w' := by
  have hl := Lib.hid hr.len
  have hl2 := Lib.hid hs.len
  replace hr := Lib.hid hr
  replace hs := Lib.hid hs
  go_enter Tryz.func105, Tryz.ntmps105
  go_wp2
  go_loop [9] (fun i => ∃ k : Nat, k ≤ n ∧ i = .int .i64 k ∧ Hid (∀ j, j < k → (xs.getD j 0 &&& ys.getD j 0 == xs.getD j 0) = true)) (fun i => n - (intOf i).toNat)
  case atStart => exact ⟨0, Nat.zero_le _, rfl, Lib.hid (fun j hj => absurd hj (by omega))⟩
  case round =>
    obtain ⟨k, hk, rfl, hall⟩ := hrel
    by_cases hlt : k < n
    · obtain ⟨b, off, x, rfl, hbk, hx, hx64, hc⟩ := hr.out.at_ hlt
      have hgx := Row.get hx
      clear hx
      by_cases hkm : k < m
      · obtain ⟨b2, off2, y, rfl, hbk2, hy, hy64, hc2⟩ := hs.out.at_ hkm
        have hgy := Row.get hy
        clear hy
        have hT := andNot_test x y hx64 hy64
        rcases Bool.eq_false_or_eq_true (x &&& y == x) with ht | ht
        · have hall' : Hid (∀ j, j < k + 1 → (xs.getD j 0 &&& ys.getD j 0 == xs.getD j 0) = true) := Lib.hid (fun j hj => by
            rcases Nat.lt_succ_iff_lt_or_eq.1 hj with h | h
            · exact hall.out j h
            · rw [h, hgx, hgy]; exact ht)
          rw [ht] at hT
          replace hT : (bits BinOp.andNot IntKind.u64 (x : Int) (y : Int) != 0) = false := hT
          clear ht hgx hgy
          go_wp2
          go_round
          case rel => exact ⟨k + 1, by omega, by go_num, hall'⟩
          case measure => simp [intOf]; omega
        · have hno := Lib.hid (subR_no xs ys k (by rw [hl.out]; exact hlt) (by rw [hgx, hgy]; exact ht))
          rw [ht] at hT
          replace hT : (bits BinOp.andNot IntKind.u64 (x : Int) (y : Int) != 0) = true := hT
          clear ht hgx hgy
          go_wp2
          go_ret
          rw [hno.out]; exact ⟨rfl, rfl⟩
      · have hgy := getD_out ys k (by rw [hl2.out]; omega)
        by_cases hx0 : x = 0
        · subst hx0
          have hall' : Hid (∀ j, j < k + 1 → (xs.getD j 0 &&& ys.getD j 0 == xs.getD j 0) = true) := Lib.hid (fun j hj => by
            rcases Nat.lt_succ_iff_lt_or_eq.1 hj with h | h
            · exact hall.out j h
            · rw [h, hgx, hgy]; rfl)
          clear hgx hgy
          go_wp2
          go_round
          case rel => exact ⟨k + 1, by omega, by go_num, hall'⟩
          case measure => simp [intOf]; omega
        · have hno := Lib.hid (subR_no xs ys k (by rw [hl.out]; exact hlt) (by rw [hgx, hgy, Nat.and_zero, beq_eq_false_iff_ne]; omega))
          have hne : ((x : Int) != 0) = true := by rw [bne_iff_ne]; omega
          clear hgx hgy
          go_wp2
          go_ret
          rw [hno.out]; exact ⟨rfl, rfl⟩
    · have hyes := Lib.hid (subR_yes xs ys (fun j hj => hall.out j (by rw [hl.out] at hj; omega)))
      go_wp2
      go_ret
      rw [hyes.out]; exact ⟨rfl, rfl⟩

set_option maxHeartbeats 400000 in
theorem row_Count (A : Option Addr) (n c : Nat) (xs : List Nat) (w : World) (hr : Row w A n xs) (hn : n ≤ 17592186044416) :
    Calls Tryz.prog 131 #[.slice A n c] w fun e w' => e = .returned (.int .i64 (countR xs : Nat)) ∧ w = w' := by
  have hl := Lib.hid hr.len
  replace hr := Lib.hid hr
  go_enter Tryz.func131, Tryz.ntmps131
  go_wp2
  go_loop [3, 8] (fun s i => ∃ k : Nat, k ≤ n ∧ i = .int .i64 k ∧ s = .int .i64 (countR (xs.take k) : Nat)) (fun _ i => n - (intOf i).toNat)
  case atStart => exact ⟨0, Nat.zero_le _, rfl, rfl⟩
  case round =>
    obtain ⟨k, hk, rfl, rfl⟩ := hrel
    by_cases hlt : k < n
    · obtain ⟨b, off, x, rfl, hbk, hx, hx64, hc⟩ := hr.out.at_ hlt
      have hst := Lib.hid (countR_take xs k x hx)
      have hle : countR (xs.take k) ≤ 64 * k := Nat.le_trans (countR_le _) (by rw [List.length_take]; omega)
      have hp := pop_le x
      clear hx
      go_wp2_with fail
      refine (word_Count x hx64 _).mono ?_; rintro e w' ⟨rfl, rfl⟩
      go_wp2
      go_round
      case rel => exact ⟨k + 1, by omega, by go_num, by rw [hst.out]; go_num⟩
      case measure => simp [intOf]; omega
    · have he : xs.take k = xs := List.take_of_length_le (by rw [hl.out]; omega)
      rw [he]
      clear he
      go_wp2
      go_ret
      exact ⟨rfl, rfl⟩

end Go.Proofs.YtjhjojklfdjmdaaGreat

namespace Go.Proofs.YtjhjojklfdjmdaaGreat
open Go.RowKit
set_option linter.unusedVariables false

/-- the numbers without a sign, as cells -/
def natv (i : Nat) : Value := .int .i64 (i : Int)
theorem natv_ints (l : List Nat) : l.map natv = (l.map Int.ofNat).map i64v := by
  rw [List.map_map]; rfl
theorem own_ints {w : World} {base n : Nat} {e : TypeId} {v : Value} {zs : List Nat} (h : w.ownsRow base e 1 v n (zs.map natv)) (hx : ∀ x ∈ zs, x < 9223372036854775808) : ∃ A c, v = .slice A n c ∧ Ints w A n (zs.map Int.ofNat) := by
  obtain ⟨A, c, hv, hr⟩ := Rd.of_own h
  refine ⟨A, c, hv, by rw [← natv_ints]; exact hr, fun x hx' => ?_⟩
  obtain ⟨i, hi, rfl⟩ := List.mem_map.1 hx'
  have := hx i hi
  show -9223372036854775808 ≤ (i : Int) ∧ (i : Int) < 9223372036854775808
  omega
theorem off_eq (x i : Nat) (hx : x < 18446744073709551616) (hi : i < 64) : bits BinOp.andNot IntKind.u64 (x : Int) (p2 i : Nat) = (offN x i : Nat) := by
  have := p2_lt i hi
  exact u64_andNot_nat x (p2 i) hx (by omega)

set_option maxHeartbeats 1000000 in
theorem row_ListO (A : Option Addr) (n c : Nat) (xs : List Nat) (w : World) (hr : Row w A n xs) (hn : n ≤ 1073741824) :
    Calls Tryz.prog 111 #[.slice A n c] w (RetIntsO 3 (listR xs) w) := by
  have hcn := Lib.hid (row_Count A n c xs w hr (by omega))
  have hl := Lib.hid hr.len
  have hcle : countR xs ≤ 64 * n := by have := countR_le xs; rw [hr.len] at this; exact this
  have hmk := mk_int .i64 .i64 0 (countR xs) (by omega) (by omega)
  rw [show ((0 : Nat) : Int) = 0 from rfl] at hmk
  obtain ⟨i0, hi, hz0, hz1, hz2⟩ := info_parts info_int
  replace hi := Lib.hid hi
  replace hz0 := Lib.hid hz0
  replace hz1 := Lib.hid hz1
  replace hz2 := Lib.hid hz2
  replace hr := Lib.hid hr
  go_enter Tryz.func111, Tryz.ntmps111
  go_wp2_with fail
  refine hcn.out.mono ?_; rintro e w' ⟨rfl, rfl⟩
  have hown0 := World.ownsRow_made (base := w.heap.size) (e := 3) (size := 1) w (zeros (countR xs) (.int .i64 0)) (countR xs) (Nat.le_refl _) (by unfold maxLen; omega) (by simp [zeros])
  have hb0 : Below w.heap.size w (w.alloc (.cells (zeros (countR xs) (.int .i64 0)) 3)) := (Below.refl _ _).alloc (Nat.le_refl _) _
  go_wp2
  go_loopw [3, 12] (fun l i wr => ∃ k : Nat, k ≤ n ∧ i = .int .i64 k ∧ wr.ownsRow w.heap.size 3 1 l (listK xs k).length ((listK xs k).map natv) ∧ Below w.heap.size w wr) (fun _ i _ => n - (intOf i).toNat)
  case atStart => exact ⟨0, Nat.zero_le _, rfl, hown0, hb0⟩
  case round =>
    obtain ⟨k, hk, rfl, hown, hb⟩ := hrel
    clear hown0 hb0 hmk
    by_cases hlt : k < n
    · obtain ⟨b, off, x, rfl, hbk, hx, hx64, hc⟩ := (hr.out.below hb).at_ hlt
      have hst := Lib.hid (listK_succ xs k x hx)
      clear hx
      go_wp2
      go_loopw [3, 5] (fun l v wi => ∃ (D : List Nat) (r : Nat), r < 18446744073709551616 ∧ v = .int .u64 r ∧ Hid (D ++ (bitsOf r).map (64 * k + ·) = listK xs (k + 1)) ∧ wi.ownsRow w.heap.size 3 1 l D.length (D.map natv) ∧ Below w.heap.size w wi) (fun _ v _ => (bitsOf (intOf v).toNat).length)
      case atStart => exact ⟨_, x, hx64, rfl, Lib.hid hst.out.symm, hown, hb⟩
      case round =>
        obtain ⟨D, r, hr64, rfl, hD, hownD, hbD⟩ := hrel
        clear hown hb hc
        by_cases h0 : r = 0
        · subst h0
          have hD' := hD.out
          rw [bitsOf_zero, List.map_nil, List.append_nil] at hD'
          rw [hD'] at hownD
          clear hD hD' hst
          go_wp2
          go_roundw
          case rel => exact ⟨k + 1, by omega, by go_num, hownD, hbD⟩
          case measure => simp [intOf]; omega
        · have hbs := bitsOf_step r hr64 h0
          have hl64 := low0_lt r hr64 h0
          obtain ⟨i, hie⟩ : ∃ i, i = low0 r := ⟨_, rfl⟩
          have hne : ((r : Int) != 0) = true := by rw [bne_iff_ne]; omega
          have hoff := off_eq r i hr64 (by omega)
          have hof64 := offN_lt r i hr64
          have hfirst := word_First r hr64
          rw [← hie] at hbs hl64 hfirst
          have hDl : D.length ≤ 64 * (k + 1) := by
            have := listK_len xs (k + 1)
            rw [← hD.out, List.length_append] at this; omega
          have hD2 : Hid ((D ++ [64 * k + i]) ++ (bitsOf (offN r i)).map (64 * k + ·) = listK xs (k + 1)) := Lib.hid (by
            rw [← hD.out, hbs]; simp)
          have hlen : (bitsOf r).length = (bitsOf (offN r i)).length + 1 := by rw [hbs]; rfl
          replace hlen := Lib.hid hlen
          replace hoff := Lib.hid hoff
          replace hfirst := Lib.hid hfirst
          clear hbs hie hD hst h0
          go_wp2_with fail
          refine (hfirst.out _).mono ?_; rintro e w' ⟨rfl, rfl⟩
          go_wp2_with (first
            | (at_builtin; refine wpList_append_lies _ rfl (.tmp 21) (.tmp 26) _ rfl w.heap.size 3 i0 _ 1 8 Tryz.underlying27 hi.out hz0.out hz1.out hz2.out rfl (by omega) _ _ _ (by rfl) (hownD.alloc _) ⟨wr.heap.size, 0, none⟩ 1 1 [.int .i64 ((k : Int) * 64 + i)] rfl rfl (cell_one_new _ _ _) (by simp [Value.oneCell']) (by omega) (by unfold maxLen; omega) (by omega) (by have := hbD.size; simp; omega) _ rfl ?_; intro g cap w1 hown1 hgrow hat hlt1; have hb1 := (hbD.alloc hbD.size _).grown hgrow (by have := hbD.size; simp; omega) (own_lt_block hownD); clear hgrow hat hlt1)
            | (go_at_call 78; refine (word_BitN i hl64 _).mono ?_; rintro e w' ⟨rfl, rfl⟩))
          go_roundw
          case rel =>
            refine ⟨D ++ [64 * k + i], offN r i, hof64, by rw [hoff.out], hD2, ?_, hb1⟩
            rw [List.length_append, List.map_append]
            have e : natv (64 * k + i) = .int .i64 ((k : Int) * 64 + i) := by unfold natv; rw [show ((64 * k + i : Nat) : Int) = (k : Int) * 64 + i from by omega]
            rw [List.map_cons, List.map_nil, e]
            exact hown1
          case measure =>
            rw [hoff.out]; simp only [intOf, Int.toNat_natCast]; rw [hlen.out]; omega
    · obtain rfl : k = n := by omega
      have he : listK xs k = listN xs := by rw [← hl.out]; exact listK_all xs
      rw [he] at hown
      have hb64 : ∀ i ∈ listN xs, i < 9223372036854775808 := fun i hi' => by
        have := listK_lt xs xs.length i hi'
        rw [hl.out] at this; omega
      obtain ⟨A', c', rfl, hI⟩ := own_ints hown hb64
      have hO := hown
      rw [natv_ints] at hO
      clear he hb64 hown
      go_wp2
      go_ret
      exact ⟨_, _, _, rfl, hO, hI.2, hb⟩

end Go.Proofs.YtjhjojklfdjmdaaGreat

namespace Go.Proofs.YtjhjojklfdjmdaaGreat
open Go.RowKit
set_option maxRecDepth 100000
set_option linter.unusedVariables false

end Go.Proofs.YtjhjojklfdjmdaaGreat

namespace Go.Proofs.YtjhjojklfdjmdaaGreat
open Go.RowKit
set_option linter.unusedVariables false

end Go.Proofs.YtjhjojklfdjmdaaGreat

namespace Go.Proofs.YtjhjojklfdjmdaaGreat
open Go.RowKit
set_option linter.unusedVariables false

end Go.Proofs.YtjhjojklfdjmdaaGreat

namespace Go.Proofs.YtjhjojklfdjmdaaGreat
open Go.RowKit
set_option linter.unusedVariables false

def W64 (xs : List Nat) : Prop := ∀ x ∈ xs, x < 18446744073709551616
theorem getD_w64 {xs : List Nat} (h : W64 xs) (j : Nat) : xs.getD j 0 < 18446744073709551616 := by
  rw [List.getD_eq_getElem?_getD]
  cases hx : xs[j]? with
  | none => simp
  | some x => simpa using h x (List.mem_of_getElem? hx)
theorem bit_out {x r : Nat} (hx : x < 18446744073709551616) (hr : 64 ≤ r) : x.testBit r = false :=
  Nat.testBit_lt_two_pow (Nat.lt_of_lt_of_le hx (by rw [show (18446744073709551616 : Nat) = 2 ^ 64 from rfl]; exact Nat.pow_le_pow_right (by omega) hr))
theorem hasR_w (xs : List Nat) (k r : Nat) (hr : r < 64) : hasR xs ((64 * k + r : Nat) : Int) = (xs.getD k 0).testBit r := by
  rw [hasR_nat, show (64 * k + r) / 64 = k from by omega, show (64 * k + r) % 64 = r from by omega]
/-- rows of one length with the same bits are the same -/
theorem row_ext {a b : List Nat} (ha : W64 a) (hb : W64 b) (hl : a.length = b.length) (h : ∀ i : Nat, i < 64 * a.length → hasR a (i : Int) = hasR b (i : Int)) : a = b := by
  apply List.ext_getElem hl
  intro k h1 h2
  apply Nat.eq_of_testBit_eq; intro r
  have ea : a[k] = a.getD k 0 := by rw [List.getD_eq_getElem?_getD, List.getElem?_eq_getElem h1]; rfl
  have eb : b[k] = b.getD k 0 := by rw [List.getD_eq_getElem?_getD, List.getElem?_eq_getElem h2]; rfl
  rw [ea, eb]
  by_cases hr : r < 64
  · rw [← hasR_w a k r hr, ← hasR_w b k r hr]; exact h _ (by omega)
  · rw [bit_out (getD_w64 ha k) (by omega), bit_out (getD_w64 hb k) (by omega)]
theorem setR_len (xs : List Nat) (i : Int) : (setR xs i).length = xs.length := by
  unfold setR; split <;> simp
theorem setR_w64 {xs : List Nat} (h : W64 xs) (m : Nat) : W64 (setR xs (m : Int)) := by
  by_cases hm : m < 64 * xs.length
  · have hx : xs[m / 64]? = some xs[m / 64] := List.getElem?_eq_getElem (by omega)
    rw [setR_in hm hx]
    exact mem_set_lt h (or_p2_lt (h _ (List.mem_of_getElem? hx)) (by omega))
  · rw [setR_out (.inr (by omega))]; exact h
theorem hasR_setR (xs : List Nat) (m j : Nat) (hm : m < 64 * xs.length) : hasR (setR xs (m : Int)) (j : Int) = (hasR xs (j : Int) || decide (j = m)) := by
  have hx : xs[m / 64]? = some xs[m / 64] := List.getElem?_eq_getElem (by omega)
  rw [setR_in hm hx, hasR_nat, hasR_nat, List.getD_eq_getElem?_getD, List.getD_eq_getElem?_getD, List.getElem?_set]
  by_cases h1 : m / 64 = j / 64
  · rw [if_pos h1, if_pos (by omega), ← h1, hx]
    simp only [Option.getD_some]
    rw [Nat.testBit_or]; unfold p2; rw [Nat.testBit_two_pow]
    by_cases h2 : j = m
    · subst h2; simp
    · rw [decide_eq_false h2, decide_eq_false (by omega)]
  · rw [if_neg h1, decide_eq_false (by rintro rfl; exact h1 rfl), Bool.or_false]

/-! ### both together -/
theorem orR_len (a b : List Nat) : (orR a b).length = max a.length b.length := by simp [orR]
theorem orR_getD (a b : List Nat) (k : Nat) : (orR a b).getD k 0 = a.getD k 0 ||| b.getD k 0 := by
  unfold orR
  rw [List.getD_eq_getElem?_getD, List.getElem?_map]
  by_cases h : k < max a.length b.length
  · rw [List.getElem?_range h]; rfl
  · rw [List.getElem?_eq_none (by simpa using h), getD_out a k (by omega), getD_out b k (by omega)]; rfl
theorem hasR_orR (a b : List Nat) (i : Nat) : hasR (orR a b) (i : Int) = (hasR a (i : Int) || hasR b (i : Int)) := by
  rw [hasR_nat, hasR_nat, hasR_nat, orR_getD, Nat.testBit_or]
theorem orR_w64 {a b : List Nat} (ha : W64 a) (hb : W64 b) : W64 (orR a b) := by
  intro x hx
  unfold orR at hx
  obtain ⟨j, _, rfl⟩ := List.mem_map.1 hx
  exact Nat.or_lt_two_pow (n := 64) (getD_w64 ha j) (getD_w64 hb j)

/-! ### a row of its list -/
def setN (r : List Nat) (i : Nat) : List Nat := setR r (i : Int)
/-- the bits of l, set one by one in a row of n words -/
def setAll (n : Nat) (l : List Nat) : List Nat := l.foldl setN (List.replicate n 0)
theorem setAll_snoc (n : Nat) (l : List Nat) (i : Nat) : setAll n (l ++ [i]) = setR (setAll n l) (i : Int) := by
  unfold setAll; rw [List.foldl_append]; rfl
theorem hasR_zeros (n i : Nat) : hasR (List.replicate n 0) (i : Int) = false := by
  rw [hasR_nat, List.getD_eq_getElem?_getD, List.getElem?_replicate]
  split <;> simp
theorem setAll_facts (n : Nat) (l : List Nat) (h : ∀ i ∈ l, i < 64 * n) : (setAll n l).length = n ∧ W64 (setAll n l) ∧ ∀ j : Nat, hasR (setAll n l) (j : Int) = decide (j ∈ l) := by
  have : ∀ (r : List Nat), (∀ i ∈ l, i < 64 * r.length) → W64 r → (l.foldl setN r).length = r.length ∧ W64 (l.foldl setN r) ∧ ∀ j : Nat, hasR (l.foldl setN r) (j : Int) = (hasR r (j : Int) || decide (j ∈ l)) := by
    clear h
    induction l with
    | nil => intro r _ hw; exact ⟨rfl, hw, fun j => by simp⟩
    | cons i l ih =>
      intro r hl hw
      have hi := hl i (by simp)
      obtain ⟨h1, h2, h3⟩ := ih (setR r (i : Int)) (fun j hj => by rw [setR_len]; exact hl j (by simp [hj])) (setR_w64 hw i)
      refine ⟨h1.trans (setR_len r i), h2, fun j => ?_⟩
      show hasR (l.foldl _ (setR r (i : Int))) (j : Int) = _
      rw [h3 j, hasR_setR r i j hi, Bool.or_assoc]
      congr 1
      simp
  obtain ⟨h1, h2, h3⟩ := this (List.replicate n 0) (by simpa using h) (fun x hx => by have := (List.mem_replicate.1 hx).2; omega)
  refine ⟨h1.trans List.length_replicate, h2, fun j => ?_⟩
  have := h3 j
  rw [hasR_zeros, Bool.false_or] at this
  exact this

end Go.Proofs.YtjhjojklfdjmdaaGreat

namespace Go.Proofs.YtjhjojklfdjmdaaGreat

def inM (N i j : Int) : Bool := decide (0 ≤ i) && decide (i < N) && decide (0 ≤ j) && decide (j < N)
def hasM (xss : List (List Nat)) (i j : Int) : Bool := decide (0 ≤ i) && hasR (xss.getD i.toNat []) j
def setM (xss : List (List Nat)) (i j : Int) : List (List Nat) := xss.set i.toNat (setR (xss.getD i.toNat []) j)
def newM (n : Nat) : List (List Nat) := List.replicate n (List.replicate (wordsZ n).toNat 0)
def orM (a b : List (List Nat)) : List (List Nat) := (List.range a.length).map fun i => orR (a.getD i []) (b.getD i [])

def belowZ (i n : Int) : Bool := decide (0 ≤ i) && decide (i < n)
theorem belowZ_yes {i n : Int} (h0 : 0 ≤ i) (h1 : i < n) : belowZ i n = true := by unfold belowZ; simp [h0, h1]
theorem belowZ_no {i n : Int} (h : i < 0 ∨ n ≤ i) : belowZ i n = false := by
  unfold belowZ
  rcases h with h | h
  · rw [decide_eq_false (by omega)]; rfl
  · rw [decide_eq_false (p := i < n) (by omega), Bool.and_false]
theorem hasM_out {xss : List (List Nat)} {i j : Int} (h : i < 0 ∨ (xss.length : Int) ≤ i) : hasM xss i j = false := by
  unfold hasM
  by_cases h0 : 0 ≤ i
  · have : xss.getD i.toNat [] = [] := by
      rw [List.getD_eq_getElem?_getD, List.getElem?_eq_none (by omega)]; rfl
    rw [this, hasR_out [] j (by simp; omega), Bool.and_false]
  · rw [decide_eq_false h0]; rfl
theorem getD_at {α : Type} {xss : List α} {k : Nat} {xs d : α} (h : xss[k]? = some xs) : xss.getD k d = xs := by rw [List.getD_eq_getElem?_getD, h]; rfl
theorem hasM_in {xss : List (List Nat)} {k : Nat} {xs : List Nat} {j : Int} (h : xss[k]? = some xs) : hasM xss (k : Int) j = hasR xs j := by
  unfold hasM
  rw [decide_eq_true (by omega), Int.toNat_natCast, getD_at h]; rfl

theorem setM_nat {xss : List (List Nat)} {k : Nat} {xs : List Nat} {j : Int} (h : xss[k]? = some xs) : setM xss (k : Int) j = xss.set k (setR xs j) := by
  unfold setM
  rw [Int.toNat_natCast, getD_at h]

/-! ### matrices of pairs -/
def okP (n : Int) (p : Int × Int) : Bool := inM n p.1 p.2
def setP (m : List (List Nat)) (p : Int × Int) : List (List Nat) := setM m p.1 p.2
def foldP (n : Nat) (ps : List (Int × Int)) : List (List Nat) := ps.foldl setP (newM n)
theorem foldP_nil (n : Nat) : foldP n [] = newM n := rfl
theorem foldP_snoc (n : Nat) (ps : List (Int × Int)) (k : Nat) (p : Int × Int) (h : ps[k]? = some p) : foldP n (ps.take (k + 1)) = setM (foldP n (ps.take k)) p.1 p.2 := by
  unfold foldP
  have hk : k < ps.length := (List.getElem?_eq_some_iff.1 h).1
  rw [List.take_succ_eq_append_getElem hk, List.foldl_append, (List.getElem?_eq_some_iff.1 h).2]; rfl
/-- as many rows as n, each of as many words as n bits take -/
def DimM (n : Nat) (xss : List (List Nat)) : Prop := xss.length = n ∧ ∀ (i : Nat) (r : List Nat), xss[i]? = some r → r.length = (wordsZ (n : Int)).toNat
theorem DimM.new (n : Nat) : DimM n (newM n) := ⟨by simp [newM], fun i r h => by
  unfold newM at h
  rw [List.getElem?_replicate] at h
  split at h
  · injection h with h; subst h; simp
  · cases h⟩
theorem DimM.set {n : Nat} {xss : List (List Nat)} (h : DimM n xss) (i j : Int) : DimM n (setM xss i j) := by
  unfold setM
  refine ⟨by rw [List.length_set]; exact h.1, fun k r hk => ?_⟩
  rw [List.getElem?_set] at hk
  split at hk
  · rename_i e
    split at hk
    · rename_i hl
      injection hk with hk
      subst hk
      rw [setR_len, getD_at (List.getElem?_eq_getElem hl)]
      exact h.2 _ _ (List.getElem?_eq_getElem hl)
    · cases hk
  · exact h.2 _ _ hk
theorem DimM.fold (n : Nat) (ps : List (Int × Int)) : DimM n (foldP n ps) := by
  unfold foldP
  have : ∀ (ps : List (Int × Int)) (m : List (List Nat)), DimM n m → DimM n (ps.foldl setP m) := by
    intro ps
    induction ps with
    | nil => intro m h; exact h
    | cons p ps ih => intro m h; exact ih _ (h.set _ _)
  exact this ps _ (DimM.new n)
theorem words_pos {n : Nat} (h : 0 < n) : 0 < (wordsZ (n : Int)).toNat ∧ n ≤ 64 * (wordsZ (n : Int)).toNat := by
  unfold wordsZ; rw [if_neg (by omega)]; omega
theorem words_le {n : Nat} (h : n ≤ 4096) : (wordsZ (n : Int)).toNat ≤ 64 := by
  unfold wordsZ; rw [if_neg (by omega)]; omega

end Go.Proofs.YtjhjojklfdjmdaaGreat

namespace Go.Proofs.YtjhjojklfdjmdaaGreat
set_option linter.unusedVariables false

/-- does one item stand ahead of another one? -/
def aheadF (is : List It) (i j : Int) : Bool :=
  decide (0 ≤ i) && (decide (0 ≤ j) && (match is[i.toNat]?, is[j.toNat]? with | some x, some y => decide (x.se = y.se) && decide (x.pl < y.pl) | _, _ => false))
theorem aheadF_at {is : List It} {i j : Int} {x y : It} (hi : 0 ≤ i) (hj : 0 ≤ j) (hx : is[i.toNat]? = some x) (hy : is[j.toNat]? = some y) : aheadF is i j = (decide (x.se = y.se) && decide (x.pl < y.pl)) := by
  unfold aheadF; rw [decide_eq_true hi, decide_eq_true hj, hx, hy]; rfl
theorem aheadF_out {is : List It} {i j : Int} (h : i < 0 ∨ j < 0 ∨ (is.length : Int) ≤ i ∨ (is.length : Int) ≤ j) : aheadF is i j = false := by
  unfold aheadF
  rcases h with h | h | h | h
  · rw [decide_eq_false (by omega : ¬ 0 ≤ i)]; rfl
  · rw [decide_eq_false (by omega : ¬ 0 ≤ j)]; simp
  · rw [List.getElem?_eq_none (by omega : is.length ≤ i.toNat)]; simp
  · rw [List.getElem?_eq_none (by omega : is.length ≤ j.toNat)]
    cases is[i.toNat]? <;> simp
theorem aheadF_in {is : List It} {i j : Int} (h : aheadF is i j = true) : 0 ≤ i ∧ 0 ≤ j ∧ i < (is.length : Int) ∧ j < (is.length : Int) := by
  rcases Classical.em (0 ≤ i ∧ 0 ≤ j ∧ i < (is.length : Int) ∧ j < (is.length : Int)) with h1 | h1
  · exact h1
  · rw [aheadF_out (by omega)] at h; cases h
/-- one, and those ahead of it -/
def pastN (is : List It) (o : Int) (n : Nat) : List Nat := (List.range n).filter fun i => decide ((i : Int) = o) || aheadF is i o
def pastF (is : List It) (o : Int) (n : Nat) : List Int := (pastN is o n).map fun (i : Nat) => (i : Int)
theorem pastF_len (is : List It) (o : Int) (n : Nat) : (pastF is o n).length ≤ n := by
  unfold pastF pastN
  rw [List.length_map]
  exact Nat.le_trans (List.length_filter_le _ _) (by simp)
theorem pastF_ok (is : List It) (o : Int) (n : Nat) : ∀ z ∈ pastF is o n, 0 ≤ z ∧ z < (n : Int) := fun z hz => by
  unfold pastF at hz
  obtain ⟨i, hi, rfl⟩ := List.mem_map.1 hz
  unfold pastN at hi
  have := List.mem_range.1 (List.mem_filter.1 hi).1
  omega
/-- the pairs of one item, up to number j; of those up to item i -/
def rowPo (is : List It) (i j : Nat) : List (Int × Int) := ((List.range j).filter fun (k : Nat) => aheadF is i k).map fun (k : Nat) => ((i : Int), (k : Int))
def uptoPo (is : List It) (n i : Nat) : List (Int × Int) := (List.range i).flatMap fun i => rowPo is i n
def poM (is : List It) : List (List Nat) := foldP is.length (uptoPo is is.length is.length)
end Go.Proofs.YtjhjojklfdjmdaaGreat

namespace Go.Proofs.YtjhjojklfdjmdaaGreat
set_option linter.unusedVariables false

/-- where a session begins -/
def baseO (hs : List (List OpT)) (s : Nat) : Nat := (allO (hs.take s)).length
theorem baseO_succ {hs : List (List OpT)} {s : Nat} {os : List OpT} (h : hs[s]? = some os) : baseO hs (s + 1) = baseO hs s + os.length := by
  unfold baseO; rw [allO_take_succ h, List.length_append]
theorem baseO_mono {hs : List (List OpT)} {s t : Nat} (h : s ≤ t) : baseO hs s ≤ baseO hs t := by
  induction t with
  | zero => rw [Nat.le_zero.1 h]; exact Nat.le_refl _
  | succ t ih =>
    rcases Nat.lt_or_ge s (t + 1) with h1 | h1
    · have := ih (by omega)
      cases ht : hs[t]? with
      | none =>
        have e : hs.take (t + 1) = hs.take t := by
          have := List.getElem?_eq_none_iff.1 ht
          rw [List.take_of_length_le this, List.take_of_length_le (by omega)]
        unfold baseO at this ⊢; rw [e]; exact this
      | some os => rw [baseO_succ ht]; omega
    · rw [show s = t + 1 by omega]; exact Nat.le_refl _
/-- item i of a history's facts, by where it stands -/
theorem items_at {hs : List (List OpT)} {i : Nat} (hi : i < (allO hs).length) : ∃ (s p : Nat) (x : It), spotN hs i = some (s, p) ∧ (hisF hs).2[i]? = some x ∧ x.se = (s : Int) ∧ x.pl = (p : Int) ∧ baseO hs s + p = i ∧ p < (hs.getD s []).length ∧ s < hs.length := by
  obtain ⟨s, p, va, h1, h2, -, -⟩ := hisF_item hs i _ (List.getElem?_eq_getElem hi)
  obtain ⟨f1, f2, f3, -⟩ := spotN_some hs i s p h1
  exact ⟨s, p, _, h1, h2, rfl, rfl, f3, f2, f1⟩
theorem filter_span {N b k : Nat} (hb : b ≤ k) (hk : k < N) (p : Nat → Bool) (hp : ∀ i, i < N → p i = decide (b ≤ i ∧ i ≤ k)) : (List.range N).filter p = List.range' b (k + 1 - b) := by
  have e : List.range N = List.range' 0 b ++ (List.range' b (k + 1 - b) ++ List.range' (k + 1) (N - (k + 1))) := by
    rw [List.range_eq_range']
    have h1 := List.range'_append_1 (s := b) (m := k + 1 - b) (n := N - (k + 1))
    have h2 := List.range'_append_1 (s := 0) (m := b) (n := N - b)
    rw [show b + (k + 1 - b) = k + 1 by omega, show k + 1 - b + (N - (k + 1)) = N - b by omega] at h1
    rw [Nat.zero_add, show b + (N - b) = N by omega] at h2
    rw [h1, h2]
  rw [e, List.filter_append, List.filter_append]
  rw [List.filter_eq_nil_iff.2 (fun a ha => by have := List.mem_range'_1.1 ha; rw [hp a (by omega)]; simp; omega), List.nil_append]
  rw [List.filter_eq_self.2 (fun a ha => by have := List.mem_range'_1.1 ha; rw [hp a (by omega)]; simp; omega)]
  rw [List.filter_eq_nil_iff.2 (fun a ha => by have := List.mem_range'_1.1 ha; rw [hp a (by omega)]; simp; omega), List.append_nil]
end Go.Proofs.YtjhjojklfdjmdaaGreat

namespace Go.Proofs.YtjhjojklfdjmdaaGreat
open Go.RowKit

/-- a value that is a slice that reads as the words xs -/
def RowV (w : World) (v : Value) (xs : List Nat) : Prop := ∃ A n c, v = .slice A n c ∧ Row w A n xs
/-- cells that read as rows -/
def RowsC (w : World) (vs : List Value) (xss : List (List Nat)) : Prop := vs.length = xss.length ∧ ∀ (i : Nat) (v : Value) (xs : List Nat), vs[i]? = some v → xss[i]? = some xs → RowV w v xs
/-- the slice '.slice A n c' of rows reads as xss -/
def RowsAt (w : World) (A : Option Addr) (n : Nat) (xss : List (List Nat)) : Prop := ∃ vs, Rd w A n vs ∧ RowsC w vs xss
section
variable {w w' : World} {A : Option Addr} {n : Nat} {vs : List Value} {xss : List (List Nat)} {v : Value} {xs : List Nat}
theorem RowV.below (h : RowV w v xs) (hb : Below w.heap.size w w') : RowV w' v xs := by
  obtain ⟨A, n, c, e, hr⟩ := h; exact ⟨A, n, c, e, hr.below hb⟩
theorem RowsC.below (h : RowsC w vs xss) (hb : Below w.heap.size w w') : RowsC w' vs xss := ⟨h.1, fun i v xs h1 h2 => (h.2 i v xs h1 h2).below hb⟩
theorem RowsC.nil (w : World) : RowsC w [] [] := ⟨rfl, fun i v xs h => by simp at h⟩
theorem RowsC.set (h : RowsC w vs xss) (hv : RowV w v xs) (k : Nat) : RowsC w (vs.set k v) (xss.set k xs) := by
  refine ⟨by simp [h.1], fun i u ys h1 h2 => ?_⟩
  rw [List.getElem?_set] at h1 h2
  by_cases hk : k = i
  · rw [if_pos hk] at h1 h2
    by_cases hl : k < vs.length
    · rw [if_pos hl] at h1
      rw [if_pos (by rw [← h.1]; exact hl)] at h2
      injection h1 with h1
      injection h2 with h2
      subst h1 h2
      exact hv
    · rw [if_neg hl] at h1; cases h1
  · rw [if_neg hk] at h1 h2
    exact h.2 i u ys h1 h2
theorem RowsAt.len (h : RowsAt w A n xss) : xss.length = n := by
  obtain ⟨vs, h1, h2⟩ := h; rw [← h2.1, h1.1]
theorem RowsAt.below (h : RowsAt w A n xss) (hb : Below w.heap.size w w') : RowsAt w' A n xss := by
  obtain ⟨vs, h1, h2⟩ := h; exact ⟨vs, h1.below hb, h2.below hb⟩
theorem RowsAt.nil (w : World) (A : Option Addr) : RowsAt w A 0 [] := ⟨[], Rd.nil _ _, RowsC.nil _⟩
theorem RowsAt.at_ {k : Nat} (h : RowsAt w A n xss) (hk : k < n) : ∃ b off B m c xs, A = some ⟨b, off, none⟩ ∧ b < w.heap.size ∧ xss[k]? = some xs ∧ w.cell? ⟨b, off + k, none⟩ = some (.slice B m c) ∧ Row w B m xs := by
  obtain ⟨vs, h1, h2⟩ := h
  obtain ⟨b, off, u, hA, hb, hu, hc⟩ := h1.at_ hk
  have hl : k < xss.length := by rw [← h2.1, h1.1]; exact hk
  obtain ⟨B, m, c, e, hr⟩ := h2.2 k u xss[k] hu (List.getElem?_eq_getElem hl)
  subst e
  exact ⟨b, off, B, m, c, xss[k], hA, hb, List.getElem?_eq_getElem hl, hc, hr⟩
end

section
variable {w w' : World} {A : Option Addr} {n : Nat} {vs : List Value} {xs : List Nat} {p : Addr}
theorem Rd.setCell (h : Rd w A n vs) (hne : ∀ ad, A = some ad → ad.block ≠ p.block) (u : Value) : Rd (w.setCell p u) A n vs :=
  ⟨h.1, fun hn => by
    obtain ⟨b, off, e, hb, hc⟩ := h.2 hn
    have hbp := hne _ e
    refine ⟨b, off, e, by simpa using hb, fun j x hx => ?_⟩
    rw [World.cell?_setCell_other w p ⟨b, off + j, none⟩ u (fun e => hbp (by rw [e]))]
    exact hc j x hx⟩
theorem Row.setCell (h : Row w A n xs) (hne : ∀ ad, A = some ad → ad.block ≠ p.block) (u : Value) : Row (w.setCell p u) A n xs := ⟨h.1.setCell hne u, h.2⟩
theorem own_far {base : Nat} {e : TypeId} {size : Nat} {v : Value} (h : w.ownsRow base e size v n vs) (hne : v.ownBlock ≠ some p.block) (u : Value) : (w.setCell p u).ownsRow base e size v n vs := by
  refine ⟨h.1, ?_⟩
  rcases h.2 with ⟨h1, h2⟩ | ⟨g, cap, cur, rfl, hbg, hg, r⟩
  · exact .inl ⟨h1, h2⟩
  · refine .inr ⟨g, cap, cur, rfl, hbg, ?_, r⟩
    rw [Below.heap_setCell w p u g (fun e => hne (by rw [← e]; rfl))]; exact hg
end

theorem own_drewN {w : World} {base : Nat} {e : TypeId} {size : Nat} {v : Value} {n : Nat} {xs : List Value} (h : w.ownsRow base e size v n xs) (q : Nat) : (w.drewN q).ownsRow base e size v n xs := h
theorem own_base {w : World} {base base' : Nat} {e : TypeId} {size n : Nat} {v : Value} {vs : List Value} (h : w.ownsRow base e size v n vs) (hb : base' ≤ base) : w.ownsRow base' e size v n vs :=
  ⟨h.1, h.2.imp id fun ⟨g, cap, cur, hv, hg, r⟩ => ⟨g, cap, cur, hv, Nat.le_trans hb hg, r⟩⟩

theorem own_cap {w : World} {base : Nat} {e : TypeId} {size n c : Nat} {A : Option Addr} {vs : List Value} (h : w.ownsRow base e size (.slice A n c) n vs) : n ≤ c := by
  rcases h.2 with ⟨h1, h2⟩ | ⟨g, cap, cur, hv, _, _, hnc, _⟩
  · omega
  · injection hv with _ _ h3
    omega
/-- rows of the call's own, no two in one block -/
def OwnRows (t : TypeId) (w : World) (base : Nat) (vs : List Value) (xss : List (List Nat)) : Prop :=
  vs.length = xss.length ∧
  (∀ (i : Nat) (v : Value) (xs : List Nat), vs[i]? = some v → xss[i]? = some xs → ∃ A m c, v = .slice A m c ∧ w.ownsRow base t 1 (.slice A m c) m (xs.map u64v) ∧ W64 xs) ∧
  (∀ (i j : Nat) (v v' : Value) (g : Nat), i ≠ j → vs[i]? = some v → vs[j]? = some v' → v.ownBlock = some g → v'.ownBlock ≠ some g)
section
variable {t : TypeId} {w w' : World} {base : Nat} {vs : List Value} {xss : List (List Nat)}
theorem OwnRows.nil (t : TypeId) (w : World) (base : Nat) : OwnRows t w base [] [] := ⟨rfl, fun i v xs h => by simp at h, fun i j v v' g _ h => by simp at h⟩
theorem OwnRows.below (h : OwnRows t w base vs xss) (hb : Below w.heap.size w w') : OwnRows t w' base vs xss :=
  ⟨h.1, fun i v xs h1 h2 => by
    obtain ⟨A, m, c, e, ho, hx⟩ := h.2.1 i v xs h1 h2
    exact ⟨A, m, c, e, own_below ho hb, hx⟩, h.2.2⟩
theorem OwnRows.rows (h : OwnRows t w base vs xss) : RowsC w vs xss :=
  ⟨h.1, fun i v xs h1 h2 => by
    obtain ⟨A, m, c, e, ho, hx⟩ := h.2.1 i v xs h1 h2
    exact ⟨A, m, c, e, Row.of_own ho hx⟩⟩
theorem OwnRows.base_ {base' : Nat} (h : OwnRows t w base vs xss) (hb : base' ≤ base) : OwnRows t w base' vs xss :=
  ⟨h.1, fun i v xs h1 h2 => by
    obtain ⟨A, m, c, e, ho, hx⟩ := h.2.1 i v xs h1 h2
    exact ⟨A, m, c, e, own_base ho hb, hx⟩, h.2.2⟩
theorem OwnRows.lt (h : OwnRows t w base vs xss) : ∀ v ∈ vs, ∀ g, v.ownBlock = some g → base ≤ g ∧ g < w.heap.size := by
  intro v hv g hg
  obtain ⟨k, hk⟩ := List.getElem?_of_mem hv
  have hl : k < xss.length := by rw [← h.1]; exact (List.getElem?_eq_some_iff.1 hk).1
  obtain ⟨A, m, c, rfl, ho, _⟩ := h.2.1 k v xss[k] hk (List.getElem?_eq_getElem hl)
  exact ho.lt g hg
theorem OwnRows.far (h : OwnRows t w base vs xss) {p : Addr} (hp : p.block < base) (u : Value) : OwnRows t (w.setCell p u) base vs xss :=
  ⟨h.1, fun i v xs h1 h2 => by
    obtain ⟨A, m, c, e, ho, hx⟩ := h.2.1 i v xs h1 h2
    exact ⟨A, m, c, e, own_far ho (fun hh => by have := own_lt_block ho _ hh; omega) u, hx⟩, h.2.2⟩
theorem own_block_lt {e : TypeId} {size n : Nat} {v : Value} (h : w.ownsRow base e size v n vs) : ∀ g, v.ownBlock = some g → g < w.heap.size := fun g hg => (h.lt g hg).2
theorem OwnRows.snoc (h : OwnRows t w base vs xss) (hb : Below w.heap.size w w') {A : Option Addr} {m c : Nat} {xs : List Nat} (ho : w'.ownsRow w.heap.size t 1 (.slice A m c) m (xs.map u64v)) (hx : W64 xs) (hbase : base ≤ w.heap.size) :
    OwnRows t w' base (vs ++ [.slice A m c]) (xss ++ [xs]) := by
  have h' := h.below hb
  refine ⟨by simp [h.1], fun i v ys h1 h2 => ?_, fun i j v v' g hij h1 h2 h3 h4 => ?_⟩
  · rcases Nat.lt_or_ge i vs.length with hi | hi
    · rw [List.getElem?_append_left hi] at h1
      rw [List.getElem?_append_left (by rw [← h.1]; exact hi)] at h2
      exact h'.2.1 i v ys h1 h2
    · rw [List.getElem?_append_right hi] at h1
      rw [List.getElem?_append_right (by rw [← h.1]; exact hi)] at h2
      rw [← h.1] at h2
      rcases Nat.eq_zero_or_pos (i - vs.length) with h0 | h0
      · rw [h0] at h1 h2
        simp at h1 h2
        subst h1 h2
        exact ⟨A, m, c, rfl, own_base ho hbase, hx⟩
      · rw [List.getElem?_eq_none (by simp; omega)] at h1; cases h1
  · have old : ∀ k u g, k < vs.length → vs[k]? = some u → u.ownBlock = some g → g < w.heap.size := fun k u g hk hu hg => by
      obtain ⟨A', m', c', rfl, ho', _⟩ := h.2.1 k u (xss[k]'(by rw [← h.1]; exact hk)) hu (List.getElem?_eq_getElem (by rw [← h.1]; exact hk))
      exact own_block_lt ho' g hg
    have new : ∀ k u g, vs.length ≤ k → (vs ++ [Value.slice A m c])[k]? = some u → u.ownBlock = some g → k = vs.length ∧ w.heap.size ≤ g := fun k u g hk hu hg => by
      rw [List.getElem?_append_right hk] at hu
      rcases Nat.eq_zero_or_pos (k - vs.length) with h0 | h0
      · rw [h0] at hu
        simp at hu
        subst hu
        exact ⟨by omega, own_lt_block ho g hg⟩
      · rw [List.getElem?_eq_none (by simp; omega)] at hu; cases hu
    rcases Nat.lt_or_ge i vs.length with hi | hi <;> rcases Nat.lt_or_ge j vs.length with hj | hj
    · rw [List.getElem?_append_left hi] at h1
      rw [List.getElem?_append_left hj] at h2
      exact h.2.2 i j v v' g hij h1 h2 h3 h4
    · rw [List.getElem?_append_left hi] at h1
      have a := old i v g hi h1 h3
      have b := (new j v' g hj h2 h4).2
      omega
    · rw [List.getElem?_append_left hj] at h2
      have a := old j v' g hj h2 h4
      have b := (new i v g hi h1 h3).2
      omega
    · have a := (new i v g hi h1 h3).1
      have b := (new j v' g hj h2 h4).1
      omega
theorem OwnRows.put (h : OwnRows t w base vs xss) {i : Nat} {g m c : Nat} {xs : List Nat} (hv : vs[i]? = some (.slice (some ⟨g, 0, none⟩) m c)) (hx : xss[i]? = some xs) (q y : Nat) (hy : y < 18446744073709551616) :
    OwnRows t (w.setCell ⟨g, q, none⟩ (u64v y)) base vs (xss.set i (xs.set q y)) := by
  refine ⟨by simp [h.1], fun k v ys h1 h2 => ?_, h.2.2⟩
  rw [List.getElem?_set] at h2
  by_cases hk : i = k
  · subst hk
    rw [if_pos rfl, if_pos (by exact (List.getElem?_eq_some_iff.1 hx).1)] at h2
    injection h2 with h2
    rw [hv] at h1
    injection h1 with h1
    obtain ⟨A, m', c', e, ho, hw⟩ := h.2.1 i _ xs hv hx
    injection e with e1 e2 e3
    subst e1 e2 e3 h1 h2
    refine ⟨_, _, _, rfl, ?_, fun x hx' => ?_⟩
    · rw [List.map_set]; exact (ho.stored q (u64v y)).1
    · rcases List.mem_or_eq_of_mem_set hx' with h5 | h5
      · exact hw x h5
      · rw [h5]; exact hy
  · rw [if_neg hk] at h2
    obtain ⟨A, m', c', e, ho, hw⟩ := h.2.1 k v ys h1 h2
    subst e
    exact ⟨A, m', c', rfl, own_far ho (h.2.2 i k _ _ g hk hv h1 rfl) _, hw⟩
end

/-- the slice '.slice A n c' of pairs of numbers reads as ps -/
def PairsAt (w : World) (A : Option Addr) (n : Nat) (ps : List (Int × Int)) : Prop :=
  ps.length = n ∧ (∀ p ∈ ps, (-9223372036854775808 ≤ p.1 ∧ p.1 < 9223372036854775808) ∧ (-9223372036854775808 ≤ p.2 ∧ p.2 < 9223372036854775808)) ∧
  (0 < n → ∃ b off, A = some ⟨b, off, none⟩ ∧ b < w.heap.size ∧ ∀ (j : Nat) (p : Int × Int), ps[j]? = some p → w.cell? ⟨b, off + j * 2, none⟩ = some (.int .i64 p.1) ∧ w.cell? ⟨b, off + j * 2 + 1, none⟩ = some (.int .i64 p.2))
section
variable {w w' : World} {A : Option Addr} {n : Nat} {ps : List (Int × Int)}
theorem PairsAt.below (h : PairsAt w A n ps) (hb : Below w.heap.size w w') : PairsAt w' A n ps :=
  ⟨h.1, h.2.1, fun hn => by
    obtain ⟨b, off, e, hbl, hc⟩ := h.2.2 hn
    exact ⟨b, off, e, Nat.lt_of_lt_of_le hbl hb.size, fun j p hp => by
      obtain ⟨h1, h2⟩ := hc j p hp
      exact ⟨(hb.cell (p := ⟨b, off + j * 2, none⟩) hbl).trans h1, (hb.cell (p := ⟨b, off + j * 2 + 1, none⟩) hbl).trans h2⟩⟩⟩
theorem PairsAt.at_ {k : Nat} (h : PairsAt w A n ps) (hk : k < n) : ∃ b off p, A = some ⟨b, off, none⟩ ∧ b < w.heap.size ∧ ps[k]? = some p ∧ ((-9223372036854775808 ≤ p.1 ∧ p.1 < 9223372036854775808) ∧ (-9223372036854775808 ≤ p.2 ∧ p.2 < 9223372036854775808)) ∧
    w.cell? ⟨b, off + k * 2, none⟩ = some (.int .i64 p.1) ∧ w.cell? ⟨b, off + k * 2 + 1, none⟩ = some (.int .i64 p.2) := by
  obtain ⟨b, off, e, hb, hc⟩ := h.2.2 (by omega)
  have hl : k < ps.length := by rw [h.1]; exact hk
  exact ⟨b, off, ps[k], e, hb, List.getElem?_eq_getElem hl, h.2.1 _ (List.getElem_mem hl), (hc k _ (List.getElem?_eq_getElem hl)).1, (hc k _ (List.getElem?_eq_getElem hl)).2⟩
end

/-- block g is the matrix that a variable holds -/
def MatB (w : World) (g : Nat) (t : TypeId) (N : Int) (A : Option Addr) (n c : Nat) : Prop := Blk w g t [.int .i64 N, .slice A n c]
section
variable {w w' : World} {g : Nat} {t : TypeId} {N : Int} {A : Option Addr} {n c : Nat}
theorem MatB.c0 (h : MatB w g t N A n c) : w.cell? ⟨g, 0, none⟩ = some (.int .i64 N) := Blk.cell h 0
theorem MatB.c1 (h : MatB w g t N A n c) : w.cell? ⟨g, 1, none⟩ = some (.slice A n c) := Blk.cell h 1
theorem MatB.new (w : World) (t : TypeId) : MatB (w.alloc (.cells #[.int .i64 N, .slice A n c] t)) w.heap.size t N A n c := Blk.new w t _
theorem MatB.new1 (w : World) (o : Obj) (t : TypeId) : MatB ((w.alloc o).alloc (.cells #[.int .i64 N, .slice A n c] t)) (w.heap.size + 1) t N A n c := by
  have h := MatB.new (N := N) (A := A) (n := n) (c := c) (w.alloc o) t
  rwa [show (w.alloc o).heap.size = w.heap.size + 1 from by simp] at h
theorem MatB.two (h : MatB w g t N A n c) (x y : Value) : ((w.setCell ⟨g, 0, none⟩ x).setCell ⟨g, 1, none⟩ y).cell? ⟨g, 0, none⟩ = some x ∧ ((w.setCell ⟨g, 0, none⟩ x).setCell ⟨g, 1, none⟩ y).cell? ⟨g, 1, none⟩ = some y := by
  have h2 := (Blk.set_ (Blk.set_ h 0 x) 1 y)
  exact ⟨by rw [h2.cell 0]; rfl, by rw [h2.cell 1]; rfl⟩
theorem MatB.put (h : MatB w g t N A n c) (N' : Int) (A' : Option Addr) (n' c' : Nat) : MatB ((w.setCell ⟨g, 0, none⟩ (.int .i64 N')).setCell ⟨g, 1, none⟩ (.slice A' n' c')) g t N' A' n' c' :=
  Blk.set_ (Blk.set_ h 0 (.int .i64 N')) 1 (.slice A' n' c')
theorem MatB.below_ (h : MatB w g t N A n c) (hb : Below w.heap.size w w') : MatB w' g t N A n c := Blk.below h hb h.lt
end

/-- what a call that answers a matrix and an error ends in -/
def RetMat (N : Int) (xss : List (List Nat)) (er : Int) (w : World) (e : Ending) (w' : World) : Prop :=
  ∃ A n c, e = .returned (.tuple #[.agg #[.int .i64 N, .slice A n c], .int .i64 er]) ∧ RowsAt w' A n xss ∧ n ≤ c ∧ Below w.heap.size w w'
/-- .. a matrix of the call's own, rows and all (te: the type of rows, tw: of words) -/
def RetMatO (te tw : TypeId) (N : Int) (xss : List (List Nat)) (w : World) (e : Ending) (w' : World) : Prop :=
  ∃ A n c vs, e = .returned (.tuple #[.agg #[.int .i64 N, .slice A n c], .int .i64 0]) ∧ w'.ownsRow w.heap.size te 1 (.slice A n c) n vs ∧ OwnRows tw w' w.heap.size vs xss ∧ (∀ v ∈ vs, ∀ g, v.ownBlock = some g → (Value.slice A n c).ownBlock ≠ some g) ∧ Below w.heap.size w w'
/-- what a call that answers a matrix ends in -/
def RetMat1 (N : Int) (xss : List (List Nat)) (w : World) (e : Ending) (w' : World) : Prop :=
  ∃ A n c, e = .returned (.agg #[.int .i64 N, .slice A n c]) ∧ RowsAt w' A n xss ∧ n ≤ c ∧ Below w.heap.size w w'
/-- a call that answers a bool, and leaves what was there -/
def RetB (b : Bool) (w : World) (e : Ending) (w' : World) : Prop := e = .returned (.bool b) ∧ Below w.heap.size w w'

end Go.Proofs.YtjhjojklfdjmdaaGreat

namespace Go.Proofs.YtjhjojklfdjmdaaGreat
open Go.RowKit
set_option linter.unusedVariables false

set_option maxHeartbeats 400000 in
theorem mat_below (i n : Int) (w : World) :
    Calls Tryz.prog 84 #[.int .i64 i, .int .i64 n] w fun e w' => e = .returned (.bool (belowZ i n)) ∧ w = w' := by
  by_cases h0 : 0 ≤ i
  · by_cases h1 : i < n
    · have H := Lib.hid (belowZ_yes h0 h1)
      go_enter Tryz.func84, Tryz.ntmps84
      go_wp2
      go_ret
      rw [H.out]; exact ⟨rfl, rfl⟩
    · have H := Lib.hid (belowZ_no (i := i) (n := n) (by omega))
      go_enter Tryz.func84, Tryz.ntmps84
      go_wp2
      go_ret
      rw [H.out]; exact ⟨rfl, rfl⟩
  · have H := Lib.hid (belowZ_no (i := i) (n := n) (by omega))
    go_enter Tryz.func84, Tryz.ntmps84
    go_wp2
    go_ret
    rw [H.out]; exact ⟨rfl, rfl⟩

set_option maxHeartbeats 400000 in
theorem mat_Has (N : Int) (A : Option Addr) (n c : Nat) (xss : List (List Nat)) (i j : Int) (w : World) (hr : RowsAt w A n xss) (hn : n ≤ 1073741824) (hl : ∀ xs ∈ xss, xs.length ≤ 1073741824)
    (h1 : -9223372036854775808 ≤ i) (h2 : i < 9223372036854775808) (h3 : -9223372036854775808 ≤ j) (h4 : j < 9223372036854775808) :
    Calls Tryz.prog 56 #[.agg #[.int .i64 N, .slice A n c], .int .i64 i, .int .i64 j] w (RetB (hasM xss i j) w) := by
  have hlen := hr.len
  by_cases h : 0 ≤ i ∧ i < (n : Int)
  · obtain ⟨k, rfl⟩ := Int.eq_ofNat_of_zero_le h.1
    have hk : k < n := by omega
    have hb := Lib.hid (belowZ_yes (i := (k : Int)) (n := (n : Int)) (by omega) (by omega))
    have ha : Below w.heap.size w (w.alloc (.cells #[.int .i64 N, .slice A n c] 57)) := (Below.refl _ _).alloc (Nat.le_refl _) _
    obtain ⟨b, off, B, m, d, xs, rfl, hbl, hx, hc, hxr⟩ := (hr.below ha).at_ hk
    have hm : m ≤ 1073741824 := by have := hxr.len; have := hl xs (List.mem_of_getElem? hx); omega
    have H := Lib.hid (hasM_in (j := j) hx)
    have hR := Lib.hid (fun W (hW : Row W B m xs) => row_Has B m d xs j W hW (by omega) h3 h4)
    replace hxr := Lib.hid hxr
    have hk0 : (0 : Int) ≤ (k : Int) := by omega
    have hkn : (k : Int) < (n : Int) := by omega
    clear h hx hr hlen hl
    replace ha := Lib.hid ha
    go_enter Tryz.func56, Tryz.ntmps56
    go_wp2_with fail
    refine (mat_below _ _ _).mono ?_; rintro e w' ⟨rfl, rfl⟩
    rw [hb.out]
    go_wp2_with fail
    refine (hR.out _ hxr.out).mono ?_; rintro e w' ⟨rfl, rfl⟩
    go_wp2
    go_ret
    rw [H.out]; exact ⟨rfl, ha.out⟩
  · have hb := Lib.hid (belowZ_no (i := i) (n := (n : Int)) (by omega))
    have H := Lib.hid (hasM_out (xss := xss) (i := i) (j := j) (by omega))
    have ha : Below w.heap.size w (w.alloc (.cells #[.int .i64 N, .slice A n c] 57)) := (Below.refl _ _).alloc (Nat.le_refl _) _
    clear h hlen hr hl
    replace ha := Lib.hid ha
    go_enter Tryz.func56, Tryz.ntmps56
    go_wp2_with fail
    refine (mat_below _ _ _).mono ?_; rintro e w' ⟨rfl, rfl⟩
    rw [hb.out]
    go_wp2
    go_ret
    rw [H.out]; exact ⟨rfl, ha.out⟩

end Go.Proofs.YtjhjojklfdjmdaaGreat
