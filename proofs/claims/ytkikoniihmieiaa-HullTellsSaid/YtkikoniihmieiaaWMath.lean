/- Plain mathematics of words of 64 bits: counts of bits, the lowest bit, sums of neighbouring fields. No Go is named here but the model's integer kinds. -/
import Derived.WalkKit
namespace Go.Proofs.Ytkikoniihmieiaa
open Go.RowKit

/-- how many of the lowest k bits are set -/
def pcF : Nat → Nat → Nat
  | 0, _ => 0
  | k + 1, x => x % 2 + pcF k (x / 2)
/-- the lowest of the lowest k bits that is set; k, if none is -/
def ffF : Nat → Nat → Nat
  | 0, _ => 0
  | k + 1, x => if x % 2 = 1 then 0 else 1 + ffF k (x / 2)
/-- the sum of the lowest n digits of x in base b -/
def dsF (b : Nat) : Nat → Nat → Nat
  | 0, _ => 0
  | n + 1, x => x % b + dsF b n (x / b)
def bitZ (i : Int) : Int := if 0 ≤ i ∧ i < 64 then 2 ^ i.toNat else 0
def hasB (x : Nat) (i : Int) : Bool := decide (0 ≤ i) && x.testBit i.toNat
def lowZ (n : Int) : Int := if n < 0 then 0 else 2 ^ (min n.toNat 64) - 1

theorem pcF_zero (k : Nat) : pcF k 0 = 0 := by induction k with | zero => rfl | succ k ih => simp [pcF, ih]
theorem pcF_le (k x : Nat) : pcF k x ≤ k := by
  induction k generalizing x with
  | zero => simp [pcF]
  | succ k ih => simp only [pcF]; have := ih (x / 2); omega
theorem ffF_le (k x : Nat) : ffF k x ≤ k := by
  induction k generalizing x with
  | zero => simp [ffF]
  | succ k ih => simp only [ffF]; have := ih (x / 2); split <;> omega
theorem pcF_more (k x : Nat) (h : x < 2 ^ k) : pcF (k + 1) x = pcF k x := by
  induction k generalizing x with
  | zero => simp at h; subst h; rfl
  | succ k ih => rw [pcF, ih (x / 2) (by omega), pcF]
/-- one step of counting from the low end -/
theorem pcF_step (k x : Nat) (h : x < 2 ^ k) (_hk : 0 < k) : pcF k x = x % 2 + pcF k (x / 2) := by
  rw [← pcF_more k x h]; rfl
theorem pcF_snoc (k x : Nat) : pcF (k + 1) x = pcF k x + (x.testBit k).toNat := by
  induction k generalizing x with
  | zero => simp [pcF, Nat.testBit_zero]; rcases Nat.mod_two_eq_zero_or_one x with h | h <;> simp [h]
  | succ k ih => rw [pcF, ih, pcF, Nat.testBit_succ]; omega
theorem ffF_none (k x : Nat) : ffF k x = k ↔ x % 2 ^ k = 0 := by
  induction k generalizing x with
  | zero => simp [ffF, Nat.mod_one]
  | succ k ih =>
    have e : x % 2 ^ (k + 1) = x % 2 + 2 * (x / 2 % 2 ^ k) := by
      rw [Nat.pow_succ, Nat.mul_comm, Nat.mod_mul]
    rw [ffF]; have := ih (x / 2); split <;> omega
theorem ffF_bit (k x : Nat) (h : ffF k x < k) : x.testBit (ffF k x) = true := by
  induction k generalizing x with
  | zero => omega
  | succ k ih =>
    rw [ffF] at h ⊢
    split at h
    · rename_i h1; rw [if_pos h1, Nat.testBit_zero]; simp [h1]
    · rename_i h1; rw [if_neg h1, Nat.add_comm 1, Nat.testBit_succ]; exact ih _ (by omega)
theorem ffF_low (k x : Nat) : x % 2 ^ (ffF k x) = 0 := by
  induction k generalizing x with
  | zero => simp [ffF, Nat.mod_one]
  | succ k ih =>
    rw [ffF]
    split
    · simp [Nat.mod_one]
    · rename_i h1
      have e : x % 2 ^ (ffF k (x / 2) + 1) = x % 2 + 2 * (x / 2 % 2 ^ (ffF k (x / 2))) := by
        rw [Nat.pow_succ, Nat.mul_comm, Nat.mod_mul]
      rw [Nat.add_comm 1, e, ih]; omega
theorem ffF_before (k x j : Nat) (h : j < ffF k x) : x.testBit j = false := by
  have h0 := ffF_low k x
  have e : (x % 2 ^ (ffF k x)).testBit j = (decide (j < ffF k x) && x.testBit j) := Nat.testBit_mod_two_pow _ _ _
  rw [h0] at e; simpa [h] using e.symm

/-! ### 'and' by halves -/
theorem and_cut (k x y : Nat) : x &&& y = 2 ^ k * (x / 2 ^ k &&& y / 2 ^ k) + (x % 2 ^ k &&& y % 2 ^ k) := by
  have h1 : (x &&& y) / 2 ^ k = x / 2 ^ k &&& y / 2 ^ k := Nat.and_div_two_pow
  have h2 : (x &&& y) % 2 ^ k = x % 2 ^ k &&& y % 2 ^ k := Nat.and_mod_two_pow
  rw [← h1, ← h2]; exact (Nat.div_add_mod _ _).symm
theorem and_bits (a b c d : Nat) (hb : b < 2) (hd : d < 2) : (2 * a + b) &&& (2 * c + d) = 2 * (a &&& c) + (b &&& d) := by
  rw [and_cut 1]; simp only [Nat.pow_one]
  rw [show (2 * a + b) / 2 = a from by omega, show (2 * c + d) / 2 = c from by omega, show (2 * a + b) % 2 = b from by omega, show (2 * c + d) % 2 = d from by omega]

theorem and_comp (k v : Nat) (h : v < 2 ^ k) : v &&& (2 ^ k - 1 - v) = 0 := by
  apply Nat.eq_of_testBit_eq; intro i
  rw [Nat.testBit_and, show 2 ^ k - 1 - v = 2 ^ k - (v + 1) from by omega, Nat.testBit_two_pow_sub_succ h]
  cases v.testBit i <;> simp

theorem low_bits (k w : Nat) (h : w < 2 ^ k) : ((w + (2 ^ k - 1)) % 2 ^ k) &&& (2 ^ k - 1 - w) = 2 ^ (ffF k w) - 1 := by
  induction k generalizing w with
  | zero => simp [ffF]
  | succ k ih =>
    have hp : 2 ^ (k + 1) = 2 * 2 ^ k := by rw [Nat.pow_succ]; omega
    have hpos : 0 < 2 ^ k := Nat.two_pow_pos k
    rw [ffF]
    by_cases h1 : w % 2 = 1
    · rw [if_pos h1]
      obtain ⟨v, rfl⟩ : ∃ v, w = 2 * v + 1 := ⟨w / 2, by omega⟩
      have hv : v < 2 ^ k := by omega
      have e1 : (2 * v + 1 + (2 ^ (k + 1) - 1)) % 2 ^ (k + 1) = 2 * v + 0 := by
        rw [show 2 * v + 1 + (2 ^ (k + 1) - 1) = 2 * v + 2 ^ (k + 1) from by omega, Nat.add_mod_right, Nat.mod_eq_of_lt (by omega)]; rfl
      have e2 : 2 ^ (k + 1) - 1 - (2 * v + 1) = 2 * (2 ^ k - 1 - v) + 0 := by omega
      rw [e1, e2, and_bits _ _ _ _ (by omega) (by omega), and_comp k v hv]; rfl
    · rw [if_neg h1]
      obtain ⟨v, rfl⟩ : ∃ v, w = 2 * v := ⟨w / 2, by omega⟩
      have hv : v < 2 ^ k := by omega
      have ev : 2 * v / 2 = v := by omega
      have e1 : (2 * v + (2 ^ (k + 1) - 1)) % 2 ^ (k + 1) = 2 * ((v + (2 ^ k - 1)) % 2 ^ k) + 1 := by
        by_cases hz : v = 0
        · subst hz; rw [Nat.mod_eq_of_lt (by omega), Nat.mod_eq_of_lt (by omega)]; omega
        · rw [show 2 * v + (2 ^ (k + 1) - 1) = (2 * v - 1) + 2 ^ (k + 1) from by omega, Nat.add_mod_right, Nat.mod_eq_of_lt (by omega),
            show v + (2 ^ k - 1) = (v - 1) + 2 ^ k from by omega, Nat.add_mod_right, Nat.mod_eq_of_lt (by omega)]; omega
      have e2 : 2 ^ (k + 1) - 1 - 2 * v = 2 * (2 ^ k - 1 - v) + 1 := by omega
      rw [e1, e2, and_bits _ _ _ _ (by omega) (by omega), ih v hv, ev, Nat.add_comm 1, Nat.pow_succ]
      have := Nat.two_pow_pos (ffF k v)
      simp; omega

theorem pcF_ones (k n : Nat) (h : n ≤ k) : pcF k (2 ^ n - 1) = n := by
  induction k generalizing n with
  | zero => obtain rfl : n = 0 := by omega
            rfl
  | succ k ih =>
    cases n with
    | zero => simp [pcF_zero]
    | succ n =>
      have := Nat.two_pow_pos n
      have e : 2 ^ (n + 1) = 2 * 2 ^ n := by rw [Nat.pow_succ]; omega
      rw [pcF, show (2 ^ (n + 1) - 1) / 2 = 2 ^ n - 1 from by omega, ih n (by omega), show (2 ^ (n + 1) - 1) % 2 = 1 from by omega]; omega

/-! ### sums of neighbouring fields -/
/-- the mask of n fields of 2m bits, the lower half of each set -/
def maskF (m : Nat) : Nat → Nat
  | 0 => 0
  | n + 1 => 2 ^ (2 * m) * maskF m n + (2 ^ m - 1)
theorem mask_and (m n x : Nat) : x &&& maskF m (n + 1) = 2 ^ (2 * m) * (x / 2 ^ (2 * m) &&& maskF m n) + x % 2 ^ m := by
  have hm : 2 ^ m ≤ 2 ^ (2 * m) := Nat.pow_le_pow_right (by omega) (by omega)
  have hp := Nat.two_pow_pos m
  rw [maskF, and_cut (2 * m)]
  have e1 : (2 ^ (2 * m) * maskF m n + (2 ^ m - 1)) / 2 ^ (2 * m) = maskF m n := by
    rw [Nat.mul_add_div (by omega), Nat.div_eq_of_lt (by omega)]; rfl
  have e2 : (2 ^ (2 * m) * maskF m n + (2 ^ m - 1)) % 2 ^ (2 * m) = 2 ^ m - 1 := by
    rw [Nat.mul_add_mod, Nat.mod_eq_of_lt (by omega)]
  rw [e1, e2, Nat.and_two_pow_sub_one_eq_mod, Nat.mod_mod_of_dvd _ (Nat.pow_dvd_pow 2 (by omega))]
/-- the sums of the two halves of each of n fields of 2m bits -/
def halvesF (m n x : Nat) : Nat := (x &&& maskF m n) + (x / 2 ^ m &&& maskF m n)
theorem halves_succ (m n x : Nat) : halvesF m (n + 1) x = 2 ^ (2 * m) * halvesF m n (x / 2 ^ (2 * m)) + (x % 2 ^ m + x / 2 ^ m % 2 ^ m) := by
  unfold halvesF
  rw [mask_and, mask_and, Nat.div_div_eq_div_mul, Nat.div_div_eq_div_mul, Nat.mul_comm (2 ^ m) (2 ^ (2 * m)), Nat.mul_add]
  omega
theorem dsF_halves (m n x : Nat) (hm : 0 < m) : dsF (2 ^ (2 * m)) n (halvesF m n x) = dsF (2 ^ m) (2 * n) x := by
  induction n generalizing x with
  | zero => rfl
  | succ n ih =>
    have h2 : 2 ^ (2 * m) = 2 ^ m * 2 ^ m := by rw [← Nat.pow_add]; congr 1; omega
    have hlo : 2 * 2 ^ m ≤ 2 ^ m * 2 ^ m := Nat.mul_le_mul_right _ (by
      have := Nat.pow_le_pow_right (n := 2) (by omega) hm; simpa using this)
    have l1 := Nat.mod_lt x (Nat.two_pow_pos m)
    have l2 := Nat.mod_lt (x / 2 ^ m) (Nat.two_pow_pos m)
    have hs : x % 2 ^ m + x / 2 ^ m % 2 ^ m < 2 ^ (2 * m) := by omega
    have d1 : (2 ^ (2 * m) * halvesF m n (x / 2 ^ (2 * m)) + (x % 2 ^ m + x / 2 ^ m % 2 ^ m)) / 2 ^ (2 * m) = halvesF m n (x / 2 ^ (2 * m)) := by
      rw [Nat.mul_add_div (by omega), Nat.div_eq_of_lt hs]; rfl
    have d2 : (2 ^ (2 * m) * halvesF m n (x / 2 ^ (2 * m)) + (x % 2 ^ m + x / 2 ^ m % 2 ^ m)) % 2 ^ (2 * m) = x % 2 ^ m + x / 2 ^ m % 2 ^ m := by
      rw [Nat.mul_add_mod, Nat.mod_eq_of_lt hs]
    rw [halves_succ, dsF, d1, d2, ih, show 2 * (n + 1) = (2 * n + 1) + 1 from by omega, dsF, dsF, Nat.div_div_eq_div_mul, ← h2]
    omega
theorem halves_lt (m n x : Nat) (hm : 0 < m) : halvesF m n x < 2 ^ (2 * m * n) := by
  induction n generalizing x with
  | zero => simp [halvesF, maskF]
  | succ n ih =>
    have h2 : 2 ^ (2 * m) = 2 ^ m * 2 ^ m := by rw [← Nat.pow_add]; congr 1; omega
    have hlo : 2 * 2 ^ m ≤ 2 ^ m * 2 ^ m := Nat.mul_le_mul_right _ (by
      have := Nat.pow_le_pow_right (n := 2) (by omega) hm; simpa using this)
    have l1 := Nat.mod_lt x (Nat.two_pow_pos m)
    have l2 := Nat.mod_lt (x / 2 ^ m) (Nat.two_pow_pos m)
    rw [halves_succ, Nat.mul_succ, Nat.pow_add, Nat.mul_comm (2 ^ (2 * m * n))]
    have hq := ih (x / 2 ^ (2 * m))
    have : 2 ^ (2 * m) * halvesF m n (x / 2 ^ (2 * m)) + 2 ^ (2 * m) ≤ 2 ^ (2 * m) * 2 ^ (2 * m * n) := by
      have := Nat.mul_le_mul_left (2 ^ (2 * m)) (Nat.succ_le_of_lt hq)
      rwa [Nat.mul_succ] at this
    omega
theorem dsF_two (n x : Nat) : dsF 2 n x = pcF n x := by
  induction n generalizing x with
  | zero => rfl
  | succ n ih => rw [dsF, pcF, ih]
theorem dsF_le (b n x : Nat) (hb : 0 < b) : dsF b n x ≤ n * (b - 1) := by
  induction n generalizing x with
  | zero => simp [dsF]
  | succ n ih => rw [dsF, Nat.succ_mul]; have := Nat.mod_lt x hb; have := ih (x / b); omega

/-! ### of 64 bits -/
def pop (x : Nat) : Nat := pcF 64 x
def low0 (x : Nat) : Nat := ffF 64 x
theorem pop_def (x : Nat) : pop x = pcF 64 x := rfl
theorem low0_def (x : Nat) : low0 x = ffF 64 x := rfl
attribute [irreducible] pop low0
theorem pop_le (x : Nat) : pop x ≤ 64 := by rw [pop_def]; exact pcF_le 64 x
theorem low0_le (x : Nat) : low0 x ≤ 64 := by rw [low0_def]; exact ffF_le 64 x
theorem pop_zero : pop 0 = 0 := by rw [pop_def]; exact pcF_zero 64
theorem pop_step (x : Nat) (h : x < 18446744073709551616) : pop x = x % 2 + pop (x / 2) := by
  rw [pop_def, pop_def]; exact pcF_step 64 x h (by omega)
theorem pop_ones (n : Nat) (h : n ≤ 64) : pop (2 ^ n - 1) = n := by rw [pop_def]; exact pcF_ones 64 n h
theorem low0_bit (x : Nat) (h : low0 x < 64) : x.testBit (low0 x) = true := by rw [low0_def] at h ⊢; exact ffF_bit 64 x h
theorem low0_before (x j : Nat) (h : j < low0 x) : x.testBit j = false := by rw [low0_def] at h; exact ffF_before 64 x j h
theorem low0_of (x k : Nat) (hk : k < 64) (h1 : x.testBit k = true) (h0 : ∀ j, j < k → x.testBit j = false) : low0 x = k := by
  have h2 := low0_before x
  rcases Nat.lt_trichotomy (low0 x) k with h | h | h
  · have := h0 _ h; rw [low0_bit x (by omega)] at this; cases this
  · exact h
  · have := h2 k h; rw [h1] at this; cases this
theorem low0_none (x : Nat) (h0 : ∀ j, j < 64 → x.testBit j = false) : low0 x = 64 := by
  have h := low0_le x
  rcases Nat.lt_or_ge (low0 x) 64 with h1 | h1
  · have := h0 _ h1; rw [low0_bit x h1] at this; cases this
  · omega

end Go.Proofs.Ytkikoniihmieiaa
