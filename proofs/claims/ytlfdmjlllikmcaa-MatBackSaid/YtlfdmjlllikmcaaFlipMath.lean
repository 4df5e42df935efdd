/- Plain mathematics of a block of 64 words whose bits are turned about, size by size. Nothing of the program is imported. -/
import Derived.Test.YtlfdmjlllikmcaaMatMath
namespace Go.Proofs.Ytlfdmjlllikmcaa

/-- the lowest bits of each field of 2 s bits -/
def lowS (s : Nat) : Nat := 18446744073709551615 / (2 ^ s + 1)
def swapS (s x y : Nat) : Nat := (x >>> s ^^^ y) &&& lowS s
def newX (s x y : Nat) : Nat := x ^^^ swapS s x y <<< s
def newY (s x y : Nat) : Nat := y ^^^ swapS s x y
def Size (s : Nat) : Prop := s = 32 ∨ s = 16 ∨ s = 8 ∨ s = 4 ∨ s = 2 ∨ s = 1
theorem lowS_bit {s : Nat} (hs : Size s) : ∀ j, j < 64 → (lowS s).testBit j = decide (j / s % 2 = 0) := by
  rcases hs with h | h | h | h | h | h <;> subst h <;> decide +kernel
theorem lowS_lt {s : Nat} (hs : Size s) : lowS s < 2 ^ (64 - s) := by
  rcases hs with h | h | h | h | h | h <;> subst h <;> decide +kernel
theorem Size.le {s : Nat} (hs : Size s) : 0 < s ∧ s ≤ 32 := by
  rcases hs with h | h | h | h | h | h <;> subst h <;> omega
theorem swapS_lt {s : Nat} (hs : Size s) (x y : Nat) : swapS s x y < 2 ^ (64 - s) := Nat.lt_of_le_of_lt Nat.and_le_right (lowS_lt hs)
theorem swapS_shl {s : Nat} (hs : Size s) (x y : Nat) : swapS s x y <<< s < 18446744073709551616 := by
  rw [Nat.shiftLeft_eq]
  have h := swapS_lt hs x y
  have h2 : 2 ^ (64 - s) * 2 ^ s = 18446744073709551616 := by
    rw [← Nat.pow_add, Nat.sub_add_cancel (by have := hs.le; omega)]
  have := Nat.mul_lt_mul_of_pos_right h (Nat.two_pow_pos s)
  omega
theorem newX_lt {s x y : Nat} (hs : Size s) (hx : x < 18446744073709551616) : newX s x y < 18446744073709551616 :=
  Nat.xor_lt_two_pow (n := 64) hx (swapS_shl hs x y)
theorem swapS_lt64 {s : Nat} (hs : Size s) (x y : Nat) : swapS s x y < 18446744073709551616 := by
  have h := swapS_lt hs x y
  have : 2 ^ (64 - s) ≤ 2 ^ 64 := Nat.pow_le_pow_right (by omega) (by omega)
  omega
theorem newY_lt {s x y : Nat} (hs : Size s) (hy : y < 18446744073709551616) : newY s x y < 18446744073709551616 :=
  Nat.xor_lt_two_pow (n := 64) hy (swapS_lt64 hs x y)
theorem swapS_bit {s : Nat} (hs : Size s) (x y j : Nat) (hj : j < 64) : (swapS s x y).testBit j = ((x.testBit (s + j) ^^ y.testBit j) && decide (j / s % 2 = 0)) := by
  unfold swapS
  rw [Nat.testBit_and, Nat.testBit_xor, Nat.testBit_shiftRight, lowS_bit hs j hj]
theorem newY_bit {s : Nat} (hs : Size s) (x y j : Nat) (hj : j < 64) : (newY s x y).testBit j = if j / s % 2 = 0 then x.testBit (s + j) else y.testBit j := by
  unfold newY
  rw [Nat.testBit_xor, swapS_bit hs x y j hj]
  by_cases h : j / s % 2 = 0
  · rw [if_pos h, decide_eq_true h]; cases x.testBit (s + j) <;> cases y.testBit j <;> rfl
  · rw [if_neg h, decide_eq_false h]; cases x.testBit (s + j) <;> cases y.testBit j <;> rfl
theorem div_mod_two {j s : Nat} (hs : Size s) : (s ≤ j ∧ (j - s) / s % 2 = 0) ↔ j / s % 2 = 1 := by
  have h0 := hs.le.1
  constructor
  · rintro ⟨h1, h2⟩
    have : j / s = (j - s) / s + 1 := by
      rw [show j = (j - s) + s from by omega, Nat.add_div_right _ h0]; simp
    omega
  · intro h
    have h1 : s ≤ j := by
      rcases Nat.lt_or_ge j s with hlt | hge
      · rw [Nat.div_eq_of_lt hlt] at h; omega
      · exact hge
    refine ⟨h1, ?_⟩
    have : j / s = (j - s) / s + 1 := by
      rw [show j = (j - s) + s from by omega, Nat.add_div_right _ h0]; simp
    omega
theorem newX_bit {s : Nat} (hs : Size s) (x y j : Nat) (hj : j < 64) : (newX s x y).testBit j = if j / s % 2 = 1 then y.testBit (j - s) else x.testBit j := by
  unfold newX
  rw [Nat.testBit_xor, Nat.testBit_shiftLeft]
  by_cases h : j / s % 2 = 1
  · obtain ⟨h1, h2⟩ := (div_mod_two hs).2 h
    rw [if_pos h, decide_eq_true (by exact h1), swapS_bit hs x y (j - s) (by omega), decide_eq_true h2, show s + (j - s) = j from by omega]
    cases x.testBit j <;> cases y.testBit (j - s) <;> rfl
  · rw [if_neg h]
    by_cases h1 : s ≤ j
    · have h2 : ¬ (j - s) / s % 2 = 0 := fun h2 => h ((div_mod_two hs).1 ⟨h1, h2⟩)
      rw [swapS_bit hs x y (j - s) (by omega), decide_eq_false h2]
      simp
    · rw [decide_eq_false (by exact h1)]; simp

/-! ### one size: the rows, one by one -/
def midB (s : Nat) (old : List Nat) (m : Nat) : List Nat := (List.range 64).map fun r =>
  if r / s % 2 = 0 then (if r < m then newX s (old.getD r 0) (old.getD (r + s) 0) else old.getD r 0)
  else (if r < m + s then newY s (old.getD (r - s) 0) (old.getD r 0) else old.getD r 0)
def flipR (s : Nat) (old : List Nat) : List Nat := midB s old 64
theorem midB_len (s : Nat) (old : List Nat) (m : Nat) : (midB s old m).length = 64 := by simp [midB]
theorem midB_get (s : Nat) (old : List Nat) (m r : Nat) (hr : r < 64) : (midB s old m)[r]? = some (if r / s % 2 = 0 then (if r < m then newX s (old.getD r 0) (old.getD (r + s) 0) else old.getD r 0)
  else (if r < m + s then newY s (old.getD (r - s) 0) (old.getD r 0) else old.getD r 0)) := by
  unfold midB; rw [List.getElem?_map, List.getElem?_range hr]; rfl
theorem midB_zero {s : Nat} (hs : Size s) {old : List Nat} (hl : old.length = 64) : midB s old 0 = old := by
  apply List.ext_getElem?
  intro r
  rcases Nat.lt_or_ge r 64 with hr | hr
  · rw [midB_get s old 0 r hr]
    have hx := List.getElem?_eq_getElem (l := old) (i := r) (by omega)
    have hg : old.getD r 0 = old[r]'(by omega) := getD_at hx
    rw [hx]
    by_cases h : r / s % 2 = 0
    · rw [if_pos h, if_neg (by omega), hg]
    · have : s ≤ r := ((div_mod_two hs).2 (by omega)).1
      rw [if_neg h, if_neg (by omega), hg]
  · rw [List.getElem?_eq_none (by rw [midB_len]; exact hr), List.getElem?_eq_none (by omega)]
theorem midB_skip {s : Nat} (hs : Size s) (old : List Nat) (m : Nat) (h : ¬ m / s % 2 = 0) : midB s old (m + 1) = midB s old m := by
  unfold midB
  apply List.map_congr_left
  intro r _
  by_cases hr : r / s % 2 = 0
  · rw [if_pos hr, if_pos hr]
    by_cases h1 : r < m
    · rw [if_pos (by omega), if_pos h1]
    · rw [if_neg h1, if_neg]
      intro h2
      have : r = m := by omega
      subst this; exact h hr
  · rw [if_neg hr, if_neg hr]
    by_cases h1 : r < m + s
    · rw [if_pos (by omega), if_pos h1]
    · rw [if_neg h1, if_neg]
      intro h2
      have : r = m + s := by omega
      subst this
      have := ((div_mod_two (j := m + s) hs).2 (by omega)).2
      rw [Nat.add_sub_cancel] at this
      exact h this
theorem midB_step {s : Nat} (hs : Size s) (old : List Nat) (m : Nat) (h : m / s % 2 = 0) : midB s old (m + 1) = ((midB s old m).set m (newX s (old.getD m 0) (old.getD (m + s) 0))).set (m + s) (newY s (old.getD m 0) (old.getD (m + s) 0)) := by
  have h0 := hs.le.1
  have hms : ¬ (m + s) / s % 2 = 0 := by rw [Nat.add_div_right _ h0]; omega
  apply List.ext_getElem?
  intro r
  rcases Nat.lt_or_ge r 64 with hr | hr
  · rw [midB_get s old (m + 1) r hr, List.getElem?_set, List.getElem?_set, midB_get s old m r hr, List.length_set, midB_len]
    by_cases e1 : m + s = r
    · subst e1
      rw [if_pos rfl, if_pos hr, if_neg hms, if_pos (by omega), Nat.add_sub_cancel]
    · rw [if_neg e1]
      by_cases e2 : m = r
      · subst e2
        rw [if_pos rfl, if_pos hr, if_pos h, if_pos (by omega)]
      · rw [if_neg e2]
        congr 1
        by_cases hrr : r / s % 2 = 0
        · rw [if_pos hrr, if_pos hrr]
          by_cases h1 : r < m
          · rw [if_pos (by omega), if_pos h1]
          · rw [if_neg (by omega), if_neg h1]
        · rw [if_neg hrr, if_neg hrr]
          by_cases h1 : r < m + s
          · rw [if_pos (by omega), if_pos h1]
          · rw [if_neg (by omega), if_neg h1]
  · rw [List.getElem?_eq_none (by rw [midB_len]; exact hr), List.getElem?_eq_none (by rw [List.length_set, List.length_set, midB_len]; exact hr)]
theorem midB_at {s : Nat} (hs : Size s) (old : List Nat) (m : Nat) (hm : m < 64) (h : m / s % 2 = 0) : m + s < 64 ∧ (midB s old m)[m]? = some (old.getD m 0) ∧ (midB s old m)[m + s]? = some (old.getD (m + s) 0) := by
  have h0 := hs.le.1
  have hms : ¬ (m + s) / s % 2 = 0 := by rw [Nat.add_div_right _ h0]; omega
  have hlt : m + s < 64 := by
    rcases hs with e | e | e | e | e | e <;> subst e <;> omega
  refine ⟨hlt, ?_, ?_⟩
  · rw [midB_get s old m m hm, if_pos h, if_neg (by omega)]
  · rw [midB_get s old m (m + s) hlt, if_neg hms, if_neg (by omega)]
theorem midB_w64 {s : Nat} (hs : Size s) {old : List Nat} (h : W64 old) (m : Nat) : W64 (midB s old m) := by
  intro x hx
  unfold midB at hx
  obtain ⟨r, _, rfl⟩ := List.mem_map.1 hx
  by_cases a : r / s % 2 = 0
  · rw [if_pos a]
    by_cases b : r < m
    · rw [if_pos b]; exact newX_lt hs (getD_w64 h r)
    · rw [if_neg b]; exact getD_w64 h r
  · rw [if_neg a]
    by_cases b : r < m + s
    · rw [if_pos b]; exact newY_lt hs (getD_w64 h r)
    · rw [if_neg b]; exact getD_w64 h r

/-! ### the bits -/
/-- r, with j's bit of that size -/
def swB (s r j : Nat) : Nat := r - r / s % 2 * s + j / s % 2 * s
theorem flipR_bit {s : Nat} (hs : Size s) (old : List Nat) (r j : Nat) (hr : r < 64) (hj : j < 64) : ((flipR s old).getD r 0).testBit j = (old.getD (swB s r j) 0).testBit (swB s j r) := by
  unfold flipR
  rw [getD_at (midB_get s old 64 r hr)]
  have h2 : r / s % 2 = 0 ∨ r / s % 2 = 1 := by omega
  have h3 : j / s % 2 = 0 ∨ j / s % 2 = 1 := by omega
  rcases h2 with h2 | h2
  · rw [if_pos h2, if_pos hr, newX_bit hs _ _ _ hj]
    rcases h3 with h3 | h3
    · rw [if_neg (by omega)]
      unfold swB
      rw [h2, h3]; simp
    · rw [if_pos h3]
      unfold swB
      rw [h2, h3]; simp
  · rw [if_neg (by omega), if_pos (by omega), newY_bit hs _ _ _ hj]
    rcases h3 with h3 | h3
    · rw [if_pos h3]
      unfold swB
      rw [h2, h3]; simp [Nat.add_comm]
    · rw [if_neg (by omega)]
      have h4 := ((div_mod_two hs).2 h2).1
      have h5 := ((div_mod_two hs).2 h3).1
      unfold swB
      rw [h2, h3, Nat.one_mul, Nat.sub_add_cancel h4, Nat.sub_add_cancel h5]
theorem swB_lt {s r j : Nat} (hs : Size s) (hr : r < 64) (hj : j < 64) : swB s r j < 64 := by
  unfold swB
  rcases hs with e | e | e | e | e | e <;> subst e <;> omega
/-- the sizes that are left from a size on -/
def sizesTo : List Nat := [32, 16, 8, 4, 2, 1]
def flipB (b : List Nat) : List Nat := sizesTo.foldl (fun b s => flipR s b) b
theorem flip_pair : ∀ r, r < 64 → ∀ j, j < 64 →
    (let p1 := (swB 1 r j, swB 1 j r); let p2 := (swB 2 p1.1 p1.2, swB 2 p1.2 p1.1); let p3 := (swB 4 p2.1 p2.2, swB 4 p2.2 p2.1); let p4 := (swB 8 p3.1 p3.2, swB 8 p3.2 p3.1); let p5 := (swB 16 p4.1 p4.2, swB 16 p4.2 p4.1); (swB 32 p5.1 p5.2, swB 32 p5.2 p5.1)) = (j, r) := by decide +kernel
theorem flipB_bit (b : List Nat) (r j : Nat) (hr : r < 64) (hj : j < 64) : ((flipB b).getD r 0).testBit j = (b.getD j 0).testBit r := by
  have S32 : Size 32 := .inl rfl
  have S16 : Size 16 := .inr (.inl rfl)
  have S8 : Size 8 := .inr (.inr (.inl rfl))
  have S4 : Size 4 := .inr (.inr (.inr (.inl rfl)))
  have S2 : Size 2 := .inr (.inr (.inr (.inr (.inl rfl))))
  have S1 : Size 1 := .inr (.inr (.inr (.inr (.inr rfl))))
  have hp := flip_pair r hr j hj
  simp only [Prod.mk.injEq] at hp
  obtain ⟨hp1, hp2⟩ := hp
  show ((flipR 1 (flipR 2 (flipR 4 (flipR 8 (flipR 16 (flipR 32 b)))))).getD r 0).testBit j = _
  have a1 := swB_lt S1 hr hj
  have a2 := swB_lt S1 hj hr
  have b1 := swB_lt S2 a1 a2
  have b2 := swB_lt S2 a2 a1
  have c1 := swB_lt S4 b1 b2
  have c2 := swB_lt S4 b2 b1
  have d1 := swB_lt S8 c1 c2
  have d2 := swB_lt S8 c2 c1
  have e1 := swB_lt S16 d1 d2
  have e2 := swB_lt S16 d2 d1
  rw [flipR_bit S1 _ _ _ hr hj, flipR_bit S2 _ _ _ a1 a2, flipR_bit S4 _ _ _ b1 b2, flipR_bit S8 _ _ _ c1 c2, flipR_bit S16 _ _ _ d1 d2, flipR_bit S32 _ _ _ e1 e2, hp1, hp2]
theorem flipB_len (b : List Nat) : (flipB b).length = 64 := midB_len _ _ _
theorem flipR_w64 {s : Nat} (hs : Size s) {b : List Nat} (h : W64 b) : W64 (flipR s b) := midB_w64 hs h 64
theorem flipB_w64 {b : List Nat} (h : W64 b) : W64 (flipB b) :=
  flipR_w64 (.inr (.inr (.inr (.inr (.inr rfl))))) (flipR_w64 (.inr (.inr (.inr (.inr (.inl rfl))))) (flipR_w64 (.inr (.inr (.inr (.inl rfl)))) (flipR_w64 (.inr (.inr (.inl rfl))) (flipR_w64 (.inr (.inl rfl)) (flipR_w64 (.inl rfl) h)))))

end Go.Proofs.Ytlfdmjlllikmcaa
