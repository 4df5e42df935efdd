/- Plain mathematics of a block of 64 words whose bits are turned about, size by size. Nothing of the program is imported. Contracts of package mat: flip. -/
import Derived.Test.YtkikoniihmieiaaMatMath
import Derived.Test.YtkikoniihmieiaaMatPairs
namespace Go.Proofs.Ytkikoniihmieiaa

/-- the lowest bits of each field of 2 s bits -/
def lowS (s : Nat) : Nat := 18446744073709551615 / (2 ^ s + 1)
def swapS (s x y : Nat) : Nat := (x >>> s ^^^ y) &&& lowS s
def newX (s x y : Nat) : Nat := x ^^^ swapS s x y <<< s
def newY (s x y : Nat) : Nat := y ^^^ swapS s x y
def Size (s : Nat) : Prop := s = 32 ∨ s = 16 ∨ s = 8 ∨ s = 4 ∨ s = 2 ∨ s = 1
theorem lowS_bit {s : Nat} (hs : Size s) : ∀ j, j < 64 → (lowS s).testBit j = decide (j / s % 2 = 0) := by
  rcases hs with h | h | h | h | h | h <;> subst h <;> decide +kernel
theorem lowS_lt {s : Nat} (hs : Size s) : lowS s < 2 ^ (64 - s) := by
  rcases hs with h | h | h | h | h | h <;> subst h <;> decide +kernel
theorem Size.le {s : Nat} (hs : Size s) : 0 < s ∧ s ≤ 32 := by
  rcases hs with h | h | h | h | h | h <;> subst h <;> omega
theorem swapS_lt {s : Nat} (hs : Size s) (x y : Nat) : swapS s x y < 2 ^ (64 - s) := Nat.lt_of_le_of_lt Nat.and_le_right (lowS_lt hs)
theorem swapS_shl {s : Nat} (hs : Size s) (x y : Nat) : swapS s x y <<< s < 18446744073709551616 := by
  rw [Nat.shiftLeft_eq]
  have h := swapS_lt hs x y
  have h2 : 2 ^ (64 - s) * 2 ^ s = 18446744073709551616 := by
    rw [← Nat.pow_add, Nat.sub_add_cancel (by have := hs.le; omega)]
  have := Nat.mul_lt_mul_of_pos_right h (Nat.two_pow_pos s)
  omega
theorem newX_lt {s x y : Nat} (hs : Size s) (hx : x < 18446744073709551616) : newX s x y < 18446744073709551616 :=
  Nat.xor_lt_two_pow (n := 64) hx (swapS_shl hs x y)
theorem swapS_lt64 {s : Nat} (hs : Size s) (x y : Nat) : swapS s x y < 18446744073709551616 := by
  have h := swapS_lt hs x y
  have : 2 ^ (64 - s) ≤ 2 ^ 64 := Nat.pow_le_pow_right (by omega) (by omega)
  omega
theorem newY_lt {s x y : Nat} (hs : Size s) (hy : y < 18446744073709551616) : newY s x y < 18446744073709551616 :=
  Nat.xor_lt_two_pow (n := 64) hy (swapS_lt64 hs x y)
theorem swapS_bit {s : Nat} (hs : Size s) (x y j : Nat) (hj : j < 64) : (swapS s x y).testBit j = ((x.testBit (s + j) ^^ y.testBit j) && decide (j / s % 2 = 0)) := by
  unfold swapS
  rw [Nat.testBit_and, Nat.testBit_xor, Nat.testBit_shiftRight, lowS_bit hs j hj]
theorem newY_bit {s : Nat} (hs : Size s) (x y j : Nat) (hj : j < 64) : (newY s x y).testBit j = if j / s % 2 = 0 then x.testBit (s + j) else y.testBit j := by
  unfold newY
  rw [Nat.testBit_xor, swapS_bit hs x y j hj]
  by_cases h : j / s % 2 = 0
  · rw [if_pos h, decide_eq_true h]; cases x.testBit (s + j) <;> cases y.testBit j <;> rfl
  · rw [if_neg h, decide_eq_false h]; cases x.testBit (s + j) <;> cases y.testBit j <;> rfl
theorem div_mod_two {j s : Nat} (hs : Size s) : (s ≤ j ∧ (j - s) / s % 2 = 0) ↔ j / s % 2 = 1 := by
  have h0 := hs.le.1
  constructor
  · rintro ⟨h1, h2⟩
    have : j / s = (j - s) / s + 1 := by
      rw [show j = (j - s) + s from by omega, Nat.add_div_right _ h0]; simp
    omega
  · intro h
    have h1 : s ≤ j := by
      rcases Nat.lt_or_ge j s with hlt | hge
      · rw [Nat.div_eq_of_lt hlt] at h; omega
      · exact hge
    refine ⟨h1, ?_⟩
    have : j / s = (j - s) / s + 1 := by
      rw [show j = (j - s) + s from by omega, Nat.add_div_right _ h0]; simp
    omega
theorem newX_bit {s : Nat} (hs : Size s) (x y j : Nat) (hj : j < 64) : (newX s x y).testBit j = if j / s % 2 = 1 then y.testBit (j - s) else x.testBit j := by
  unfold newX
  rw [Nat.testBit_xor, Nat.testBit_shiftLeft]
  by_cases h : j / s % 2 = 1
  · obtain ⟨h1, h2⟩ := (div_mod_two hs).2 h
    rw [if_pos h, decide_eq_true (by exact h1), swapS_bit hs x y (j - s) (by omega), decide_eq_true h2, show s + (j - s) = j from by omega]
    cases x.testBit j <;> cases y.testBit (j - s) <;> rfl
  · rw [if_neg h]
    by_cases h1 : s ≤ j
    · have h2 : ¬ (j - s) / s % 2 = 0 := fun h2 => h ((div_mod_two hs).1 ⟨h1, h2⟩)
      rw [swapS_bit hs x y (j - s) (by omega), decide_eq_false h2]
      simp
    · rw [decide_eq_false (by exact h1)]; simp

/-! ### one size: the rows, one by one -/
def midB (s : Nat) (old : List Nat) (m : Nat) : List Nat := (List.range 64).map fun r =>
  if r / s % 2 = 0 then (if r < m then newX s (old.getD r 0) (old.getD (r + s) 0) else old.getD r 0)
  else (if r < m + s then newY s (old.getD (r - s) 0) (old.getD r 0) else old.getD r 0)
def flipR (s : Nat) (old : List Nat) : List Nat := midB s old 64
theorem midB_len (s : Nat) (old : List Nat) (m : Nat) : (midB s old m).length = 64 := by simp [midB]
theorem midB_get (s : Nat) (old : List Nat) (m r : Nat) (hr : r < 64) : (midB s old m)[r]? = some (if r / s % 2 = 0 then (if r < m then newX s (old.getD r 0) (old.getD (r + s) 0) else old.getD r 0)
  else (if r < m + s then newY s (old.getD (r - s) 0) (old.getD r 0) else old.getD r 0)) := by
  unfold midB; rw [List.getElem?_map, List.getElem?_range hr]; rfl
theorem midB_zero {s : Nat} (hs : Size s) {old : List Nat} (hl : old.length = 64) : midB s old 0 = old := by
  apply List.ext_getElem?
  intro r
  rcases Nat.lt_or_ge r 64 with hr | hr
  · rw [midB_get s old 0 r hr]
    have hx := List.getElem?_eq_getElem (l := old) (i := r) (by omega)
    have hg : old.getD r 0 = old[r]'(by omega) := getD_at hx
    rw [hx]
    by_cases h : r / s % 2 = 0
    · rw [if_pos h, if_neg (by omega), hg]
    · have : s ≤ r := ((div_mod_two hs).2 (by omega)).1
      rw [if_neg h, if_neg (by omega), hg]
  · rw [List.getElem?_eq_none (by rw [midB_len]; exact hr), List.getElem?_eq_none (by omega)]
theorem midB_skip {s : Nat} (hs : Size s) (old : List Nat) (m : Nat) (h : ¬ m / s % 2 = 0) : midB s old (m + 1) = midB s old m := by
  unfold midB
  apply List.map_congr_left
  intro r _
  by_cases hr : r / s % 2 = 0
  · rw [if_pos hr, if_pos hr]
    by_cases h1 : r < m
    · rw [if_pos (by omega), if_pos h1]
    · rw [if_neg h1, if_neg]
      intro h2
      have : r = m := by omega
      subst this; exact h hr
  · rw [if_neg hr, if_neg hr]
    by_cases h1 : r < m + s
    · rw [if_pos (by omega), if_pos h1]
    · rw [if_neg h1, if_neg]
      intro h2
      have : r = m + s := by omega
      subst this
      have := ((div_mod_two (j := m + s) hs).2 (by omega)).2
      rw [Nat.add_sub_cancel] at this
      exact h this
theorem midB_step {s : Nat} (hs : Size s) (old : List Nat) (m : Nat) (h : m / s % 2 = 0) : midB s old (m + 1) = ((midB s old m).set m (newX s (old.getD m 0) (old.getD (m + s) 0))).set (m + s) (newY s (old.getD m 0) (old.getD (m + s) 0)) := by
  have h0 := hs.le.1
  have hms : ¬ (m + s) / s % 2 = 0 := by rw [Nat.add_div_right _ h0]; omega
  apply List.ext_getElem?
  intro r
  rcases Nat.lt_or_ge r 64 with hr | hr
  · rw [midB_get s old (m + 1) r hr, List.getElem?_set, List.getElem?_set, midB_get s old m r hr, List.length_set, midB_len]
    by_cases e1 : m + s = r
    · subst e1
      rw [if_pos rfl, if_pos hr, if_neg hms, if_pos (by omega), Nat.add_sub_cancel]
    · rw [if_neg e1]
      by_cases e2 : m = r
      · subst e2
        rw [if_pos rfl, if_pos hr, if_pos h, if_pos (by omega)]
      · rw [if_neg e2]
        congr 1
        by_cases hrr : r / s % 2 = 0
        · rw [if_pos hrr, if_pos hrr]
          by_cases h1 : r < m
          · rw [if_pos (by omega), if_pos h1]
          · rw [if_neg (by omega), if_neg h1]
        · rw [if_neg hrr, if_neg hrr]
          by_cases h1 : r < m + s
          · rw [if_pos (by omega), if_pos h1]
          · rw [if_neg (by omega), if_neg h1]
  · rw [List.getElem?_eq_none (by rw [midB_len]; exact hr), List.getElem?_eq_none (by rw [List.length_set, List.length_set, midB_len]; exact hr)]
theorem midB_at {s : Nat} (hs : Size s) (old : List Nat) (m : Nat) (hm : m < 64) (h : m / s % 2 = 0) : m + s < 64 ∧ (midB s old m)[m]? = some (old.getD m 0) ∧ (midB s old m)[m + s]? = some (old.getD (m + s) 0) := by
  have h0 := hs.le.1
  have hms : ¬ (m + s) / s % 2 = 0 := by rw [Nat.add_div_right _ h0]; omega
  have hlt : m + s < 64 := by
    rcases hs with e | e | e | e | e | e <;> subst e <;> omega
  refine ⟨hlt, ?_, ?_⟩
  · rw [midB_get s old m m hm, if_pos h, if_neg (by omega)]
  · rw [midB_get s old m (m + s) hlt, if_neg hms, if_neg (by omega)]
theorem midB_w64 {s : Nat} (hs : Size s) {old : List Nat} (h : W64 old) (m : Nat) : W64 (midB s old m) := by
  intro x hx
  unfold midB at hx
  obtain ⟨r, _, rfl⟩ := List.mem_map.1 hx
  by_cases a : r / s % 2 = 0
  · rw [if_pos a]
    by_cases b : r < m
    · rw [if_pos b]; exact newX_lt hs (getD_w64 h r)
    · rw [if_neg b]; exact getD_w64 h r
  · rw [if_neg a]
    by_cases b : r < m + s
    · rw [if_pos b]; exact newY_lt hs (getD_w64 h r)
    · rw [if_neg b]; exact getD_w64 h r

/-! ### the bits -/
/-- r, with j's bit of that size -/
def swB (s r j : Nat) : Nat := r - r / s % 2 * s + j / s % 2 * s
theorem flipR_bit {s : Nat} (hs : Size s) (old : List Nat) (r j : Nat) (hr : r < 64) (hj : j < 64) : ((flipR s old).getD r 0).testBit j = (old.getD (swB s r j) 0).testBit (swB s j r) := by
  unfold flipR
  rw [getD_at (midB_get s old 64 r hr)]
  have h2 : r / s % 2 = 0 ∨ r / s % 2 = 1 := by omega
  have h3 : j / s % 2 = 0 ∨ j / s % 2 = 1 := by omega
  rcases h2 with h2 | h2
  · rw [if_pos h2, if_pos hr, newX_bit hs _ _ _ hj]
    rcases h3 with h3 | h3
    · rw [if_neg (by omega)]
      unfold swB
      rw [h2, h3]; simp
    · rw [if_pos h3]
      unfold swB
      rw [h2, h3]; simp
  · rw [if_neg (by omega), if_pos (by omega), newY_bit hs _ _ _ hj]
    rcases h3 with h3 | h3
    · rw [if_pos h3]
      unfold swB
      rw [h2, h3]; simp [Nat.add_comm]
    · rw [if_neg (by omega)]
      have h4 := ((div_mod_two hs).2 h2).1
      have h5 := ((div_mod_two hs).2 h3).1
      unfold swB
      rw [h2, h3, Nat.one_mul, Nat.sub_add_cancel h4, Nat.sub_add_cancel h5]
theorem swB_lt {s r j : Nat} (hs : Size s) (hr : r < 64) (hj : j < 64) : swB s r j < 64 := by
  unfold swB
  rcases hs with e | e | e | e | e | e <;> subst e <;> omega
/-- the sizes that are left from a size on -/
def sizesTo : List Nat := [32, 16, 8, 4, 2, 1]
def flipB (b : List Nat) : List Nat := sizesTo.foldl (fun b s => flipR s b) b
theorem flip_pair : ∀ r, r < 64 → ∀ j, j < 64 →
    (let p1 := (swB 1 r j, swB 1 j r); let p2 := (swB 2 p1.1 p1.2, swB 2 p1.2 p1.1); let p3 := (swB 4 p2.1 p2.2, swB 4 p2.2 p2.1); let p4 := (swB 8 p3.1 p3.2, swB 8 p3.2 p3.1); let p5 := (swB 16 p4.1 p4.2, swB 16 p4.2 p4.1); (swB 32 p5.1 p5.2, swB 32 p5.2 p5.1)) = (j, r) := by decide +kernel
theorem flipB_bit (b : List Nat) (r j : Nat) (hr : r < 64) (hj : j < 64) : ((flipB b).getD r 0).testBit j = (b.getD j 0).testBit r := by
  have S32 : Size 32 := .inl rfl
  have S16 : Size 16 := .inr (.inl rfl)
  have S8 : Size 8 := .inr (.inr (.inl rfl))
  have S4 : Size 4 := .inr (.inr (.inr (.inl rfl)))
  have S2 : Size 2 := .inr (.inr (.inr (.inr (.inl rfl))))
  have S1 : Size 1 := .inr (.inr (.inr (.inr (.inr rfl))))
  have hp := flip_pair r hr j hj
  simp only [Prod.mk.injEq] at hp
  obtain ⟨hp1, hp2⟩ := hp
  show ((flipR 1 (flipR 2 (flipR 4 (flipR 8 (flipR 16 (flipR 32 b)))))).getD r 0).testBit j = _
  have a1 := swB_lt S1 hr hj
  have a2 := swB_lt S1 hj hr
  have b1 := swB_lt S2 a1 a2
  have b2 := swB_lt S2 a2 a1
  have c1 := swB_lt S4 b1 b2
  have c2 := swB_lt S4 b2 b1
  have d1 := swB_lt S8 c1 c2
  have d2 := swB_lt S8 c2 c1
  have e1 := swB_lt S16 d1 d2
  have e2 := swB_lt S16 d2 d1
  rw [flipR_bit S1 _ _ _ hr hj, flipR_bit S2 _ _ _ a1 a2, flipR_bit S4 _ _ _ b1 b2, flipR_bit S8 _ _ _ c1 c2, flipR_bit S16 _ _ _ d1 d2, flipR_bit S32 _ _ _ e1 e2, hp1, hp2]
theorem flipB_len (b : List Nat) : (flipB b).length = 64 := midB_len _ _ _
theorem flipR_w64 {s : Nat} (hs : Size s) {b : List Nat} (h : W64 b) : W64 (flipR s b) := midB_w64 hs h 64
theorem flipB_w64 {b : List Nat} (h : W64 b) : W64 (flipB b) :=
  flipR_w64 (.inr (.inr (.inr (.inr (.inr rfl))))) (flipR_w64 (.inr (.inr (.inr (.inr (.inl rfl))))) (flipR_w64 (.inr (.inr (.inr (.inl rfl)))) (flipR_w64 (.inr (.inr (.inl rfl))) (flipR_w64 (.inr (.inl rfl)) (flipR_w64 (.inl rfl) h)))))

end Go.Proofs.Ytkikoniihmieiaa

namespace Go.Proofs.Ytkikoniihmieiaa
open Go.RowKit
set_option linter.unusedVariables false

/-- all but block g is as it was; how often the order was drawn is not said -/
structure OnlyAt (g : Nat) (w w' : World) : Prop where
  os : w'.os = w.os
  tape : w'.tape = w.tape
  output : w'.output = w.output
  size : w'.heap.size = w.heap.size
  block : ∀ k, k ≠ g → w'.heap[k]? = w.heap[k]?
theorem OnlyAt.refl (g : Nat) (w : World) : OnlyAt g w w := ⟨rfl, rfl, rfl, rfl, fun _ _ => rfl⟩
theorem OnlyAt.drewN {g : Nat} {w w' : World} (h : OnlyAt g w w') (n : Nat) : OnlyAt g w (w'.drewN n) := ⟨h.os, h.tape, h.output, h.size, h.block⟩
theorem OnlyAt.set {g : Nat} {w w' : World} (h : OnlyAt g w w') (o : Nat) (u : Value) : OnlyAt g w (w'.setCell ⟨g, o, none⟩ u) :=
  ⟨h.os, h.tape, h.output, by simpa using h.size, fun k hk => (Below.heap_setCell w' ⟨g, o, none⟩ u k (by simpa using hk)).trans (h.block k hk)⟩
theorem OnlyAt.below {g : Nat} {w w' : World} (h : OnlyAt g w w') : Below g w w' := ⟨h.os, h.tape, h.output, by rw [h.size]; exact Nat.le_refl _, fun k hk => h.block k (by omega)⟩
theorem OnlyAt.trans {g : Nat} {a b c : World} (h : OnlyAt g a b) (k : OnlyAt g b c) : OnlyAt g a c :=
  ⟨k.os.trans h.os, k.tape.trans h.tape, k.output.trans h.output, k.size.trans h.size, fun i hi => (k.block i hi).trans (h.block i hi)⟩
theorem OnlyAt.cell {g : Nat} {w w' : World} (h : OnlyAt g w w') {p : Addr} (hp : p.block ≠ g) : w'.cell? p = w.cell? p := World.cell?_of_block (h.block _ hp)

def szq (q : Nat) : Nat := [32, 16, 8, 4, 2, 1].getD q 0
def flipK (q : Nat) (b : List Nat) : List Nat := (sizesTo.take q).foldl (fun b s => flipR s b) b
theorem szq_size {q : Nat} (h : q < 6) : Size (szq q) ∧ szq q / 2 = szq (q + 1) ∧ 0 < szq q := by
  have : q = 0 ∨ q = 1 ∨ q = 2 ∨ q = 3 ∨ q = 4 ∨ q = 5 := by omega
  unfold Size
  rcases this with e | e | e | e | e | e <;> subst e <;> decide
theorem flipK_succ {q : Nat} (h : q < 6) (b : List Nat) : flipK (q + 1) b = flipR (szq q) (flipK q b) := by
  have : q = 0 ∨ q = 1 ∨ q = 2 ∨ q = 3 ∨ q = 4 ∨ q = 5 := by omega
  rcases this with e | e | e | e | e | e <;> subst e <;> rfl
theorem flipK_all (b : List Nat) : flipK 6 b = flipB b := rfl
theorem flipK_len (b : List Nat) (hb : b.length = 64) : ∀ q, q ≤ 6 → (flipK q b).length = 64
  | 0, _ => hb
  | q + 1, h => by rw [flipK_succ (by omega)]; exact midB_len _ _ _
theorem flipK_w64 (b : List Nat) (hb : W64 b) : ∀ q, q ≤ 6 → W64 (flipK q b)
  | 0, _ => hb
  | q + 1, h => by rw [flipK_succ (by omega)]; exact flipR_w64 (szq_size (by omega)).1 (flipK_w64 b hb q (by omega))
theorem and_size {s : Nat} (hs : Size s) : ∀ m, m < 64 → (m &&& s = 0 ↔ m / s % 2 = 0) := by
  rcases hs with h | h | h | h | h | h <;> subst h <;> decide +kernel
theorem size_test {s : Nat} (hs : Size s) {m : Nat} (hm : m < 64) : (bits BinOp.and IntKind.i64 (m : Int) (s : Int) != 0) = decide (¬ m / s % 2 = 0) := by
  have h1 := hs.le
  rw [i64_and_nat m s (by omega) (by omega), Bool.eq_iff_iff, bne_iff_ne, decide_eq_true_eq, ← and_size hs m hm]
  omega

theorem shr_nat (x s : Nat) : (x : Int) / 2 ^ s = ((x >>> s : Nat) : Int) := by
  rw [Nat.shiftRight_eq_div_pow, Int.natCast_ediv]; simp
theorem swap_eq {s x y : Nat} (hs : Size s) (hx : x < 18446744073709551616) (hy : y < 18446744073709551616) : bits BinOp.and IntKind.u64 (bits BinOp.xor IntKind.u64 ((x : Int) / 2 ^ s) (y : Int)) (lowS s : Nat) = ((swapS s x y : Nat) : Int) := by
  have h1 : x >>> s < 18446744073709551616 := by
    rw [Nat.shiftRight_eq_div_pow]; exact Nat.lt_of_le_of_lt (Nat.div_le_self _ _) hx
  have h2 : lowS s < 18446744073709551616 := by
    have h := lowS_lt hs
    have : 2 ^ (64 - s) ≤ 2 ^ 64 := Nat.pow_le_pow_right (by omega) (by omega)
    omega
  rw [shr_nat, u64_xor_nat _ _ h1 hy, u64_and_nat _ _ (Nat.xor_lt_two_pow (n := 64) h1 hy) h2]
  rfl
theorem shl_eq {s x y : Nat} (hs : Size s) : IntKind.u64.wrap (((swapS s x y : Nat) : Int) * 2 ^ s) = ((swapS s x y <<< s : Nat) : Int) := by
  have h := swapS_shl hs x y
  rw [Nat.shiftLeft_eq] at h ⊢
  rw [IntKind.wrap_u64, Int.natCast_mul, Int.natCast_pow]
  have e : ((2 : Nat) : Int) = 2 := rfl
  rw [e]
  have h' : ((swapS s x y * 2 ^ s : Nat) : Int) < 18446744073709551616 := by omega
  rw [Int.natCast_mul, Int.natCast_pow, e] at h'
  have h0 : (0 : Int) ≤ (swapS s x y : Int) * 2 ^ s := Int.mul_nonneg (by omega) (Int.pow_nonneg (by omega))
  omega
def shlS (s x y : Nat) : Nat := swapS s x y <<< s
theorem shl_eq' {s x y : Nat} (hs : Size s) : IntKind.u64.wrap (((swapS s x y : Nat) : Int) * 2 ^ s) = ((shlS s x y : Nat) : Int) := shl_eq hs
theorem newX_eq {s x y : Nat} (hs : Size s) (hx : x < 18446744073709551616) : bits BinOp.xor IntKind.u64 (x : Int) ((shlS s x y : Nat) : Int) = ((newX s x y : Nat) : Int) := by
  unfold shlS
  rw [u64_xor_nat _ _ hx (swapS_shl hs x y)]; rfl
theorem newY_eq {s x y : Nat} (hs : Size s) (hy : y < 18446744073709551616) : bits BinOp.xor IntKind.u64 (y : Int) ((swapS s x y : Nat) : Int) = ((newY s x y : Nat) : Int) := by
  rw [u64_xor_nat _ _ hy (swapS_lt64 hs x y)]; rfl

set_option maxRecDepth 100000 in
set_option maxHeartbeats 2000000 in
theorem mat_flip (g : Nat) (b : List Nat) (w : World) (hB : Blk w g 67 (b.map u64v)) (hl : b.length = 64) (hb : W64 b) :
    Calls Try.prog 60 #[.pointer (some ⟨g, 0, none⟩)] w fun e w' => e = .returned (.tuple #[]) ∧ Blk w' g 67 ((flipB b).map u64v) ∧ OnlyAt g w w' := by
  replace hB := Lib.hid hB
  go_enter Try.func60, Try.ntmps60
  go_wp2_with fail
  go_loopw [2] (fun t wr => ∃ q : Nat, q ≤ 6 ∧ t = .int .i64 (szq q : Nat) ∧ Hid (Blk wr g 67 ((flipK q b).map u64v)) ∧ Hid (OnlyAt g w wr)) (fun t _ => (intOf t).toNat)
  case atStart => exact ⟨0, by omega, rfl, hB, Lib.hid (OnlyAt.refl _ _)⟩
  case round =>
    obtain ⟨q, hq, rfl, hBr, hor⟩ := hrel
    by_cases hlt : q < 6
    · obtain ⟨hs, hhalf, hpos⟩ := szq_size hlt
      have hfl := Lib.hid (flipK_len b hl q hq)
      have hfw := Lib.hid (flipK_w64 b hb q hq)
      have hst := Lib.hid (flipK_succ hlt b)
      obtain ⟨s, hse⟩ : ∃ s, s = szq q := ⟨_, rfl⟩
      rw [← hse] at hs hhalf hpos hst
      rw [← hse]
      obtain ⟨old, hold⟩ : ∃ old, old = flipK q b := ⟨_, rfl⟩
      rw [← hold] at hBr hfl hfw hst
      have hle := hs.le
      have hw1 := Lib.hid (word_Low 64 (by omega) (by omega))
      have hw2 := Lib.hid (word_BitN s (by omega))
      replace hse := Lib.hid hse
      replace hold := Lib.hid hold
      replace hhalf := Lib.hid hhalf
      have hp0 : (0 : Int) < (s : Int) := by omega
      have hz : lowZ 64 = 18446744073709551615 := by decide
      replace hz := Lib.hid hz
      have hp1 : p2 s ≤ 9223372036854775808 := p2_lt s (by omega)
      have hp2 := p2_pos s
      have hdiv : (18446744073709551615 : Int) / ((p2 s : Nat) + 1) = (lowS s : Nat) := by
        unfold lowS p2
        rw [Int.natCast_ediv]; simp
      replace hdiv := Lib.hid hdiv
      go_wp2_with fail
      refine (hw1.out _).mono ?_; rintro e w' ⟨rfl, rfl⟩
      rw [hz.out]
      go_wp2_with fail
      refine (hw2.out _).mono ?_; rintro e w' ⟨rfl, rfl⟩
      go_wp2_with fail
      rw [hdiv.out]
      clear hp1 hp2 hdiv hw1 hw2 hz
      go_loopw [15] (fun i wi => ∃ m : Nat, m ≤ 64 ∧ i = .int .i64 m ∧ Hid (Blk wi g 67 ((midB s old m).map u64v)) ∧ Hid (OnlyAt g w wi)) (fun i _ => 64 - (intOf i).toNat)
      case atStart => exact ⟨0, by omega, rfl, Lib.hid (by rw [midB_zero hs hfl.out]; exact hBr.out), hor⟩
      case round =>
        obtain ⟨m, hm, rfl, hBi, hoi⟩ := hrel
        clear hBr hor
        by_cases hlm : m < 64
        · have hT := size_test hs hlm
          by_cases hbit : m / s % 2 = 0
          · rw [decide_eq_false (by simpa using hbit)] at hT
            obtain ⟨hms, hx, hy⟩ := midB_at hs old m hlm hbit
            have hstep := Lib.hid (midB_step hs old m hbit)
            obtain ⟨x, hxe⟩ : ∃ x, x = old.getD m 0 := ⟨_, rfl⟩
            obtain ⟨y, hye⟩ : ∃ y, y = old.getD (m + s) 0 := ⟨_, rfl⟩
            have hx64 : x < 18446744073709551616 := by rw [hxe]; exact getD_w64 hfw.out m
            have hy64 : y < 18446744073709551616 := by rw [hye]; exact getD_w64 hfw.out (m + s)
            rw [← hxe] at hx hstep
            rw [← hye] at hy hstep
            have c1 : wr.cell? ⟨g, m, none⟩ = some (.int .u64 (x : Int)) := by rw [hBi.out.cell, List.getElem?_map, hx]; rfl
            have c2 : wr.cell? ⟨g, m + s, none⟩ = some (.int .u64 (y : Int)) := by rw [hBi.out.cell, List.getElem?_map, hy]; rfl
            have hsw := Lib.hid (swap_eq hs hx64 hy64)
            have hshl := Lib.hid (shl_eq' (x := x) (y := y) hs)
            have hnx := Lib.hid (newX_eq (y := y) hs hx64)
            have hny := Lib.hid (newY_eq (x := x) hs hy64)
            replace hxe := Lib.hid hxe
            replace hye := Lib.hid hye
            clear hx hy
            have hm0 : (0 : Int) ≤ (m : Int) := by omega
            have hm64 : (m : Int) < 64 := by omega
            have hms0 : (0 : Int) ≤ (m : Int) + (s : Int) := by omega
            have hms64 : (m : Int) + (s : Int) < 64 := by omega
            have hmsn : ((m : Int) + (s : Int)).toNat = m + s := by omega
            have hmw : IntKind.i64.wrap ((m : Int) + (s : Int)) = (m : Int) + (s : Int) := by rw [IntKind.wrap_i64]; omega
            replace hmw := Lib.hid hmw
            go_wp2_with fail
            replace hmw := hmw.out
            refine wp_region_plan 18 [(true, 0), (true, 1), (true, 2), (true, 3), (true, 4), (true, 5), (true, 6), (true, 7), (true, 8), (true, 9), (true, 10), (true, 11), (true, 12), (true, 13), (true, 14), (true, 15), (true, 16), (true, 17)] (by kernel_rfl) (by kernel_rfl) (fun W hW => ?_)
            have d1 : W.cell? ⟨g, m, none⟩ = some (.int .u64 (x : Int)) := by rw [hW.out]; exact c1
            have d2 : W.cell? ⟨g, m + s, none⟩ = some (.int .u64 (y : Int)) := by rw [hW.out]; exact c2
            clear c1 c2
            simp only [List.drop_succ_cons, List.drop_nil]
            iterate 18
              refine wpPlan_float (v := ?_) rfl (by rfl) (fun w' hw' => ?_) (fun K hK => ?_)
              rotate_left
              · (go_simp; try with_reducible rfl)
              go_simp
              refine hK _ ?_
              clear hK K
            refine wpPlan_nil (NoPanic.normal ?_)
            rw [hsw.out]
            obtain ⟨W1, hW1⟩ : ∃ W1, W1 = W := ⟨_, rfl⟩
            have hBW := Lib.hid (show Blk W g 67 ((midB s old m).map u64v) by rw [hW.out]; exact hBi.out.drew)
            have hoW := Lib.hid (show OnlyAt g w W by rw [hW.out]; exact hoi.out.drewN 1)
            clear hW1 W1 hBi hoi
            have fz := hBW.out.frozen m
            go_wp2_with fail
            refine wp_region_plan 11 [(true, 0), (true, 1), (true, 2), (true, 3), (true, 4), (true, 5), (true, 6), (true, 7), (true, 8), (true, 9), (true, 10)] (by kernel_rfl) (by kernel_rfl) (fun X hX => ?_)
            have x1 : X.cell? ⟨g, m, none⟩ = some (.int .u64 (x : Int)) := by rw [hX.out]; exact d1
            have x2 := Lib.hid (show X.cell? ⟨g, m + s, none⟩ = some (.int .u64 (y : Int)) by rw [hX.out]; exact d2)
            have xf : X.frozen? ⟨g, m, none⟩ = false := by rw [hX.out]; exact fz
            have hBX := Lib.hid (show Blk X g 67 ((midB s old m).map u64v) by rw [hX.out]; exact hBW.out.drew)
            have hoX := Lib.hid (show OnlyAt g w X by rw [hX.out]; exact hoW.out.drewN 1)
            clear d1 d2 fz hBW hoW
            simp only [List.drop_succ_cons, List.drop_zero]
            iterate 8
              refine wpPlan_float (v := ?_) rfl (by rfl) (fun w' hw' => ?_) (fun K hK => ?_)
              rotate_left
              · (go_simp; try with_reducible rfl)
              go_simp
              refine hK _ ?_
              clear hK K
            rw [hshl.out]
            iterate 1
              refine wpPlan_float (v := ?_) rfl (by rfl) (fun w' hw' => ?_) (fun K hK => ?_)
              rotate_left
              · (go_simp; try with_reducible rfl)
              go_simp
              refine hK _ ?_
              clear hK K
            rw [hnx.out]
            iterate 2
              refine wpPlan_float (v := ?_) rfl (by rfl) (fun w' hw' => ?_) (fun K hK => ?_)
              rotate_left
              · (go_simp; try with_reducible rfl)
              go_simp
              refine hK _ ?_
              clear hK K
            refine wpPlan_nil ?_
            go_wp2_with fail
            refine NoPanic.normal ?_
            have hBY := Lib.hid (hBX.out.set_ m (u64v (newX s x y)))
            have hoY := Lib.hid (hoX.out.set m (u64v (newX s x y)))
            obtain ⟨Y, hY⟩ : ∃ Y, Y = X.setCell ⟨g, m, none⟩ (u64v (newX s x y)) := ⟨_, rfl⟩
            rw [← hY] at hBY hoY
            have y2 : Y.cell? ⟨g, m + s, none⟩ = some (.int .u64 (y : Int)) := by
              rw [hY, World.cell?_setCell_other X ⟨g, m, none⟩ ⟨g, m + s, none⟩ _ (by simp <;> omega)]; exact x2.out
            have hY' : Hid (X.setCell ⟨g, m, none⟩ (.int .u64 (newX s x y : Nat)) = Y) := Lib.hid hY.symm
            rw [hY'.out]
            clear hY hY' x1 x2 xf hBX hoX
            go_wp2_with fail
            refine wp_region_plan 11 [(true, 0), (true, 1), (true, 2), (true, 3), (true, 4), (true, 5), (true, 6), (true, 7), (true, 8), (true, 9), (true, 10)] (by kernel_rfl) (by kernel_rfl) (fun Z hZ => ?_)
            have z2 : Z.cell? ⟨g, m + s, none⟩ = some (.int .u64 (y : Int)) := by rw [hZ.out]; exact y2
            have hBZ := Lib.hid (show Blk Z g 67 (((midB s old m).map u64v).set m (u64v (newX s x y))) by rw [hZ.out]; exact hBY.out.drew)
            have hoZ := Lib.hid (show OnlyAt g w Z by rw [hZ.out]; exact hoY.out.drewN 1)
            have zf := hBZ.out.frozen (m + s)
            clear y2 hBY hoY
            replace hmw := Lib.hid hmw
            simp only [List.drop_succ_cons, List.drop_zero]
            iterate 3
              refine wpPlan_float (v := ?_) rfl (by rfl) (fun w' hw' => ?_) (fun K hK => ?_)
              rotate_left
              · (go_simp; try with_reducible rfl)
              go_simp
              refine hK _ ?_
              clear hK K
            replace hmw := hmw.out
            iterate 1
              refine wpPlan_float (v := ?_) rfl (by rfl) (fun w' hw' => ?_) (fun K hK => ?_)
              rotate_left
              · (go_simp; try with_reducible rfl)
              go_simp
              refine hK _ ?_
              clear hK K
            replace hmw := Lib.hid hmw
            iterate 5
              refine wpPlan_float (v := ?_) rfl (by rfl) (fun w' hw' => ?_) (fun K hK => ?_)
              rotate_left
              · (go_simp; try with_reducible rfl)
              go_simp
              refine hK _ ?_
              clear hK K
            rw [hny.out]
            iterate 2
              refine wpPlan_float (v := ?_) rfl (by rfl) (fun w' hw' => ?_) (fun K hK => ?_)
              rotate_left
              · (go_simp; try with_reducible rfl)
              go_simp
              refine hK _ ?_
              clear hK K
            refine wpPlan_nil ?_
            go_wp2_with fail
            refine NoPanic.normal ?_
            go_wp2_with fail
            go_roundw
            case rel =>
              refine ⟨m + 1, by omega, by go_num, ?_, Lib.hid (hoZ.out.set (m + s) _)⟩
              refine Lib.hid ?_
              rw [hstep.out, List.map_set, List.map_set]
              exact hBZ.out.set_ (m + s) (u64v (newY s x y))
            case measure => simp [intOf]; omega
          · rw [decide_eq_true hbit] at hT
            have hskip := Lib.hid (midB_skip hs old m hbit)
            clear hbit
            go_wp2_with fail
            go_roundw
            case rel => exact ⟨m + 1, by omega, by go_num, Lib.hid (by rw [hskip.out]; exact hBi.out), hoi⟩
            case measure => simp [intOf]; omega
        · have hm64 : m = 64 := by omega
          have hfin : Hid (Blk wr g 67 ((flipK (q + 1) b).map u64v)) := Lib.hid (by
            have h := hBi.out
            rw [hm64] at h
            rw [hst.out]; exact h)
          clear hm64
          go_wp2_with fail
          go_roundw
          case rel => exact ⟨q + 1, by omega, by rw [← hhalf.out]; go_num, hfin, hoi⟩
          case measure => simp [intOf]; omega
    · have hq6 : q = 6 := by omega
      have hz : szq q = 0 := by rw [hq6]; rfl
      have hfin : Hid (Blk wr g 67 ((flipB b).map u64v)) := Lib.hid (by
        have h := hBr.out
        rw [hq6, flipK_all] at h
        exact h)
      rw [hz]
      clear hz hq6
      go_wp2_with fail
      go_end0
      exact ⟨rfl, hfin.out, hor.out⟩

end Go.Proofs.Ytkikoniihmieiaa
