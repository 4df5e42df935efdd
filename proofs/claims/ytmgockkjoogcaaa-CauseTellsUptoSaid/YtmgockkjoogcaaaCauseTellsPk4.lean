/- Plain mathematics of a block of 64 words whose bits are turned about, size by size. Nothing of the program is imported. Contracts of package mat: flip. A whole array of words, loaded and stored: at a plain region's list. No function of the program is named here. Contracts of package mat: take, lay, Turn. Contracts of package mat: lay. Contracts of package mat: Turn. Contracts of the document's own answers for matrices (eyewitnessref03): in, Has, Small, Equal. Contracts of the document's own answers for matrices: Equal, Sub, Same. Contracts of the document's own answers for matrices: Sub, Same. Contracts of the document's own answers for matrices: Right. Contracts of the document's own answers for matrices: New. Contracts of the document's own answers for matrices: New (refused), Or. Contracts of the document's own answers for matrices: Set. A region that draws its order, walked by a plan (XPlan), whose last head results stand beside one another: behind the plan's calls come values that hang on no memory ('extract': a call's second result), which may come up between the stores behind; then a tail. What lies ahead of the tail is found by what waits for what. No function of the program is named here. Contracts of the document's own answers for matrices: Of. The contracts of the document's own answers of layer 12: Ahead, Past, Po. Plain mathematics of layer 12: the past of an operation of a history. Nothing of the program is named. -/
import Derived.Test.YtmgockkjoogcaaaCauseTellsPk2
import Derived.Test.YtmgockkjoogcaaaCauseTellsPk3
import Derived.Deep.MidRow
import Derived.BigQuiet
namespace Go.Proofs.Ytmgockkjoogcaaa

/-- the lowest bits of each field of 2 s bits -/
def lowS (s : Nat) : Nat := 18446744073709551615 / (2 ^ s + 1)
def swapS (s x y : Nat) : Nat := (x >>> s ^^^ y) &&& lowS s
def newX (s x y : Nat) : Nat := x ^^^ swapS s x y <<< s
def newY (s x y : Nat) : Nat := y ^^^ swapS s x y
def Size (s : Nat) : Prop := s = 32 ∨ s = 16 ∨ s = 8 ∨ s = 4 ∨ s = 2 ∨ s = 1
theorem lowS_bit {s : Nat} (hs : Size s) : ∀ j, j < 64 → (lowS s).testBit j = decide (j / s % 2 = 0) := by
  rcases hs with h | h | h | h | h | h <;> subst h <;> decide +kernel
theorem lowS_lt {s : Nat} (hs : Size s) : lowS s < 2 ^ (64 - s) := by
  rcases hs with h | h | h | h | h | h <;> subst h <;> decide +kernel
theorem Size.le {s : Nat} (hs : Size s) : 0 < s ∧ s ≤ 32 := by
  rcases hs with h | h | h | h | h | h <;> subst h <;> omega
theorem swapS_lt {s : Nat} (hs : Size s) (x y : Nat) : swapS s x y < 2 ^ (64 - s) := Nat.lt_of_le_of_lt Nat.and_le_right (lowS_lt hs)
theorem swapS_shl {s : Nat} (hs : Size s) (x y : Nat) : swapS s x y <<< s < 18446744073709551616 := by
  rw [Nat.shiftLeft_eq]
  have h := swapS_lt hs x y
  have h2 : 2 ^ (64 - s) * 2 ^ s = 18446744073709551616 := by
    rw [← Nat.pow_add, Nat.sub_add_cancel (by have := hs.le; omega)]
  have := Nat.mul_lt_mul_of_pos_right h (Nat.two_pow_pos s)
  omega
theorem newX_lt {s x y : Nat} (hs : Size s) (hx : x < 18446744073709551616) : newX s x y < 18446744073709551616 :=
  Nat.xor_lt_two_pow (n := 64) hx (swapS_shl hs x y)
theorem swapS_lt64 {s : Nat} (hs : Size s) (x y : Nat) : swapS s x y < 18446744073709551616 := by
  have h := swapS_lt hs x y
  have : 2 ^ (64 - s) ≤ 2 ^ 64 := Nat.pow_le_pow_right (by omega) (by omega)
  omega
theorem newY_lt {s x y : Nat} (hs : Size s) (hy : y < 18446744073709551616) : newY s x y < 18446744073709551616 :=
  Nat.xor_lt_two_pow (n := 64) hy (swapS_lt64 hs x y)
theorem swapS_bit {s : Nat} (hs : Size s) (x y j : Nat) (hj : j < 64) : (swapS s x y).testBit j = ((x.testBit (s + j) ^^ y.testBit j) && decide (j / s % 2 = 0)) := by
  unfold swapS
  rw [Nat.testBit_and, Nat.testBit_xor, Nat.testBit_shiftRight, lowS_bit hs j hj]
theorem newY_bit {s : Nat} (hs : Size s) (x y j : Nat) (hj : j < 64) : (newY s x y).testBit j = if j / s % 2 = 0 then x.testBit (s + j) else y.testBit j := by
  unfold newY
  rw [Nat.testBit_xor, swapS_bit hs x y j hj]
  by_cases h : j / s % 2 = 0
  · rw [if_pos h, decide_eq_true h]; cases x.testBit (s + j) <;> cases y.testBit j <;> rfl
  · rw [if_neg h, decide_eq_false h]; cases x.testBit (s + j) <;> cases y.testBit j <;> rfl
theorem div_mod_two {j s : Nat} (hs : Size s) : (s ≤ j ∧ (j - s) / s % 2 = 0) ↔ j / s % 2 = 1 := by
  have h0 := hs.le.1
  constructor
  · rintro ⟨h1, h2⟩
    have : j / s = (j - s) / s + 1 := by
      rw [show j = (j - s) + s from by omega, Nat.add_div_right _ h0]; simp
    omega
  · intro h
    have h1 : s ≤ j := by
      rcases Nat.lt_or_ge j s with hlt | hge
      · rw [Nat.div_eq_of_lt hlt] at h; omega
      · exact hge
    refine ⟨h1, ?_⟩
    have : j / s = (j - s) / s + 1 := by
      rw [show j = (j - s) + s from by omega, Nat.add_div_right _ h0]; simp
    omega
theorem newX_bit {s : Nat} (hs : Size s) (x y j : Nat) (hj : j < 64) : (newX s x y).testBit j = if j / s % 2 = 1 then y.testBit (j - s) else x.testBit j := by
  unfold newX
  rw [Nat.testBit_xor, Nat.testBit_shiftLeft]
  by_cases h : j / s % 2 = 1
  · obtain ⟨h1, h2⟩ := (div_mod_two hs).2 h
    rw [if_pos h, decide_eq_true (by exact h1), swapS_bit hs x y (j - s) (by omega), decide_eq_true h2, show s + (j - s) = j from by omega]
    cases x.testBit j <;> cases y.testBit (j - s) <;> rfl
  · rw [if_neg h]
    by_cases h1 : s ≤ j
    · have h2 : ¬ (j - s) / s % 2 = 0 := fun h2 => h ((div_mod_two hs).1 ⟨h1, h2⟩)
      rw [swapS_bit hs x y (j - s) (by omega), decide_eq_false h2]
      simp
    · rw [decide_eq_false (by exact h1)]; simp

/-! ### one size: the rows, one by one -/
def midB (s : Nat) (old : List Nat) (m : Nat) : List Nat := (List.range 64).map fun r =>
  if r / s % 2 = 0 then (if r < m then newX s (old.getD r 0) (old.getD (r + s) 0) else old.getD r 0)
  else (if r < m + s then newY s (old.getD (r - s) 0) (old.getD r 0) else old.getD r 0)
def flipR (s : Nat) (old : List Nat) : List Nat := midB s old 64
theorem midB_len (s : Nat) (old : List Nat) (m : Nat) : (midB s old m).length = 64 := by simp [midB]
theorem midB_get (s : Nat) (old : List Nat) (m r : Nat) (hr : r < 64) : (midB s old m)[r]? = some (if r / s % 2 = 0 then (if r < m then newX s (old.getD r 0) (old.getD (r + s) 0) else old.getD r 0)
  else (if r < m + s then newY s (old.getD (r - s) 0) (old.getD r 0) else old.getD r 0)) := by
  unfold midB; rw [List.getElem?_map, List.getElem?_range hr]; rfl
theorem midB_zero {s : Nat} (hs : Size s) {old : List Nat} (hl : old.length = 64) : midB s old 0 = old := by
  apply List.ext_getElem?
  intro r
  rcases Nat.lt_or_ge r 64 with hr | hr
  · rw [midB_get s old 0 r hr]
    have hx := List.getElem?_eq_getElem (l := old) (i := r) (by omega)
    have hg : old.getD r 0 = old[r]'(by omega) := getD_at hx
    rw [hx]
    by_cases h : r / s % 2 = 0
    · rw [if_pos h, if_neg (by omega), hg]
    · have : s ≤ r := ((div_mod_two hs).2 (by omega)).1
      rw [if_neg h, if_neg (by omega), hg]
  · rw [List.getElem?_eq_none (by rw [midB_len]; exact hr), List.getElem?_eq_none (by omega)]
theorem midB_skip {s : Nat} (hs : Size s) (old : List Nat) (m : Nat) (h : ¬ m / s % 2 = 0) : midB s old (m + 1) = midB s old m := by
  unfold midB
  apply List.map_congr_left
  intro r _
  by_cases hr : r / s % 2 = 0
  · rw [if_pos hr, if_pos hr]
    by_cases h1 : r < m
    · rw [if_pos (by omega), if_pos h1]
    · rw [if_neg h1, if_neg]
      intro h2
      have : r = m := by omega
      subst this; exact h hr
  · rw [if_neg hr, if_neg hr]
    by_cases h1 : r < m + s
    · rw [if_pos (by omega), if_pos h1]
    · rw [if_neg h1, if_neg]
      intro h2
      have : r = m + s := by omega
      subst this
      have := ((div_mod_two (j := m + s) hs).2 (by omega)).2
      rw [Nat.add_sub_cancel] at this
      exact h this
theorem midB_step {s : Nat} (hs : Size s) (old : List Nat) (m : Nat) (h : m / s % 2 = 0) : midB s old (m + 1) = ((midB s old m).set m (newX s (old.getD m 0) (old.getD (m + s) 0))).set (m + s) (newY s (old.getD m 0) (old.getD (m + s) 0)) := by
  have h0 := hs.le.1
  have hms : ¬ (m + s) / s % 2 = 0 := by rw [Nat.add_div_right _ h0]; omega
  apply List.ext_getElem?
  intro r
  rcases Nat.lt_or_ge r 64 with hr | hr
  · rw [midB_get s old (m + 1) r hr, List.getElem?_set, List.getElem?_set, midB_get s old m r hr, List.length_set, midB_len]
    by_cases e1 : m + s = r
    · subst e1
      rw [if_pos rfl, if_pos hr, if_neg hms, if_pos (by omega), Nat.add_sub_cancel]
    · rw [if_neg e1]
      by_cases e2 : m = r
      · subst e2
        rw [if_pos rfl, if_pos hr, if_pos h, if_pos (by omega)]
      · rw [if_neg e2]
        congr 1
        by_cases hrr : r / s % 2 = 0
        · rw [if_pos hrr, if_pos hrr]
          by_cases h1 : r < m
          · rw [if_pos (by omega), if_pos h1]
          · rw [if_neg (by omega), if_neg h1]
        · rw [if_neg hrr, if_neg hrr]
          by_cases h1 : r < m + s
          · rw [if_pos (by omega), if_pos h1]
          · rw [if_neg (by omega), if_neg h1]
  · rw [List.getElem?_eq_none (by rw [midB_len]; exact hr), List.getElem?_eq_none (by rw [List.length_set, List.length_set, midB_len]; exact hr)]
theorem midB_at {s : Nat} (hs : Size s) (old : List Nat) (m : Nat) (hm : m < 64) (h : m / s % 2 = 0) : m + s < 64 ∧ (midB s old m)[m]? = some (old.getD m 0) ∧ (midB s old m)[m + s]? = some (old.getD (m + s) 0) := by
  have h0 := hs.le.1
  have hms : ¬ (m + s) / s % 2 = 0 := by rw [Nat.add_div_right _ h0]; omega
  have hlt : m + s < 64 := by
    rcases hs with e | e | e | e | e | e <;> subst e <;> omega
  refine ⟨hlt, ?_, ?_⟩
  · rw [midB_get s old m m hm, if_pos h, if_neg (by omega)]
  · rw [midB_get s old m (m + s) hlt, if_neg hms, if_neg (by omega)]
theorem midB_w64 {s : Nat} (hs : Size s) {old : List Nat} (h : W64 old) (m : Nat) : W64 (midB s old m) := by
  intro x hx
  unfold midB at hx
  obtain ⟨r, _, rfl⟩ := List.mem_map.1 hx
  by_cases a : r / s % 2 = 0
  · rw [if_pos a]
    by_cases b : r < m
    · rw [if_pos b]; exact newX_lt hs (getD_w64 h r)
    · rw [if_neg b]; exact getD_w64 h r
  · rw [if_neg a]
    by_cases b : r < m + s
    · rw [if_pos b]; exact newY_lt hs (getD_w64 h r)
    · rw [if_neg b]; exact getD_w64 h r

/-! ### the bits -/
/-- r, with j's bit of that size -/
def swB (s r j : Nat) : Nat := r - r / s % 2 * s + j / s % 2 * s
theorem flipR_bit {s : Nat} (hs : Size s) (old : List Nat) (r j : Nat) (hr : r < 64) (hj : j < 64) : ((flipR s old).getD r 0).testBit j = (old.getD (swB s r j) 0).testBit (swB s j r) := by
  unfold flipR
  rw [getD_at (midB_get s old 64 r hr)]
  have h2 : r / s % 2 = 0 ∨ r / s % 2 = 1 := by omega
  have h3 : j / s % 2 = 0 ∨ j / s % 2 = 1 := by omega
  rcases h2 with h2 | h2
  · rw [if_pos h2, if_pos hr, newX_bit hs _ _ _ hj]
    rcases h3 with h3 | h3
    · rw [if_neg (by omega)]
      unfold swB
      rw [h2, h3]; simp
    · rw [if_pos h3]
      unfold swB
      rw [h2, h3]; simp
  · rw [if_neg (by omega), if_pos (by omega), newY_bit hs _ _ _ hj]
    rcases h3 with h3 | h3
    · rw [if_pos h3]
      unfold swB
      rw [h2, h3]; simp [Nat.add_comm]
    · rw [if_neg (by omega)]
      have h4 := ((div_mod_two hs).2 h2).1
      have h5 := ((div_mod_two hs).2 h3).1
      unfold swB
      rw [h2, h3, Nat.one_mul, Nat.sub_add_cancel h4, Nat.sub_add_cancel h5]
theorem swB_lt {s r j : Nat} (hs : Size s) (hr : r < 64) (hj : j < 64) : swB s r j < 64 := by
  unfold swB
  rcases hs with e | e | e | e | e | e <;> subst e <;> omega
/-- the sizes that are left from a size on -/
def sizesTo : List Nat := [32, 16, 8, 4, 2, 1]
def flipB (b : List Nat) : List Nat := sizesTo.foldl (fun b s => flipR s b) b
theorem flip_pair : ∀ r, r < 64 → ∀ j, j < 64 →
    (let p1 := (swB 1 r j, swB 1 j r); let p2 := (swB 2 p1.1 p1.2, swB 2 p1.2 p1.1); let p3 := (swB 4 p2.1 p2.2, swB 4 p2.2 p2.1); let p4 := (swB 8 p3.1 p3.2, swB 8 p3.2 p3.1); let p5 := (swB 16 p4.1 p4.2, swB 16 p4.2 p4.1); (swB 32 p5.1 p5.2, swB 32 p5.2 p5.1)) = (j, r) := by decide +kernel
theorem flipB_bit (b : List Nat) (r j : Nat) (hr : r < 64) (hj : j < 64) : ((flipB b).getD r 0).testBit j = (b.getD j 0).testBit r := by
  have S32 : Size 32 := .inl rfl
  have S16 : Size 16 := .inr (.inl rfl)
  have S8 : Size 8 := .inr (.inr (.inl rfl))
  have S4 : Size 4 := .inr (.inr (.inr (.inl rfl)))
  have S2 : Size 2 := .inr (.inr (.inr (.inr (.inl rfl))))
  have S1 : Size 1 := .inr (.inr (.inr (.inr (.inr rfl))))
  have hp := flip_pair r hr j hj
  simp only [Prod.mk.injEq] at hp
  obtain ⟨hp1, hp2⟩ := hp
  show ((flipR 1 (flipR 2 (flipR 4 (flipR 8 (flipR 16 (flipR 32 b)))))).getD r 0).testBit j = _
  have a1 := swB_lt S1 hr hj
  have a2 := swB_lt S1 hj hr
  have b1 := swB_lt S2 a1 a2
  have b2 := swB_lt S2 a2 a1
  have c1 := swB_lt S4 b1 b2
  have c2 := swB_lt S4 b2 b1
  have d1 := swB_lt S8 c1 c2
  have d2 := swB_lt S8 c2 c1
  have e1 := swB_lt S16 d1 d2
  have e2 := swB_lt S16 d2 d1
  rw [flipR_bit S1 _ _ _ hr hj, flipR_bit S2 _ _ _ a1 a2, flipR_bit S4 _ _ _ b1 b2, flipR_bit S8 _ _ _ c1 c2, flipR_bit S16 _ _ _ d1 d2, flipR_bit S32 _ _ _ e1 e2, hp1, hp2]
theorem flipB_len (b : List Nat) : (flipB b).length = 64 := midB_len _ _ _
theorem flipR_w64 {s : Nat} (hs : Size s) {b : List Nat} (h : W64 b) : W64 (flipR s b) := midB_w64 hs h 64
theorem flipB_w64 {b : List Nat} (h : W64 b) : W64 (flipB b) :=
  flipR_w64 (.inr (.inr (.inr (.inr (.inr rfl))))) (flipR_w64 (.inr (.inr (.inr (.inr (.inl rfl))))) (flipR_w64 (.inr (.inr (.inr (.inl rfl)))) (flipR_w64 (.inr (.inr (.inl rfl))) (flipR_w64 (.inr (.inl rfl)) (flipR_w64 (.inl rfl) h)))))

end Go.Proofs.Ytmgockkjoogcaaa

namespace Go.Proofs.Ytmgockkjoogcaaa
open Go.RowKit
set_option linter.unusedVariables false

/-- all but block g is as it was; how often the order was drawn is not said -/
structure OnlyAt (g : Nat) (w w' : World) : Prop where
  os : w'.os = w.os
  tape : w'.tape = w.tape
  output : w'.output = w.output
  size : w'.heap.size = w.heap.size
  block : ∀ k, k ≠ g → w'.heap[k]? = w.heap[k]?
theorem OnlyAt.refl (g : Nat) (w : World) : OnlyAt g w w := ⟨rfl, rfl, rfl, rfl, fun _ _ => rfl⟩
theorem OnlyAt.drewN {g : Nat} {w w' : World} (h : OnlyAt g w w') (n : Nat) : OnlyAt g w (w'.drewN n) := ⟨h.os, h.tape, h.output, h.size, h.block⟩
theorem OnlyAt.set {g : Nat} {w w' : World} (h : OnlyAt g w w') (o : Nat) (u : Value) : OnlyAt g w (w'.setCell ⟨g, o, none⟩ u) :=
  ⟨h.os, h.tape, h.output, by simpa using h.size, fun k hk => (Below.heap_setCell w' ⟨g, o, none⟩ u k (by simpa using hk)).trans (h.block k hk)⟩
theorem OnlyAt.below {g : Nat} {w w' : World} (h : OnlyAt g w w') : Below g w w' := ⟨h.os, h.tape, h.output, by rw [h.size]; exact Nat.le_refl _, fun k hk => h.block k (by omega)⟩
theorem OnlyAt.trans {g : Nat} {a b c : World} (h : OnlyAt g a b) (k : OnlyAt g b c) : OnlyAt g a c :=
  ⟨k.os.trans h.os, k.tape.trans h.tape, k.output.trans h.output, k.size.trans h.size, fun i hi => (k.block i hi).trans (h.block i hi)⟩
theorem OnlyAt.cell {g : Nat} {w w' : World} (h : OnlyAt g w w') {p : Addr} (hp : p.block ≠ g) : w'.cell? p = w.cell? p := World.cell?_of_block (h.block _ hp)

def szq (q : Nat) : Nat := [32, 16, 8, 4, 2, 1].getD q 0
def flipK (q : Nat) (b : List Nat) : List Nat := (sizesTo.take q).foldl (fun b s => flipR s b) b
theorem szq_size {q : Nat} (h : q < 6) : Size (szq q) ∧ szq q / 2 = szq (q + 1) ∧ 0 < szq q := by
  have : q = 0 ∨ q = 1 ∨ q = 2 ∨ q = 3 ∨ q = 4 ∨ q = 5 := by omega
  unfold Size
  rcases this with e | e | e | e | e | e <;> subst e <;> decide
theorem flipK_succ {q : Nat} (h : q < 6) (b : List Nat) : flipK (q + 1) b = flipR (szq q) (flipK q b) := by
  have : q = 0 ∨ q = 1 ∨ q = 2 ∨ q = 3 ∨ q = 4 ∨ q = 5 := by omega
  rcases this with e | e | e | e | e | e <;> subst e <;> rfl
theorem flipK_all (b : List Nat) : flipK 6 b = flipB b := rfl
theorem flipK_len (b : List Nat) (hb : b.length = 64) : ∀ q, q ≤ 6 → (flipK q b).length = 64
  | 0, _ => hb
  | q + 1, h => by rw [flipK_succ (by omega)]; exact midB_len _ _ _
theorem flipK_w64 (b : List Nat) (hb : W64 b) : ∀ q, q ≤ 6 → W64 (flipK q b)
  | 0, _ => hb
  | q + 1, h => by rw [flipK_succ (by omega)]; exact flipR_w64 (szq_size (by omega)).1 (flipK_w64 b hb q (by omega))
theorem and_size {s : Nat} (hs : Size s) : ∀ m, m < 64 → (m &&& s = 0 ↔ m / s % 2 = 0) := by
  rcases hs with h | h | h | h | h | h <;> subst h <;> decide +kernel
theorem size_test {s : Nat} (hs : Size s) {m : Nat} (hm : m < 64) : (bits BinOp.and IntKind.i64 (m : Int) (s : Int) != 0) = decide (¬ m / s % 2 = 0) := by
  have h1 := hs.le
  rw [i64_and_nat m s (by omega) (by omega), Bool.eq_iff_iff, bne_iff_ne, decide_eq_true_eq, ← and_size hs m hm]
  omega

theorem shr_nat (x s : Nat) : (x : Int) / 2 ^ s = ((x >>> s : Nat) : Int) := by
  rw [Nat.shiftRight_eq_div_pow, Int.natCast_ediv]; simp
theorem swap_eq {s x y : Nat} (hs : Size s) (hx : x < 18446744073709551616) (hy : y < 18446744073709551616) : bits BinOp.and IntKind.u64 (bits BinOp.xor IntKind.u64 ((x : Int) / 2 ^ s) (y : Int)) (lowS s : Nat) = ((swapS s x y : Nat) : Int) := by
  have h1 : x >>> s < 18446744073709551616 := by
    rw [Nat.shiftRight_eq_div_pow]; exact Nat.lt_of_le_of_lt (Nat.div_le_self _ _) hx
  have h2 : lowS s < 18446744073709551616 := by
    have h := lowS_lt hs
    have : 2 ^ (64 - s) ≤ 2 ^ 64 := Nat.pow_le_pow_right (by omega) (by omega)
    omega
  rw [shr_nat, u64_xor_nat _ _ h1 hy, u64_and_nat _ _ (Nat.xor_lt_two_pow (n := 64) h1 hy) h2]
  rfl
theorem shl_eq {s x y : Nat} (hs : Size s) : IntKind.u64.wrap (((swapS s x y : Nat) : Int) * 2 ^ s) = ((swapS s x y <<< s : Nat) : Int) := by
  have h := swapS_shl hs x y
  rw [Nat.shiftLeft_eq] at h ⊢
  rw [IntKind.wrap_u64, Int.natCast_mul, Int.natCast_pow]
  have e : ((2 : Nat) : Int) = 2 := rfl
  rw [e]
  have h' : ((swapS s x y * 2 ^ s : Nat) : Int) < 18446744073709551616 := by omega
  rw [Int.natCast_mul, Int.natCast_pow, e] at h'
  have h0 : (0 : Int) ≤ (swapS s x y : Int) * 2 ^ s := Int.mul_nonneg (by omega) (Int.pow_nonneg (by omega))
  omega
def shlS (s x y : Nat) : Nat := swapS s x y <<< s
theorem shl_eq' {s x y : Nat} (hs : Size s) : IntKind.u64.wrap (((swapS s x y : Nat) : Int) * 2 ^ s) = ((shlS s x y : Nat) : Int) := shl_eq hs
theorem newX_eq {s x y : Nat} (hs : Size s) (hx : x < 18446744073709551616) : bits BinOp.xor IntKind.u64 (x : Int) ((shlS s x y : Nat) : Int) = ((newX s x y : Nat) : Int) := by
  unfold shlS
  rw [u64_xor_nat _ _ hx (swapS_shl hs x y)]; rfl
theorem newY_eq {s x y : Nat} (hs : Size s) (hy : y < 18446744073709551616) : bits BinOp.xor IntKind.u64 (y : Int) ((swapS s x y : Nat) : Int) = ((newY s x y : Nat) : Int) := by
  rw [u64_xor_nat _ _ hy (swapS_lt64 hs x y)]; rfl


end Go.Proofs.Ytmgockkjoogcaaa

namespace Go.Proofs.Ytmgockkjoogcaaa
open Go.RowKit

theorem OnlyAt.setCells {g : Nat} {w : World} : ∀ (vs : List Value) (o : Nat) (w' : World), OnlyAt g w w' → OnlyAt g w (w'.setCells g o vs)
  | [], _, _, h => h
  | v :: r, o, _, h => OnlyAt.setCells r (o + 1) _ (h.set o v)
theorem set_span (cs : List Value) (o : Nat) (v : Value) (r : List Value) (h : o < cs.length) : (cs.set o v).take (o + 1) ++ r ++ (cs.set o v).drop (o + 1 + r.length) = cs.take o ++ (v :: r) ++ cs.drop (o + (r.length + 1)) := by
  have h1 : (cs.set o v).take (o + 1) = cs.take o ++ [v] := by
    rw [List.take_succ_eq_append_getElem (by rw [List.length_set]; exact h), List.take_set_of_le (Nat.le_refl _), List.getElem_set_self]
  have h2 : (cs.set o v).drop (o + 1 + r.length) = cs.drop (o + (r.length + 1)) := by
    rw [List.drop_set_of_lt (by omega)]; congr 1; omega
  rw [h1, h2]; simp
theorem Blk.setCells {g : Nat} {t : TypeId} : ∀ (vs : List Value) (o : Nat) (cs : List Value) (w : World), Blk w g t cs → o + vs.length ≤ cs.length → Blk (w.setCells g o vs) g t (cs.take o ++ vs ++ cs.drop (o + vs.length))
  | [], o, cs, w, h, _ => by
    have : cs.take o ++ [] ++ cs.drop (o + ([] : List Value).length) = cs := by simp
    rw [this]; exact h
  | v :: r, o, cs, w, h, hl => by
    have hl' : o + (r.length + 1) ≤ cs.length := by simpa using hl
    have ih := Blk.setCells r (o + 1) (cs.set o v) _ (h.set_ o v) (by rw [List.length_set]; omega)
    rw [set_span cs o v r (by omega)] at ih
    exact ih
theorem Blk.setAll {g : Nat} {t : TypeId} {cs vs : List Value} {w : World} (h : Blk w g t cs) (hl : vs.length = cs.length) : Blk (w.setCells g 0 vs) g t vs := by
  have := Blk.setCells vs 0 cs w h (by omega)
  rwa [List.take_zero, List.nil_append, Nat.zero_add, List.drop_eq_nil_of_le (by omega), List.append_nil] at this
theorem Blk.there {g : Nat} {t : TypeId} {cs : List Value} {w : World} (h : Blk w g t cs) : w.there g 0 cs.length := fun j hj => by
  rw [Nat.zero_add, h.cell, h.frozen]
  exact ⟨by rw [List.getElem?_eq_getElem hj]; rfl, rfl⟩
theorem Blk.range {g : Nat} {t : TypeId} {cs : List Value} {w : World} (h : Blk w g t cs) : w.rangeAt g 0 cs := fun j v hv => by
  rw [Nat.zero_add, h.cell]; exact hv
theorem all_one (ys : List Nat) : (ys.map u64v).toArray.all (·.oneCell') = true := all_oneCell_toArray (fun v hv => by
  obtain ⟨x, _, rfl⟩ := List.mem_map.1 hv; rfl)

theorem results_cell {P : Program} {w : World} {fn : Func} {t : Tmp} {ty : TypeId} {v : Value} (h : fn.results = #[.cell t ty]) (tmps : Array Value) (b : Nat) (ht : tmps.getD t undef = .pointer (some ⟨b, 0, none⟩)) (hl : (loadVar ty ⟨b, 0, none⟩).run P w = .ok v w) :
    (results fn tmps).run P w = .ok v w := by
  have ht' : tmps[t]?.getD undef = .pointer (some ⟨b, 0, none⟩) := by rw [← Array.getD_eq_getD_getElem?]; exact ht
  simp [results, h, ht', asAddr, hl]

section
variable {P : Program} {ops : Array Oper} {rest : List Oper} {op : Oper} {a : Act} {w : World} {Q : Exit → Act → World → Prop}
/-- 'b := *p', p an array of so many words -/
theorem wpList_load_blk {t e : TypeId} {n : Nat} (hu : P.underlying t = some (.array n e)) (hi : (P.info? t).map (·.size) = some n) (hgd : op.guard = none) (x : Operand) (ho : op.op = .load t x) (b : Nat) (hx : a.eval x = .pointer (some ⟨b, 0, none⟩)) (te : TypeId) (ys : List Nat) (hl : ys.length = n) (hB : Blk w b te (ys.map u64v))
    (h : wpList P ops Q rest (a.put op.dst (.agg (ys.map u64v).toArray)) w) : wpList P ops Q (op :: rest) a w :=
  wpList_load_mid hgd t x ho b 0 hx (ys.map u64v) _ hB.range hu rfl (by rw [List.length_map, hl]; exact hi) h
/-- '*p = b' -/
theorem wpList_store_blk {t e : TypeId} {n : Nat} (_hu : P.underlying t = some (.array n e)) (hi : (P.info? t).map (·.size) = some n) (hgd : op.guard = none) (x y : Operand) (ho : op.op = .store t x y) (b : Nat) (hx : a.eval x = .pointer (some ⟨b, 0, none⟩)) (ys : List Nat) (hl : ys.length = n) (hy : a.eval y = .agg (ys.map u64v).toArray) (te : TypeId) (zs : List Nat) (hz : zs.length = n) (hB : Blk w b te (zs.map u64v))
    (h : ∀ w', Blk w' b te (ys.map u64v) → OnlyAt b w w' → wpList P ops Q rest (a.put op.dst undef) w') : wpList P ops Q (op :: rest) a w :=
  wpList_store_mid hgd t x y ho b 0 _ hx hy (by have := hB.there; simpa [hl, hz] using this) (by simpa [hl] using hi) (all_one ys)
    (h _ (by simpa using hB.setAll (vs := ys.map u64v) (by simp [hl, hz])) (OnlyAt.setCells _ _ _ (OnlyAt.refl _ _)))
end

end Go.Proofs.Ytmgockkjoogcaaa

namespace Go.Proofs.Ytmgockkjoogcaaa
open Go.RowKit
set_option linter.unusedVariables false

def padK (xss : List (List Nat)) (k : Nat) : List Nat := (List.range 64).map fun i => if i < k then (xss.getD i []).getD 0 0 else 0

theorem padK_len (xss : List (List Nat)) (k : Nat) : (padK xss k).length = 64 := by simp [padK]
theorem padK_zero (xss : List (List Nat)) : padK xss 0 = List.replicate 64 0 := by
  unfold padK
  rfl
theorem padK_succ (xss : List (List Nat)) {k : Nat} {xs : List Nat} {x : Nat} (hk : k < 64) (h : xss[k]? = some xs) (hx : xs[0]? = some x) : padK xss (k + 1) = (padK xss k).set k x := by
  apply List.ext_getElem?
  intro i
  rw [List.getElem?_set, padK_len]
  unfold padK
  rcases Nat.lt_or_ge i 64 with hi | hi
  · rw [List.getElem?_map, List.getElem?_map, List.getElem?_range hi]
    show some (if i < k + 1 then (xss.getD i []).getD 0 0 else 0) = (if k = i then (if k < 64 then some x else none) else some (if i < k then (xss.getD i []).getD 0 0 else 0))
    by_cases e : k = i
    · subst e
      rw [if_pos (by omega), if_pos rfl, if_pos hk, getD_at h, getD_at hx]
    · rw [if_neg e]
      by_cases h1 : i < k
      · rw [if_pos h1, if_pos (by omega)]
      · rw [if_neg h1, if_neg (by omega)]
  · rw [List.getElem?_eq_none (by simpa using hi)]
    by_cases e : k = i
    · omega
    · rw [if_neg e, List.getElem?_eq_none (by simpa using hi)]
theorem padK_get (xss : List (List Nat)) {k i : Nat} (hi : i < 64) : (padK xss k).getD i 0 = if i < k then (xss.getD i []).getD 0 0 else 0 := by
  unfold padK
  rw [List.getD_eq_getElem?_getD, List.getElem?_map, List.getElem?_range hi]; rfl
theorem padK_w64 {xss : List (List Nat)} (h : ∀ xs ∈ xss, W64 xs) (k : Nat) : W64 (padK xss k) := by
  intro x hx
  unfold padK at hx
  obtain ⟨i, _, rfl⟩ := List.mem_map.1 hx
  show (if i < k then (xss.getD i []).getD 0 0 else 0) < _
  split
  · rcases Nat.lt_or_ge i xss.length with hl | hl
    · have hg := List.getElem?_eq_getElem hl
      rw [getD_at hg]
      exact getD_w64 (h _ (List.mem_of_getElem? hg)) 0
    · rw [List.getD_eq_getElem?_getD (l := xss), List.getElem?_eq_none hl]; simp
  · omega


end Go.Proofs.Ytmgockkjoogcaaa

namespace Go.Proofs.Ytmgockkjoogcaaa
open Go.RowKit
set_option linter.unusedVariables false

/-- what was there is as it was, but for the rows' own blocks -/
structure RowsOnly (vs : List Value) (w w' : World) : Prop where
  os : w'.os = w.os
  tape : w'.tape = w.tape
  output : w'.output = w.output
  size : w.heap.size ≤ w'.heap.size
  block : ∀ k, k < w.heap.size → (∀ v ∈ vs, v.ownBlock ≠ some k) → w'.heap[k]? = w.heap[k]?
theorem RowsOnly.refl (vs : List Value) (w : World) : RowsOnly vs w w := ⟨rfl, rfl, rfl, Nat.le_refl _, fun _ _ _ => rfl⟩
theorem RowsOnly.of_below {vs : List Value} {w w' : World} (h : Below w.heap.size w w') : RowsOnly vs w w' := ⟨h.os, h.tape, h.output, h.size, fun k hk _ => h.block k hk⟩
theorem RowsOnly.trans {vs : List Value} {a b c : World} (h : RowsOnly vs a b) (k : RowsOnly vs b c) : RowsOnly vs a c :=
  ⟨k.os.trans h.os, k.tape.trans h.tape, k.output.trans h.output, Nat.le_trans h.size k.size, fun i hi hv => (k.block i (Nat.lt_of_lt_of_le hi h.size) hv).trans (h.block i hi hv)⟩
theorem RowsOnly.set {vs : List Value} {w w' : World} (h : RowsOnly vs w w') {g : Nat} (hg : ∃ v ∈ vs, v.ownBlock = some g) (o : Nat) (u : Value) : RowsOnly vs w (w'.setCell ⟨g, o, none⟩ u) :=
  ⟨h.os, h.tape, h.output, by simpa using h.size, fun k hk hv => by
    obtain ⟨v, hm, e⟩ := hg
    have hne : k ≠ g := fun e' => hv v hm (by rw [e'.symm] at e; exact e)
    exact (Below.heap_setCell w' ⟨g, o, none⟩ u k (by simpa using hne)).trans (h.block k hk hv)⟩
theorem RowsOnly.rd {vs us : List Value} {w w' : World} {A : Option Addr} {n : Nat} (h : RowsOnly vs w w') (hr : Rd w A n us) (hne : ∀ ad, A = some ad → ∀ v ∈ vs, v.ownBlock ≠ some ad.block) : Rd w' A n us :=
  ⟨hr.1, fun hn => by
    obtain ⟨b, off, e, hb, hc⟩ := hr.2 hn
    exact ⟨b, off, e, Nat.lt_of_lt_of_le hb h.size, fun j u hu => (World.cell?_of_block (h.block b hb (hne _ e))).trans (hc j u hu)⟩⟩
theorem RowsOnly.blk {vs : List Value} {w w' : World} {g : Nat} {t : TypeId} {cs : List Value} (h : RowsOnly vs w w') (hB : Blk w g t cs) (hne : ∀ v ∈ vs, v.ownBlock ≠ some g) : Blk w' g t cs := (h.block g hB.lt hne).trans hB
theorem RowsOnly.own {vs us : List Value} {w w' : World} {base n s : Nat} {e : TypeId} {v : Value} (h : RowsOnly vs w w') (ho : w.ownsRow base e s v n us) (hne : ∀ u ∈ vs, ∀ g, u.ownBlock = some g → v.ownBlock ≠ some g) : w'.ownsRow base e s v n us :=
  ⟨ho.1, ho.2.imp id fun ⟨g, cap, cur, hv, hg, hh, r⟩ => ⟨g, cap, cur, hv, hg, (h.block g (Array.getElem?_eq_some_iff.1 hh).1 (fun u hu e => hne u hu g e (by rw [hv]; rfl))).trans hh, r⟩⟩
theorem RowsOnly.below {vs : List Value} {w w' : World} {B : Nat} (h : RowsOnly vs w w') (hB : B ≤ w.heap.size) (hv : ∀ v ∈ vs, ∀ g, v.ownBlock = some g → B ≤ g) : Below B w w' :=
  ⟨h.os, h.tape, h.output, h.size, fun k hk => h.block k (by omega) (fun v hm e => by have := hv v hm k e; omega)⟩

def layK (n : Nat) (b : List Nat) (k : Nat) : List (List Nat) := (List.range n).map fun i => if i < k then [b.getD i 0] else [0]
theorem layK_len (n : Nat) (b : List Nat) (k : Nat) : (layK n b k).length = n := by simp [layK]
theorem layK_get {n : Nat} (b : List Nat) (k : Nat) {i : Nat} (h : i < n) : (layK n b k)[i]? = some (if i < k then [b.getD i 0] else [0]) := by
  unfold layK; rw [List.getElem?_map, List.getElem?_range h]; rfl
theorem layK_zero {n : Nat} (h0 : 0 < n) (h : n ≤ 64) (b : List Nat) : layK n b 0 = newM n := by
  unfold layK newM
  have hw : (wordsZ (n : Int)).toNat = 1 := by unfold wordsZ; rw [if_neg (by omega)]; omega
  rw [hw]
  apply List.ext_getElem
  · simp
  · intro i h1 h2
    simp
theorem layK_succ {n k : Nat} (h : k < n) (b : List Nat) : layK n b (k + 1) = (layK n b k).set k (([0] : List Nat).set 0 (b.getD k 0)) := by
  apply List.ext_getElem?
  intro i
  rw [List.getElem?_set, layK_len]
  rcases Nat.lt_or_ge i n with hi | hi
  · rw [layK_get b (k + 1) hi, layK_get b k hi]
    by_cases e : k = i
    · subst e
      rw [if_pos (by omega), if_pos rfl, if_pos h]; rfl
    · rw [if_neg e]
      by_cases h1 : i < k
      · rw [if_pos h1, if_pos (by omega)]
      · rw [if_neg h1, if_neg (by omega)]
  · rw [List.getElem?_eq_none (by rw [layK_len]; exact hi)]
    by_cases e : k = i
    · omega
    · rw [if_neg e, List.getElem?_eq_none (by rw [layK_len]; exact hi)]


end Go.Proofs.Ytmgockkjoogcaaa

namespace Go.Proofs.Ytmgockkjoogcaaa
open Go.RowKit
set_option linter.unusedVariables false

/-- a matrix of at most 63 rows turned about -/
def turnM (xss : List (List Nat)) : List (List Nat) := layK xss.length (flipB (padK xss xss.length)) xss.length


end Go.Proofs.Ytmgockkjoogcaaa

namespace Go.Proofs.Ytmgockkjoogcaaa
open Go.RowKit
set_option linter.unusedVariables false

set_option maxHeartbeats 1000000 in
theorem ref3_in (N : Int) (A : Option Addr) (n c : Nat) (i j : Int) (w : World) :
    Calls Try.prog 39 #[.agg #[.int .i64 N, .slice A n c], .int .i64 i, .int .i64 j] w (RetB (inM N i j) w) := by
  have ha : Below w.heap.size w (w.alloc (.cells #[.int .i64 N, .slice A n c] 35)) := (Below.refl _ _).alloc (Nat.le_refl _) _
  replace ha := Lib.hid ha
  by_cases h1 : 0 ≤ i
  · by_cases h2 : i < N
    · by_cases h3 : 0 ≤ j
      · by_cases h4 : j < N
        · have H := Lib.hid (show inM N i j = true by unfold inM; simp [h1, h2, h3, h4])
          go_enter Try.func39, Try.ntmps39
          go_wp2
          go_ret
          rw [H.out]; exact ⟨rfl, ha.out⟩
        · have H := Lib.hid (show inM N i j = false by unfold inM; simp [h4])
          go_enter Try.func39, Try.ntmps39
          go_wp2
          go_ret
          rw [H.out]; exact ⟨rfl, ha.out⟩
      · have H := Lib.hid (show inM N i j = false by unfold inM; simp [h3])
        go_enter Try.func39, Try.ntmps39
        go_wp2
        go_ret
        rw [H.out]; exact ⟨rfl, ha.out⟩
    · have H := Lib.hid (show inM N i j = false by unfold inM; simp [h2])
      go_enter Try.func39, Try.ntmps39
      go_wp2
      go_ret
      rw [H.out]; exact ⟨rfl, ha.out⟩
  · have H := Lib.hid (show inM N i j = false by unfold inM; simp [h1])
    go_enter Try.func39, Try.ntmps39
    go_wp2
    go_ret
    rw [H.out]; exact ⟨rfl, ha.out⟩

theorem inM_yes {N i j : Int} (h : inM N i j = true) : 0 ≤ i ∧ i < N ∧ 0 ≤ j ∧ j < N := by
  unfold inM at h
  simp only [Bool.and_eq_true, decide_eq_true_eq] at h
  obtain ⟨⟨⟨a, b⟩, c⟩, d⟩ := h
  exact ⟨a, b, c, d⟩
set_option maxHeartbeats 400000 in
theorem ref3_Has (A : Option Addr) (n c : Nat) (xss : List (List Nat)) (i j : Int) (w : World) (hr : RowsAt w A n xss) (hn : n ≤ 4096) (hl : ∀ (k : Nat) (xs : List Nat), xss[k]? = some xs → xs.length ≤ 1024) :
    Calls Try.prog 20 #[.agg #[.int .i64 (n : Int), .slice A n c], .int .i64 i, .int .i64 j] w (RetB (inM (n : Int) i j && hasM xss i j) w) := by
  obtain ⟨W0, hW0⟩ : ∃ W0, W0 = w.alloc (.cells #[.int .i64 n, .slice A n c] 35) := ⟨_, rfl⟩
  have ha : Below w.heap.size w W0 := by rw [hW0]; exact (Below.refl _ _).alloc (Nat.le_refl _) _
  have hB : MatB W0 w.heap.size 35 n A n c := by rw [hW0]; exact MatB.new w _
  have hin := Lib.hid (ref3_in (n : Int) A n c i j W0)
  rcases Bool.eq_false_or_eq_true (inM (n : Int) i j) with h | h
  · obtain ⟨i0, i1, j0, j1⟩ := inM_yes h
    obtain ⟨k, rfl⟩ := Int.eq_ofNat_of_zero_le i0
    have hk : k < n := by omega
    obtain ⟨b, off, B, m, d, xs, rfl, hbl, hx, hc, hxr⟩ := hr.at_ hk
    have hm : m ≤ 1024 := by have := hxr.len; have := hl k xs hx; omega
    have H := Lib.hid (show (inM (n : Int) k j && hasM xss k j) = hasR xs j by rw [h, hasM_in hx, Bool.true_and])
    have hk0 : (0 : Int) ≤ (k : Int) := by omega
    have hkn : (k : Int) < (n : Int) := by omega
    replace h := Lib.hid h
    replace hB := Lib.hid hB
    replace hxr := Lib.hid hxr
    replace ha := Lib.hid ha
    clear hx hr
    go_enter Try.func20, Try.ntmps20
    go_wp2_with fail
    rw [← hW0]
    clear hW0
    refine hin.out.mono ?_; rintro e w1 ⟨rfl, hb1⟩
    rw [h.out]
    have l1 := (hB.out.below_ hb1).c1
    have hbb := below_trans2 ha.out hb1
    have hcr := (hbb.cell (p := ⟨b, off + k, none⟩) hbl).trans hc
    have hC := Lib.hid (ref2_Has B m d xs j w1 (hxr.out.below hbb) (by omega) (by omega) (by omega))
    replace hbb := Lib.hid hbb
    clear hb1 hc
    go_wp2_with fail
    refine hC.out.mono ?_; rintro e w' ⟨rfl, rfl⟩
    go_wp2
    go_ret
    rw [H.out]; exact ⟨rfl, hbb.out⟩
  · have H := Lib.hid (show (inM (n : Int) i j && hasM xss i j) = false by rw [h]; rfl)
    replace h := Lib.hid h
    replace ha := Lib.hid ha
    clear hB hr
    go_enter Try.func20, Try.ntmps20
    go_wp2_with fail
    rw [← hW0]
    clear hW0
    refine hin.out.mono ?_; rintro e w1 ⟨rfl, hb1⟩
    rw [h.out]
    have hbb := Lib.hid (below_trans2 ha.out hb1)
    clear hb1
    go_wp2
    go_ret
    rw [H.out]; exact ⟨rfl, hbb.out⟩


end Go.Proofs.Ytmgockkjoogcaaa

namespace Go.Proofs.Ytmgockkjoogcaaa
open Go.RowKit
set_option linter.unusedVariables false

def equalM (N M : Int) (xss yss : List (List Nat)) : Bool := decide (N = M) && sameM xss yss
theorem equalM_N {N M : Int} {xss yss : List (List Nat)} (h : N ≠ M) : equalM N M xss yss = false := by unfold equalM; rw [decide_eq_false h]; rfl
theorem equalM_len {N : Int} {xss yss : List (List Nat)} (h : xss.length ≠ yss.length) : equalM N N xss yss = false := by
  unfold equalM sameM
  rw [decide_eq_true rfl, Bool.true_and, beq_eq_false_iff_ne]; intro e; exact h (by rw [e])
theorem equalM_row {N : Int} {xss yss : List (List Nat)} {k : Nat} {xs ys : List Nat} (hx : xss[k]? = some xs) (hy : yss[k]? = some ys) (h : sameR xs ys = false) : equalM N N xss yss = false := by
  unfold equalM sameM
  rw [decide_eq_true rfl, Bool.true_and, beq_eq_false_iff_ne]
  intro e
  rw [e, hy] at hx
  injection hx with hx
  unfold sameR at h
  rw [hx] at h
  simp at h
theorem equalM_yes {N : Int} {xss yss : List (List Nat)} (hl : xss.length = yss.length) (h : ∀ (k : Nat) (xs ys : List Nat), k < xss.length → xss[k]? = some xs → yss[k]? = some ys → sameR xs ys = true) : equalM N N xss yss = true := by
  unfold equalM
  rw [decide_eq_true rfl, Bool.true_and, ← allF_same hl]
  exact allF_yes hl h

set_option maxRecDepth 100000 in
set_option maxHeartbeats 2000000 in
theorem ref3_Equal (N M : Int) (A B : Option Addr) (n m c d : Nat) (xss yss : List (List Nat)) (w : World) (hr : RowsAt w A n xss) (hs : RowsAt w B m yss) (hn : n ≤ 1073741824) (hm : m ≤ 1073741824) (hl : ∀ (i : Nat) (xs : List Nat), xss[i]? = some xs → xs.length ≤ 1073741824) (hl2 : ∀ (i : Nat) (xs : List Nat), yss[i]? = some xs → xs.length ≤ 1073741824) :
    Calls Try.prog 9 #[.agg #[.int .i64 N, .slice A n c], .agg #[.int .i64 M, .slice B m d]] w (RetB (equalM N M xss yss) w) := by
  have hxl := hr.len
  have hyl := hs.len
  obtain ⟨W0, hW0⟩ : ∃ W0, W0 = ((w.alloc (.cells #[.int .i64 N, .slice A n c] 35)).alloc (.cells #[.int .i64 M, .slice B m d] 35)) := ⟨_, rfl⟩
  have ha : Below w.heap.size w W0 := by rw [hW0]; exact (((Below.refl _ _).alloc (Nat.le_refl _) _).alloc (by simp) _)
  have hBa : MatB W0 w.heap.size 35 N A n c := by rw [hW0]; exact ((MatB.new w _).below_ ((Below.refl _ _).alloc (Nat.le_refl _) _))
  have hBb : MatB W0 (w.heap.size + 1) 35 M B m d := by rw [hW0]; exact (MatB.new1 w _ _)
  have l0 := hBa.c0
  have l1 := hBa.c1
  have m0 := hBb.c0
  have m1 := hBb.c1
  have ha' := Lib.hid ha
  by_cases h1 : N = M
  · subst h1
    have hne : (N != N) = false := by simp
    by_cases h2 : n = m
    · subst h2
      have hne2 : ((n : Int) != (n : Int)) = false := by simp
      have hyes := Lib.hid (fun h => equalM_yes (N := N) (xss := xss) (yss := yss) (by omega) h)
      have hr' := Lib.hid (hr.below ha)
      have hs' := Lib.hid (hs.below ha)
      replace hBa := Lib.hid hBa
      replace hBb := Lib.hid hBb
      replace hl := Lib.hid hl
      replace hl2 := Lib.hid hl2
      replace hxl := Lib.hid hxl
      clear hr hs hyl ha hm
      go_enter Try.func9, Try.ntmps9
      go_wp2_with fail
      rw [← hW0]
      clear hW0
      go_wp2_with fail
      clear l0 l1 m0 m1
      go_loopw [5] (fun i wr => ∃ k : Nat, k ≤ n ∧ i = .int .i64 k ∧ Hid (∀ (j : Nat) (xs ys : List Nat), j < k → xss[j]? = some xs → yss[j]? = some ys → sameR xs ys = true) ∧ Hid (Below W0.heap.size W0 wr)) (fun i _ => n - (intOf i).toNat)
      case atStart => exact ⟨0, Nat.zero_le _, rfl, Lib.hid (fun j xs ys hj => absurd hj (by omega)), Lib.hid (Below.refl _ _)⟩
      case round =>
        obtain ⟨k, hk, rfl, hall, hbr⟩ := hrel
        have l1 := (hBa.out.below_ hbr.out).c1
        have m1 := (hBb.out.below_ hbr.out).c1
        by_cases hlt : k < n
        · obtain ⟨b1, o1, A1, n1, c1, xs, rfl, hbl1, hx, hc1, hrx⟩ := (hr'.out.below hbr.out).at_ hlt
          obtain ⟨b2, o2, B1, n2, c2, ys, rfl, hbl2, hy, hc2, hry⟩ := (hs'.out.below hbr.out).at_ hlt
          have hn1 : n1 ≤ 1073741824 := by have := hrx.len; have := hl.out k xs hx; omega
          have hn2 : n2 ≤ 1073741824 := by have := hry.len; have := hl2.out k ys hy; omega
          have hk0 : (0 : Int) ≤ (k : Int) := by omega
          have hkn : (k : Int) < (n : Int) := by omega
          rcases Bool.eq_false_or_eq_true (sameR xs ys) with hf | hf
          · have hall' : Hid (∀ (j : Nat) (us vs : List Nat), j < k + 1 → xss[j]? = some us → yss[j]? = some vs → sameR us vs = true) := Lib.hid (fun j us vs hj hu hv => by
              rcases Nat.lt_succ_iff_lt_or_eq.1 hj with h | h
              · exact hall.out j us vs h hu hv
              · rw [h, hx] at hu
                rw [h, hy] at hv
                injection hu with hu
                injection hv with hv
                rw [← hu, ← hv]; exact hf)
            replace hf := Lib.hid hf
            clear hx hy
            go_wp2_with fail
            refine wp_region_plan 12 [(true, 0), (true, 1), (true, 2), (true, 3), (true, 4), (true, 5), (true, 6), (true, 7), (true, 8), (true, 9), (false, 10), (true, 11)] (by kernel_rfl) (by kernel_rfl) (fun W hW => ?_)
            have p1 : W.cell? ⟨w.heap.size, 1, none⟩ = some (.slice (some ⟨b1, o1, none⟩) n c) := by rw [hW.out]; exact l1
            have p2 : W.cell? ⟨w.heap.size + 1, 1, none⟩ = some (.slice (some ⟨b2, o2, none⟩) n d) := by rw [hW.out]; exact m1
            have p3 : W.cell? ⟨b1, o1 + k, none⟩ = some (.slice A1 n1 c1) := by rw [hW.out]; exact hc1
            have p4 : W.cell? ⟨b2, o2 + k, none⟩ = some (.slice B1 n2 c2) := by rw [hW.out]; exact hc2
            have hbW := Lib.hid (show Below W0.heap.size W0 W by rw [hW.out]; exact hbr.out.drew)
            have hC := Lib.hid (ref2_Same A1 B1 n1 n2 c1 c2 xs ys W (by rw [hW.out]; exact hrx) (by rw [hW.out]; exact hry) (by omega) (by omega))
            clear l1 m1 hc1 hc2 hrx hry
            simp only [List.drop_succ_cons, List.drop_nil]
            iterate 10
              refine wpPlan_float (v := ?_) rfl (by rfl) (fun w' hw' => ?_) (fun K hK => ?_)
              rotate_left
              · (go_simp; try with_reducible rfl)
              go_simp
              refine hK _ ?_
              clear hK K
            refine wpPlan_only rfl (by rfl) (fun K hK => ?_)
            go_simp
            refine hC.out.mono ?_
            rintro e w' ⟨rfl, z, rfl⟩
            refine hK _ _ (below_drewN (Below.refl _ _) z) ?_
            clear hK K
            rw [hf.out]
            iterate 1
              refine wpPlan_float (v := ?_) rfl (by rfl) (fun w' hw' => ?_) (fun K hK => ?_)
              rotate_left
              · (go_simp; try with_reducible rfl)
              go_simp
              refine hK _ ?_
              clear hK K
            refine wpPlan_nil (NoPanic.normal ?_)
            go_wp2_with fail
            go_roundw
            case rel => exact ⟨k + 1, by omega, by go_num, hall', Lib.hid (below_drewN hbW.out z)⟩
            case measure => simp [intOf]; omega
          · have H := Lib.hid (equalM_row (N := N) hx hy hf)
            replace hf := Lib.hid hf
            clear hx hy
            go_wp2_with fail
            refine wp_region_plan 12 [(true, 0), (true, 1), (true, 2), (true, 3), (true, 4), (true, 5), (true, 6), (true, 7), (true, 8), (true, 9), (false, 10), (true, 11)] (by kernel_rfl) (by kernel_rfl) (fun W hW => ?_)
            have p1 : W.cell? ⟨w.heap.size, 1, none⟩ = some (.slice (some ⟨b1, o1, none⟩) n c) := by rw [hW.out]; exact l1
            have p2 : W.cell? ⟨w.heap.size + 1, 1, none⟩ = some (.slice (some ⟨b2, o2, none⟩) n d) := by rw [hW.out]; exact m1
            have p3 : W.cell? ⟨b1, o1 + k, none⟩ = some (.slice A1 n1 c1) := by rw [hW.out]; exact hc1
            have p4 : W.cell? ⟨b2, o2 + k, none⟩ = some (.slice B1 n2 c2) := by rw [hW.out]; exact hc2
            have hbW := Lib.hid (show Below W0.heap.size W0 W by rw [hW.out]; exact hbr.out.drew)
            have hC := Lib.hid (ref2_Same A1 B1 n1 n2 c1 c2 xs ys W (by rw [hW.out]; exact hrx) (by rw [hW.out]; exact hry) (by omega) (by omega))
            clear l1 m1 hc1 hc2 hrx hry
            simp only [List.drop_succ_cons, List.drop_nil]
            iterate 10
              refine wpPlan_float (v := ?_) rfl (by rfl) (fun w' hw' => ?_) (fun K hK => ?_)
              rotate_left
              · (go_simp; try with_reducible rfl)
              go_simp
              refine hK _ ?_
              clear hK K
            refine wpPlan_only rfl (by rfl) (fun K hK => ?_)
            go_simp
            refine hC.out.mono ?_
            rintro e w' ⟨rfl, z, rfl⟩
            refine hK _ _ (below_drewN (Below.refl _ _) z) ?_
            clear hK K
            rw [hf.out]
            iterate 1
              refine wpPlan_float (v := ?_) rfl (by rfl) (fun w' hw' => ?_) (fun K hK => ?_)
              rotate_left
              · (go_simp; try with_reducible rfl)
              go_simp
              refine hK _ ?_
              clear hK K
            refine wpPlan_nil (NoPanic.normal ?_)
            go_wp2_with fail
            go_ret
            rw [H.out]; exact ⟨rfl, below_trans2 ha'.out (below_drewN hbW.out z)⟩
        · have H := Lib.hid (hyes.out (fun j xs ys hj hx hy => hall.out j xs ys (by have := hxl.out; omega) hx hy))
          go_wp2_with fail
          go_ret
          rw [H.out]; exact ⟨rfl, below_trans2 ha'.out hbr.out⟩
    · have H := Lib.hid (equalM_len (N := N) (xss := xss) (yss := yss) (by omega))
      have hne2 : ((n : Int) != (m : Int)) = true := by rw [bne_iff_ne]; omega
      clear hr hs hxl hyl h2 ha hBa hBb hl hl2
      go_enter Try.func9, Try.ntmps9
      go_wp2_with fail
      rw [← hW0]
      clear hW0
      go_wp2_with fail
      go_ret
      rw [H.out]; exact ⟨rfl, ha'.out⟩
  · have H := Lib.hid (equalM_N (xss := xss) (yss := yss) h1)
    have hne : (N != M) = true := by rw [bne_iff_ne]; exact h1
    clear hr hs hxl hyl h1 ha hBa hBb hl hl2
    go_enter Try.func9, Try.ntmps9
    go_wp2_with fail
    rw [← hW0]
    clear hW0
    go_wp2_with fail
    go_ret
    rw [H.out]; exact ⟨rfl, ha'.out⟩

end Go.Proofs.Ytmgockkjoogcaaa

namespace Go.Proofs.Ytmgockkjoogcaaa
open Go.RowKit
set_option linter.unusedVariables false

set_option maxRecDepth 100000 in
set_option maxHeartbeats 2000000 in
theorem ref3_Sub (A B : Option Addr) (n c d : Nat) (xss yss : List (List Nat)) (w : World) (hr : RowsAt w A n xss) (hs : RowsAt w B n yss) (hn : n ≤ 1073741824) (hl : ∀ (i : Nat) (xs : List Nat), xss[i]? = some xs → xs.length ≤ 1073741824) (hl2 : ∀ (i : Nat) (xs : List Nat), yss[i]? = some xs → xs.length ≤ 1073741824) :
    Calls Try.prog 18 #[.agg #[.int .i64 (n : Int), .slice A n c], .agg #[.int .i64 (n : Int), .slice B n d]] w (RetB (subM xss yss) w) := by
  have hxl := hr.len
  have hyl := hs.len
  obtain ⟨W0, hW0⟩ : ∃ W0, W0 = ((w.alloc (.cells #[.int .i64 n, .slice A n c] 35)).alloc (.cells #[.int .i64 n, .slice B n d] 35)) := ⟨_, rfl⟩
  have ha : Below w.heap.size w W0 := by rw [hW0]; exact (((Below.refl _ _).alloc (Nat.le_refl _) _).alloc (by simp) _)
  have hBa : MatB W0 w.heap.size 35 n A n c := by rw [hW0]; exact ((MatB.new w _).below_ ((Below.refl _ _).alloc (Nat.le_refl _) _))
  have hBb : MatB W0 (w.heap.size + 1) 35 n B n d := by rw [hW0]; exact (MatB.new1 w _ _)
  have ha' := Lib.hid ha
  have heq : ((n : Int) == (n : Int)) = true := by simp
  have hyes := Lib.hid (fun h => allF_yes (f := subR) (xss := xss) (yss := yss) (by omega) h)
  have hr' := Lib.hid (hr.below ha)
  have hs' := Lib.hid (hs.below ha)
  replace hBa := Lib.hid hBa
  replace hBb := Lib.hid hBb
  replace hl := Lib.hid hl
  replace hl2 := Lib.hid hl2
  replace hxl := Lib.hid hxl
  clear hr hs hyl ha
  go_enter Try.func18, Try.ntmps18
  go_wp2_with fail
  rw [← hW0]
  clear hW0
  go_loopw [5] (fun i wr => ∃ k : Nat, k ≤ n ∧ i = .int .i64 k ∧ Hid (∀ (j : Nat) (xs ys : List Nat), j < k → xss[j]? = some xs → yss[j]? = some ys → subR xs ys = true) ∧ Hid (Below W0.heap.size W0 wr)) (fun i _ => n - (intOf i).toNat)
  case atStart => exact ⟨0, Nat.zero_le _, rfl, Lib.hid (fun j xs ys hj => absurd hj (by omega)), Lib.hid (Below.refl _ _)⟩
  case round =>
    obtain ⟨k, hk, rfl, hall, hbr⟩ := hrel
    have l0 := (hBa.out.below_ hbr.out).c0
    have m0 := (hBb.out.below_ hbr.out).c0
    have l1 := (hBa.out.below_ hbr.out).c1
    have m1 := (hBb.out.below_ hbr.out).c1
    by_cases hlt : k < n
    · obtain ⟨b1, o1, A1, n1, c1, xs, rfl, hbl1, hx, hc1, hrx⟩ := (hr'.out.below hbr.out).at_ hlt
      obtain ⟨b2, o2, B1, n2, c2, ys, rfl, hbl2, hy, hc2, hry⟩ := (hs'.out.below hbr.out).at_ hlt
      have hn1 : n1 ≤ 1073741824 := by have := hrx.len; have := hl.out k xs hx; omega
      have hn2 : n2 ≤ 1073741824 := by have := hry.len; have := hl2.out k ys hy; omega
      have hk0 : (0 : Int) ≤ (k : Int) := by omega
      have hkn : (k : Int) < (n : Int) := by omega
      rcases Bool.eq_false_or_eq_true (subR xs ys) with hf | hf
      · have hall' : Hid (∀ (j : Nat) (us vs : List Nat), j < k + 1 → xss[j]? = some us → yss[j]? = some vs → subR us vs = true) := Lib.hid (fun j us vs hj hu hv => by
          rcases Nat.lt_succ_iff_lt_or_eq.1 hj with h | h
          · exact hall.out j us vs h hu hv
          · rw [h, hx] at hu
            rw [h, hy] at hv
            injection hu with hu
            injection hv with hv
            rw [← hu, ← hv]; exact hf)
        replace hf := Lib.hid hf
        clear hx hy
        go_wp2_with fail
        refine wp_region_plan 12 [(true, 0), (true, 1), (true, 2), (true, 3), (true, 4), (true, 5), (true, 6), (true, 7), (true, 8), (true, 9), (false, 10), (true, 11)] (by kernel_rfl) (by kernel_rfl) (fun W hW => ?_)
        have p1 : W.cell? ⟨w.heap.size, 1, none⟩ = some (.slice (some ⟨b1, o1, none⟩) n c) := by rw [hW.out]; exact l1
        have p2 : W.cell? ⟨w.heap.size + 1, 1, none⟩ = some (.slice (some ⟨b2, o2, none⟩) n d) := by rw [hW.out]; exact m1
        have p3 : W.cell? ⟨b1, o1 + k, none⟩ = some (.slice A1 n1 c1) := by rw [hW.out]; exact hc1
        have p4 : W.cell? ⟨b2, o2 + k, none⟩ = some (.slice B1 n2 c2) := by rw [hW.out]; exact hc2
        have hbW := Lib.hid (show Below W0.heap.size W0 W by rw [hW.out]; exact hbr.out.drew)
        have hC := Lib.hid (ref2_Sub A1 B1 n1 n2 c1 c2 xs ys W (by rw [hW.out]; exact hrx) (by rw [hW.out]; exact hry) (by omega) (by omega))
        clear l0 m0 l1 m1 hc1 hc2 hrx hry
        simp only [List.drop_succ_cons, List.drop_nil]
        iterate 10
          refine wpPlan_float (v := ?_) rfl (by rfl) (fun w' hw' => ?_) (fun K hK => ?_)
          rotate_left
          · (go_simp; try with_reducible rfl)
          go_simp
          refine hK _ ?_
          clear hK K
        refine wpPlan_only rfl (by rfl) (fun K hK => ?_)
        go_simp
        refine hC.out.mono ?_
        rintro e w' ⟨rfl, hb2⟩
        refine hK _ _ hb2 ?_
        clear hK K
        rw [hf.out]
        have hb3 := Lib.hid (below_trans2 hbW.out hb2)
        clear hb2 p1 p2 p3 p4
        iterate 1
          refine wpPlan_float (v := ?_) rfl (by rfl) (fun w' hw' => ?_) (fun K hK => ?_)
          rotate_left
          · (go_simp; try with_reducible rfl)
          go_simp
          refine hK _ ?_
          clear hK K
        refine wpPlan_nil (NoPanic.normal ?_)
        go_wp2_with fail
        go_roundw
        case rel => exact ⟨k + 1, by omega, by go_num, hall', hb3⟩
        case measure => simp [intOf]; omega
      · have H := Lib.hid (allF_no hx hy hf)
        replace hf := Lib.hid hf
        clear hx hy
        go_wp2_with fail
        refine wp_region_plan 12 [(true, 0), (true, 1), (true, 2), (true, 3), (true, 4), (true, 5), (true, 6), (true, 7), (true, 8), (true, 9), (false, 10), (true, 11)] (by kernel_rfl) (by kernel_rfl) (fun W hW => ?_)
        have p1 : W.cell? ⟨w.heap.size, 1, none⟩ = some (.slice (some ⟨b1, o1, none⟩) n c) := by rw [hW.out]; exact l1
        have p2 : W.cell? ⟨w.heap.size + 1, 1, none⟩ = some (.slice (some ⟨b2, o2, none⟩) n d) := by rw [hW.out]; exact m1
        have p3 : W.cell? ⟨b1, o1 + k, none⟩ = some (.slice A1 n1 c1) := by rw [hW.out]; exact hc1
        have p4 : W.cell? ⟨b2, o2 + k, none⟩ = some (.slice B1 n2 c2) := by rw [hW.out]; exact hc2
        have hbW := Lib.hid (show Below W0.heap.size W0 W by rw [hW.out]; exact hbr.out.drew)
        have hC := Lib.hid (ref2_Sub A1 B1 n1 n2 c1 c2 xs ys W (by rw [hW.out]; exact hrx) (by rw [hW.out]; exact hry) (by omega) (by omega))
        clear l0 m0 l1 m1 hc1 hc2 hrx hry
        simp only [List.drop_succ_cons, List.drop_nil]
        iterate 10
          refine wpPlan_float (v := ?_) rfl (by rfl) (fun w' hw' => ?_) (fun K hK => ?_)
          rotate_left
          · (go_simp; try with_reducible rfl)
          go_simp
          refine hK _ ?_
          clear hK K
        refine wpPlan_only rfl (by rfl) (fun K hK => ?_)
        go_simp
        refine hC.out.mono ?_
        rintro e w' ⟨rfl, hb2⟩
        refine hK _ _ hb2 ?_
        clear hK K
        rw [hf.out]
        have hb3 := Lib.hid (below_trans2 hbW.out hb2)
        clear hb2 p1 p2 p3 p4
        iterate 1
          refine wpPlan_float (v := ?_) rfl (by rfl) (fun w' hw' => ?_) (fun K hK => ?_)
          rotate_left
          · (go_simp; try with_reducible rfl)
          go_simp
          refine hK _ ?_
          clear hK K
        refine wpPlan_nil (NoPanic.normal ?_)
        go_wp2_with fail
        go_ret
        have H' : subM xss yss = false := by rw [← allF_sub]; exact H.out
        rw [H']; exact ⟨rfl, below_trans2 ha'.out hb3.out⟩
    · have H := Lib.hid (hyes.out (fun j xs ys hj hx hy => hall.out j xs ys (by have := hxl.out; omega) hx hy))
      go_wp2_with fail
      go_ret
      have H' : subM xss yss = true := by rw [← allF_sub]; exact H.out
      rw [H']; exact ⟨rfl, below_trans2 ha'.out hbr.out⟩
set_option maxHeartbeats 400000 in
theorem ref3_Sub_no (N M : Int) (A B : Option Addr) (n m c d : Nat) (w : World) (h : N ≠ M) (hN : N ≤ 4611686018427387904) :
    Calls Try.prog 18 #[.agg #[.int .i64 N, .slice A n c], .agg #[.int .i64 M, .slice B m d]] w (RetB false w) := by
  have hne : (N == M) = false := by simpa using h
  obtain ⟨W0, hW0⟩ : ∃ W0, W0 = ((w.alloc (.cells #[.int .i64 N, .slice A n c] 35)).alloc (.cells #[.int .i64 M, .slice B m d] 35)) := ⟨_, rfl⟩
  have ha : Below w.heap.size w W0 := by rw [hW0]; exact (((Below.refl _ _).alloc (Nat.le_refl _) _).alloc (by simp) _)
  have hBa : MatB W0 w.heap.size 35 N A n c := by rw [hW0]; exact ((MatB.new w _).below_ ((Below.refl _ _).alloc (Nat.le_refl _) _))
  have hBb : MatB W0 (w.heap.size + 1) 35 M B m d := by rw [hW0]; exact (MatB.new1 w _ _)
  have l0 := hBa.c0
  have m0 := hBb.c0
  replace ha := Lib.hid ha
  clear h hBa hBb
  by_cases hpos : 0 < N
  · go_enter Try.func18, Try.ntmps18
    go_wp2_with fail
    rw [← hW0]
    clear hW0
    go_loop [5] (fun i => i = .int .i64 0) (fun i => 0)
    case atStart => exact rfl
    case round =>
      obtain rfl := hrel
      go_wp2_with fail
      go_ret
      exact ⟨rfl, ha.out⟩
  · go_enter Try.func18, Try.ntmps18
    go_wp2_with fail
    rw [← hW0]
    clear hW0
    go_loop [5] (fun i => i = .int .i64 0) (fun i => 0)
    case atStart => exact rfl
    case round =>
      obtain rfl := hrel
      go_wp2_with fail
      go_ret
      exact ⟨rfl, ha.out⟩


end Go.Proofs.Ytmgockkjoogcaaa

namespace Go.Proofs.Ytmgockkjoogcaaa
open Go.RowKit
set_option linter.unusedVariables false

theorem fitsR_bit {r : List Nat} {n j : Nat} (hj : j < 64 * r.length) (hn : n ≤ j) (h : hasR r (j : Int) = true) : fitsR r (n : Int) = false := by
  unfold fitsR
  rw [List.all_eq_false.2 ⟨j, List.mem_range.2 hj, by rw [decide_eq_false (by omega), h]; simp⟩, Bool.and_false]
theorem fitsR_yes {r : List Nat} {n : Nat} (hl : (r.length : Int) = wordsZ (n : Int)) (h : ∀ j : Nat, n ≤ j → j < 64 * r.length → hasR r (j : Int) = false) : fitsR r (n : Int) = true := by
  unfold fitsR
  rw [decide_eq_true hl, Bool.true_and, List.all_eq_true]
  intro j hj
  have hj' := List.mem_range.1 hj
  rcases Nat.lt_or_ge j n with h1 | h1
  · rw [decide_eq_true (by omega)]; rfl
  · rw [h j h1 hj']; simp

set_option maxRecDepth 100000 in
set_option maxHeartbeats 2000000 in
theorem ref3_Right (N : Int) (A : Option Addr) (n c : Nat) (xss : List (List Nat)) (w : World) (hr : RowsAt w A n xss) (hn : n ≤ 1073741824) (hl : ∀ (i : Nat) (xs : List Nat), xss[i]? = some xs → xs.length ≤ 1024) :
    Calls Try.prog 16 #[.agg #[.int .i64 N, .slice A n c]] w (RetB (rightM N xss) w) := by
  have hlen := hr.len
  obtain ⟨W0, hW0⟩ : ∃ W0, W0 = w.alloc (.cells #[.int .i64 N, .slice A n c] 35) := ⟨_, rfl⟩
  have ha : Below w.heap.size w W0 := by rw [hW0]; exact (Below.refl _ _).alloc (Nat.le_refl _) _
  have hB : MatB W0 w.heap.size 35 N A n c := by rw [hW0]; exact MatB.new w _
  have l0 := hB.c0
  have l1 := hB.c1
  have ha' := Lib.hid ha
  by_cases h1 : N < 0
  · have H := Lib.hid (rightM_out (xss := xss) (N := N) (by omega))
    clear hr ha hB hl hlen
    go_enter Try.func16, Try.ntmps16
    go_wp2_with fail
    rw [← hW0]
    clear hW0
    go_wp2_with fail
    go_ret
    rw [H.out]; exact ⟨rfl, ha'.out⟩
  by_cases h2 : 4096 < N
  · have H := Lib.hid (rightM_out (xss := xss) (N := N) (by omega))
    clear hr ha hB hl hlen
    go_enter Try.func16, Try.ntmps16
    go_wp2_with fail
    rw [← hW0]
    clear hW0
    go_wp2_with fail
    go_ret
    rw [H.out]; exact ⟨rfl, ha'.out⟩
  by_cases h3 : (n : Int) = N
  · subst h3
    have hne : ((n : Int) != (n : Int)) = false := by simp
    have hyes := Lib.hid (fun h => rightM_yes (n := n) (xss := xss) (by omega) hlen h)
    have hno := Lib.hid (fun k xs hx h => rightM_row (N := (n : Int)) (xss := xss) (k := k) (xs := xs) hx h)
    have hr' := Lib.hid (hr.below ha)
    have hnn : n ≤ 4096 := by omega
    have hwl := words_le hnn
    obtain ⟨wz, hwz⟩ : ∃ wz, wz = (wordsZ (n : Int)).toNat := ⟨_, rfl⟩
    have hwzz : wordsZ (n : Int) = (wz : Int) := by rw [hwz]; exact wordsZ_N (n : Int)
    have hnw : n ≤ 64 * wz := by
      rcases Nat.eq_zero_or_pos n with h0 | h0
      · omega
      · have := (words_pos h0).2; omega
    have hwz64 : wz ≤ 64 := by omega
    replace hwz := Lib.hid hwz
    replace hwzz := Lib.hid hwzz
    replace hB := Lib.hid hB
    replace hlen := Lib.hid hlen
    replace hl := Lib.hid hl
    clear hr h1 h2 ha hwl
    go_enter Try.func16, Try.ntmps16
    go_wp2_with fail
    rw [← hW0]
    clear hW0
    go_wp2_with fail
    clear l0 l1
    go_loopw [3] (fun i wr => ∃ k : Nat, k ≤ n ∧ i = .int .i64 k ∧ Hid (∀ (j : Nat) (xs : List Nat), j < k → xss[j]? = some xs → fitsR xs (n : Int) = true) ∧ Hid (Below W0.heap.size W0 wr)) (fun i _ => n - (intOf i).toNat)
    case atStart => exact ⟨0, Nat.zero_le _, rfl, Lib.hid (fun j xs hj => absurd hj (by omega)), Lib.hid (Below.refl _ _)⟩
    case round =>
      obtain ⟨k, hk, rfl, hall, hbr⟩ := hrel
      have l0 := (hB.out.below_ hbr.out).c0
      have l1 := (hB.out.below_ hbr.out).c1
      by_cases hlt : k < n
      · obtain ⟨b, off, B, m, d, xs, rfl, hbl, hx, hc, hxr⟩ := (hr'.out.below hbr.out).at_ hlt
        have hml : xs.length = m := hxr.len
        have hm : m ≤ 1024 := by have := hl.out k xs hx; omega
        have hk0 : (0 : Int) ≤ (k : Int) := by omega
        have hkn : (k : Int) < (n : Int) := by omega
        have hWd := Lib.hid (fun W => ref2_Words (n : Int) (by omega) (by omega) W)
        by_cases hmw : m = wz
        · have hne2 : ((m : Int) != (wz : Int)) = false := by rw [hmw]; simp
          have hfit := Lib.hid (fun h => fitsR_yes (r := xs) (n := n) (by rw [hwzz.out, hml, hmw]) h)
          have hbad := Lib.hid (fun j a b c => fitsR_bit (r := xs) (n := n) (j := j) a b c)
          have hresn := Lib.hid (hno.out k xs hx)
          have hall' : Hid (fitsR xs (n : Int) = true → ∀ (j : Nat) (ys : List Nat), j < k + 1 → xss[j]? = some ys → fitsR ys (n : Int) = true) := Lib.hid (fun hf j ys hj hy => by
            rcases Nat.lt_succ_iff_lt_or_eq.1 hj with h | h
            · exact hall.out j ys h hy
            · rw [h, hx] at hy
              injection hy with hy
              rw [← hy]; exact hf)
          have hnm : n ≤ 64 * m := by omega
          replace hml := Lib.hid hml
          replace hxr := Lib.hid hxr
          clear hx hmw
          go_wp2_with fail
          refine wp_region_plan 10 [(true, 0), (true, 1), (true, 2), (true, 3), (true, 4), (true, 5), (true, 6), (true, 7), (false, 8), (true, 9)] (by kernel_rfl) (by kernel_rfl) (fun W hW => ?_)
          have p0 : W.cell? ⟨w.heap.size, 0, none⟩ = some (.int .i64 n) := by rw [hW.out]; exact l0
          have p1 : W.cell? ⟨w.heap.size, 1, none⟩ = some (.slice (some ⟨b, off, none⟩) n c) := by rw [hW.out]; exact l1
          have p2 : W.cell? ⟨b, off + k, none⟩ = some (.slice B m d) := by rw [hW.out]; exact hc
          have hbW := Lib.hid (show Below W0.heap.size W0 W by rw [hW.out]; exact hbr.out.drew)
          have hxW := Lib.hid (show Row W B m xs by rw [hW.out]; exact hxr.out)
          clear l0 l1 hc
          simp only [List.drop_succ_cons, List.drop_nil]
          iterate 8
            refine wpPlan_float (v := ?_) rfl (by rfl) (fun w' hw' => ?_) (fun K hK => ?_)
            rotate_left
            · (go_simp; try with_reducible rfl)
            go_simp
            refine hK _ ?_
            clear hK K
          refine wpPlan_only rfl (by rfl) (fun K hK => ?_)
          go_simp
          refine (hWd.out W).mono ?_
          rintro e w' ⟨rfl, rfl⟩
          refine hK _ _ (Below.refl _ _) ?_
          clear hK K
          rw [hwzz.out]
          iterate 1
            refine wpPlan_float (v := ?_) rfl (by rfl) (fun w' hw' => ?_) (fun K hK => ?_)
            rotate_left
            · (go_simp; try with_reducible rfl)
            go_simp
            refine hK _ ?_
            clear hK K
          refine wpPlan_nil (NoPanic.normal ?_)
          go_wp2_with fail
          go_loop [4] (fun t => ∃ j : Nat, n ≤ j ∧ j ≤ 64 * m ∧ t = .int .i64 j ∧ Hid (∀ i : Nat, n ≤ i → i < j → hasR xs (i : Int) = false)) (fun t => 64 * m - (intOf t).toNat)
          case atStart => exact ⟨n, Nat.le_refl _, hnm, rfl, Lib.hid (fun i h1 h2 => by omega)⟩
          case round =>
            obtain ⟨j, hj1, hj2, rfl, hbits⟩ := hrel
            by_cases hlj : j < 64 * m
            · have hH := Lib.hid (ref2_Has B m d xs (j : Int) W hxW.out (by omega) (by omega) (by omega))
              rcases Bool.eq_false_or_eq_true (hasR xs (j : Int)) with ht | ht
              · have H := Lib.hid (hresn.out (hbad.out j (by rw [hml.out]; exact hlj) hj1 ht))
                replace ht := Lib.hid ht
                go_wp2_with fail
                refine hH.out.mono ?_; rintro e w' ⟨rfl, rfl⟩
                rw [ht.out]
                go_wp2_with fail
                go_ret
                rw [H.out]; exact ⟨rfl, below_trans2 ha'.out hbW.out⟩
              · have hbits' : Hid (∀ i : Nat, n ≤ i → i < j + 1 → hasR xs (i : Int) = false) := Lib.hid (fun i h1 h2 => by
                  rcases Nat.lt_succ_iff_lt_or_eq.1 h2 with h | h
                  · exact hbits.out i h1 h
                  · rw [h]; exact ht)
                replace ht := Lib.hid ht
                go_wp2_with fail
                refine hH.out.mono ?_; rintro e w' ⟨rfl, rfl⟩
                rw [ht.out]
                go_wp2_with fail
                go_round
                case rel => exact ⟨j + 1, by omega, by omega, by go_num, hbits'⟩
                case measure => simp [intOf]; omega
            · have hf := Lib.hid (hall'.out (hfit.out (fun i h1 h2 => hbits.out i h1 (by have := hml.out; omega))))
              go_wp2_with fail
              go_roundw
              case rel => exact ⟨k + 1, by omega, by go_num, hf, hbW⟩
              case measure => simp [intOf]; omega
        · have hne2 : ((m : Int) != (wz : Int)) = true := by rw [bne_iff_ne]; omega
          have H := Lib.hid (hno.out k xs hx (fitsR_len (by rw [hwzz.out, hml]; intro h; exact hmw (by omega))))
          clear hx hmw hxr hml
          go_wp2_with fail
          refine wp_region_plan 10 [(true, 0), (true, 1), (true, 2), (true, 3), (true, 4), (true, 5), (true, 6), (true, 7), (false, 8), (true, 9)] (by kernel_rfl) (by kernel_rfl) (fun W hW => ?_)
          have p0 : W.cell? ⟨w.heap.size, 0, none⟩ = some (.int .i64 n) := by rw [hW.out]; exact l0
          have p1 : W.cell? ⟨w.heap.size, 1, none⟩ = some (.slice (some ⟨b, off, none⟩) n c) := by rw [hW.out]; exact l1
          have p2 : W.cell? ⟨b, off + k, none⟩ = some (.slice B m d) := by rw [hW.out]; exact hc
          have hbW := Lib.hid (show Below W0.heap.size W0 W by rw [hW.out]; exact hbr.out.drew)
          clear l0 l1 hc
          simp only [List.drop_succ_cons, List.drop_nil]
          iterate 8
            refine wpPlan_float (v := ?_) rfl (by rfl) (fun w' hw' => ?_) (fun K hK => ?_)
            rotate_left
            · (go_simp; try with_reducible rfl)
            go_simp
            refine hK _ ?_
            clear hK K
          refine wpPlan_only rfl (by rfl) (fun K hK => ?_)
          go_simp
          refine (hWd.out W).mono ?_
          rintro e w' ⟨rfl, rfl⟩
          refine hK _ _ (Below.refl _ _) ?_
          clear hK K
          rw [hwzz.out]
          iterate 1
            refine wpPlan_float (v := ?_) rfl (by rfl) (fun w' hw' => ?_) (fun K hK => ?_)
            rotate_left
            · (go_simp; try with_reducible rfl)
            go_simp
            refine hK _ ?_
            clear hK K
          refine wpPlan_nil (NoPanic.normal ?_)
          go_wp2_with fail
          go_ret
          rw [H.out]; exact ⟨rfl, below_trans2 ha'.out hbW.out⟩
      · have H := Lib.hid (hyes.out (fun j xs hx => hall.out j xs (by have := (List.getElem?_eq_some_iff.1 hx).1; have := hlen.out; omega) hx))
        go_wp2_with fail
        go_ret
        rw [H.out]; exact ⟨rfl, below_trans2 ha'.out hbr.out⟩
  · have H := Lib.hid (rightM_len (xss := xss) (N := N) (by rw [hlen]; exact h3))
    have hne : ((n : Int) != N) = true := by rw [bne_iff_ne]; exact h3
    clear hr ha hB hl hlen h3
    go_enter Try.func16, Try.ntmps16
    go_wp2_with fail
    rw [← hW0]
    clear hW0
    go_wp2_with fail
    go_ret
    rw [H.out]; exact ⟨rfl, ha'.out⟩

end Go.Proofs.Ytmgockkjoogcaaa

namespace Go.Proofs.Ytmgockkjoogcaaa
open Go.RowKit
set_option linter.unusedVariables false

theorem own_ne_blk {w : World} {base s n g : Nat} {e t : TypeId} {v : Value} {xs cs : List Value} (h : w.ownsRow base e s v n xs) (hB : Blk w g t cs) (hne : e ≠ t) : v.ownBlock ≠ some g := by
  intro he
  rcases h.2 with ⟨rfl, _⟩ | ⟨g', cap, cur, rfl, _, hh, _⟩
  · simp [Value.ownBlock] at he
  · have : g' = g := by simpa [Value.ownBlock] using he
    subst this
    unfold Blk at hB
    rw [hh] at hB
    injection hB with hB
    injection hB with _ ht
    exact hne ht
theorem OwnRows.grown {t e : TypeId} {w w' : World} {base b2 s n : Nat} {v : Value} {vs us : List Value} {xss : List (List Nat)} (h : OwnRows t w base vs xss) (ho : w.ownsRow b2 e s v n us) (hne : t ≠ e) (hg : w.grownBy w' v.ownBlock) : OwnRows t w' base vs xss :=
  ⟨h.1, fun i u xs h1 h2 => by
    obtain ⟨A, m, c, e', hown, hx⟩ := h.2.1 i u xs h1 h2
    exact ⟨A, m, c, e', own_grown hown ho hne hg, hx⟩, h.2.2⟩

/-- rows as RowsAt, all of whose blocks are B or later -/
def RowsG (B : Nat) (w : World) (A : Option Addr) (n : Nat) (xss : List (List Nat)) : Prop := ∃ vs, Rd w A n vs ∧ RowsC w vs xss ∧ (∀ ad, A = some ad → B ≤ ad.block) ∧ ∀ v ∈ vs, ∀ g, v.ownBlock = some g → B ≤ g
theorem RowsG.at {B : Nat} {w : World} {A : Option Addr} {n : Nat} {xss : List (List Nat)} (h : RowsG B w A n xss) : RowsAt w A n xss := by
  obtain ⟨vs, h1, h2, -, -⟩ := h; exact ⟨vs, h1, h2⟩
theorem RowsG.of {w : World} {A : Option Addr} {n : Nat} {xss : List (List Nat)} (h : RowsAt w A n xss) : RowsG 0 w A n xss := by
  obtain ⟨vs, h1, h2⟩ := h; exact ⟨vs, h1, h2, fun _ _ => Nat.zero_le _, fun _ _ _ _ => Nat.zero_le _⟩
theorem RowsG.below {B : Nat} {w w' : World} {A : Option Addr} {n : Nat} {xss : List (List Nat)} (h : RowsG B w A n xss) (hb : Below w.heap.size w w') : RowsG B w' A n xss := by
  obtain ⟨vs, h1, h2, h3, h4⟩ := h; exact ⟨vs, h1.below hb, h2.below hb, h3, h4⟩
theorem RowsG.mono {B B' : Nat} {w : World} {A : Option Addr} {n : Nat} {xss : List (List Nat)} (h : RowsG B w A n xss) (hb : B' ≤ B) : RowsG B' w A n xss := by
  obtain ⟨vs, h1, h2, h3, h4⟩ := h; exact ⟨vs, h1, h2, fun ad e => Nat.le_trans hb (h3 ad e), fun v hv g e => Nat.le_trans hb (h4 v hv g e)⟩
def RetMatG (B : Nat) (N : Int) (xss : List (List Nat)) (er : Int) (w : World) : Ending → World → Prop := fun e w' =>
  ∃ A n c, e = .returned (.tuple #[.agg #[.int .i64 N, .slice A n c], .int .i64 er]) ∧ RowsG B w' A n xss ∧ n ≤ c ∧ Below w.heap.size w w' ∧ ∀ ad, A = some ad → w.heap.size ≤ ad.block
/-- as RetMat, and the outer cells are new -/
def RetMatF (N : Int) (xss : List (List Nat)) (er : Int) (w : World) : Ending → World → Prop := fun e w' =>
  ∃ A n c, e = .returned (.tuple #[.agg #[.int .i64 N, .slice A n c], .int .i64 er]) ∧ RowsAt w' A n xss ∧ n ≤ c ∧ Below w.heap.size w w' ∧ ∀ ad, A = some ad → w.heap.size ≤ ad.block
theorem RetMatG.f {B : Nat} {N : Int} {xss : List (List Nat)} {er : Int} {w w' : World} {e : Ending} (h : RetMatG B N xss er w e w') : RetMatF N xss er w e w' := by
  obtain ⟨A, n, c, h1, h2, h3, h4, h5⟩ := h; exact ⟨A, n, c, h1, h2.at, h3, h4, h5⟩
/-- what is known at the heads of the rounds of a matrix that grows row by row -/
structure GrowI (w : World) (hi n : Nat) (M R : Nat) (v : Value) (vs : List Value) (xss : List (List Nat)) (wr : World) : Prop where
  res : MatB wr R 35 0 none 0 0
  loc : Blk wr M 35 [.int .i64 n, v]
  out : wr.ownsRow hi 60 1 v vs.length vs
  rows : OwnRows 77 wr hi vs xss
  below : Below w.heap.size w wr
  high : hi ≤ wr.heap.size
theorem GrowI.keep {w : World} {hi n M R : Nat} {v : Value} {vs : List Value} {xss : List (List Nat)} {wr w' : World} (h : GrowI w hi n M R v vs xss wr) (hb : Below wr.heap.size wr w') : GrowI w hi n M R v vs xss w' :=
  ⟨h.res.below_ hb, Blk.below h.loc hb h.loc.lt, own_below h.out hb, h.rows.below hb, below_trans2 h.below hb, Nat.le_trans h.high hb.size⟩
theorem GrowI.more {w : World} {hi n M R : Nat} {v : Value} {vs : List Value} {xss : List (List Nat)} {wr w1 w2 : World} {A : Option Addr} {m c : Nat} {xs : List Nat} {u : Value} (h : GrowI w hi n M R v vs xss wr) (hb : Below wr.heap.size wr w1)
    (ho : w1.ownsRow wr.heap.size 77 1 (.slice A m c) m (xs.map u64v)) (hx : W64 xs) (hg : w1.grownBy w2 v.ownBlock) (h2 : w2.ownsRow hi 60 1 u (vs.length + 1) (vs ++ [.slice A m c])) (hM : M < hi) (hR : R < hi) (hRM : R ≠ M) (hw : w.heap.size ≤ M) (hw2 : w.heap.size ≤ hi) :
    GrowI w hi n M R u (vs ++ [.slice A m c]) (xss ++ [xs]) (w2.setCell ⟨M, 1, none⟩ u) := by
  have h1 := h.keep hb
  have hsn := h.rows.snoc hb ho hx h.high
  have hne1 := own_ne_blk h1.out h1.res (by decide)
  have hne2 := own_ne_blk h1.out h1.loc (by decide)
  have hu : u.ownBlock ≠ some M := fun e => by have := own_lt_block h2 M e; omega
  have hsz : w1.heap.size ≤ w2.heap.size := hg.size
  refine ⟨(Blk.grown h1.res hg (fun e => hne1 e.symm)).far hRM _, ?_, ?_, (hsn.grown h1.out (by decide) hg).far hM _, ?_, ?_⟩
  · have := (Blk.grown h1.loc hg (fun e => hne2 e.symm)).set_ 1 u
    exact this
  · rw [List.length_append, List.length_singleton]
    exact own_far h2 hu _
  · refine Below.setCell ?_ hw _
    exact h1.below.grown hg (Nat.le_trans hw2 h1.high) (fun g e => Nat.le_trans hw2 (own_lt_block h1.out g e))
  · have := h1.high
    simp
    omega
set_option maxRecDepth 100000 in
set_option maxHeartbeats 2000000 in
theorem ref3_NewG (n : Nat) (hn : n ≤ 4096) (w : World) :
    Calls Try.prog 30 #[.int .i64 (n : Int)] w (RetMatG w.heap.size (n : Int) (newM n) 0 w) := by
  obtain ⟨i0, hi, hz0, hz1, hz2⟩ := info_parts info_row
  replace hi := Lib.hid hi
  replace hz0 := Lib.hid hz0
  replace hz1 := Lib.hid hz1
  replace hz2 := Lib.hid hz2
  have hrow := Lib.hid (fun W => ref2_NewO (n : Int) (by omega) (by omega) W)
  obtain ⟨W0, hW0⟩ : ∃ W0, W0 = (w.alloc (.cells #[.int .i64 0, .slice none 0 0] 35)).alloc (.cells #[.int .i64 n, .slice none 0 0] 35) := ⟨_, rfl⟩
  have hI : GrowI w (w.heap.size + 2) n (w.heap.size + 1) w.heap.size (.slice none 0 0) [] (List.replicate 0 (List.replicate (wordsN (n : Int)) 0)) W0 := by
    refine ⟨by rw [hW0]; exact (MatB.new w _).below_ ((Below.refl _ _).alloc (Nat.le_refl _) _), by rw [hW0]; exact MatB.new1 w _ _, World.ownsRow_nil _ _ _ _, OwnRows.nil _ _ _, by rw [hW0]; exact ((Below.refl _ _).alloc (Nat.le_refl _) _).alloc (by simp) _, by rw [hW0]; simp⟩
  replace hI := Lib.hid hI
  have h1 : ¬ (n : Int) < 0 := by omega
  have h2 : ¬ 4096 < (n : Int) := by omega
  go_enter Try.func30, Try.ntmps30
  go_wp2_with fail
  rw [← hW0]
  clear hW0
  go_loopw [5] (fun i wr => ∃ (v : Value) (vs : List Value), vs.length ≤ n ∧ i = .int .i64 vs.length ∧ Hid (GrowI w (w.heap.size + 2) n (w.heap.size + 1) w.heap.size v vs (List.replicate vs.length (List.replicate (wordsN (n : Int)) 0)) wr)) (fun i _ => n - (intOf i).toNat)
  case atStart => exact ⟨_, [], Nat.zero_le _, rfl, hI⟩
  case round =>
    obtain ⟨v, vs, hk, rfl, hI'⟩ := hrel
    clear hI
    obtain ⟨k, hke⟩ : ∃ k, k = vs.length := ⟨_, rfl⟩
    rw [← hke] at hk
    rw [← hke]
    by_cases hlt : k < n
    · replace hke := Lib.hid hke
      have l1 := Blk.cell hI'.out.loc 1
      simp only [List.getElem?_cons_zero, List.getElem?_cons_succ] at l1
      go_wp2_with fail
      refine wp_region_plan 5 [(true, 0), (true, 1), (true, 2), (false, 3), (false, 4)] (by kernel_rfl) (by kernel_rfl) (fun W hW => ?_)
      have p1 : W.cell? ⟨w.heap.size + 1, 1, none⟩ = some v := by rw [hW.out]; exact l1
      have hIW := Lib.hid (show GrowI w (w.heap.size + 2) n (w.heap.size + 1) w.heap.size v vs (List.replicate vs.length (List.replicate (wordsN (n : Int)) 0)) W by rw [hW.out]; exact hI'.out.keep (Below.refl _ _).drew)
      clear l1 hI'
      simp only [List.drop_succ_cons, List.drop_zero]
      iterate 3
        refine wpPlan_float (v := ?_) rfl (by rfl) (fun w' hw' => ?_) (fun K hK => ?_)
        rotate_left
        · (go_simp; try with_reducible rfl)
        go_simp
        refine hK _ ?_
        clear hK K
      refine wpPlan_only rfl (by rfl) (fun K hK => ?_)
      go_simp
      refine (hrow.out W).mono ?_
      rintro e w1 ⟨C, p, q, rfl, ho, hx64, hb1⟩
      refine hK _ _ hb1 ?_
      clear hK K p1
      refine wpPlan_only rfl (by rfl) (fun K hK => ?_)
      go_simp
      have hba : Below w1.heap.size w1 (w1.alloc (.cells #[.slice C p q] 60)) := (Below.refl _ _).alloc (Nat.le_refl _) _
      refine hK _ _ hba (wpPlan_nil ?_)
      clear hK K
      have hbb := below_trans2 hb1 hba
      have hIa := Lib.hid (hIW.out.keep hbb)
      have hoa := Lib.hid (own_below ho hba)
      replace hbb := Lib.hid hbb
      have hown := hIa.out.out
      rw [← hke.out] at hown
      have hhi := hIa.out.high
      replace hx64 := Lib.hid hx64
      clear hba hb1 ho
      go_wp2_with (at_builtin; refine wpList_append_lies _ rfl (.tmp 21) (.tmp 24) _ rfl (w.heap.size + 2) 60 i0 _ 1 24 Try.underlying33 hi.out hz0.out hz1.out hz2.out rfl (by omega) _ _ _ (by rfl) hown ⟨w1.heap.size, 0, none⟩ 1 1 [.slice C p q] rfl rfl (cell_one_new _ _ _) (by simp [Value.oneCell']) (by omega) (by unfold maxLen; omega) (by omega) hhi _ rfl ?_; intro g cap w2 hown2 hgrow hat hlt1; have hB2 := Blk.grown hIa.out.loc hgrow (fun e => own_ne_blk hIa.out.out hIa.out.loc (by decide) e.symm); have q1 := hB2.cell 1; have q2 := hB2.frozen 1; simp only [List.getElem?_cons_zero, List.getElem?_cons_succ] at q1; clear hB2 hat hlt1)
      refine NoPanic.normal ?_
      have hmore := Lib.hid (hIW.out.more hbb.out hoa.out hx64.out hgrow (by rw [← hke.out]; exact hown2) (by omega) (by omega) (by omega) (by omega) (by omega))
      clear q1 q2 hown2 hgrow hown
      go_wp2_with fail
      go_roundw
      case rel =>
        refine ⟨.slice (some ⟨g, 0, none⟩) (k + 1) cap, vs ++ [.slice C p q], by have := hke.out; simp; omega, by rw [List.length_append, ← hke.out]; simp; try omega, ?_⟩
        have h := hmore.out
        rw [← List.replicate_succ'] at h
        rw [List.length_append, List.length_singleton]
        exact Lib.hid h
      case measure => simp [intOf]; omega
    · have hkn : k = n := by omega
      have hvn : vs.length = n := by rw [← hke, hkn]
      clear hlt
      obtain rfl := hkn
      have hout := hI'.out.out
      obtain ⟨A', c', hv, hRd⟩ := Rd.of_own hout
      subst hv
      rw [hvn] at hout hRd
      have f0 := hI'.out.res.c0
      have f1 := hI'.out.res.c1
      have g0 := hI'.out.res.frozen 0
      have g1 := hI'.out.res.frozen 1
      have k0 := hI'.out.loc.cell 0
      have k1 := hI'.out.loc.cell 1
      simp only [List.getElem?_cons_zero, List.getElem?_cons_succ] at k0 k1
      rw [hvn] at k1
      have hcc := hI'.out.res.two (.int .i64 k) (.slice A' k c')
      have hc1 := Lib.hid hcc.1
      have hc2 := Lib.hid hcc.2
      replace hvn := Lib.hid hvn
      replace hke := Lib.hid hke
      clear hcc
      go_wp2_with fail
      refine bodyPost_ret (v := .tuple #[.agg #[.int .i64 k, .slice A' k c'], .int .i64 0]) (by simp [results, Try.results30, go_sem, hc1.out, hc2.out]) rfl ⟨_, _, _, rfl, ⟨vs, ?_, ?_, fun ad e => by subst e; have := own_lt_block hout _ rfl; omega, fun v hv g e => by have := (hI'.out.rows.lt v hv g e).1; omega⟩, own_cap hout, (hI'.out.below.setCell (by simp) _).setCell (by simp) _, fun ad e => by subst e; have := own_lt_block hout _ rfl; omega⟩
      · have hne : (Value.slice A' k c').ownBlock ≠ some w.heap.size := fun e => by have := own_lt_block hout _ e; omega
        exact Rd.of_own' (own_far (own_far hout (p := ⟨w.heap.size, 0, none⟩) hne _) (p := ⟨w.heap.size, 1, none⟩) hne _)
      · have h := ((hI'.out.rows.far (p := ⟨w.heap.size, 0, none⟩) (by simp) (.int .i64 k)).far (p := ⟨w.heap.size, 1, none⟩) (by simp) (.slice A' k c')).rows
        rw [hvn.out] at h
        exact h
theorem ref3_NewF (n : Nat) (hn : n ≤ 4096) (w : World) :
    Calls Try.prog 30 #[.int .i64 (n : Int)] w (RetMatF (n : Int) (newM n) 0 w) := (ref3_NewG n hn w).mono fun _ _ h => h.f
theorem ref3_New (n : Nat) (hn : n ≤ 4096) (w : World) :
    Calls Try.prog 30 #[.int .i64 (n : Int)] w (RetMat (n : Int) (newM n) 0 w) :=
  (ref3_NewF n hn w).mono fun _ _ ⟨A', n', c', h1, h2, h3, h4, _⟩ => ⟨A', n', c', h1, h2, h3, h4⟩

end Go.Proofs.Ytmgockkjoogcaaa

namespace Go.Proofs.Ytmgockkjoogcaaa
open Go.RowKit
set_option linter.unusedVariables false

set_option maxHeartbeats 400000 in
theorem ref3_New_no (n : Int) (h : n < 0 ∨ 4097 ≤ n) (w : World) :
    Calls Try.prog 30 #[.int .i64 n] w (RetMat 0 [] 1 w) := by
  have ha : Below w.heap.size w (w.alloc (.cells #[.int .i64 0, .slice none 0 0] 35)) := (Below.refl _ _).alloc (Nat.le_refl _) _
  replace ha := Lib.hid ha
  by_cases h0 : n < 0
  · clear h
    go_enter Try.func30, Try.ntmps30
    go_wp2_with fail
    exact bodyPost_ret (v := .tuple #[.agg #[.int .i64 0, .slice none 0 0], .int .i64 1]) (by simp [results, Try.results30, go_sem]) rfl ⟨none, 0, 0, rfl, RowsAt.nil _ _, Nat.le_refl _, ha.out⟩
  · have h1 : 4096 < n := by omega
    clear h
    go_enter Try.func30, Try.ntmps30
    go_wp2_with fail
    exact bodyPost_ret (v := .tuple #[.agg #[.int .i64 0, .slice none 0 0], .int .i64 1]) (by simp [results, Try.results30, go_sem]) rfl ⟨none, 0, 0, rfl, RowsAt.nil _ _, Nat.le_refl _, ha.out⟩

set_option maxHeartbeats 400000 in
theorem ref3_Or_no (N M : Int) (A B : Option Addr) (n c m d : Nat) (w : World) (h : N ≠ M) :
    Calls Try.prog 33 #[.agg #[.int .i64 N, .slice A n c], .agg #[.int .i64 M, .slice B m d]] w (RetMat 0 [] 1 w) := by
  have hne : (N != M) = true := by simpa using h
  have ha : Below w.heap.size w (((w.alloc (.cells #[.int .i64 N, .slice A n c] 35)).alloc (.cells #[.int .i64 M, .slice B m d] 35)).alloc (.cells #[.int .i64 0, .slice none 0 0] 35)) := (((Below.refl _ _).alloc (Nat.le_refl _) _).alloc (by simp) _).alloc (by simp; omega) _
  replace ha := Lib.hid ha
  clear h
  go_enter Try.func33, Try.ntmps33
  go_wp2_with fail
  exact bodyPost_ret (v := .tuple #[.agg #[.int .i64 0, .slice none 0 0], .int .i64 1]) (by simp [results, Try.results33, go_sem]) rfl ⟨none, 0, 0, rfl, RowsAt.nil _ _, Nat.le_refl _, ha.out⟩
set_option maxRecDepth 100000 in
set_option maxHeartbeats 2000000 in
theorem ref3_OrF (A B : Option Addr) (n c d : Nat) (xss yss : List (List Nat)) (w : World) (hr : RowsAt w A n xss) (hs : RowsAt w B n yss) (hn : n ≤ 4096)
    (hl : ∀ (i : Nat) (xs : List Nat), xss[i]? = some xs → xs.length ≤ 1024) (hl2 : ∀ (i : Nat) (xs : List Nat), yss[i]? = some xs → xs.length ≤ 1024) :
    Calls Try.prog 33 #[.agg #[.int .i64 (n : Int), .slice A n c], .agg #[.int .i64 (n : Int), .slice B n d]] w (RetMatF (n : Int) (orM xss yss) 0 w) := by
  obtain ⟨i0, hi, hz0, hz1, hz2⟩ := info_parts info_row
  replace hi := Lib.hid hi
  replace hz0 := Lib.hid hz0
  replace hz1 := Lib.hid hz1
  replace hz2 := Lib.hid hz2
  have hxl := hr.len
  obtain ⟨W0, hW0⟩ : ∃ W0, W0 = (((w.alloc (.cells #[.int .i64 n, .slice A n c] 35)).alloc (.cells #[.int .i64 n, .slice B n d] 35)).alloc (.cells #[.int .i64 0, .slice none 0 0] 35)).alloc (.cells #[.int .i64 n, .slice none 0 0] 35) := ⟨_, rfl⟩
  have hBa : MatB W0 w.heap.size 35 n A n c := by rw [hW0]; exact (((MatB.new w _).below_ ((Below.refl _ _).alloc (Nat.le_refl _) _)).below_ ((Below.refl _ _).alloc (Nat.le_refl _) _)).below_ ((Below.refl _ _).alloc (Nat.le_refl _) _)
  have hBb : MatB W0 (w.heap.size + 1) 35 n B n d := by rw [hW0]; exact ((MatB.new1 w _ _).below_ ((Below.refl _ _).alloc (Nat.le_refl _) _)).below_ ((Below.refl _ _).alloc (Nat.le_refl _) _)
  have hI : GrowI w (w.heap.size + 4) n (w.heap.size + 3) (w.heap.size + 2) (.slice none 0 0) [] (orPre xss yss 0) W0 := by
    refine ⟨?_, ?_, World.ownsRow_nil _ _ _ _, OwnRows.nil _ _ _, by rw [hW0]; exact (((((Below.refl _ _).alloc (Nat.le_refl _) _).alloc (by simp) _).alloc (by simp <;> omega) _).alloc (by simp <;> omega) _), by rw [hW0]; simp⟩
    · rw [hW0]
      have h := MatB.new1 (N := 0) (A := none) (n := 0) (c := 0) (w.alloc (.cells #[.int .i64 n, .slice A n c] 35)) (.cells #[.int .i64 n, .slice B n d] 35) 35
      rw [show (w.alloc (.cells #[.int .i64 n, .slice A n c] 35)).heap.size = w.heap.size + 1 from by simp] at h
      exact h.below_ ((Below.refl _ _).alloc (Nat.le_refl _) _)
    · rw [hW0]
      have h := MatB.new1 (N := n) (A := none) (n := 0) (c := 0) ((w.alloc (.cells #[.int .i64 n, .slice A n c] 35)).alloc (.cells #[.int .i64 n, .slice B n d] 35)) (.cells #[.int .i64 0, .slice none 0 0] 35) 35
      rw [show ((w.alloc (.cells #[.int .i64 n, .slice A n c] 35)).alloc (.cells #[.int .i64 n, .slice B n d] 35)).heap.size + 1 = w.heap.size + 3 from by simp] at h
      exact h
  replace hI := Lib.hid hI
  have hne : ((n : Int) != (n : Int)) = false := by simp
  replace hBa := Lib.hid hBa
  replace hBb := Lib.hid hBb
  replace hr := Lib.hid hr
  replace hs := Lib.hid hs
  replace hl := Lib.hid hl
  replace hl2 := Lib.hid hl2
  replace hxl := Lib.hid hxl
  go_enter Try.func33, Try.ntmps33
  go_wp2_with fail
  rw [← hW0]
  clear hW0
  go_loopw [7] (fun i wr => ∃ (v : Value) (vs : List Value), vs.length ≤ n ∧ i = .int .i64 vs.length ∧ Hid (GrowI w (w.heap.size + 4) n (w.heap.size + 3) (w.heap.size + 2) v vs (orPre xss yss vs.length) wr) ∧ Hid (MatB wr w.heap.size 35 n A n c) ∧ Hid (MatB wr (w.heap.size + 1) 35 n B n d)) (fun i _ => n - (intOf i).toNat)
  case atStart => exact ⟨_, [], Nat.zero_le _, rfl, hI, hBa, hBb⟩
  case round =>
    obtain ⟨v, vs, hk, rfl, hI', hA', hB'⟩ := hrel
    clear hI hBa hBb
    obtain ⟨k, hke⟩ : ∃ k, k = vs.length := ⟨_, rfl⟩
    rw [← hke] at hk
    rw [← hke]
    have la0 := hA'.out.c0
    by_cases hlt : k < n
    · replace hke := Lib.hid hke
      obtain ⟨b1, o1, A1, n1, c1, xs, rfl, hbl1, hx, hc1, hrx⟩ := (hr.out.below hI'.out.below).at_ hlt
      obtain ⟨b2, o2, B1, n2, c2, ys, rfl, hbl2, hy, hc2, hry⟩ := (hs.out.below hI'.out.below).at_ hlt
      have hn1 : n1 ≤ 1024 := by have := hrx.len; have := hl.out k xs hx; omega
      have hn2 : n2 ≤ 1024 := by have := hry.len; have := hl2.out k ys hy; omega
      have hstep : Hid (orPre xss yss (k + 1) = orPre xss yss k ++ [orR xs ys]) := Lib.hid (by rw [orPre_succ, getD_at hx, getD_at hy])
      have l1 := Blk.cell hI'.out.loc 1
      have la1 := hA'.out.c1
      have lb1 := hB'.out.c1
      have hk0 : (0 : Int) ≤ (k : Int) := by omega
      have hkn : (k : Int) < (n : Int) := by omega
      simp only [List.getElem?_cons_zero, List.getElem?_cons_succ] at l1
      clear hx hy
      go_wp2_with fail
      refine wp_region_plan 14 [(true, 0), (true, 1), (true, 2), (true, 3), (true, 4), (true, 5), (true, 6), (true, 7), (true, 8), (true, 9), (true, 10), (true, 11), (false, 12), (false, 13)] (by kernel_rfl) (by kernel_rfl) (fun W hW => ?_)
      have p1 : W.cell? ⟨w.heap.size + 3, 1, none⟩ = some v := by rw [hW.out]; exact l1
      have p2 : W.cell? ⟨w.heap.size, 1, none⟩ = some (.slice (some ⟨b1, o1, none⟩) n c) := by rw [hW.out]; exact la1
      have p3 : W.cell? ⟨w.heap.size + 1, 1, none⟩ = some (.slice (some ⟨b2, o2, none⟩) n d) := by rw [hW.out]; exact lb1
      have p4 : W.cell? ⟨b1, o1 + k, none⟩ = some (.slice A1 n1 c1) := by rw [hW.out]; exact hc1
      have p5 : W.cell? ⟨b2, o2 + k, none⟩ = some (.slice B1 n2 c2) := by rw [hW.out]; exact hc2
      have hIW := Lib.hid (show GrowI w (w.heap.size + 4) n (w.heap.size + 3) (w.heap.size + 2) v vs (orPre xss yss vs.length) W by rw [hW.out]; exact hI'.out.keep (Below.refl _ _).drew)
      have hAW := Lib.hid (show MatB W w.heap.size 35 n (some ⟨b1, o1, none⟩) n c by rw [hW.out]; exact Blk.drew hA'.out)
      have hBW := Lib.hid (show MatB W (w.heap.size + 1) 35 n (some ⟨b2, o2, none⟩) n d by rw [hW.out]; exact Blk.drew hB'.out)
      have hC := Lib.hid (ref2_OrO A1 B1 n1 n2 c1 c2 xs ys W (by rw [hW.out]; exact hrx) (by rw [hW.out]; exact hry) (by omega) (by omega))
      clear l1 la1 lb1 la0 hc1 hc2 hI' hA' hB' hrx hry
      simp only [List.drop_succ_cons, List.drop_zero]
      iterate 12
        refine wpPlan_float (v := ?_) rfl (by rfl) (fun w' hw' => ?_) (fun K hK => ?_)
        rotate_left
        · (go_simp; try with_reducible rfl)
        go_simp
        refine hK _ ?_
        clear hK K
      refine wpPlan_only rfl (by rfl) (fun K hK => ?_)
      go_simp
      refine hC.out.mono ?_
      rintro e w1 ⟨C, p, q, rfl, ho, hx64, hb1⟩
      refine hK _ _ hb1 ?_
      clear hK K p1 p2 p3 p4 p5
      refine wpPlan_only rfl (by rfl) (fun K hK => ?_)
      go_simp
      have hba : Below w1.heap.size w1 (w1.alloc (.cells #[.slice C p q] 60)) := (Below.refl _ _).alloc (Nat.le_refl _) _
      refine hK _ _ hba (wpPlan_nil ?_)
      clear hK K
      have hbb := below_trans2 hb1 hba
      have hIa := Lib.hid (hIW.out.keep hbb)
      have hAa := Lib.hid (hAW.out.below_ hbb)
      have hBa := Lib.hid (hBW.out.below_ hbb)
      have hoa := Lib.hid (own_below ho hba)
      replace hbb := Lib.hid hbb
      have hown := hIa.out.out
      rw [← hke.out] at hown
      have hhi := hIa.out.high
      replace hx64 := Lib.hid hx64
      clear hba hb1 ho
      go_wp2_with (at_builtin; refine wpList_append_lies _ rfl (.tmp 24) (.tmp 36) _ rfl (w.heap.size + 4) 60 i0 _ 1 24 Try.underlying33 hi.out hz0.out hz1.out hz2.out rfl (by omega) _ _ _ (by rfl) hown ⟨w1.heap.size, 0, none⟩ 1 1 [.slice C p q] rfl rfl (cell_one_new _ _ _) (by simp [Value.oneCell']) (by omega) (by unfold maxLen; omega) (by omega) hhi _ rfl ?_; intro g cap w2 hown2 hgrow hat hlt1; have hB2 := Blk.grown hIa.out.loc hgrow (fun e => own_ne_blk hIa.out.out hIa.out.loc (by decide) e.symm); have q1 := hB2.cell 1; have q2 := hB2.frozen 1; simp only [List.getElem?_cons_zero, List.getElem?_cons_succ] at q1; clear hB2 hat hlt1)
      refine NoPanic.normal ?_
      have hmore := Lib.hid (hIW.out.more hbb.out hoa.out hx64.out hgrow (by rw [← hke.out]; exact hown2) (by omega) (by omega) (by omega) (by omega) (by omega))
      have hA2 := Lib.hid ((Blk.grown hAa.out hgrow (fun e => own_ne_blk hIa.out.out hAa.out (by decide) e.symm)).far (p := ⟨w.heap.size + 3, 1, none⟩) (by simp <;> omega) (.slice (some ⟨g, 0, none⟩) (k + 1) cap))
      have hB2 := Lib.hid ((Blk.grown hBa.out hgrow (fun e => own_ne_blk hIa.out.out hBa.out (by decide) e.symm)).far (p := ⟨w.heap.size + 3, 1, none⟩) (by simp <;> omega) (.slice (some ⟨g, 0, none⟩) (k + 1) cap))
      clear q1 q2 hown2 hgrow hown
      go_wp2_with fail
      go_roundw
      case rel =>
        refine ⟨.slice (some ⟨g, 0, none⟩) (k + 1) cap, vs ++ [.slice C p q], by have := hke.out; simp; omega, by rw [List.length_append, ← hke.out]; simp; try omega, ?_, hA2, hB2⟩
        have h := hmore.out
        rw [← hke.out, ← hstep.out] at h
        rw [List.length_append, List.length_singleton, ← hke.out]
        exact Lib.hid h
      case measure => simp [intOf]; omega
    · have hkn : k = n := by omega
      have hvn : vs.length = n := by rw [← hke, hkn]
      clear hlt
      obtain rfl := hkn
      have hout := hI'.out.out
      obtain ⟨A', c', hv, hRd⟩ := Rd.of_own hout
      subst hv
      rw [hvn] at hout hRd
      have f0 := hI'.out.res.c0
      have f1 := hI'.out.res.c1
      have g0 := hI'.out.res.frozen 0
      have g1 := hI'.out.res.frozen 1
      have k0 := hI'.out.loc.cell 0
      have k1 := hI'.out.loc.cell 1
      simp only [List.getElem?_cons_zero, List.getElem?_cons_succ] at k0 k1
      rw [hvn] at k1
      have hcc := hI'.out.res.two (.int .i64 k) (.slice A' k c')
      have hc1 := Lib.hid hcc.1
      have hc2 := Lib.hid hcc.2
      replace hvn := Lib.hid hvn
      replace hke := Lib.hid hke
      clear hcc
      go_wp2_with fail
      refine bodyPost_ret (v := .tuple #[.agg #[.int .i64 k, .slice A' k c'], .int .i64 0]) (by simp [results, Try.results33, go_sem, hc1.out, hc2.out]) rfl ⟨_, _, _, rfl, ⟨vs, ?_, ?_⟩, own_cap hout, (hI'.out.below.setCell (by simp <;> omega) _).setCell (by simp <;> omega) _, fun ad e => by subst e; have := own_lt_block hout _ rfl; omega⟩
      · have hne : (Value.slice A' k c').ownBlock ≠ some (w.heap.size + 2) := fun e => by have := own_lt_block hout _ e; omega
        exact Rd.of_own' (own_far (own_far hout (p := ⟨w.heap.size + 2, 0, none⟩) hne _) (p := ⟨w.heap.size + 2, 1, none⟩) hne _)
      · have h := ((hI'.out.rows.far (p := ⟨w.heap.size + 2, 0, none⟩) (by simp <;> omega) (.int .i64 k)).far (p := ⟨w.heap.size + 2, 1, none⟩) (by simp <;> omega) (.slice A' k c')).rows
        have he : orPre xss yss vs.length = orM xss yss := by rw [hvn.out, ← orPre_all, hxl.out]
        rw [he] at h
        exact h
theorem ref3_Or (A B : Option Addr) (n c d : Nat) (xss yss : List (List Nat)) (w : World) (hr : RowsAt w A n xss) (hs : RowsAt w B n yss) (hn : n ≤ 4096)
    (hl : ∀ (i : Nat) (xs : List Nat), xss[i]? = some xs → xs.length ≤ 1024) (hl2 : ∀ (i : Nat) (xs : List Nat), yss[i]? = some xs → xs.length ≤ 1024) :
    Calls Try.prog 33 #[.agg #[.int .i64 (n : Int), .slice A n c], .agg #[.int .i64 (n : Int), .slice B n d]] w (RetMat (n : Int) (orM xss yss) 0 w) :=
  (ref3_OrF A B n c d xss yss w hr hs hn hl hl2).mono fun _ _ ⟨A', n', c', h1, h2, h3, h4, _⟩ => ⟨A', n', c', h1, h2, h3, h4⟩

end Go.Proofs.Ytmgockkjoogcaaa

namespace Go.Proofs.Ytmgockkjoogcaaa
open Go.RowKit
set_option linter.unusedVariables false

theorem MatB.belowB {w w' : World} {g : Nat} {t : TypeId} {N : Int} {A : Option Addr} {n c B : Nat} (h : MatB w g t N A n c) (hb : Below B w w') (hg : g < B) : MatB w' g t N A n c := Blk.below h hb hg
theorem MatB.farB {w : World} {g : Nat} {t : TypeId} {N : Int} {A : Option Addr} {n c : Nat} (h : MatB w g t N A n c) {p : Addr} (hp : g ≠ p.block) (u : Value) : MatB (w.setCell p u) g t N A n c := Blk.far h hp u
set_option maxHeartbeats 400000 in
theorem ref3_Set_noF (N : Int) (A : Option Addr) (n c : Nat) (i j : Int) (w : World) (h3 : inM N i j = false) :
    Calls Try.prog 21 #[.agg #[.int .i64 N, .slice A n c], .int .i64 i, .int .i64 j] w (RetMatF 0 [] 1 w) := by
  obtain ⟨W0, hW0⟩ : ∃ W0, W0 = (w.alloc (.cells #[.int .i64 N, .slice A n c] 35)).alloc (.cells #[.int .i64 0, .slice none 0 0] 35) := ⟨_, rfl⟩
  have ha : Below w.heap.size w W0 := by rw [hW0]; exact ((Below.refl _ _).alloc (Nat.le_refl _) _).alloc (by simp) _
  have hB2 : MatB W0 (w.heap.size + 1) 35 0 none 0 0 := by rw [hW0]; exact MatB.new1 w _ _
  have hin := Lib.hid (ref3_in N A n c i j W0)
  replace h3 := Lib.hid h3
  replace ha := Lib.hid ha
  replace hB2 := Lib.hid hB2
  go_enter Try.func21, Try.ntmps21
  go_wp2_with fail
  rw [← hW0]
  clear hW0
  refine hin.out.mono ?_; rintro e w1 ⟨rfl, hb1⟩
  rw [h3.out]
  have hbb := Lib.hid (below_trans2 ha.out hb1)
  have hres := hB2.out.below_ hb1
  have f0 := hres.c0
  have f1 := hres.c1
  have g0 := hres.frozen 0
  have g1 := hres.frozen 1
  have hcc := hres.two (.int .i64 0) (.slice none 0 0)
  have hc1 := Lib.hid hcc.1
  have hc2 := Lib.hid hcc.2
  clear hcc hres hb1
  go_wp2_with fail
  exact bodyPost_ret (v := .tuple #[.agg #[.int .i64 0, .slice none 0 0], .int .i64 1]) (by simp [results, Try.results21, go_sem, hc1.out, hc2.out]) rfl ⟨none, 0, 0, rfl, RowsAt.nil _ _, Nat.le_refl _, (hbb.out.setCell (by simp) _).setCell (by simp) _, fun ad e => by cases e⟩

set_option maxRecDepth 100000 in
set_option maxHeartbeats 1000000 in
theorem ref3_SetG (B0 : Nat) (N : Int) (A : Option Addr) (n c : Nat) (xss : List (List Nat)) (i j : Int) (w : World) (hr : RowsG B0 w A n xss) (hB0 : B0 ≤ w.heap.size) (hN : N = (n : Int)) (hn : n ≤ 4096) (hl : ∀ xs ∈ xss, xs.length ≤ 1024)
    (h3 : inM N i j = true) :
    Calls Try.prog 21 #[.agg #[.int .i64 N, .slice A n c], .int .i64 i, .int .i64 j] w (RetMatG B0 N (setM xss i j) 0 w) := by
  subst hN
  obtain ⟨x0, hxi, hxz0, hxz1, hxz2⟩ := info_parts info_row
  replace hxi := Lib.hid hxi
  replace hxz0 := Lib.hid hxz0
  replace hxz1 := Lib.hid hxz1
  replace hxz2 := Lib.hid hxz2
  obtain ⟨i0, i1, j0, j1⟩ := inM_yes h3
  obtain ⟨k, rfl⟩ := Int.eq_ofNat_of_zero_le i0
  have hk : k < n := by omega
  obtain ⟨W0, hW0⟩ : ∃ W0, W0 = (w.alloc (.cells #[.int .i64 n, .slice A n c] 35)).alloc (.cells #[.int .i64 0, .slice none 0 0] 35) := ⟨_, rfl⟩
  have ha : Below w.heap.size w W0 := by rw [hW0]; exact ((Below.refl _ _).alloc (Nat.le_refl _) _).alloc (by simp) _
  have hB1 : MatB W0 w.heap.size 35 n A n c := by rw [hW0]; exact (MatB.new w _).below_ ((Below.refl _ _).alloc (Nat.le_refl _) _)
  have hB2 : MatB W0 (w.heap.size + 1) 35 0 none 0 0 := by rw [hW0]; exact MatB.new1 w _ _
  have hin := Lib.hid (ref3_in (n : Int) A n c k j W0)
  have hsz : W0.heap.size = w.heap.size + 2 := by rw [hW0]; simp
  have hlen := hr.at.len
  have hlt := Lib.hid hr.at.w64
  obtain ⟨vs, hrdw, hrcw, -, hvg⟩ := hr
  replace hvg := Lib.hid hvg
  replace hB0 := Lib.hid hB0
  obtain ⟨b, off, u, rfl, hbl, hu, hc⟩ := hrdw.at_ hk
  obtain ⟨xs, hx⟩ : ∃ xs, xss[k]? = some xs := ⟨_, List.getElem?_eq_getElem (by omega)⟩
  obtain ⟨B, m, d, rfl, hxr⟩ := hrcw.2 k u xs hu hx
  have hm : m ≤ 1024 := by have := hxr.len; have := hl xs (List.mem_of_getElem? hx); omega
  have hst := Lib.hid (ref2_SetO B m d xs j)
  have hx2 := Lib.hid hx
  have hu2 := Lib.hid hu
  have hone := Lib.hid (one_rows hrcw)
  replace hB1 := Lib.hid hB1
  replace hB2 := Lib.hid hB2
  replace hsz := Lib.hid hsz
  replace ha := Lib.hid ha
  replace h3 := Lib.hid h3
  replace hxr := Lib.hid hxr
  replace hrcw := Lib.hid hrcw
  replace hrdw := Lib.hid hrdw
  have hk0 : (0 : Int) ≤ (k : Int) := by omega
  have hkn : (k : Int) < (n : Int) := by omega
  clear hc hu hx hlen hl i0 i1
  go_enter Try.func21, Try.ntmps21
  go_wp2_with fail
  rw [← hW0]
  clear hW0
  refine hin.out.mono ?_; rintro e w1 ⟨rfl, hb1⟩
  rw [h3.out]
  have hbb := Lib.hid (below_trans2 ha.out hb1)
  have hs1 : w.heap.size + 2 ≤ w1.heap.size := by have := hb1.size; have := hsz.out; omega
  have hA1 := Lib.hid (hB1.out.below_ hb1)
  have hR1 := Lib.hid (hB2.out.below_ hb1)
  have hba : Below w1.heap.size w1 (w1.alloc (.cells #[] 60)) := (Below.refl _ _).alloc (Nat.le_refl _) _
  have hlit : (w1.alloc (.cells #[] 60)).ownsRow w1.heap.size 60 1 (.slice (some ⟨w1.heap.size, 0, none⟩) 0 0) 0 [] := by
    have h := World.ownsRow_lit (size := 1) (base := w1.heap.size) (e := 60) w1 #[] 0 (Nat.le_refl _) (by omega) (by simp)
    simpa using h
  have l1 : (w1.alloc (.cells #[] 60)).cell? ⟨w.heap.size, 1, none⟩ = some (.slice (some ⟨b, off, none⟩) n c) := (hA1.out.below_ hba).c1
  have hrd : Rd (w1.alloc (.cells #[] 60)) (some ⟨b, off, none⟩) n vs := (hrdw.out.below hbb.out).below hba
  have hbba := Lib.hid (below_trans2 hbb.out hba)
  have hRa := Lib.hid (hR1.out.below_ hba)
  have hAa := Lib.hid (hA1.out.below_ hba)
  clear hb1
  go_wp2_with (at_builtin; refine wpList_append_rd rfl (.tmp 15) (.tmp 17) _ rfl w1.heap.size 60 x0 _ 24 Try.underlying33 hxi.out hxz0.out hxz1.out hxz2.out rfl _ 0 _ (by rfl) hlit _ n c _ rfl hrd hone.out (by unfold maxLen; omega) (by omega) hba.size ?_; intro v2 w2 hown2 hbc hform; simp only [Nat.zero_add, List.nil_append] at hown2 hform; obtain ⟨g, cap, rfl⟩ := hform (by omega); have hcg := hown2.cellAt k (by omega); rw [hu2.out] at hcg; have hfg := hown2.frozenAt k; clear hform l1)
  have hglt := (hown2.lt g rfl).1
  have hb2 : Below w.heap.size w w2 := hbba.out.trans (hbc.mono (by omega))
  have hR2 := Lib.hid (MatB.belowB hRa.out hbc (by omega))
  have hA2 := Lib.hid (MatB.belowB hAa.out hbc (by omega))
  replace hb2 := Lib.hid hb2
  replace hown2 := Lib.hid hown2
  clear hba hlit hrd hbc hcg hfg
  refine (hst.out w2 (hxr.out.below hb2.out) (by omega) (by omega) (by omega)).mono ?_; rintro e w3 ⟨C, p, q, rfl, hxr2, hx64, hb3⟩
  have hown3 := Lib.hid (own_below hown2.out hb3)
  have hcg := hown3.out.cellAt k (by omega)
  rw [hu2.out] at hcg
  have hfg := hown3.out.frozenAt k
  have hR3 := Lib.hid (hR2.out.below_ hb3)
  have hA3 := Lib.hid (hA2.out.below_ hb3)
  have hbb3 := Lib.hid (below_trans2 hb2.out hb3)
  have hCb : Hid (∀ ad, C = some ad → w2.heap.size ≤ ad.block) := Lib.hid (fun ad e => by subst e; exact own_lt_block hxr2 _ rfl)
  have hgl2 : g < w2.heap.size := (hown2.out.lt g rfl).2
  replace hxr2 := Lib.hid (Row.of_own hxr2 hx64)
  have hA4 := MatB.farB (p := ⟨g, k, none⟩) hA3.out (by simp <;> omega) (.slice C p q)
  have hR4 := hR3.out.farB (p := ⟨g, k, none⟩) (by simp <;> omega) (.slice C p q)
  have f10 := hA4.c0
  have f20 := hR4.c0
  have f21 := hR4.c1
  have g20 := hR4.frozen 0
  have g21 := hR4.frozen 1
  have hcc := MatB.two hR4 (.int .i64 n) (.slice (some ⟨g, 0, none⟩) n cap)
  have hc1 := Lib.hid hcc.1
  have hc2 := Lib.hid hcc.2
  clear hA4 hR4 hcc hb3 hx64
  go_wp2_with fail
  have hfin : Below w.heap.size w ((((w3.setCell ⟨g, k, none⟩ (.slice C p q)).setCell ⟨w.heap.size + 1, 0, none⟩ (.int .i64 n)).setCell ⟨w.heap.size + 1, 1, none⟩ (.slice (some ⟨g, 0, none⟩) n cap))) := ((hbb3.out.setCell (by simp <;> omega) _).setCell (by simp) _).setCell (by simp) _
  refine bodyPost_ret (v := .tuple #[.agg #[.int .i64 n, .slice (some ⟨g, 0, none⟩) n cap], .int .i64 0]) (by simp [results, Try.results21, go_sem, hc1.out, hc2.out]) rfl ⟨_, _, _, rfl, ?_, own_cap hown3.out, hfin, fun ad e => by cases e; show w.heap.size ≤ g; omega⟩
  refine ⟨_, Rd.of_own' (own_far (own_far (hown3.out.stored k (.slice C p q)).1 (p := ⟨w.heap.size + 1, 0, none⟩) (by simp [Value.ownBlock]; omega) _) (p := ⟨w.heap.size + 1, 1, none⟩) (by simp [Value.ownBlock]; omega) _), ?_, fun ad e => by cases e; have := hB0.out; show B0 ≤ g; omega, fun v hv g' e => by
    rcases List.mem_or_eq_of_mem_set hv with h | rfl
    · exact hvg.out v h g' e
    · cases C with
      | none => cases e
      | some ad =>
        injection e with e
        have h1 := hCb.out ad rfl
        have h2 := hB0.out
        have h3 := hb2.out.size
        omega⟩
  have h1 := hrcw.out.below hfin
  rw [setM_nat hx2.out]
  refine h1.set ⟨C, p, q, rfl, ?_⟩ k
  exact ((hxr2.out.setCell (fun ad e => by have := hCb.out ad e; simp <;> omega) _).setCell (fun ad e => by have := hCb.out ad e; simp <;> omega) _).setCell (fun ad e => by have := hCb.out ad e; simp <;> omega) _
theorem ref3_SetF (N : Int) (A : Option Addr) (n c : Nat) (xss : List (List Nat)) (i j : Int) (w : World) (hr : RowsAt w A n xss) (hN : N = (n : Int)) (hn : n ≤ 4096) (hl : ∀ xs ∈ xss, xs.length ≤ 1024)
    (h3 : inM N i j = true) :
    Calls Try.prog 21 #[.agg #[.int .i64 N, .slice A n c], .int .i64 i, .int .i64 j] w (RetMatF N (setM xss i j) 0 w) :=
  (ref3_SetG 0 N A n c xss i j w (RowsG.of hr) (Nat.zero_le _) hN hn hl h3).mono fun _ _ h => h.f
theorem ref3_Set_no (N : Int) (A : Option Addr) (n c : Nat) (i j : Int) (w : World) (h3 : inM N i j = false) :
    Calls Try.prog 21 #[.agg #[.int .i64 N, .slice A n c], .int .i64 i, .int .i64 j] w (RetMat 0 [] 1 w) :=
  (ref3_Set_noF N A n c i j w h3).mono fun _ _ ⟨A', n', c', h1, h2, h3, h4, _⟩ => ⟨A', n', c', h1, h2, h3, h4⟩
theorem ref3_Set (N : Int) (A : Option Addr) (n c : Nat) (xss : List (List Nat)) (i j : Int) (w : World) (hr : RowsAt w A n xss) (hN : N = (n : Int)) (hn : n ≤ 4096) (hl : ∀ xs ∈ xss, xs.length ≤ 1024)
    (h3 : inM N i j = true) :
    Calls Try.prog 21 #[.agg #[.int .i64 N, .slice A n c], .int .i64 i, .int .i64 j] w (RetMat N (setM xss i j) 0 w) :=
  (ref3_SetF N A n c xss i j w hr hN hn hl h3).mono fun _ _ ⟨A', n', c', h1, h2, h3, h4, _⟩ => ⟨A', n', c', h1, h2, h3, h4⟩

end Go.Proofs.Ytmgockkjoogcaaa

namespace Go.Proofs.Ytmgockkjoogcaaa
open Go.RowKit

section
variable {P : Program} {ops : Array Oper} {md : Region.Mode} {Q : Exit → Act → World → Prop}

/-- does t wait for i, through others too? -/
def awaitsB (md : Region.Mode) (ops : Array Oper) : Nat → Nat → Nat → Bool
  | 0, _, _ => false
  | f + 1, t, i => match ops[t]? with
    | none => false
    | some o => o.after.any fun e => Region.binds md e && (e.on == i || awaitsB md ops f e.on i)
theorem awaits_listed {n : Nat} {listed : Array Bool} (inv : HeadInv md ops n listed) : ∀ (f t i : Nat) (o : Oper), ops[t]? = some o →
    (∀ e ∈ o.after, Region.binds md e = true → listed.getD e.on false = true) → awaitsB md ops f t i = true → listed.getD i false = true
  | 0, _, _, _, _, _, h => by simp [awaitsB] at h
  | f + 1, t, i, o, ho, hall, h => by
    simp only [awaitsB, ho] at h
    obtain ⟨e, he, hb⟩ := Array.any_eq_true'.1 h
    simp only [Bool.and_eq_true, Bool.or_eq_true, beq_iff_eq] at hb
    have h1 := hall e he hb.1
    rcases hb.2 with h2 | h2
    · rw [← h2]; exact h1
    · cases ho2 : ops[e.on]? with
      | none => cases f with
        | zero => simp [awaitsB] at h2
        | succ f => simp [awaitsB, ho2] at h2
      | some o2 => exact awaits_listed inv f e.on i o2 ho2 (fun e' he' hb' => inv.closed _ _ ho2 h1 e' he' hb') h2
/-- each operation behind the first n waits for each of them -/
def lateB (md : Region.Mode) (ops : Array Oper) (n : Nat) : Bool :=
  (List.range ops.size).all fun t => decide (t < n) || (List.range n).all fun i => awaitsB md ops ops.size t i
theorem late_waits {n : Nat} (h : lateB md ops n = true) (listed : Array Bool) (inv : HeadInv md ops n listed) (i : Nat) (hin : i < n) (hun : listed.getD i true = false) (t : Nat) (ht : n ≤ t) : t ∉ Region.ready md ops listed := by
  intro hr
  obtain ⟨_, ot, hot, hall⟩ := mem_ready.1 hr
  have htl := (Array.getElem?_eq_some_iff.1 hot).1
  have h1 := List.all_eq_true.1 h t (List.mem_range.2 htl)
  simp only [Bool.or_eq_true, decide_eq_true_eq] at h1
  rcases h1 with h1 | h1
  · omega
  · have h2 := List.all_eq_true.1 h1 i (List.mem_range.2 hin)
    have h3 := awaits_listed inv _ t i ot hot hall h2
    rw [getD_both hun] at h3
    cases h3

/-- the second half's check -/
def planT (md : Region.Mode) (ops : Array Oper) (m : Nat) : List Nat → Array Bool → Bool
  | [], listed => Region.seqB md ops (ops.size - m) m listed
  | i :: rest, listed => (Region.ready md ops listed).contains i && Region.free md ops listed i && planT md ops m rest (listed.setIfInBounds i true)
def planH (md : Region.Mode) (ops : Array Oper) (n m : Nat) (pl2 : List Nat) : List (Bool × Nat) → Array Bool → Bool
  | [], listed => (Region.ready md ops listed).all (fun j => decide (n ≤ j)) && planT md ops m pl2 listed
  | (b, i) :: rest, listed => decide (i < n) && (if b then (Region.ready md ops listed).contains i && Region.free md ops listed i else decide (Region.ready md ops listed = [i])) && planH md ops n m pl2 rest (listed.setIfInBounds i true)
def planAllT (md : Region.Mode) (ops : Array Oper) (n : Nat) (pl : List (Bool × Nat)) (m : Nat) (pl2 : List Nat) : Bool :=
  Region.noSelect ops && decide (pl.length = n) && decide (n + pl2.length = m) && decide (m ≤ ops.size) && lateB md ops n && planH md ops n m pl2 pl (Array.replicate ops.size false)

/-- the walk of the second half -/
def wpPlanT (P : Program) (ops : Array Oper) (Q : Exit → Act → World → Prop) (tail : List Oper) : List Nat → Act → World → Prop
  | [], a, w => wpList P ops Q tail a w
  | i :: rest, a, w => ∃ o v, ops[i]? = some o ∧ Yields P ops o v a ∧ wpPlanT P ops Q tail rest (a.put o.dst v) w
/-- the walk of the first half -/
def wpPlanE (P : Program) (ops : Array Oper) (Q : Exit → Act → World → Prop) (tail : List Oper) (pl2 : List Nat) : List (Bool × Nat) → Act → World → Prop
  | [], a, w => wpPlanT P ops Q tail pl2 a w
  | (true, i) :: rest, a, w => ∃ o v, ops[i]? = some o ∧ YieldsIf P ops (fun x => Below w.heap.size w x) o v a ∧ wpPlanE P ops Q tail pl2 rest (a.put o.dst v) w
  | (false, i) :: rest, a, w => wpOp P ops Q i (fun a' w' => Below w.heap.size w w' ∧ wpPlanE P ops Q tail pl2 rest a' w') a w

theorem wpAny_planT {m : Nat} {tail : List Oper} (htail : ∀ j, tail[j]? = ops[m + j]?) (hlen : tail.length = ops.size - m) (hsel : Region.noSelect ops = true) (hQ : ∀ c a d v w, Q (.panic c) (a.put d v) w → Q (.panic c) a w) :
    ∀ (pl2 : List Nat) (listed : Array Bool) (a : Act) (w : World), planT md ops m pl2 listed = true → wpPlanT P ops Q tail pl2 a w → wpAny P md ops Q (pl2.length + (ops.size - m)) listed a w
  | [], listed, a, w, hB, h => by
    rw [List.length_nil, Nat.zero_add, ← hlen]
    exact wpAny_of_seq tail m listed a w htail (by rw [hlen]; exact hB) h
  | i :: rest, listed, a, w, hB, h => by
    simp only [planT, Bool.and_eq_true] at hB
    obtain ⟨⟨hr, hf⟩, hB'⟩ := hB
    obtain ⟨o, v, ho, hy, h'⟩ := h
    rw [List.length_cons, show rest.length + 1 + (ops.size - m) = (rest.length + (ops.size - m)) + 1 by omega]
    exact wpAny_take ho hsel hf hr (fun c a w => hQ c a o.dst v w) hy (wpAny_planT htail hlen hsel hQ rest _ _ _ hB' h')

theorem wpAnyR_planE {n m : Nat} {tail : List Oper} {pl2 : List Nat} (hsel : Region.noSelect ops = true) (hQ : ∀ c a d v w, Q (.panic c) (a.put d v) w → Q (.panic c) a w)
    (hlate : ∀ listed, HeadInv md ops n listed → ∀ i, i < n → listed.getD i true = false → ∀ t, n ≤ t → t ∉ Region.ready md ops listed) :
    ∀ (pl : List (Bool × Nat)) (listed : Array Bool) (a : Act) (w : World), HeadInv md ops n listed → planH md ops n m pl2 pl listed = true → wpPlanE P ops Q tail pl2 pl a w →
    wpAnyR P md ops Q n (fun listed' a' w' => ((Region.ready md ops listed').all (fun j => decide (n ≤ j)) = true ∧ planT md ops m pl2 listed' = true) ∧ wpPlanT P ops Q tail pl2 a' w') pl.length listed a w
  | [], listed, a, w, _, hB, h => ⟨by simpa [planH] using hB, h⟩
  | (true, i) :: rest, listed, a, w, inv, hB, h => by
    simp only [planH, if_true, Bool.and_eq_true, decide_eq_true_eq] at hB
    obtain ⟨⟨hin, hr, hf⟩, hB'⟩ := hB
    obtain ⟨o, v, ho, hy, h'⟩ := h
    have hr' : i ∈ Region.ready md ops listed := by simpa using hr
    exact wpAnyR_first ho (Region.noSelect_spec hsel) (fun c a w => hQ c a o.dst v w) (fun l hl hu => hlate l hl i hin hu) hin (fun listed' a' w' hL j hj => by simpa using List.all_eq_true.1 hL.1.1 j hj) rest.length listed a w inv (Region.free_spec ho hf) hr' hy
      (wpAnyR_planE hsel hQ hlate rest _ _ _ (inv.set hr' hin) hB' h')
  | (false, i) :: rest, listed, a, w, inv, hB, h => by
    simp only [planH, Bool.false_eq_true, if_false, Bool.and_eq_true, decide_eq_true_eq] at hB
    obtain ⟨⟨hin, hr⟩, hB'⟩ := hB
    have hr' : i ∈ Region.ready md ops listed := by rw [hr]; simp
    refine ⟨by rw [hr]; simp, fun j hj => ?_⟩
    rw [hr] at hj
    have hji : j = i := by simpa using hj
    subst hji
    exact ⟨hin, wpOp_mono (fun a' w' h3 => ⟨h3.1, wpAnyR_planE hsel hQ hlate rest _ a' w' (inv.set hr' hin) hB' h3.2⟩) h⟩

theorem wp_region_planT {id : Nat} {a : Act} {w : World} {l : List Oper} (n : Nat) (pl : List (Bool × Nat)) (m : Nat) (pl2 : List Nat) (hm : P.follows .mixedOrders = true) (hB : planAllT .any l.toArray n pl m pl2 = true)
    (h : ∀ W : World, Hid (W = w.drew) → wpPlanE P l.toArray (NoPanic Q) (l.drop m) pl2 pl a W) : (Code.region id l.toArray true).wp P Q a w := by
  refine wp_region_noPanic ?_
  have hQ : ∀ c a d v w, NoPanic Q (.panic c) (a.put d v) w → NoPanic Q (.panic c) a w := fun _ _ _ _ _ h => h
  simp only [planAllT, Bool.and_eq_true, decide_eq_true_eq] at hB
  obtain ⟨⟨⟨⟨⟨hsel, hlen⟩, hnm⟩, hmz⟩, hlate⟩, hpl⟩ := hB
  have hdl : (l.drop m).length = l.toArray.size - m := by simp
  have inv0 : HeadInv .any l.toArray n (Array.replicate l.toArray.size false) :=
    ⟨by simp, fun j oj _ hl => (by rw [getD_replicate_false] at hl; cases hl), fun t _ ht => getD_in (by simpa using ht) (getD_replicate_false _ _)⟩
  have H := wpAnyR_planE (md := .any) (m := m) hsel hQ (fun listed inv i hin hun t ht => late_waits hlate listed inv i hin hun t ht) pl _ a w.drew inv0 hpl (h w.drew (Lib.hid rfl))
  refine wp_region_any hm ?_
  have := wpAny_of_R (Q := NoPanic Q) (g := pl2.length + (l.toArray.size - m)) (fun listed a' w' hL =>
    wpAny_planT (md := .any) (fun j => by simp [List.getElem?_drop]) hdl hsel hQ pl2 listed a' w' hL.1.2 hL.2) _ _ _ _ H
  rw [hlen, show n + (pl2.length + (l.toArray.size - m)) = l.toArray.size by omega] at this
  exact this

/-! ### the steps -/
section
variable {tail : List Oper} {pl2 : List Nat} {rest : List (Bool × Nat)} {a : Act} {w : World} {i : Nat} {o : Oper}
theorem wpPlanE_float {v : Value} (hi : ops[i]? = some o) (hw : Region.wanted o (yielded ops a.tmps) = true)
    (hy : ∀ w' : World, (∀ p, (w.cell? p).isSome = true → w'.cell? p = w.cell? p) → (execOp a.eval o).run P w' = .ok (.value v) w') (h : ∀ K : Act → Prop, (∀ a', wpPlanE P ops Q tail pl2 rest a' w → K a') → K (a.put o.dst v)) : wpPlanE P ops Q tail pl2 ((true, i) :: rest) a w :=
  ⟨o, v, hi, .inl ⟨hw, fun w' hb => hy w' (fun p hp => by
    have hlt : p.block < w.heap.size := by
      cases hc : w.cell? p with
      | none => rw [hc] at hp; cases hp
      | some u => exact block_lt_of_cell hc
    exact hb.cell hlt)⟩, h _ (fun _ h => h)⟩
theorem wpPlanE_skip (hi : ops[i]? = some o) (hw : Region.wanted o (yielded ops a.tmps) = false) (h : ∀ K : Act → Prop, (∀ a', wpPlanE P ops Q tail pl2 rest a' w → K a') → K (a.put o.dst undef)) : wpPlanE P ops Q tail pl2 ((true, i) :: rest) a w :=
  ⟨o, undef, hi, .inr ⟨hw, rfl⟩, h _ (fun _ h => h)⟩
theorem wpPlanE_only (hi : ops[i]? = some o) (hw : Region.wanted o (yielded ops a.tmps) = true)
    (h : ∀ K : Act → World → Prop, (∀ a' w', Below w.heap.size w w' → wpPlanE P ops Q tail pl2 rest a' w' → K a' w') → o.wp P a w K Q) : wpPlanE P ops Q tail pl2 ((false, i) :: rest) a w := by
  show wpOp P ops Q i _ a w
  unfold wpOp
  simp only [hi, hw, if_true]
  exact .inl (h _ (fun a' w' hb hp => ⟨hb, hp⟩))
theorem wpPlanE_nil (h : wpPlanT P ops Q tail pl2 a w) : wpPlanE P ops Q tail pl2 [] a w := h
theorem wpPlanT_float {v : Value} {rest : List Nat} (hi : ops[i]? = some o) (hw : Region.wanted o (yielded ops a.tmps) = true)
    (hy : ∀ w' : World, (execOp a.eval o).run P w' = .ok (.value v) w') (h : ∀ K : Act → Prop, (∀ a', wpPlanT P ops Q tail rest a' w → K a') → K (a.put o.dst v)) : wpPlanT P ops Q tail (i :: rest) a w :=
  ⟨o, v, hi, .inl ⟨hw, hy⟩, h _ (fun _ h => h)⟩
theorem wpPlanT_nil (h : wpList P ops Q tail a w) : wpPlanT P ops Q tail [] a w := h
end
end
end Go.Proofs.Ytmgockkjoogcaaa

namespace Go.Proofs.Ytmgockkjoogcaaa
open Go.RowKit
set_option linter.unusedVariables false

theorem Row.putB {w : World} {M : Nat} {t : TypeId} {N : Int} {A : Option Addr} {n c : Nat} (hM : MatB w M t N A n c) {B : Option Addr} {m : Nat} {xs : List Nat} (h : Row w B m xs) (x y : Value) :
    Row ((w.setCell ⟨M, 0, none⟩ x).setCell ⟨M, 1, none⟩ y) B m xs := by
  rcases Nat.eq_zero_or_pos m with rfl | hm
  · rw [List.eq_nil_of_length_eq_zero h.len]; exact Row.nil _ _
  · have hne : ∀ ad, B = some ad → ad.block ≠ M := by
      intro ad e hb
      obtain ⟨b, off, x, e2, _, _, _, hc⟩ := h.at_ hm
      rw [e] at e2
      cases e2
      have hb' : b = M := hb
      subst hb'
      rw [Blk.cell hM] at hc
      match off + 0, hc with
      | 0, hc => simp at hc
      | 1, hc => simp at hc
      | k + 2, hc => simp at hc
    exact (h.setCell hne x).setCell hne y
theorem RowsAt.putB {w : World} {M : Nat} {t : TypeId} {N : Int} {A : Option Addr} {n c : Nat} (hM : MatB w M t N A n c) {B : Option Addr} {m : Nat} {xss : List (List Nat)} (h : RowsAt w B m xss) (hne : 0 < m → ∀ ad, B = some ad → ad.block ≠ M) (x y : Value) :
    RowsAt ((w.setCell ⟨M, 0, none⟩ x).setCell ⟨M, 1, none⟩ y) B m xss := by
  obtain ⟨vs, h1, h2⟩ := h
  refine ⟨vs, ?_, h2.1, fun i v xs a b => ?_⟩
  · rcases Nat.eq_zero_or_pos m with rfl | hm
    · rw [h1.of_nil]; exact Rd.nil _ _
    · exact (h1.setCell (hne hm) x).setCell (hne hm) y
  · obtain ⟨B', m', c', e, hr⟩ := h2.2 i v xs a b
    exact ⟨B', m', c', e, hr.putB hM x y⟩
theorem RowsG.putB {w : World} {M : Nat} {t : TypeId} {N : Int} {A : Option Addr} {n c : Nat} (hM : MatB w M t N A n c) {B0 : Nat} {B : Option Addr} {m : Nat} {xss : List (List Nat)} (h : RowsG B0 w B m xss) (hne : 0 < m → ∀ ad, B = some ad → ad.block ≠ M) (x y : Value) :
    RowsG B0 ((w.setCell ⟨M, 0, none⟩ x).setCell ⟨M, 1, none⟩ y) B m xss := by
  obtain ⟨vs, h1, h2, h3, h4⟩ := h
  refine ⟨vs, ?_, ⟨h2.1, fun i v xs a b => ?_⟩, h3, h4⟩
  · rcases Nat.eq_zero_or_pos m with rfl | hm
    · rw [h1.of_nil]; exact Rd.nil _ _
    · exact (h1.setCell (hne hm) x).setCell (hne hm) y
  · obtain ⟨B', m', c', e, hr⟩ := h2.2 i v xs a b
    exact ⟨B', m', c', e, hr.putB hM x y⟩
theorem RowsG.grown {B : Nat} {w w' : World} {A : Option Addr} {n : Nat} {xss : List (List Nat)} {row : Option Nat} (h : RowsG B w A n xss) (hg : w.grownBy w' row) (hrow : ∀ g, row = some g → g < B) : RowsG B w' A n xss := by
  obtain ⟨vs, h1, h2, h3, h4⟩ := h
  refine ⟨vs, ⟨h1.1, fun h0 => ?_⟩, ⟨h2.1, fun i v xs a b => ?_⟩, h3, h4⟩
  · obtain ⟨b, off, e, hb, hc⟩ := h1.2 h0
    refine ⟨b, off, e, Nat.lt_of_lt_of_le hb hg.size, fun j u hu => (World.cell?_of_block (hg.block b hb (fun e' => ?_))).trans (hc j u hu)⟩
    have h5 := hrow b e'.symm
    have h6 := h3 _ e
    simp only at h6
    omega
  · obtain ⟨B', m', c', e, ⟨⟨hr1, hr2⟩, hr3⟩⟩ := h2.2 i v xs a b
    refine ⟨B', m', c', e, ⟨⟨hr1, fun h0 => ?_⟩, hr3⟩⟩
    obtain ⟨b', off, e2, hb, hc⟩ := hr2 h0
    refine ⟨b', off, e2, Nat.lt_of_lt_of_le hb hg.size, fun j u hu => (World.cell?_of_block (hg.block b' hb (fun e' => ?_))).trans (hc j u hu)⟩
    have h5 := hrow b' e'.symm
    have h6 := h4 v (List.mem_of_getElem? a) b' (by rw [e, e2]; rfl)
    omega
theorem RowsAt.block_lt {w : World} {A : Option Addr} {n : Nat} {xss : List (List Nat)} (h : RowsAt w A n xss) (hn : 0 < n) : ∀ ad, A = some ad → ad.block < w.heap.size := by
  intro ad e
  obtain ⟨vs, h1, _⟩ := h
  obtain ⟨b, off, e2, hb, _⟩ := h1.2 hn
  rw [e] at e2; cases e2; exact hb

end Go.Proofs.Ytmgockkjoogcaaa

namespace Go.Proofs.Ytmgockkjoogcaaa
open Go.RowKit
set_option linter.unusedVariables false
set_option maxRecDepth 100000 in
set_option maxHeartbeats 2000000 in
theorem ref12_Ahead (v : FV) (f : Fac) (i j : Int) (w : World) (hF : FactsAt w v f) :
    Calls Try.prog 38 #[.agg #[.slice v.A v.n v.c, .slice v.B v.m v.d, .slice v.C v.k v.e], .int .i64 i, .int .i64 j] w (RetBool (aheadF f.items i j) w) := by
  have hil := hF.is.len
  -- a call with facts v: they are boxed at g, the world is W0 then
  have hB0 := Lib.hid (FBox.new hF)
  obtain ⟨g, hg⟩ : ∃ g, g = w.heap.size := ⟨_, rfl⟩
  obtain ⟨W0, hW0⟩ : ∃ W, W = w.alloc (.cells #[.slice v.A v.n v.c, .slice v.B v.m v.d, .slice v.C v.k v.e] 29) := ⟨_, rfl⟩
  rw [← hW0, ← hg] at hB0
  clear hF
  have p0 := hB0.out.c0
  have p1 := hB0.out.c1
  have p2 := hB0.out.c2
  by_cases hi : 0 ≤ i
  · have d1 : decide (0 ≤ i) = true := decide_eq_true hi
    by_cases hj : 0 ≤ j
    · have d2 : decide (0 ≤ j) = true := decide_eq_true hj
      by_cases him : i < (v.m : Int)
      · have d3 : decide (i < (v.m : Int)) = true := decide_eq_true him
        by_cases hjm : j < (v.m : Int)
        · have d4 : decide (j < (v.m : Int)) = true := decide_eq_true hjm
          obtain ⟨ib, io, x, hxB, hib, hx, hxo, i0, i1, -, -, -⟩ := hB0.out.f.is.item (show i.toNat < v.m by omega)
          obtain ⟨jb, jo, y, hyB, hjb, hy, hyo, j0, j1, -, -, -⟩ := hB0.out.f.is.item (show j.toNat < v.m by omega)
          rw [hxB] at p1 hyB
          injection hyB with hyB
          injection hyB with h1 h2
          subst h1; subst h2
          have hres := aheadF_at hi hj hx hy
          have bi : 0 ≤ i ∧ i < (v.m : Int) := ⟨hi, him⟩
          have bj : 0 ≤ j ∧ j < (v.m : Int) := ⟨hj, hjm⟩
          by_cases hse : x.se = y.se
          · have e1 : (x.se == y.se) = true := by simp [hse]
            rw [decide_eq_true hse, Bool.true_and] at hres
            replace hres := Lib.hid hres
            replace hse := Lib.hid hse
            clear hxB hx hy hxo hyo hib hjb
            clear hil
            go_enter Try.func38, Try.ntmps38
            go_wp2_with (rw [← hW0, ← hg]; clear hW0 hg)
            go_quiet (fail)
            go_wp2_with fail
            go_ret
            rw [hres.out]
            exact ⟨rfl, below_drewN hB0.out.o _⟩
          · have e1 : (x.se == y.se) = false := by simpa using hse
            rw [decide_eq_false hse, Bool.false_and] at hres
            replace hres := Lib.hid hres
            replace hse := Lib.hid hse
            clear hxB hx hy hxo hyo hib hjb
            clear hil
            go_enter Try.func38, Try.ntmps38
            go_wp2_with (rw [← hW0, ← hg]; clear hW0 hg)
            go_quiet (fail)
            go_wp2_with fail
            go_ret
            rw [hres.out]
            exact ⟨rfl, below_drewN hB0.out.o _⟩
        · have d4 : decide (j < (v.m : Int)) = false := decide_eq_false hjm
          have hres := Lib.hid (aheadF_out (is := f.items) (i := i) (j := j) (by omega))
          clear hil
          go_enter Try.func38, Try.ntmps38
          go_wp2_with (rw [← hW0, ← hg]; clear hW0 hg)
          go_quiet (fail)
          go_wp2_with fail
          go_ret
          rw [hres.out]
          exact ⟨rfl, below_drewN hB0.out.o _⟩
      · have d3 : decide (i < (v.m : Int)) = false := decide_eq_false him
        have hres := Lib.hid (aheadF_out (is := f.items) (i := i) (j := j) (by omega))
        clear hil
        go_enter Try.func38, Try.ntmps38
        go_wp2_with (rw [← hW0, ← hg]; clear hW0 hg)
        go_quiet (fail)
        go_wp2_with fail
        go_ret
        rw [hres.out]
        exact ⟨rfl, below_drewN hB0.out.o _⟩
    · have d2 : decide (0 ≤ j) = false := decide_eq_false hj
      have hres := Lib.hid (aheadF_out (is := f.items) (i := i) (j := j) (by omega))
      clear hil
      go_enter Try.func38, Try.ntmps38
      go_wp2_with (rw [← hW0, ← hg]; clear hW0 hg)
      go_quiet (fail)
      go_wp2_with fail
      go_ret
      rw [hres.out]
      exact ⟨rfl, below_drewN hB0.out.o _⟩
  · have d1 : decide (0 ≤ i) = false := decide_eq_false hi
    have hres := Lib.hid (aheadF_out (is := f.items) (i := i) (j := j) (by omega))
    clear hil
    go_enter Try.func38, Try.ntmps38
    go_wp2_with (rw [← hW0, ← hg]; clear hW0 hg)
    go_quiet (fail)
    go_wp2_with fail
    go_ret
    rw [hres.out]
    exact ⟨rfl, below_drewN hB0.out.o _⟩
/-- a variable at M that holds a matrix of n rows; its rows lie apart from it -/
structure MV (wr : World) (M n : Nat) (A : Option Addr) (c : Nat) (xss : List (List Nat)) : Prop where
  loc : MatB wr M 35 (n : Int) A n c
  rows : RowsAt wr A n xss
  cap : n ≤ c
  far : 0 < n → ∀ ad, A = some ad → ad.block ≠ M
theorem MV.later {wr w' : World} {M n c : Nat} {A : Option Addr} {xss : List (List Nat)} (h : MV wr M n A c xss) (hb : Below wr.heap.size wr w') : MV w' M n A c xss := ⟨h.loc.below_ hb, h.rows.below hb, h.cap, h.far⟩
/-- another matrix, of a call's own, is laid into it -/
theorem MV.put {wr w' : World} {M n c : Nat} {A : Option Addr} {xss : List (List Nat)} (h : MV wr M n A c xss) (hb : Below wr.heap.size wr w') {C : Option Addr} {d : Nat} {yss : List (List Nat)} (hr : RowsAt w' C n yss) (hd : n ≤ d) (hf : ∀ ad, C = some ad → wr.heap.size ≤ ad.block) :
    MV ((w'.setCell ⟨M, 0, none⟩ (.int .i64 (n : Int))).setCell ⟨M, 1, none⟩ (.slice C n d)) M n C d yss := by
  have hM := h.loc.lt
  refine ⟨(h.loc.below_ hb).put _ _ _ _, hr.putB (h.loc.below_ hb) (fun _ ad e => by have := hf ad e; omega) _ _, hd, fun _ ad e => by have := hf ad e; omega⟩
theorem poM_len {n : Nat} (hn : n ≤ 4096) (ps : List (Int × Int)) : ∀ xs ∈ foldP n ps, xs.length ≤ 1024 := fun xs hxs => by
  obtain ⟨i, hi⟩ := List.getElem?_of_mem hxs
  have := (DimM.fold n ps).2 i xs hi
  have := words_le hn
  omega
/-- a call's answer: a matrix, whose outer cells are new -/
def RetMat1F (N : Int) (xss : List (List Nat)) (w : World) (e : Ending) (w' : World) : Prop :=
  ∃ A n c, e = .returned (.agg #[.int .i64 N, .slice A n c]) ∧ RowsAt w' A n xss ∧ n ≤ c ∧ Below w.heap.size w w' ∧ ∀ ad, A = some ad → w.heap.size ≤ ad.block
set_option maxRecDepth 100000 in
set_option maxHeartbeats 2000000 in
theorem ref12_Po (v : FV) (f : Fac) (w : World) (hF : FactsAt w v f) (hm : v.m ≤ 4096) :
    Calls Try.prog 19 #[.agg #[.slice v.A v.n v.c, .slice v.B v.m v.d, .slice v.C v.k v.e]] w (RetMat1F (v.m : Int) (poM f.items) w) := by
  have hil := hF.is.len
  unfold poM
  rw [hil]
  have cN := Lib.hid (ref3_NewF v.m hm)
  replace hil := Lib.hid hil
  -- a call with facts v: they are boxed at g, the world is W0 then
  have hB0 := Lib.hid (FBox.new hF)
  obtain ⟨g, hg⟩ : ∃ g, g = w.heap.size := ⟨_, rfl⟩
  obtain ⟨W0, hW0⟩ : ∃ W, W = w.alloc (.cells #[.slice v.A v.n v.c, .slice v.B v.m v.d, .slice v.C v.k v.e] 29) := ⟨_, rfl⟩
  rw [← hW0, ← hg] at hB0
  clear hF
  obtain ⟨gr, hgr⟩ : ∃ g, g = W0.heap.size := ⟨_, rfl⟩
  obtain ⟨W1, hW1⟩ : ∃ W, W = W0.alloc (.cells #[.int .i64 0, .slice none 0 0] 35) := ⟨_, rfl⟩
  have b1 : Below W0.heap.size W0 W1 := by rw [hW1]; exact (Below.refl _ _).alloc (Nat.le_refl _) _
  have kR : MatB W1 gr 35 0 none 0 0 := by rw [hW1, hgr]; exact MatB.new W0 _
  have hB1 := Lib.hid (hB0.out.later b1)
  have p0 := hB1.out.c0
  have p1 := hB1.out.c1
  have p2 := hB1.out.c2
  go_enter Try.func19, Try.ntmps19
  go_wp2_with (first | (rw [← hW0, ← hg]; clear hW0 hg) | (rw [← hW1, ← hgr]; clear hW1))
  refine (cN.out _).mono ?_; rintro e w2 ⟨C, p, q, rfl, hrows, hcap, b2, hfar⟩
  have hpn : p = v.m := by rw [← hrows.len]; exact (DimM.new v.m).1
  subst hpn
  obtain ⟨M, hM⟩ : ∃ M, M = w2.heap.size := ⟨_, rfl⟩
  obtain ⟨W2, hW2⟩ : ∃ W2, W2 = w2.alloc (.cells #[.int .i64 v.m, .slice C v.m q] 35) := ⟨_, rfl⟩
  have b3 : Below w2.heap.size w2 W2 := by rw [hW2]; exact (Below.refl _ _).alloc (Nat.le_refl _) _
  have hbb := Lib.hid (below_trans2 (below_trans2 b1 b2) b3)
  have hMV := Lib.hid (show MV W2 M v.m C q (foldP v.m (uptoPo f.items v.m 0)) from ⟨by rw [hW2, hM]; exact MatB.new w2 _, by rw [show uptoPo f.items v.m 0 = [] from rfl, foldP_nil]; exact hrows.below b3, hcap, fun h0 ad e => by have := hrows.block_lt h0 ad e; omega⟩)
  have hgrM : gr < M := by have := kR.lt; have := b2.size; omega
  have kR2 := Lib.hid ((kR.below_ b2).below_ b3)
  have hgW : W0.heap.size ≤ gr := by omega
  have hAf := Lib.hid (show ∀ ad, C = some ad → gr < ad.block from fun ad e => by have := hfar ad e; have := kR.lt; omega)
  replace hgr := Lib.hid hgr
  clear hrows hcap b2 b3 hfar kR b1 hB1 p0 p1 p2 cN
  go_wp2_with (rw [← hW2, ← hM]; clear hW2; replace hM := Lib.hid hM)
  go_loopw [5] (fun t wr => ∃ (i : Nat) (A : Option Addr) (c : Nat), i ≤ v.m ∧ t = .int .i64 i ∧ Hid (Below W0.heap.size W0 wr) ∧ Hid (MatB wr gr 35 0 none 0 0) ∧ Hid (MV wr M v.m A c (foldP v.m (uptoPo f.items v.m i))) ∧ Hid (∀ ad, A = some ad → gr < ad.block)) (fun t _ => v.m - (intOf t).toNat)
  case atStart => exact ⟨0, _, _, Nat.zero_le _, rfl, hbb, kR2, hMV, hAf⟩
  case round =>
    clear hbb kR2 hMV hAf
    obtain ⟨i, A, c, hi, rfl, hbb, kR, hMV, hAf⟩ := hrel
    have hB := Lib.hid (hB0.out.later hbb.out)
    by_cases hlt : i < v.m
    · have hlt' : (i : Int) < (v.m : Int) := by omega
      have p1 := hB.out.c1
      go_wp2_with fail
      clear p1 hB
      obtain ⟨Wo, rfl⟩ : ∃ Wo, Wo = wr := ⟨_, rfl⟩
      go_loopw [6] (fun t wr => ∃ (j : Nat) (A : Option Addr) (c : Nat), j ≤ v.m ∧ t = .int .i64 j ∧ Hid (Below W0.heap.size W0 wr) ∧ Hid (MatB wr gr 35 0 none 0 0) ∧ Hid (MV wr M v.m A c (foldP v.m (uptoPo f.items v.m i ++ rowPo f.items i j))) ∧ Hid (∀ ad, A = some ad → gr < ad.block)) (fun t _ => v.m - (intOf t).toNat)
      case atStart => exact ⟨0, _, _, Nat.zero_le _, rfl, hbb, kR, Lib.hid (by rw [show rowPo f.items i 0 = [] from rfl, List.append_nil]; exact hMV.out), hAf⟩
      case round =>
        clear hbb kR hMV hAf
        obtain ⟨j, A, c, hj, rfl, hbb, kR, hMV, hAf⟩ := hrel
        have hB := Lib.hid (hB0.out.later hbb.out)
        have p0 := hB.out.c0
        have p1 := hB.out.c1
        have p2 := hB.out.c2
        by_cases hlj : j < v.m
        · have hlj' : (j : Int) < (v.m : Int) := by omega
          have cA := ref12_Ahead v f i j wr hB.out.f
          have hrs := rowPo_succ f.items i j
          cases ha : aheadF f.items i j with
          | false =>
            rw [ha] at cA
            rw [ha, if_neg (by simp)] at hrs
            replace cA := Lib.hid cA
            replace hrs := Lib.hid hrs
            clear ha hlj
            go_wp2_with fail
            refine cA.out.mono ?_; rintro e w3 ⟨rfl, b3⟩
            have hbb3 := Lib.hid (below_trans2 hbb.out b3)
            have kR3 := Lib.hid (kR.out.below_ b3)
            have hMV3 := Lib.hid (hMV.out.later b3)
            clear p0 p1 p2 b3 cA
            go_wp2_with fail
            exact ⟨⟨j + 1, A, c, by omega, by go_num, hbb3, kR3, Lib.hid (by rw [hrs.out]; exact hMV3.out), hAf⟩, by simp [intOf]; omega⟩
          | true =>
            rw [ha] at cA
            rw [ha, if_pos rfl] at hrs
            replace cA := Lib.hid cA
            replace hrs := Lib.hid hrs
            clear ha
            go_wp2_with fail
            refine cA.out.mono ?_; rintro e w3 ⟨rfl, b3⟩
            have hbb3 := Lib.hid (below_trans2 hbb.out b3)
            have kR3 := Lib.hid (kR.out.below_ b3)
            have hMV3 := Lib.hid (hMV.out.later b3)
            clear p0 p1 p2 b3 cA
            have cS := Lib.hid (ref3_SetF (v.m : Int) A v.m c _ (i : Int) (j : Int) w3 hMV3.out.rows rfl hm (poM_len hm _) (by unfold inM; simp; omega))
            have m0 := hMV3.out.loc.c0
            have m1 := hMV3.out.loc.c1
            go_wp2_with fail
            refine cS.out.mono ?_; rintro e w4 ⟨C2, n2, c2, rfl, hrows2, hcap2, b4, hfar2⟩
            have hn2 : n2 = v.m := by
              have h1 := hrows2.len
              rw [← foldP_last v.m (uptoPo f.items v.m i ++ rowPo f.items i j) ((i : Int), (j : Int))] at h1
              rw [← h1]; exact (DimM.fold v.m _).1
            subst hn2
            have hMV4 := Lib.hid (hMV3.out.put b4 hrows2 hcap2 hfar2)
            have hAf4 := Lib.hid (show ∀ ad, C2 = some ad → gr < ad.block from fun ad e => by have := hfar2 ad e; have := kR3.out.lt; omega)
            have kM := hMV3.out.loc.below_ b4
            have hbb4 := Lib.hid (((below_trans2 hbb3.out b4).setCell (p := ⟨M, 0, none⟩) (by show W0.heap.size ≤ M; omega) (.int .i64 (v.m : Int))).setCell (p := ⟨M, 1, none⟩) (by show W0.heap.size ≤ M; omega) (.slice C2 v.m c2))
            have kR4 := Lib.hid (((kR3.out.below_ b4).farB (p := ⟨M, 0, none⟩) (by show gr ≠ M; omega) (.int .i64 (v.m : Int))).farB (p := ⟨M, 1, none⟩) (by show gr ≠ M; omega) (.slice C2 v.m c2))
            clear m0 m1 cS hrows2 hfar2 b4 hlj
            have m0 := kM.c0
            have m1 := kM.c1
            have g0 := kM.frozen 0
            have g1 := kM.frozen 1
            clear kM
            go_wp2_with fail
            exact ⟨⟨j + 1, C2, c2, by omega, by go_num, hbb4, kR4, Lib.hid (by rw [hrs.out, ← List.append_assoc, foldP_last]; exact hMV4.out), hAf4⟩, by simp [intOf]; omega⟩
        · have hlj' : ¬ (j : Int) < (v.m : Int) := by omega
          have hjm : j = v.m := by omega
          have hus := uptoPo_succ f.items v.m i
          rw [hjm] at hMV
          clear hlj
          replace hus := Lib.hid hus
          replace hjm := Lib.hid hjm
          go_wp2_with fail
          exact ⟨⟨i + 1, A, c, by omega, by go_num, hbb, kR, Lib.hid (by rw [hus.out]; exact hMV.out), hAf⟩, by simp [intOf]; omega⟩
    · have hlt' : ¬ (i : Int) < (v.m : Int) := by omega
      have him : i = v.m := by omega
      rw [him] at hMV
      replace him := Lib.hid him
      have p1 := hB.out.c1
      have m0 := hMV.out.loc.c0
      have m1 := hMV.out.loc.c1
      have f0 := kR.out.c0
      have f1 := kR.out.c1
      have g0 := kR.out.frozen 0
      have g1 := kR.out.frozen 1
      have hcc := kR.out.two (.int .i64 (v.m : Int)) (.slice A v.m c)
      have hc1 := Lib.hid hcc.1
      have hc2 := Lib.hid hcc.2
      have hrf := Lib.hid (show RowsAt ((wr.setCell ⟨gr, 0, none⟩ (.int .i64 (v.m : Int))).setCell ⟨gr, 1, none⟩ (.slice A v.m c)) A v.m (foldP v.m (uptoPo f.items v.m v.m)) from hMV.out.rows.putB kR.out (fun h0 ad e hb => by have := hAf.out ad e; omega) _ _)
      have hbf := Lib.hid (((below_trans2 hB0.out.o hbb.out).setCell (p := ⟨gr, 0, none⟩) (by have := hB0.out.o.size; show w.heap.size ≤ gr; omega) (.int .i64 (v.m : Int))).setCell (p := ⟨gr, 1, none⟩) (by have := hB0.out.o.size; show w.heap.size ≤ gr; omega) (.slice A v.m c))
      clear hcc hlt
      go_wp2_with fail
      exact bodyPost_ret (v := .agg #[.int .i64 (v.m : Int), .slice A v.m c]) (by simp [results, Try.results19, go_sem, hc1.out, hc2.out]) rfl ⟨A, v.m, c, rfl, hrf.out, hMV.out.cap, hbf.out, fun ad e => by have := hAf.out ad e; have := hB0.out.o.size; omega⟩
end Go.Proofs.Ytmgockkjoogcaaa

namespace Go.Proofs.Ytmgockkjoogcaaa
set_option linter.unusedVariables false

/-- where a session begins -/
def baseO (hs : List (List OpT)) (s : Nat) : Nat := (allO (hs.take s)).length
theorem baseO_succ {hs : List (List OpT)} {s : Nat} {os : List OpT} (h : hs[s]? = some os) : baseO hs (s + 1) = baseO hs s + os.length := by
  unfold baseO; rw [allO_take_succ h, List.length_append]
theorem baseO_mono {hs : List (List OpT)} {s t : Nat} (h : s ≤ t) : baseO hs s ≤ baseO hs t := by
  induction t with
  | zero => rw [Nat.le_zero.1 h]; exact Nat.le_refl _
  | succ t ih =>
    rcases Nat.lt_or_ge s (t + 1) with h1 | h1
    · have := ih (by omega)
      cases ht : hs[t]? with
      | none =>
        have e : hs.take (t + 1) = hs.take t := by
          have := List.getElem?_eq_none_iff.1 ht
          rw [List.take_of_length_le this, List.take_of_length_le (by omega)]
        unfold baseO at this ⊢; rw [e]; exact this
      | some os => rw [baseO_succ ht]; omega
    · rw [show s = t + 1 by omega]; exact Nat.le_refl _
theorem spotN_atO {hs : List (List OpT)} {s p : Nat} {os : List OpT} (h : hs[s]? = some os) (hp : p < os.length) : spotN hs (baseO hs s + p) = some (s, p) := by
  have hi : baseO hs s + p < (allO hs).length := by
    have h1 := baseO_succ h
    have h2 := allO_take_le hs (s + 1)
    unfold baseO at h1
    rw [show (allO (hs.take (s + 1))).length = baseO hs (s + 1) from rfl] at h2
    unfold baseO at *
    omega
  obtain ⟨s', p', he⟩ := spotN_is hs _ hi
  obtain ⟨f1, f2, f3, -⟩ := spotN_some hs _ s' p' he
  obtain ⟨os', hos'⟩ : ∃ os, hs[s']? = some os := ⟨_, List.getElem?_eq_getElem f1⟩
  have hgd : hs.getD s' [] = os' := by rw [List.getD_eq_getElem?_getD, hos']; rfl
  rw [hgd] at f2
  have f3 : baseO hs s' + p' = baseO hs s + p := f3
  have b1 := baseO_succ h
  have b2 := baseO_succ hos'
  have hss : s' = s := by
    rcases Nat.lt_trichotomy s' s with hlt | heq | hgt
    · have := baseO_mono (hs := hs) (show s' + 1 ≤ s by omega); omega
    · exact heq
    · have := baseO_mono (hs := hs) (show s + 1 ≤ s' by omega); omega
  subst hss
  rw [he, show p' = p by omega]
/-- item i of a history's facts, by where it stands -/
theorem items_at {hs : List (List OpT)} {i : Nat} (hi : i < (allO hs).length) : ∃ (s p : Nat) (x : It), spotN hs i = some (s, p) ∧ (hisF hs).2[i]? = some x ∧ x.se = (s : Int) ∧ x.pl = (p : Int) ∧ baseO hs s + p = i ∧ p < (hs.getD s []).length ∧ s < hs.length := by
  obtain ⟨s, p, va, h1, h2, -, -⟩ := hisF_item hs i _ (List.getElem?_eq_getElem hi)
  obtain ⟨f1, f2, f3, -⟩ := spotN_some hs i s p h1
  exact ⟨s, p, _, h1, h2, rfl, rfl, f3, f2, f1⟩
/-- what stands ahead of item k: those of its session from its first one on -/
theorem ahead_hist {hs : List (List OpT)} {i k s p : Nat} (hi : i < (allO hs).length) (hk : k < (allO hs).length) (hs' : spotN hs k = some (s, p)) (hb : baseO hs s + p = k) : aheadF (hisF hs).2 i k = decide (baseO hs s ≤ i ∧ i < k) := by
  obtain ⟨s1, p1, x, x1, x2, x3, x4, x5, x6, x7⟩ := items_at hi
  obtain ⟨s2, p2, y, y1, y2, y3, y4, y5, y6, y7⟩ := items_at hk
  rw [hs'] at y1
  injection y1 with y1
  injection y1 with e1 e2
  subst e1; subst e2
  rw [aheadF_at (by omega) (by omega) (by rw [Int.toNat_natCast]; exact x2) (by rw [Int.toNat_natCast]; exact y2), x3, x4, y3, y4, Bool.eq_iff_iff, Bool.and_eq_true, decide_eq_true_eq, decide_eq_true_eq, decide_eq_true_eq]
  constructor
  · rintro ⟨h1, h2⟩
    have h1 : s1 = s := by omega
    subst h1
    omega
  · rintro ⟨h1, h2⟩
    obtain ⟨os, hos⟩ : ∃ os, hs[s]? = some os := ⟨_, List.getElem?_eq_getElem y7⟩
    have hgd : hs.getD s [] = os := by rw [List.getD_eq_getElem?_getD, hos]; rfl
    rw [hgd] at y6
    have := spotN_atO hos (show i - baseO hs s < os.length by omega)
    rw [show baseO hs s + (i - baseO hs s) = i by omega, x1] at this
    injection this with this
    injection this with e1 e2
    subst e1
    omega
theorem filter_span {N b k : Nat} (hb : b ≤ k) (hk : k < N) (p : Nat → Bool) (hp : ∀ i, i < N → p i = decide (b ≤ i ∧ i ≤ k)) : (List.range N).filter p = List.range' b (k + 1 - b) := by
  have e : List.range N = List.range' 0 b ++ (List.range' b (k + 1 - b) ++ List.range' (k + 1) (N - (k + 1))) := by
    rw [List.range_eq_range']
    have h1 := List.range'_append_1 (s := b) (m := k + 1 - b) (n := N - (k + 1))
    have h2 := List.range'_append_1 (s := 0) (m := b) (n := N - b)
    rw [show b + (k + 1 - b) = k + 1 by omega, show k + 1 - b + (N - (k + 1)) = N - b by omega] at h1
    rw [Nat.zero_add, show b + (N - b) = N by omega] at h2
    rw [h1, h2]
  rw [e, List.filter_append, List.filter_append]
  rw [List.filter_eq_nil_iff.2 (fun a ha => by have := List.mem_range'_1.1 ha; rw [hp a (by omega)]; simp; omega), List.nil_append]
  rw [List.filter_eq_self.2 (fun a ha => by have := List.mem_range'_1.1 ha; rw [hp a (by omega)]; simp; omega)]
  rw [List.filter_eq_nil_iff.2 (fun a ha => by have := List.mem_range'_1.1 ha; rw [hp a (by omega)]; simp; omega), List.append_nil]
/-- the past of an operation of a history: as many as its place says, and it -/
theorem past_hist {hs : List (List OpT)} {k s p : Nat} (hk : k < (allO hs).length) (hs' : spotN hs k = some (s, p)) (hb : baseO hs s + p = k) :
    pastF (hisF hs).2 k (allO hs).length = (List.range' (baseO hs s) (p + 1)).map fun (i : Nat) => (i : Int) := by
  unfold pastF pastN
  rw [filter_span (b := baseO hs s) (k := k) (by omega) hk _ (fun i hi => by
    rw [ahead_hist hi hk hs' hb, Bool.eq_iff_iff, Bool.or_eq_true, decide_eq_true_eq, decide_eq_true_eq, decide_eq_true_eq]; omega), show k + 1 - baseO hs s = p + 1 by omega]
theorem past_get {b m i : Nat} (h : i < m) : ((List.range' b m).map fun (i : Nat) => (i : Int))[i]? = some ((b + i : Nat) : Int) := by
  rw [List.getElem?_map, List.getElem?_range' (by simpa using h)]; simp
end Go.Proofs.Ytmgockkjoogcaaa
