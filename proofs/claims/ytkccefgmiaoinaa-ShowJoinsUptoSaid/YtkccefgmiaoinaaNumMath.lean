/- Plain mathematics of layer 5: digits, spans, numbers of texts. Nothing of the program is named. -/
import Derived.WalkKit
namespace Go.Proofs.Ytkccefgmiaoinaa

def isD (c : UInt8) : Bool := decide (48 ≤ c.toNat) && decide (c.toNat ≤ 57)
def digsN (l : List UInt8) : Nat := (l.takeWhile isD).length
/-- how many signs look like a number, at a text's beginning -/
def spanN (l : List UInt8) : Nat := match l with
  | [] => 0
  | c :: r => if c.toNat = 45 then 1 + digsN r else digsN (c :: r)
def spanZ (s : ByteArray) (i : Int) : Nat := if 0 ≤ i then spanN (s.data.toList.drop i.toNat) else 0
theorem size_list (s : ByteArray) : s.data.toList.length = s.size := by cases s; rfl
theorem byte_at (s : ByteArray) (k : Nat) (h : k < s.size) : s.data.toList[k]? = some (s[k]'h) := by
  obtain ⟨⟨l⟩⟩ := s
  exact List.getElem?_eq_getElem h
theorem takeWhile_len {p : UInt8 → Bool} : ∀ (l : List UInt8) (q : Nat), (∀ j, j < q → ∃ c, l[j]? = some c ∧ p c = true) → (∀ c, l[q]? = some c → p c = false) → (l.takeWhile p).length = q
  | [], 0, _, _ => rfl
  | [], q + 1, h, _ => by
    obtain ⟨c, hc, _⟩ := h 0 (by omega)
    simp at hc
  | c :: l, 0, _, h => by
    have := h c rfl
    rw [List.takeWhile_cons_of_neg (by rw [this]; simp)]; rfl
  | c :: l, q + 1, h1, h2 => by
    obtain ⟨d, hd, hp⟩ := h1 0 (by omega)
    have hd' : c = d := by simpa using hd
    subst hd'
    rw [List.takeWhile_cons_of_pos hp, List.length_cons, takeWhile_len l q (fun j hj => by
      obtain ⟨e, he, hpe⟩ := h1 (j + 1) (by omega)
      exact ⟨e, by simpa using he, hpe⟩) (fun e he => h2 e (by simpa using he))]
theorem digsN_le (l : List UInt8) : digsN l ≤ l.length := (List.takeWhile_sublist _).length_le
theorem spanN_le (l : List UInt8) : spanN l ≤ l.length := by
  unfold spanN
  split
  · exact Nat.zero_le _
  · rename_i c r
    split
    · have := digsN_le r; simp; omega
    · exact digsN_le _


/-! ### the number of a text -/
def digV (c : UInt8) : Nat := c.toNat - 48
def valN (l : List UInt8) : Nat := l.foldl (fun v c => 10 * v + digV c) 0
theorem valN_snoc (l : List UInt8) (c : UInt8) : valN (l ++ [c]) = 10 * valN l + digV c := by
  unfold valN; rw [List.foldl_append]; rfl
theorem valN_take_succ {l : List UInt8} {k : Nat} {c : UInt8} (h : l[k]? = some c) : valN (l.take (k + 1)) = 10 * valN (l.take k) + digV c := by
  rw [List.take_succ_eq_append_getElem (List.getElem?_eq_some_iff.1 h).1, (List.getElem?_eq_some_iff.1 h).2, valN_snoc]
theorem valN_take_le (l : List UInt8) : ∀ k, valN (l.take k) ≤ valN l := by
  have step : ∀ (r : List UInt8) (v : Nat), v ≤ r.foldl (fun v c => 10 * v + digV c) v := by
    intro r
    induction r with
    | nil => intro v; exact Nat.le_refl _
    | cons c r ih => intro v; exact Nat.le_trans (by omega) (ih (10 * v + digV c))
  intro k
  have h : valN l = (l.drop k).foldl (fun v c => 10 * v + digV c) (valN (l.take k)) := by
    unfold valN
    rw [← List.foldl_append, List.take_append_drop]
  rw [h]
  exact step _ _
def negL (l : List UInt8) : Bool := match l with
  | [] => false
  | c :: _ => decide (c.toNat = 45)
def digL (l : List UInt8) : List UInt8 := if negL l = true then l.tail else l
def noughtL (d : List UInt8) : Bool := match d with
  | [] => false
  | c :: _ => decide (c.toNat = 48)
def okL (l : List UInt8) : Bool := !(digL l).isEmpty && (digL l).all isD && !(noughtL (digL l) && (decide (1 < (digL l).length) || negL l))
def valZ (l : List UInt8) : Int := if negL l = true then -(valN (digL l) : Int) else (valN (digL l) : Int)
def fits64 (z : Int) : Bool := decide (-9223372036854775808 ≤ z) && decide (z ≤ 9223372036854775807)
def getV (l : List UInt8) : Int := if (okL l && fits64 (valZ l)) = true then valZ l else 0
def getE (l : List UInt8) : Int := if okL l = true then (if fits64 (valZ l) = true then 0 else 3) else 2
theorem get_bad {l : List UInt8} (h : okL l = false) : getV l = 0 ∧ getE l = 2 := by
  unfold getV getE; rw [h]; simp
theorem get_large {l : List UInt8} (h : okL l = true) (h2 : fits64 (valZ l) = false) : getV l = 0 ∧ getE l = 3 := by
  unfold getV getE; rw [h, h2]; simp
theorem get_good {l : List UInt8} (h : okL l = true) (h2 : fits64 (valZ l) = true) : getV l = valZ l ∧ getE l = 0 := by
  unfold getV getE; rw [h, h2]; simp
theorem digsN_all (l : List UInt8) : digsN l = l.length ↔ l.all isD = true := by
  unfold digsN
  induction l with
  | nil => simp
  | cons c l ih =>
    by_cases h : isD c = true
    · rw [List.takeWhile_cons_of_pos h, List.length_cons, List.length_cons, List.all_cons, h, Bool.true_and, ← ih]; omega
    · rw [List.takeWhile_cons_of_neg h, List.all_cons]
      rw [Bool.not_eq_true] at h
      rw [h]; simp
theorem span_full (l : List UInt8) : spanN l = l.length ↔ (digL l).all isD = true := by
  unfold spanN digL negL
  cases l with
  | nil => simp
  | cons c r =>
    by_cases h : c.toNat = 45
    · simp only [h, decide_true, if_true, List.tail_cons, List.length_cons]
      rw [← digsN_all]; omega
    · simp only [h, decide_false, if_false, Bool.false_eq_true]
      rw [← digsN_all]

theorem valZ_pos {l : List UInt8} (h : negL l = false) : valZ l = (valN (digL l) : Int) := by unfold valZ; rw [h, if_neg (by decide)]
theorem valZ_neg {l : List UInt8} (h : negL l = true) : valZ l = -(valN (digL l) : Int) := by unfold valZ; rw [h, if_pos rfl]
theorem fits64_yes {z : Int} (h1 : -9223372036854775808 ≤ z) (h2 : z ≤ 9223372036854775807) : fits64 z = true := by
  unfold fits64; rw [decide_eq_true h1, decide_eq_true h2]; rfl
theorem fits64_no {z : Int} (h : z < -9223372036854775808 ∨ 9223372036854775807 < z) : fits64 z = false := by
  unfold fits64
  rcases h with h | h
  · rw [decide_eq_false (by omega : ¬ -9223372036854775808 ≤ z)]; rfl
  · rw [decide_eq_false (by omega : ¬ z ≤ 9223372036854775807), Bool.and_false]

/-! ### a number's text -/
def decL (m : Nat) : List UInt8 := if m < 10 then [UInt8.ofNat (48 + m)] else decL (m / 10) ++ [UInt8.ofNat (48 + m % 10)]
theorem decL_small {m : Nat} (h : m < 10) : decL m = [UInt8.ofNat (48 + m)] := by rw [decL, if_pos h]
theorem decL_step {m : Nat} (h : ¬ m < 10) : decL m = decL (m / 10) ++ [UInt8.ofNat (48 + m % 10)] := by rw [decL, if_neg h]
theorem decL_length : ∀ (k m : Nat), m < 10 ^ (k + 1) → (decL m).length ≤ k + 1
  | 0, m, h => by rw [decL_small (by simpa using h)]; exact Nat.le_refl _
  | k + 1, m, h => by
    by_cases h10 : m < 10
    · rw [decL_small h10]; simp
    · rw [decL_step h10, List.length_append]
      have := decL_length k (m / 10) (by rw [Nat.div_lt_iff_lt_mul (by decide)]; rw [Nat.pow_succ] at h; exact h)
      simp only [List.length_singleton]; omega
def putL (n : Int) : List UInt8 := (if n < 0 then [45] else []) ++ decL n.natAbs

end Go.Proofs.Ytkccefgmiaoinaa
