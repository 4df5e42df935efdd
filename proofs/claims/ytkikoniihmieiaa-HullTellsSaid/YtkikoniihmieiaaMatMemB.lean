/- Words for memory: rows that lie apart from a span of blocks; mathematics of 'or'. -/
import Derived.Test.YtkikoniihmieiaaMatOf
namespace Go.Proofs.Ytkikoniihmieiaa
open Go.RowKit

/-- a row whose block, if it has words, lies outside the blocks lo .. hi - 1 -/
def RowF (w : World) (lo hi : Nat) (v : Value) (xs : List Nat) : Prop := ∃ A n c, v = .slice A n c ∧ Row w A n xs ∧ (0 < n → ∀ ad, A = some ad → ad.block < lo ∨ hi ≤ ad.block)
def RowsF (w : World) (lo hi : Nat) (vs : List Value) (xss : List (List Nat)) : Prop := vs.length = xss.length ∧ ∀ (i : Nat) (v : Value) (xs : List Nat), vs[i]? = some v → xss[i]? = some xs → RowF w lo hi v xs
section
variable {w w' : World} {lo hi : Nat} {A : Option Addr} {n c : Nat} {vs : List Value} {xss : List (List Nat)} {v : Value} {xs : List Nat}
theorem Row.setCell' {p : Addr} (h : Row w A n xs) (hne : 0 < n → ∀ ad, A = some ad → ad.block ≠ p.block) (u : Value) : Row (w.setCell p u) A n xs := by
  rcases Nat.eq_zero_or_pos n with h0 | h0
  · subst h0
    have := h.len
    obtain rfl := List.eq_nil_of_length_eq_zero this
    exact Row.nil _ _
  · exact h.setCell (hne h0) u
theorem RowF.row (h : RowF w lo hi v xs) : RowV w v xs := by
  obtain ⟨A, n, c, e, hr, _⟩ := h; exact ⟨A, n, c, e, hr⟩
theorem RowF.below (h : RowF w lo hi v xs) (hb : Below w.heap.size w w') : RowF w' lo hi v xs := by
  obtain ⟨A, n, c, e, hr, hf⟩ := h; exact ⟨A, n, c, e, hr.below hb, hf⟩
theorem RowF.set {p : Addr} (h : RowF w lo hi v xs) (h1 : lo ≤ p.block) (h2 : p.block < hi) (u : Value) : RowF (w.setCell p u) lo hi v xs := by
  obtain ⟨A, n, c, e, hr, hf⟩ := h
  exact ⟨A, n, c, e, hr.setCell' (fun h0 ad he hh => by have := hf h0 ad he; omega) u, hf⟩
theorem RowF.old {w0 : World} (h : Row w0 A n xs) (hb : Below w0.heap.size w0 w) (hlo : w0.heap.size ≤ lo) : RowF w lo hi (.slice A n c) xs :=
  ⟨A, n, c, rfl, h.below hb, fun h0 ad he => by
    obtain ⟨b, off, e, hbl, _⟩ := h.1.2 h0
    rw [e] at he
    injection he with he
    subst he
    exact .inl (by show b < lo; omega)⟩
theorem RowF.new {t : TypeId} {base : Nat} (h : w.ownsRow base t 1 (.slice A n c) n (xs.map u64v)) (hx : W64 xs) (hhi : hi ≤ base) : RowF w lo hi (.slice A n c) xs :=
  ⟨A, n, c, rfl, Row.of_own h hx, fun _ ad he => by
    subst he
    have := own_lt_block h _ rfl
    exact .inr (by omega)⟩
theorem RowsF.nil (w : World) : RowsF w lo hi [] [] := ⟨rfl, fun i v xs h => by simp at h⟩
theorem RowsF.rows (h : RowsF w lo hi vs xss) : RowsC w vs xss := ⟨h.1, fun i v xs h1 h2 => (h.2 i v xs h1 h2).row⟩
theorem RowsF.below (h : RowsF w lo hi vs xss) (hb : Below w.heap.size w w') : RowsF w' lo hi vs xss := ⟨h.1, fun i v xs h1 h2 => (h.2 i v xs h1 h2).below hb⟩
theorem RowsF.set {p : Addr} (h : RowsF w lo hi vs xss) (h1 : lo ≤ p.block) (h2 : p.block < hi) (u : Value) : RowsF (w.setCell p u) lo hi vs xss := ⟨h.1, fun i v xs h3 h4 => (h.2 i v xs h3 h4).set h1 h2 u⟩
theorem RowsF.snoc (h : RowsF w lo hi vs xss) (hv : RowF w lo hi v xs) : RowsF w lo hi (vs ++ [v]) (xss ++ [xs]) := by
  refine ⟨by simp [h.1], fun i u ys h1 h2 => ?_⟩
  rcases Nat.lt_or_ge i vs.length with hi' | hi'
  · rw [List.getElem?_append_left hi'] at h1
    rw [List.getElem?_append_left (by rw [← h.1]; exact hi')] at h2
    exact h.2 i u ys h1 h2
  · rw [List.getElem?_append_right hi'] at h1
    rw [List.getElem?_append_right (by rw [← h.1]; exact hi')] at h2
    rw [← h.1] at h2
    rcases Nat.eq_zero_or_pos (i - vs.length) with h0 | h0
    · rw [h0] at h1 h2
      simp at h1 h2
      subst h1 h2
      exact hv
    · rw [List.getElem?_eq_none (by simp; omega)] at h1; cases h1
end

theorem or_of_and {x y : Nat} (h : x &&& y = x) : y ||| x = y := by
  apply Nat.eq_of_testBit_eq
  intro i
  have := congrArg (·.testBit i) h
  simp only [Nat.testBit_and, Nat.testBit_or] at this ⊢
  revert this
  cases x.testBit i <;> cases y.testBit i <;> simp
theorem orR_of_sub {a b : List Nat} (hl : b.length = a.length) (h : subR b a = true) : orR a b = a := by
  unfold subR at h
  rw [List.all_eq_true] at h
  unfold orR
  apply List.ext_getElem?
  intro j
  rw [hl, Nat.max_self, List.getElem?_map]
  rcases Nat.lt_or_ge j a.length with hj | hj
  · rw [List.getElem?_range hj]
    have := h j (List.mem_range.2 (by omega))
    rw [beq_iff_eq] at this
    show some (a.getD j 0 ||| b.getD j 0) = _
    rw [or_of_and this, List.getD_eq_getElem?_getD, List.getElem?_eq_getElem hj]; rfl
  · rw [List.getElem?_eq_none (by simpa using hj), List.getElem?_eq_none hj]; rfl
def orPre (a b : List (List Nat)) (k : Nat) : List (List Nat) := (List.range k).map fun i => orR (a.getD i []) (b.getD i [])
theorem orPre_all (a b : List (List Nat)) : orPre a b a.length = orM a b := rfl
theorem orPre_succ (a b : List (List Nat)) (k : Nat) : orPre a b (k + 1) = orPre a b k ++ [orR (a.getD k []) (b.getD k [])] := by
  unfold orPre; rw [List.range_succ, List.map_append]; rfl

end Go.Proofs.Ytkikoniihmieiaa
