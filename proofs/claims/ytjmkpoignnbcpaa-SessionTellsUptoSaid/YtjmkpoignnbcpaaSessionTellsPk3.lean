/- Plain mathematics of layer 11: what reads read from. Nothing of the program is named. The contracts of the document's own answers of layer 10: Write, Check. The contracts of the document's own answers of layer 9: Same, Small. The contracts of the document's own answers of layer 11: From, Fill, Whole, Readers. Words for memory: slices of rows (matrices), pairs. No function of the program is named here. Contracts of package mat: below, fits, Has; and of the document's own answers: in, Has, Small. Contracts of package mat: Set (with slices.Clone of rows). Contracts of package mat: Set (refused). Contracts of package mat: New. Contracts of package mat: New (refused), put. Contracts of package mat: Of. Words for memory: rows that lie apart from a span of blocks; mathematics of 'or'. Contracts of package mat: join, Or. Contracts of package mat: fits, Right. Contracts of package mat: Sub, Same (by slices.EqualFunc). Contracts of package mat: Pairs. Plain mathematics of a block of 64 words whose bits are turned about, size by size. Nothing of the program is imported. Contracts of package mat: flip. A whole array of words, loaded and stored: at a plain region's list. No function of the program is named here. Contracts of package mat: take, lay, Turn. Contracts of package mat: lay. Contracts of package mat: Turn. Contracts of the document's own answers for matrices (eyewitnessref03): in, Has, Small, Equal. Contracts of the document's own answers for matrices: Equal, Sub, Same. Contracts of the document's own answers for matrices: Sub, Same. Contracts of the document's own answers for matrices: Right. Contracts of the document's own answers for matrices: New. Contracts of the document's own answers for matrices: New (refused), Or. Contracts of the document's own answers for matrices: Set. -/
import Derived.Test.YtjmkpoignnbcpaaSessionTellsPk2
import Derived.Test.YtjmkpoignnbcpaaSessionTellsPk1
import Derived.Deep.RegionHeld3
import Derived.Deep.DrawnRows
import Derived.Deep.MidRow
namespace Go.Proofs.Ytjmkpoignnbcpaa
set_option linter.unusedVariables false

/-- what an item reads from -/
def fromOne (is : List It) (x : It) : Int := if x.wr = true then -3 else if x.vl = 0 then -1 else match writeF is x.va x.vl with | some w => (w : Int) | none => -2
def fromF (is : List It) : List Int := is.map (fromOne is)
def fillF (f : Fac) : Fac := ⟨f.vars, f.items, fromF f.items⟩
/-- the reads of a write -/
def readN (frm : List Int) (w : Int) (n : Nat) : List Nat := (List.range n).filter fun i => decide (0 ≤ w) && decide (frm.getD i 0 = w)
def readF (frm : List Int) (w : Int) (n : Nat) : List Int := (readN frm w n).map fun (i : Nat) => (i : Int)
theorem fromF_len (is : List It) : (fromF is).length = is.length := List.length_map _
theorem fromF_at {is : List It} {k : Nat} {x : It} (h : is[k]? = some x) : (fromF is)[k]? = some (fromOne is x) := by unfold fromF; rw [List.getElem?_map, h]; rfl
theorem fromF_take {is : List It} {k : Nat} {x : It} (h : is[k]? = some x) : (fromF is).take (k + 1) = (fromF is).take k ++ [fromOne is x] := by
  rw [List.take_add_one, fromF_at h]; rfl
theorem fromOne_range (is : List It) (x : It) : -3 ≤ fromOne is x ∧ fromOne is x < (is.length : Int) := by
  unfold fromOne
  split
  · omega
  · split
    · omega
    · cases h : writeF is x.va x.vl with
      | none => simp only; omega
      | some w =>
        obtain ⟨y, hy, _⟩ := writeF_some h
        have := (List.getElem?_eq_some_iff.1 hy).1
        simp only; omega
theorem readN_succ (frm : List Int) (w : Int) (n : Nat) : readN frm w (n + 1) = if (decide (0 ≤ w) && decide (frm.getD n 0 = w)) = true then readN frm w n ++ [n] else readN frm w n := by
  unfold readN
  rw [List.range_succ, List.filter_append]
  split
  · rename_i h; rw [List.filter_cons_of_pos (by exact h)]; rfl
  · rename_i h; rw [List.filter_cons_of_neg (by exact h)]; simp
theorem readF_succ (frm : List Int) (w : Int) (n : Nat) : readF frm w (n + 1) = if (decide (0 ≤ w) && decide (frm.getD n 0 = w)) = true then readF frm w n ++ [(n : Int)] else readF frm w n := by
  unfold readF
  rw [readN_succ]
  split
  · simp
  · rfl
theorem readF_len (frm : List Int) (w : Int) (n : Nat) : (readF frm w n).length ≤ n := by
  unfold readF readN
  rw [List.length_map]
  exact Nat.le_trans (List.length_filter_le _ _) (by simp)
theorem readF_ok (frm : List Int) (w : Int) (n : Nat) : ∀ z ∈ readF frm w n, 0 ≤ z ∧ z < (n : Int) := fun z hz => by
  unfold readF at hz
  obtain ⟨i, hi, rfl⟩ := List.mem_map.1 hz
  unfold readN at hi
  have := List.mem_range.1 (List.mem_filter.1 hi).1
  omega

/-! ### how many reads read from a write -/
def cntF (frm : List Int) (w : Int) (n : Nat) : Nat := ((List.range n).filter fun i => decide (0 ≤ frm.getD i 0) && decide (frm.getD i 0 < w)).length
def posF (frm : List Int) (n : Nat) : Nat := ((List.range n).filter fun i => decide (0 ≤ frm.getD i 0)).length
theorem filter_range_succ (p : Nat → Bool) (n : Nat) : ((List.range (n + 1)).filter p).length = ((List.range n).filter p).length + if p n = true then 1 else 0 := by
  rw [List.range_succ, List.filter_append, List.length_append]
  split
  · rename_i h; rw [List.filter_cons_of_pos h]; rfl
  · rename_i h; rw [List.filter_cons_of_neg h]; rfl
theorem posF_succ (frm : List Int) (n : Nat) : posF frm (n + 1) = posF frm n + if 0 ≤ frm.getD n 0 then 1 else 0 := by
  unfold posF; rw [filter_range_succ]; simp
theorem cntF_next (frm : List Int) (w : Int) (n : Nat) : cntF frm (w + 1) n = cntF frm w n + (readF frm w n).length := by
  unfold cntF readF readN
  rw [List.length_map]
  induction n with
  | zero => rfl
  | succ n ih =>
    rw [filter_range_succ, filter_range_succ, filter_range_succ, ih]
    have e : ∀ z : Int, (if (decide (0 ≤ z) && decide (z < w + 1)) = true then 1 else 0) = (if (decide (0 ≤ z) && decide (z < w)) = true then 1 else 0) + (if (decide (0 ≤ w) && decide (z = w)) = true then (1 : Nat) else 0) := fun z => by
      by_cases h0 : 0 ≤ z
      · rcases Int.lt_trichotomy z w with h | h | h
        · have h1 : z < w + 1 := by omega
          have h2 : ¬ z = w := by omega
          simp [h0, h, h1, h2]
        · subst h; simp [h0]; omega
        · have h1 : ¬ z < w + 1 := by omega
          have h2 : ¬ z = w := by omega
          have h3 : ¬ z < w := by omega
          simp [h1, h2, h3]
      · by_cases h2 : z = w
        · subst h2; simp [h0]
        · simp [h0, h2]
    have := e (frm.getD n 0)
    omega
theorem cntF_start (frm : List Int) {w : Int} (hw : w ≤ 0) (n : Nat) : cntF frm w n = 0 := by
  unfold cntF
  rw [List.filter_eq_nil_iff.2 (fun a _ => by simp; omega)]; rfl
theorem cntF_all {frm : List Int} {w : Int} {n : Nat} (h : ∀ i, i < n → frm.getD i 0 < w) : cntF frm w n = posF frm n := by
  unfold cntF posF
  congr 1
  refine List.filter_congr (fun i hi => ?_)
  rw [decide_eq_true (h i (List.mem_range.1 hi)), Bool.and_true]
theorem posF_le (frm : List Int) (n : Nat) : posF frm n ≤ n := by
  unfold posF; exact Nat.le_trans (List.length_filter_le _ _) (by simp)
theorem cntF_le (frm : List Int) (w : Int) (n : Nat) : cntF frm w n ≤ n := by
  unfold cntF; exact Nat.le_trans (List.length_filter_le _ _) (by simp)
theorem posF_mono (frm : List Int) {i n : Nat} (h : i ≤ n) : posF frm i ≤ posF frm n := by
  induction n with
  | zero => rw [Nat.le_zero.1 h]; exact Nat.le_refl _
  | succ n ih =>
    rcases Nat.lt_or_ge i (n + 1) with h1 | h1
    · rw [posF_succ]; have := ih (by omega); omega
    · rw [show i = n + 1 by omega]; exact Nat.le_refl _
theorem readF_at {frm : List Int} {w : Int} {n q : Nat} {z : Int} (h : (readF frm w n)[q]? = some z) : 0 ≤ w ∧ 0 ≤ z ∧ z < (n : Int) ∧ frm.getD z.toNat 0 = w := by
  unfold readF at h
  rw [List.getElem?_map] at h
  cases ha : (readN frm w n)[q]? with
  | none => rw [ha] at h; cases h
  | some a =>
    rw [ha] at h
    have h : some (a : Int) = some z := h
    injection h with h
    have hm := List.mem_of_getElem? ha
    unfold readN at hm
    obtain ⟨h1, h2⟩ := List.mem_filter.1 hm
    rw [Bool.and_eq_true, decide_eq_true_eq, decide_eq_true_eq] at h2
    have := List.mem_range.1 h1
    subst h
    exact ⟨h2.1, by omega, by omega, by rw [Int.toNat_natCast]; exact h2.2⟩
theorem readF_lt {frm : List Int} {w : Int} {n q : Nat} {y z : Int} (h1 : (readF frm w n)[q]? = some y) (h2 : (readF frm w n)[q + 1]? = some z) : y < z := by
  have hp : (readN frm w n).Pairwise (· < ·) := by unfold readN; exact List.pairwise_lt_range.filter _
  unfold readF at h1 h2
  rw [List.getElem?_map] at h1 h2
  cases ha : (readN frm w n)[q]? with
  | none => rw [ha] at h1; cases h1
  | some a =>
    cases hb : (readN frm w n)[q + 1]? with
    | none => rw [hb] at h2; cases h2
    | some b =>
      rw [ha] at h1
      rw [hb] at h2
      have h1 : some (a : Int) = some y := h1
      have h2 : some (b : Int) = some z := h2
      injection h1 with h1
      injection h2 with h2
      obtain ⟨la, ea⟩ := List.getElem?_eq_some_iff.1 ha
      obtain ⟨lb, eb⟩ := List.getElem?_eq_some_iff.1 hb
      have := List.pairwise_iff_getElem.1 hp q (q + 1) la lb (by omega)
      rw [ea, eb] at this
      omega
end Go.Proofs.Ytjmkpoignnbcpaa

namespace Go.Proofs.Ytjmkpoignnbcpaa
open Go.RowKit
set_option linter.unusedVariables false
def RetWrite (o : Option Nat) (w : World) (e : Ending) (w' : World) : Prop := e = .returned (.tuple #[.int .i64 ((o.getD 0 : Nat) : Int), .bool o.isSome]) ∧ Below w.heap.size w w'
def RetCheck (r : Int × Int × Int) (w : World) (e : Ending) (w' : World) : Prop := e = .returned (.tuple #[.int .i64 r.1, .int .i64 r.2.1, .int .i64 r.2.2]) ∧ Below w.heap.size w w'
end Go.Proofs.Ytjmkpoignnbcpaa

namespace Go.Proofs.Ytjmkpoignnbcpaa
open Go.RowKit
set_option linter.unusedVariables false

theorem fac_eq (f g : Fac) : decide (f = g) = (decide (f.vars = g.vars) && decide (f.items = g.items) && decide (f.frm = g.frm)) := by
  obtain ⟨a, b, c⟩ := f
  obtain ⟨x, y, z⟩ := g
  simp only [Fac.mk.injEq, Bool.decide_and, Bool.and_assoc]
theorem fac_no {f g : Fac} (h : (decide (f.vars = g.vars) && decide (f.items = g.items)) = false) : decide (f = g) = false := by rw [fac_eq, h]; rfl

end Go.Proofs.Ytjmkpoignnbcpaa

namespace Go.Proofs.Ytjmkpoignnbcpaa
open Go.RowKit
set_option linter.unusedVariables false
/-- a call's answer: numbers -/
def RetIL (xs : List Int) (w : World) (e : Ending) (w' : World) : Prop := ∃ A n c, e = .returned (.slice A n c) ∧ LAt encI w' A n xs ∧ n ≤ c ∧ c ≤ 9223372036854775807 ∧ Below w.heap.size w w'
end Go.Proofs.Ytjmkpoignnbcpaa

namespace Go.Proofs.Ytjmkpoignnbcpaa
open Go.RowKit

/-- a value that is a slice that reads as the words xs -/
def RowV (w : World) (v : Value) (xs : List Nat) : Prop := ∃ A n c, v = .slice A n c ∧ Row w A n xs
/-- cells that read as rows -/
def RowsC (w : World) (vs : List Value) (xss : List (List Nat)) : Prop := vs.length = xss.length ∧ ∀ (i : Nat) (v : Value) (xs : List Nat), vs[i]? = some v → xss[i]? = some xs → RowV w v xs
/-- the slice '.slice A n c' of rows reads as xss -/
def RowsAt (w : World) (A : Option Addr) (n : Nat) (xss : List (List Nat)) : Prop := ∃ vs, Rd w A n vs ∧ RowsC w vs xss
section
variable {w w' : World} {A : Option Addr} {n : Nat} {vs : List Value} {xss : List (List Nat)} {v : Value} {xs : List Nat}
theorem RowV.below (h : RowV w v xs) (hb : Below w.heap.size w w') : RowV w' v xs := by
  obtain ⟨A, n, c, e, hr⟩ := h; exact ⟨A, n, c, e, hr.below hb⟩
theorem RowsC.below (h : RowsC w vs xss) (hb : Below w.heap.size w w') : RowsC w' vs xss := ⟨h.1, fun i v xs h1 h2 => (h.2 i v xs h1 h2).below hb⟩
theorem RowsC.nil (w : World) : RowsC w [] [] := ⟨rfl, fun i v xs h => by simp at h⟩
theorem RowsC.snoc (h : RowsC w vs xss) (hv : RowV w v xs) : RowsC w (vs ++ [v]) (xss ++ [xs]) := by
  refine ⟨by simp [h.1], fun i u ys h1 h2 => ?_⟩
  rcases Nat.lt_or_ge i vs.length with hi | hi
  · rw [List.getElem?_append_left hi] at h1
    rw [List.getElem?_append_left (by rw [← h.1]; exact hi)] at h2
    exact h.2 i u ys h1 h2
  · rw [List.getElem?_append_right hi] at h1
    rw [List.getElem?_append_right (by rw [← h.1]; exact hi)] at h2
    rw [← h.1] at h2
    rcases Nat.eq_zero_or_pos (i - vs.length) with h0 | h0
    · rw [h0] at h1 h2
      simp at h1 h2
      subst h1 h2
      exact hv
    · rw [List.getElem?_eq_none (by simp; omega)] at h1; cases h1
theorem RowsC.set (h : RowsC w vs xss) (hv : RowV w v xs) (k : Nat) : RowsC w (vs.set k v) (xss.set k xs) := by
  refine ⟨by simp [h.1], fun i u ys h1 h2 => ?_⟩
  rw [List.getElem?_set] at h1 h2
  by_cases hk : k = i
  · rw [if_pos hk] at h1 h2
    by_cases hl : k < vs.length
    · rw [if_pos hl] at h1
      rw [if_pos (by rw [← h.1]; exact hl)] at h2
      injection h1 with h1
      injection h2 with h2
      subst h1 h2
      exact hv
    · rw [if_neg hl] at h1; cases h1
  · rw [if_neg hk] at h1 h2
    exact h.2 i u ys h1 h2
theorem RowsAt.len (h : RowsAt w A n xss) : xss.length = n := by
  obtain ⟨vs, h1, h2⟩ := h; rw [← h2.1, h1.1]
theorem RowsAt.below (h : RowsAt w A n xss) (hb : Below w.heap.size w w') : RowsAt w' A n xss := by
  obtain ⟨vs, h1, h2⟩ := h; exact ⟨vs, h1.below hb, h2.below hb⟩
theorem RowsAt.nil (w : World) (A : Option Addr) : RowsAt w A 0 [] := ⟨[], Rd.nil _ _, RowsC.nil _⟩
theorem RowsAt.at_ {k : Nat} (h : RowsAt w A n xss) (hk : k < n) : ∃ b off B m c xs, A = some ⟨b, off, none⟩ ∧ b < w.heap.size ∧ xss[k]? = some xs ∧ w.cell? ⟨b, off + k, none⟩ = some (.slice B m c) ∧ Row w B m xs := by
  obtain ⟨vs, h1, h2⟩ := h
  obtain ⟨b, off, u, hA, hb, hu, hc⟩ := h1.at_ hk
  have hl : k < xss.length := by rw [← h2.1, h1.1]; exact hk
  obtain ⟨B, m, c, e, hr⟩ := h2.2 k u xss[k] hu (List.getElem?_eq_getElem hl)
  subst e
  exact ⟨b, off, B, m, c, xss[k], hA, hb, List.getElem?_eq_getElem hl, hc, hr⟩
theorem RowsAt.w64 (h : RowsAt w A n xss) : ∀ xs ∈ xss, W64 xs := by
  intro xs hx
  obtain ⟨k, hk⟩ := List.getElem?_of_mem hx
  have hl : k < xss.length := (List.getElem?_eq_some_iff.1 hk).1
  obtain ⟨b, off, B, m, c, xs', _, _, hx', _, hr⟩ := h.at_ (k := k) (by rw [← h.len]; exact hl)
  rw [hk] at hx'
  injection hx' with hx'
  subst hx'
  exact hr.2
theorem RowsAt.of_own {base : Nat} {e : TypeId} (h : w.ownsRow base e 1 v n vs) (hr : RowsC w vs xss) : ∃ A c, v = .slice A n c ∧ RowsAt w A n xss := by
  obtain ⟨A, c, hv, hd⟩ := Rd.of_own h
  exact ⟨A, c, hv, vs, hd, hr⟩
end

section
variable {w w' : World} {A : Option Addr} {n : Nat} {vs : List Value} {xs : List Nat} {p : Addr}
theorem Rd.setCell (h : Rd w A n vs) (hne : ∀ ad, A = some ad → ad.block ≠ p.block) (u : Value) : Rd (w.setCell p u) A n vs :=
  ⟨h.1, fun hn => by
    obtain ⟨b, off, e, hb, hc⟩ := h.2 hn
    have hbp := hne _ e
    refine ⟨b, off, e, by simpa using hb, fun j x hx => ?_⟩
    rw [World.cell?_setCell_other w p ⟨b, off + j, none⟩ u (fun e => hbp (by rw [e]))]
    exact hc j x hx⟩
theorem Row.setCell (h : Row w A n xs) (hne : ∀ ad, A = some ad → ad.block ≠ p.block) (u : Value) : Row (w.setCell p u) A n xs := ⟨h.1.setCell hne u, h.2⟩
theorem own_far {base : Nat} {e : TypeId} {size : Nat} {v : Value} (h : w.ownsRow base e size v n vs) (hne : v.ownBlock ≠ some p.block) (u : Value) : (w.setCell p u).ownsRow base e size v n vs := by
  refine ⟨h.1, ?_⟩
  rcases h.2 with ⟨h1, h2⟩ | ⟨g, cap, cur, rfl, hbg, hg, r⟩
  · exact .inl ⟨h1, h2⟩
  · refine .inr ⟨g, cap, cur, rfl, hbg, ?_, r⟩
    rw [Below.heap_setCell w p u g (fun e => hne (by rw [← e]; rfl))]; exact hg
end

theorem own_drewN {w : World} {base : Nat} {e : TypeId} {size : Nat} {v : Value} {n : Nat} {xs : List Value} (h : w.ownsRow base e size v n xs) (q : Nat) : (w.drewN q).ownsRow base e size v n xs := h
theorem own_base {w : World} {base base' : Nat} {e : TypeId} {size n : Nat} {v : Value} {vs : List Value} (h : w.ownsRow base e size v n vs) (hb : base' ≤ base) : w.ownsRow base' e size v n vs :=
  ⟨h.1, h.2.imp id fun ⟨g, cap, cur, hv, hg, r⟩ => ⟨g, cap, cur, hv, Nat.le_trans hb hg, r⟩⟩

theorem own_cap {w : World} {base : Nat} {e : TypeId} {size n c : Nat} {A : Option Addr} {vs : List Value} (h : w.ownsRow base e size (.slice A n c) n vs) : n ≤ c := by
  rcases h.2 with ⟨h1, h2⟩ | ⟨g, cap, cur, hv, _, _, hnc, _⟩
  · omega
  · injection hv with _ _ h3
    omega
/-- rows of the call's own, no two in one block -/
def OwnRows (t : TypeId) (w : World) (base : Nat) (vs : List Value) (xss : List (List Nat)) : Prop :=
  vs.length = xss.length ∧
  (∀ (i : Nat) (v : Value) (xs : List Nat), vs[i]? = some v → xss[i]? = some xs → ∃ A m c, v = .slice A m c ∧ w.ownsRow base t 1 (.slice A m c) m (xs.map u64v) ∧ W64 xs) ∧
  (∀ (i j : Nat) (v v' : Value) (g : Nat), i ≠ j → vs[i]? = some v → vs[j]? = some v' → v.ownBlock = some g → v'.ownBlock ≠ some g)
section
variable {t : TypeId} {w w' : World} {base : Nat} {vs : List Value} {xss : List (List Nat)}
theorem OwnRows.nil (t : TypeId) (w : World) (base : Nat) : OwnRows t w base [] [] := ⟨rfl, fun i v xs h => by simp at h, fun i j v v' g _ h => by simp at h⟩
theorem OwnRows.below (h : OwnRows t w base vs xss) (hb : Below w.heap.size w w') : OwnRows t w' base vs xss :=
  ⟨h.1, fun i v xs h1 h2 => by
    obtain ⟨A, m, c, e, ho, hx⟩ := h.2.1 i v xs h1 h2
    exact ⟨A, m, c, e, own_below ho hb, hx⟩, h.2.2⟩
theorem OwnRows.rows (h : OwnRows t w base vs xss) : RowsC w vs xss :=
  ⟨h.1, fun i v xs h1 h2 => by
    obtain ⟨A, m, c, e, ho, hx⟩ := h.2.1 i v xs h1 h2
    exact ⟨A, m, c, e, Row.of_own ho hx⟩⟩
theorem OwnRows.base_ {base' : Nat} (h : OwnRows t w base vs xss) (hb : base' ≤ base) : OwnRows t w base' vs xss :=
  ⟨h.1, fun i v xs h1 h2 => by
    obtain ⟨A, m, c, e, ho, hx⟩ := h.2.1 i v xs h1 h2
    exact ⟨A, m, c, e, own_base ho hb, hx⟩, h.2.2⟩
theorem OwnRows.lt (h : OwnRows t w base vs xss) : ∀ v ∈ vs, ∀ g, v.ownBlock = some g → base ≤ g ∧ g < w.heap.size := by
  intro v hv g hg
  obtain ⟨k, hk⟩ := List.getElem?_of_mem hv
  have hl : k < xss.length := by rw [← h.1]; exact (List.getElem?_eq_some_iff.1 hk).1
  obtain ⟨A, m, c, rfl, ho, _⟩ := h.2.1 k v xss[k] hk (List.getElem?_eq_getElem hl)
  exact ho.lt g hg
theorem OwnRows.far (h : OwnRows t w base vs xss) {p : Addr} (hp : p.block < base) (u : Value) : OwnRows t (w.setCell p u) base vs xss :=
  ⟨h.1, fun i v xs h1 h2 => by
    obtain ⟨A, m, c, e, ho, hx⟩ := h.2.1 i v xs h1 h2
    exact ⟨A, m, c, e, own_far ho (fun hh => by have := own_lt_block ho _ hh; omega) u, hx⟩, h.2.2⟩
theorem own_block_lt {e : TypeId} {size n : Nat} {v : Value} (h : w.ownsRow base e size v n vs) : ∀ g, v.ownBlock = some g → g < w.heap.size := fun g hg => (h.lt g hg).2
theorem OwnRows.snoc (h : OwnRows t w base vs xss) (hb : Below w.heap.size w w') {A : Option Addr} {m c : Nat} {xs : List Nat} (ho : w'.ownsRow w.heap.size t 1 (.slice A m c) m (xs.map u64v)) (hx : W64 xs) (hbase : base ≤ w.heap.size) :
    OwnRows t w' base (vs ++ [.slice A m c]) (xss ++ [xs]) := by
  have h' := h.below hb
  refine ⟨by simp [h.1], fun i v ys h1 h2 => ?_, fun i j v v' g hij h1 h2 h3 h4 => ?_⟩
  · rcases Nat.lt_or_ge i vs.length with hi | hi
    · rw [List.getElem?_append_left hi] at h1
      rw [List.getElem?_append_left (by rw [← h.1]; exact hi)] at h2
      exact h'.2.1 i v ys h1 h2
    · rw [List.getElem?_append_right hi] at h1
      rw [List.getElem?_append_right (by rw [← h.1]; exact hi)] at h2
      rw [← h.1] at h2
      rcases Nat.eq_zero_or_pos (i - vs.length) with h0 | h0
      · rw [h0] at h1 h2
        simp at h1 h2
        subst h1 h2
        exact ⟨A, m, c, rfl, own_base ho hbase, hx⟩
      · rw [List.getElem?_eq_none (by simp; omega)] at h1; cases h1
  · have old : ∀ k u g, k < vs.length → vs[k]? = some u → u.ownBlock = some g → g < w.heap.size := fun k u g hk hu hg => by
      obtain ⟨A', m', c', rfl, ho', _⟩ := h.2.1 k u (xss[k]'(by rw [← h.1]; exact hk)) hu (List.getElem?_eq_getElem (by rw [← h.1]; exact hk))
      exact own_block_lt ho' g hg
    have new : ∀ k u g, vs.length ≤ k → (vs ++ [Value.slice A m c])[k]? = some u → u.ownBlock = some g → k = vs.length ∧ w.heap.size ≤ g := fun k u g hk hu hg => by
      rw [List.getElem?_append_right hk] at hu
      rcases Nat.eq_zero_or_pos (k - vs.length) with h0 | h0
      · rw [h0] at hu
        simp at hu
        subst hu
        exact ⟨by omega, own_lt_block ho g hg⟩
      · rw [List.getElem?_eq_none (by simp; omega)] at hu; cases hu
    rcases Nat.lt_or_ge i vs.length with hi | hi <;> rcases Nat.lt_or_ge j vs.length with hj | hj
    · rw [List.getElem?_append_left hi] at h1
      rw [List.getElem?_append_left hj] at h2
      exact h.2.2 i j v v' g hij h1 h2 h3 h4
    · rw [List.getElem?_append_left hi] at h1
      have a := old i v g hi h1 h3
      have b := (new j v' g hj h2 h4).2
      omega
    · rw [List.getElem?_append_left hj] at h2
      have a := old j v' g hj h2 h4
      have b := (new i v g hi h1 h3).2
      omega
    · have a := (new i v g hi h1 h3).1
      have b := (new j v' g hj h2 h4).1
      omega
theorem OwnRows.put (h : OwnRows t w base vs xss) {i : Nat} {g m c : Nat} {xs : List Nat} (hv : vs[i]? = some (.slice (some ⟨g, 0, none⟩) m c)) (hx : xss[i]? = some xs) (q y : Nat) (hy : y < 18446744073709551616) :
    OwnRows t (w.setCell ⟨g, q, none⟩ (u64v y)) base vs (xss.set i (xs.set q y)) := by
  refine ⟨by simp [h.1], fun k v ys h1 h2 => ?_, h.2.2⟩
  rw [List.getElem?_set] at h2
  by_cases hk : i = k
  · subst hk
    rw [if_pos rfl, if_pos (by exact (List.getElem?_eq_some_iff.1 hx).1)] at h2
    injection h2 with h2
    rw [hv] at h1
    injection h1 with h1
    obtain ⟨A, m', c', e, ho, hw⟩ := h.2.1 i _ xs hv hx
    injection e with e1 e2 e3
    subst e1 e2 e3 h1 h2
    refine ⟨_, _, _, rfl, ?_, fun x hx' => ?_⟩
    · rw [List.map_set]; exact (ho.stored q (u64v y)).1
    · rcases List.mem_or_eq_of_mem_set hx' with h5 | h5
      · exact hw x h5
      · rw [h5]; exact hy
  · rw [if_neg hk] at h2
    obtain ⟨A, m', c', e, ho, hw⟩ := h.2.1 k v ys h1 h2
    subst e
    exact ⟨A, m', c', rfl, own_far ho (h.2.2 i k _ _ g hk hv h1 rfl) _, hw⟩
end

/-- the slice '.slice A n c' of pairs of numbers reads as ps -/
def PairsAt (w : World) (A : Option Addr) (n : Nat) (ps : List (Int × Int)) : Prop :=
  ps.length = n ∧ (∀ p ∈ ps, (-9223372036854775808 ≤ p.1 ∧ p.1 < 9223372036854775808) ∧ (-9223372036854775808 ≤ p.2 ∧ p.2 < 9223372036854775808)) ∧
  (0 < n → ∃ b off, A = some ⟨b, off, none⟩ ∧ b < w.heap.size ∧ ∀ (j : Nat) (p : Int × Int), ps[j]? = some p → w.cell? ⟨b, off + j * 2, none⟩ = some (.int .i64 p.1) ∧ w.cell? ⟨b, off + j * 2 + 1, none⟩ = some (.int .i64 p.2))
section
variable {w w' : World} {A : Option Addr} {n : Nat} {ps : List (Int × Int)}
theorem PairsAt.below (h : PairsAt w A n ps) (hb : Below w.heap.size w w') : PairsAt w' A n ps :=
  ⟨h.1, h.2.1, fun hn => by
    obtain ⟨b, off, e, hbl, hc⟩ := h.2.2 hn
    exact ⟨b, off, e, Nat.lt_of_lt_of_le hbl hb.size, fun j p hp => by
      obtain ⟨h1, h2⟩ := hc j p hp
      exact ⟨(hb.cell (p := ⟨b, off + j * 2, none⟩) hbl).trans h1, (hb.cell (p := ⟨b, off + j * 2 + 1, none⟩) hbl).trans h2⟩⟩⟩
theorem PairsAt.at_ {k : Nat} (h : PairsAt w A n ps) (hk : k < n) : ∃ b off p, A = some ⟨b, off, none⟩ ∧ b < w.heap.size ∧ ps[k]? = some p ∧ ((-9223372036854775808 ≤ p.1 ∧ p.1 < 9223372036854775808) ∧ (-9223372036854775808 ≤ p.2 ∧ p.2 < 9223372036854775808)) ∧
    w.cell? ⟨b, off + k * 2, none⟩ = some (.int .i64 p.1) ∧ w.cell? ⟨b, off + k * 2 + 1, none⟩ = some (.int .i64 p.2) := by
  obtain ⟨b, off, e, hb, hc⟩ := h.2.2 (by omega)
  have hl : k < ps.length := by rw [h.1]; exact hk
  exact ⟨b, off, ps[k], e, hb, List.getElem?_eq_getElem hl, h.2.1 _ (List.getElem_mem hl), (hc k _ (List.getElem?_eq_getElem hl)).1, (hc k _ (List.getElem?_eq_getElem hl)).2⟩
end

/-- block g is the matrix that a variable holds -/
def MatB (w : World) (g : Nat) (t : TypeId) (N : Int) (A : Option Addr) (n c : Nat) : Prop := Blk w g t [.int .i64 N, .slice A n c]
section
variable {w w' : World} {g : Nat} {t : TypeId} {N : Int} {A : Option Addr} {n c : Nat}
theorem MatB.c0 (h : MatB w g t N A n c) : w.cell? ⟨g, 0, none⟩ = some (.int .i64 N) := Blk.cell h 0
theorem MatB.c1 (h : MatB w g t N A n c) : w.cell? ⟨g, 1, none⟩ = some (.slice A n c) := Blk.cell h 1
theorem MatB.new (w : World) (t : TypeId) : MatB (w.alloc (.cells #[.int .i64 N, .slice A n c] t)) w.heap.size t N A n c := Blk.new w t _
theorem MatB.new1 (w : World) (o : Obj) (t : TypeId) : MatB ((w.alloc o).alloc (.cells #[.int .i64 N, .slice A n c] t)) (w.heap.size + 1) t N A n c := by
  have h := MatB.new (N := N) (A := A) (n := n) (c := c) (w.alloc o) t
  rwa [show (w.alloc o).heap.size = w.heap.size + 1 from by simp] at h
theorem MatB.two (h : MatB w g t N A n c) (x y : Value) : ((w.setCell ⟨g, 0, none⟩ x).setCell ⟨g, 1, none⟩ y).cell? ⟨g, 0, none⟩ = some x ∧ ((w.setCell ⟨g, 0, none⟩ x).setCell ⟨g, 1, none⟩ y).cell? ⟨g, 1, none⟩ = some y := by
  have h2 := (Blk.set_ (Blk.set_ h 0 x) 1 y)
  exact ⟨by rw [h2.cell 0]; rfl, by rw [h2.cell 1]; rfl⟩
theorem MatB.put (h : MatB w g t N A n c) (N' : Int) (A' : Option Addr) (n' c' : Nat) : MatB ((w.setCell ⟨g, 0, none⟩ (.int .i64 N')).setCell ⟨g, 1, none⟩ (.slice A' n' c')) g t N' A' n' c' :=
  Blk.set_ (Blk.set_ h 0 (.int .i64 N')) 1 (.slice A' n' c')
theorem MatB.below_ (h : MatB w g t N A n c) (hb : Below w.heap.size w w') : MatB w' g t N A n c := Blk.below h hb h.lt
end

/-- what a call that answers a matrix and an error ends in -/
def RetMat (N : Int) (xss : List (List Nat)) (er : Int) (w : World) (e : Ending) (w' : World) : Prop :=
  ∃ A n c, e = .returned (.tuple #[.agg #[.int .i64 N, .slice A n c], .int .i64 er]) ∧ RowsAt w' A n xss ∧ n ≤ c ∧ Below w.heap.size w w'
/-- .. a matrix of the call's own, rows and all (te: the type of rows, tw: of words) -/
def RetMatO (te tw : TypeId) (N : Int) (xss : List (List Nat)) (w : World) (e : Ending) (w' : World) : Prop :=
  ∃ A n c vs, e = .returned (.tuple #[.agg #[.int .i64 N, .slice A n c], .int .i64 0]) ∧ w'.ownsRow w.heap.size te 1 (.slice A n c) n vs ∧ OwnRows tw w' w.heap.size vs xss ∧ (∀ v ∈ vs, ∀ g, v.ownBlock = some g → (Value.slice A n c).ownBlock ≠ some g) ∧ Below w.heap.size w w'
theorem RetMatO.ret {te tw : TypeId} {N : Int} {xss : List (List Nat)} {w w' : World} {e : Ending} (h : RetMatO te tw N xss w e w') : RetMat N xss 0 w e w' := by
  obtain ⟨A, n, c, vs, he, ho, hr, _, hb⟩ := h
  exact ⟨A, n, c, he, ⟨vs, Rd.of_own' ho, hr.rows⟩, own_cap ho, hb⟩
/-- what a call that answers a matrix ends in -/
def RetMat1 (N : Int) (xss : List (List Nat)) (w : World) (e : Ending) (w' : World) : Prop :=
  ∃ A n c, e = .returned (.agg #[.int .i64 N, .slice A n c]) ∧ RowsAt w' A n xss ∧ n ≤ c ∧ Below w.heap.size w w'
/-- a call that answers a bool, and leaves what was there -/
def RetB (b : Bool) (w : World) (e : Ending) (w' : World) : Prop := e = .returned (.bool b) ∧ Below w.heap.size w w'

end Go.Proofs.Ytjmkpoignnbcpaa

namespace Go.Proofs.Ytjmkpoignnbcpaa
open Go.RowKit
set_option linter.unusedVariables false

theorem bcell {W w1 : World} (hb : Below W.heap.size W w1) : (∀ b o, b < W.heap.size → w1.cell? ⟨b, o, none⟩ = W.cell? ⟨b, o, none⟩) ∧ (∀ b o, b < W.heap.size → w1.frozen? ⟨b, o, none⟩ = W.frozen? ⟨b, o, none⟩) :=
  ⟨fun b o h => hb.cell (p := ⟨b, o, none⟩) h, fun b o h => hb.frozen (p := ⟨b, o, none⟩) h⟩



end Go.Proofs.Ytjmkpoignnbcpaa

namespace Go.Proofs.Ytjmkpoignnbcpaa
open Go.RowKit
set_option linter.unusedVariables false

theorem info_row : (Try.prog.info? 61).map (fun i => (i.zero, i.size, i.bytes)) = some (some (.slice none 0 0), 1, 24) := by kernel_rfl
theorem one_rows {w : World} {vs : List Value} {xss : List (List Nat)} (h : RowsC w vs xss) : ∀ u ∈ vs, u.oneCell' = true := by
  intro u hu
  obtain ⟨k, hk⟩ := List.getElem?_of_mem hu
  have hl : k < vs.length := (List.getElem?_eq_some_iff.1 hk).1
  have hl2 : k < xss.length := by rw [← h.1]; exact hl
  obtain ⟨A, n, c, rfl, _⟩ := h.2 k u xss[k] hk (List.getElem?_eq_getElem hl2)
  rfl

/-- a call that answers an outer slice of its own -/
def RetOuter (n : Nat) (vs : List Value) (w : World) (e : Ending) (w' : World) : Prop :=
  ∃ g cap, e = .returned (.slice (some ⟨g, 0, none⟩) n cap) ∧ w'.ownsRow w.heap.size 61 1 (.slice (some ⟨g, 0, none⟩) n cap) n vs ∧ Below w.heap.size w w'



end Go.Proofs.Ytjmkpoignnbcpaa

namespace Go.Proofs.Ytjmkpoignnbcpaa
open Go.RowKit
set_option linter.unusedVariables false

theorem inM_cases {N i j : Int} (h : inM N i j = false) : (i < 0 ∨ N ≤ i) ∨ (belowZ i N = true ∧ (j < 0 ∨ N ≤ j)) := by
  unfold inM at h
  unfold belowZ
  by_cases a : 0 ≤ i <;> by_cases b : i < N <;> by_cases c : 0 ≤ j <;> by_cases d : j < N <;> simp [a, b, c, d] at h ⊢ <;> omega

end Go.Proofs.Ytjmkpoignnbcpaa

namespace Go.Proofs.Ytjmkpoignnbcpaa
open Go.RowKit
set_option linter.unusedVariables false

theorem mk_rows (kl kc : IntKind) (n c : Nat) (hnc : n ≤ c) (hc : c ≤ 1099511627776) (W : World) :
    (Instr.makeSlice 35 (.int kl (n : Int)) (.int kc (c : Int))).run Try.prog W = .ok (.slice (some ⟨W.heap.size, 0, none⟩) n c) (W.alloc (.cells (zeros c (.slice none 0 0)) 61)) := by
  obtain ⟨i, hi, hz0, hz1, hz2⟩ := info_parts info_row
  exact run_make_one _ _ i _ Try.underlying35 hi hz0 hz1 rfl kl kc n c hnc (by rw [hz2]; omega) (by omega) W
/-- rows that are laid one by one: those laid, then nils -/
def filled (vs : List Value) (n : Nat) : List Value := vs ++ List.replicate (n - vs.length) (.slice none 0 0)
theorem filled_nil (n : Nat) : filled [] n = List.replicate n (.slice none 0 0) := by simp [filled]
theorem filled_all {vs : List Value} {n : Nat} (h : vs.length = n) : filled vs n = vs := by simp [filled, h]
theorem filled_len {vs : List Value} {n : Nat} (h : vs.length ≤ n) : (filled vs n).length = n := by simp [filled]; omega
theorem filled_set {vs : List Value} {n : Nat} (h : vs.length < n) (v : Value) : (filled vs n).set vs.length v = filled (vs ++ [v]) n := by
  unfold filled
  obtain ⟨d, hd⟩ : ∃ d, n - vs.length = d + 1 := ⟨n - vs.length - 1, by omega⟩
  rw [List.set_append_right _ _ (Nat.le_refl _), hd, List.length_append, show n - (vs.length + [v].length) = d from by simp; omega]
  simp [List.replicate_succ]
theorem filled_get {vs : List Value} {n : Nat} (h : vs.length < n) : (filled vs n)[vs.length]? = some (.slice none 0 0) := by
  unfold filled
  rw [List.getElem?_append_right (Nat.le_refl _), Nat.sub_self, List.getElem?_replicate, if_pos (by omega)]


end Go.Proofs.Ytjmkpoignnbcpaa

namespace Go.Proofs.Ytjmkpoignnbcpaa
open Go.RowKit
set_option linter.unusedVariables false



end Go.Proofs.Ytjmkpoignnbcpaa

namespace Go.Proofs.Ytjmkpoignnbcpaa
open Go.RowKit
set_option linter.unusedVariables false

/-- what is known at each round's head -/
structure OfI (w : World) (n : Nat) (ps : List (Int × Int)) (A : Option Addr) (c M : Nat) (vs : List Value) (k : Nat) (wr : World) : Prop where
  res : MatB wr w.heap.size 37 0 none 0 0
  loc : MatB wr M 37 (n : Int) A n c
  out : wr.ownsRow (w.heap.size + 1) 61 1 (.slice A n c) n vs
  rows : OwnRows 71 wr (w.heap.size + 1) vs (foldP n (ps.take k))
  below : Below w.heap.size w wr
theorem OfI.keep {w : World} {n : Nat} {ps : List (Int × Int)} {A : Option Addr} {c M : Nat} {vs : List Value} {k : Nat} {wr w' : World} (h : OfI w n ps A c M vs k wr) (hb : Below wr.heap.size wr w') : OfI w n ps A c M vs k w' :=
  ⟨h.res.below_ hb, h.loc.below_ hb, own_below h.out hb, h.rows.below hb, below_trans2 h.below hb⟩
theorem OfI.put {w : World} {n : Nat} {ps : List (Int × Int)} {A : Option Addr} {c M : Nat} {vs : List Value} {k : Nat} {wr : World} (h : OfI w n ps A c M vs k wr) (hsep : ∀ v ∈ vs, ∀ g, v.ownBlock = some g → (Value.slice A n c).ownBlock ≠ some g ∧ g ≠ M) {i j : Nat} {g m d : Nat} {xs : List Nat} {x : Nat}
    (hp : ps[k]? = some ((i : Int), (j : Int))) (hv : vs[i]? = some (.slice (some ⟨g, 0, none⟩) m d)) (hx : (foldP n (ps.take k))[i]? = some xs) (hj : j < 64 * xs.length) (hxq : xs[j / 64]? = some x) (q : Nat) :
    OfI w n ps A c M vs (k + 1) ((wr.drewN q).setCell ⟨g, j / 64, none⟩ (u64v (x ||| p2 (j % 64)))) := by
  have hs := hsep _ (List.mem_of_getElem? hv) g rfl
  have hx64 : x < 18446744073709551616 := by
    obtain ⟨_, _, _, e, ho, hw⟩ := h.rows.2.1 i _ xs hv hx
    exact hw x (List.mem_of_getElem? hxq)
  have hg := h.rows.lt _ (List.mem_of_getElem? hv) g rfl
  have hr := (h.rows.put hv hx (j / 64) (x ||| p2 (j % 64)) (or_p2_lt hx64 (by omega)))
  have he : foldP n (ps.take (k + 1)) = (foldP n (ps.take k)).set i (xs.set (j / 64) (x ||| p2 (j % 64))) := by
    rw [foldP_snoc n ps k _ hp]
    show setM _ (i : Int) (j : Int) = _
    rw [setM_nat hx, setR_in hj hxq]
  refine ⟨?_, ?_, ?_, ?_, ?_⟩
  · exact (Blk.drewN h.res q).far (by show w.heap.size ≠ g; omega) _
  · exact (Blk.drewN h.loc q).far (fun e => hs.2 e.symm) _
  · exact own_far (p := ⟨g, j / 64, none⟩) (own_drewN h.out q) hs.1 _
  · rw [he]; exact hr
  · exact (below_drewN h.below q).setCell (by show w.heap.size ≤ g; omega) _
def ofOk (n : Int) (ps : List (Int × Int)) : Bool := belowZ n 4097 && ps.all (okP n)
def ofN (n : Int) (ps : List (Int × Int)) : Int := if ofOk n ps = true then n else 0
def ofM (n : Int) (ps : List (Int × Int)) : List (List Nat) := if ofOk n ps = true then foldP n.toNat ps else []
def ofE (n : Int) (ps : List (Int × Int)) : Int := if ofOk n ps = true then 0 else 1
theorem okP_no {n : Int} {i j : Int} (h : okP n (i, j) = false) : belowZ i n = false ∨ (belowZ i n = true ∧ belowZ j n = false) := by
  rcases inM_cases h with h | ⟨h1, h2⟩
  · exact .inl (belowZ_no h)
  · exact .inr ⟨h1, belowZ_no h2⟩
theorem okP_yes {n : Int} {i j : Int} (h : okP n (i, j) = true) : belowZ i n = true ∧ belowZ j n = true ∧ 0 ≤ i ∧ i < n ∧ 0 ≤ j ∧ j < n := by
  have h' : inM n i j = true := h
  unfold inM at h'
  simp only [Bool.and_eq_true, decide_eq_true_eq] at h'
  obtain ⟨⟨⟨a, b⟩, c⟩, d⟩ := h'
  exact ⟨belowZ_yes a b, belowZ_yes c d, a, b, c, d⟩

end Go.Proofs.Ytjmkpoignnbcpaa

namespace Go.Proofs.Ytjmkpoignnbcpaa
open Go.RowKit

/-- a row whose block, if it has words, lies outside the blocks lo .. hi - 1 -/
def RowF (w : World) (lo hi : Nat) (v : Value) (xs : List Nat) : Prop := ∃ A n c, v = .slice A n c ∧ Row w A n xs ∧ (0 < n → ∀ ad, A = some ad → ad.block < lo ∨ hi ≤ ad.block)
def RowsF (w : World) (lo hi : Nat) (vs : List Value) (xss : List (List Nat)) : Prop := vs.length = xss.length ∧ ∀ (i : Nat) (v : Value) (xs : List Nat), vs[i]? = some v → xss[i]? = some xs → RowF w lo hi v xs
section
variable {w w' : World} {lo hi : Nat} {A : Option Addr} {n c : Nat} {vs : List Value} {xss : List (List Nat)} {v : Value} {xs : List Nat}
theorem Row.setCell' {p : Addr} (h : Row w A n xs) (hne : 0 < n → ∀ ad, A = some ad → ad.block ≠ p.block) (u : Value) : Row (w.setCell p u) A n xs := by
  rcases Nat.eq_zero_or_pos n with h0 | h0
  · subst h0
    have := h.len
    obtain rfl := List.eq_nil_of_length_eq_zero this
    exact Row.nil _ _
  · exact h.setCell (hne h0) u
theorem RowF.row (h : RowF w lo hi v xs) : RowV w v xs := by
  obtain ⟨A, n, c, e, hr, _⟩ := h; exact ⟨A, n, c, e, hr⟩
theorem RowF.below (h : RowF w lo hi v xs) (hb : Below w.heap.size w w') : RowF w' lo hi v xs := by
  obtain ⟨A, n, c, e, hr, hf⟩ := h; exact ⟨A, n, c, e, hr.below hb, hf⟩
theorem RowF.set {p : Addr} (h : RowF w lo hi v xs) (h1 : lo ≤ p.block) (h2 : p.block < hi) (u : Value) : RowF (w.setCell p u) lo hi v xs := by
  obtain ⟨A, n, c, e, hr, hf⟩ := h
  exact ⟨A, n, c, e, hr.setCell' (fun h0 ad he hh => by have := hf h0 ad he; omega) u, hf⟩
theorem RowF.old {w0 : World} (h : Row w0 A n xs) (hb : Below w0.heap.size w0 w) (hlo : w0.heap.size ≤ lo) : RowF w lo hi (.slice A n c) xs :=
  ⟨A, n, c, rfl, h.below hb, fun h0 ad he => by
    obtain ⟨b, off, e, hbl, _⟩ := h.1.2 h0
    rw [e] at he
    injection he with he
    subst he
    exact .inl (by show b < lo; omega)⟩
theorem RowF.new {t : TypeId} {base : Nat} (h : w.ownsRow base t 1 (.slice A n c) n (xs.map u64v)) (hx : W64 xs) (hhi : hi ≤ base) : RowF w lo hi (.slice A n c) xs :=
  ⟨A, n, c, rfl, Row.of_own h hx, fun _ ad he => by
    subst he
    have := own_lt_block h _ rfl
    exact .inr (by omega)⟩
theorem RowsF.nil (w : World) : RowsF w lo hi [] [] := ⟨rfl, fun i v xs h => by simp at h⟩
theorem RowsF.rows (h : RowsF w lo hi vs xss) : RowsC w vs xss := ⟨h.1, fun i v xs h1 h2 => (h.2 i v xs h1 h2).row⟩
theorem RowsF.below (h : RowsF w lo hi vs xss) (hb : Below w.heap.size w w') : RowsF w' lo hi vs xss := ⟨h.1, fun i v xs h1 h2 => (h.2 i v xs h1 h2).below hb⟩
theorem RowsF.set {p : Addr} (h : RowsF w lo hi vs xss) (h1 : lo ≤ p.block) (h2 : p.block < hi) (u : Value) : RowsF (w.setCell p u) lo hi vs xss := ⟨h.1, fun i v xs h3 h4 => (h.2 i v xs h3 h4).set h1 h2 u⟩
theorem RowsF.snoc (h : RowsF w lo hi vs xss) (hv : RowF w lo hi v xs) : RowsF w lo hi (vs ++ [v]) (xss ++ [xs]) := by
  refine ⟨by simp [h.1], fun i u ys h1 h2 => ?_⟩
  rcases Nat.lt_or_ge i vs.length with hi' | hi'
  · rw [List.getElem?_append_left hi'] at h1
    rw [List.getElem?_append_left (by rw [← h.1]; exact hi')] at h2
    exact h.2 i u ys h1 h2
  · rw [List.getElem?_append_right hi'] at h1
    rw [List.getElem?_append_right (by rw [← h.1]; exact hi')] at h2
    rw [← h.1] at h2
    rcases Nat.eq_zero_or_pos (i - vs.length) with h0 | h0
    · rw [h0] at h1 h2
      simp at h1 h2
      subst h1 h2
      exact hv
    · rw [List.getElem?_eq_none (by simp; omega)] at h1; cases h1
end

theorem or_of_and {x y : Nat} (h : x &&& y = x) : y ||| x = y := by
  apply Nat.eq_of_testBit_eq
  intro i
  have := congrArg (·.testBit i) h
  simp only [Nat.testBit_and, Nat.testBit_or] at this ⊢
  revert this
  cases x.testBit i <;> cases y.testBit i <;> simp
theorem orR_of_sub {a b : List Nat} (hl : b.length = a.length) (h : subR b a = true) : orR a b = a := by
  unfold subR at h
  rw [List.all_eq_true] at h
  unfold orR
  apply List.ext_getElem?
  intro j
  rw [hl, Nat.max_self, List.getElem?_map]
  rcases Nat.lt_or_ge j a.length with hj | hj
  · rw [List.getElem?_range hj]
    have := h j (List.mem_range.2 (by omega))
    rw [beq_iff_eq] at this
    show some (a.getD j 0 ||| b.getD j 0) = _
    rw [or_of_and this, List.getD_eq_getElem?_getD, List.getElem?_eq_getElem hj]; rfl
  · rw [List.getElem?_eq_none (by simpa using hj), List.getElem?_eq_none hj]; rfl
def orPre (a b : List (List Nat)) (k : Nat) : List (List Nat) := (List.range k).map fun i => orR (a.getD i []) (b.getD i [])
theorem orPre_all (a b : List (List Nat)) : orPre a b a.length = orM a b := rfl
theorem orPre_succ (a b : List (List Nat)) (k : Nat) : orPre a b (k + 1) = orPre a b k ++ [orR (a.getD k []) (b.getD k [])] := by
  unfold orPre; rw [List.range_succ, List.map_append]; rfl

end Go.Proofs.Ytjmkpoignnbcpaa

namespace Go.Proofs.Ytjmkpoignnbcpaa
open Go.RowKit
set_option linter.unusedVariables false



end Go.Proofs.Ytjmkpoignnbcpaa

namespace Go.Proofs.Ytjmkpoignnbcpaa
open Go.RowKit
set_option linter.unusedVariables false

theorem and_ones (x t : Nat) : x &&& (2 ^ t - 1) = x % 2 ^ t := Nat.and_two_pow_sub_one_eq_mod x t
theorem mod_eq_of_bits {x t : Nat} (hx : x < 18446744073709551616) (ht : t ≤ 64) : (x % 2 ^ t = x) ↔ ∀ b, b < 64 → b < t ∨ x.testBit b = false := by
  constructor
  · intro h b hb
    rcases Nat.lt_or_ge b t with hbt | hbt
    · exact .inl hbt
    · right
      have hlt : x < 2 ^ t := by rw [← h]; exact Nat.mod_lt _ (Nat.two_pow_pos t)
      exact Nat.testBit_lt_two_pow (Nat.lt_of_lt_of_le hlt (Nat.pow_le_pow_right (by omega) hbt))
  · intro h
    apply Nat.eq_of_testBit_eq
    intro b
    rw [Nat.testBit_mod_two_pow]
    rcases Nat.lt_or_ge b t with hbt | hbt
    · simp [hbt]
    · rcases Nat.lt_or_ge b 64 with hb | hb
      · rcases h b hb with h1 | h1
        · omega
        · rw [h1]; simp
      · rw [bit_out hx hb]; simp
theorem fitsR_len {r : List Nat} {n : Int} (h : ((r.length : Int) = wordsZ n) → False) : fitsR r n = false := by
  unfold fitsR; rw [decide_eq_false h]; rfl
theorem fitsR_last {r : List Nat} {n k t x : Nat} (hn : 0 < n) (hk : r.length = k + 1) (ht : n = 64 * k + t) (ht0 : 0 < t) (ht64 : t ≤ 64) (hx : r[k]? = some x) (hx64 : x < 18446744073709551616) : fitsR r (n : Int) = (x &&& (2 ^ t - 1) == x) := by
  have hw : ((r.length : Int) = wordsZ (n : Int)) := by unfold wordsZ; rw [if_neg (by omega)]; omega
  unfold fitsR
  rw [decide_eq_true hw, Bool.true_and, Bool.eq_iff_iff, List.all_eq_true, beq_iff_eq, and_ones, mod_eq_of_bits hx64 ht64]
  have hg : r.getD k 0 = x := Row.get hx
  constructor
  · intro h b hb
    have := h (64 * k + b) (List.mem_range.2 (by omega))
    rw [hasR_w r k b hb, hg] at this
    rcases Nat.lt_or_ge b t with hbt | hbt
    · exact .inl hbt
    · right
      rw [decide_eq_false (by omega), Bool.false_or] at this
      simpa using this
  · intro h j hj
    have hj' := List.mem_range.1 hj
    rcases Nat.lt_or_ge j n with hjn | hjn
    · rw [decide_eq_true (by omega)]; rfl
    · have e : j = 64 * k + (j - 64 * k) := by omega
      rw [e, hasR_w r k (j - 64 * k) (by omega), hg]
      rcases h (j - 64 * k) (by omega) with h1 | h1
      · omega
      · rw [h1]; simp


theorem rightM_out {N : Int} {xss : List (List Nat)} (h : N < 0 ∨ 4097 ≤ N) : rightM N xss = false := by
  unfold rightM
  rcases h with h | h
  · rw [decide_eq_false (p := 0 ≤ N) (by omega)]; rfl
  · rw [decide_eq_false (p := N ≤ 4096) (by omega)]; simp
theorem rightM_len {N : Int} {xss : List (List Nat)} (h : (xss.length : Int) ≠ N) : rightM N xss = false := by
  unfold rightM; rw [decide_eq_false h]; simp
theorem rightM_row {N : Int} {xss : List (List Nat)} {k : Nat} {xs : List Nat} (hx : xss[k]? = some xs) (h : fitsR xs N = false) : rightM N xss = false := by
  unfold rightM
  rw [List.all_eq_false.2 ⟨xs, List.mem_of_getElem? hx, by rw [h]; simp⟩, Bool.and_false]
theorem rightM_yes {n : Nat} {xss : List (List Nat)} (h1 : n ≤ 4096) (h2 : xss.length = n) (h : ∀ (k : Nat) (xs : List Nat), xss[k]? = some xs → fitsR xs (n : Int) = true) : rightM (n : Int) xss = true := by
  unfold rightM
  rw [decide_eq_true (p := (0 : Int) ≤ n) (by omega), decide_eq_true (p := (n : Int) ≤ 4096) (by omega), decide_eq_true (p := (xss.length : Int) = n) (by omega)]
  simp only [Bool.true_and, List.all_eq_true]
  intro xs hxs
  obtain ⟨k, hk⟩ := List.getElem?_of_mem hxs
  exact h k xs hk


end Go.Proofs.Ytjmkpoignnbcpaa

namespace Go.Proofs.Ytjmkpoignnbcpaa
open Go.RowKit
set_option linter.unusedVariables false

def allF (f : List Nat → List Nat → Bool) (xss yss : List (List Nat)) : Bool := (List.range xss.length).all fun i => f (xss.getD i []) (yss.getD i [])
theorem allF_no {f : List Nat → List Nat → Bool} {xss yss : List (List Nat)} {k : Nat} {xs ys : List Nat} (hx : xss[k]? = some xs) (hy : yss[k]? = some ys) (h : f xs ys = false) : allF f xss yss = false := by
  unfold allF
  refine List.all_eq_false.2 ⟨k, List.mem_range.2 (List.getElem?_eq_some_iff.1 hx).1, ?_⟩
  rw [getD_at hx, getD_at hy, h]; simp
theorem allF_yes {f : List Nat → List Nat → Bool} {xss yss : List (List Nat)} (hl : xss.length = yss.length) (h : ∀ (k : Nat) (xs ys : List Nat), k < xss.length → xss[k]? = some xs → yss[k]? = some ys → f xs ys = true) : allF f xss yss = true := by
  unfold allF
  rw [List.all_eq_true]
  intro k hk
  have hk' := List.mem_range.1 hk
  have hx := List.getElem?_eq_getElem hk'
  have hy := List.getElem?_eq_getElem (l := yss) (i := k) (by omega)
  rw [getD_at hx, getD_at hy]
  exact h k _ _ hk' hx hy
theorem allF_sub (xss yss : List (List Nat)) : allF subR xss yss = subM xss yss := rfl
theorem allF_same {xss yss : List (List Nat)} (hl : xss.length = yss.length) : allF sameR xss yss = sameM xss yss := by
  rw [Bool.eq_iff_iff]
  unfold sameM
  rw [beq_iff_eq]
  constructor
  · intro h
    unfold allF at h
    rw [List.all_eq_true] at h
    apply List.ext_getElem hl
    intro i h1 h2
    have := h i (List.mem_range.2 h1)
    rw [getD_at (List.getElem?_eq_getElem h1), getD_at (List.getElem?_eq_getElem h2)] at this
    unfold sameR at this
    simpa using this
  · intro h
    subst h
    exact allF_yes rfl (fun k xs ys _ hx hy => by rw [hx] at hy; injection hy with hy; subst hy; exact sameR_refl xs)




end Go.Proofs.Ytjmkpoignnbcpaa

namespace Go.Proofs.Ytjmkpoignnbcpaa
open Go.RowKit
set_option linter.unusedVariables false

def cellsP (ps : List (Int × Int)) : List Value := ps.flatMap fun p => [.int .i64 p.1, .int .i64 p.2]
theorem cellsP_len (ps : List (Int × Int)) : (cellsP ps).length = ps.length * 2 := by
  induction ps with
  | nil => rfl
  | cons p ps ih =>
    unfold cellsP at ih ⊢
    rw [List.flatMap_cons, List.length_append, ih]
    simp; omega
theorem cellsP_snoc (ps : List (Int × Int)) (p : Int × Int) : cellsP (ps ++ [p]) = cellsP ps ++ [.int .i64 p.1, .int .i64 p.2] := by
  unfold cellsP; rw [List.flatMap_append]; simp
theorem cellsP_get : ∀ (ps : List (Int × Int)) (j : Nat) (p : Int × Int), ps[j]? = some p → (cellsP ps)[j * 2]? = some (.int .i64 p.1) ∧ (cellsP ps)[j * 2 + 1]? = some (.int .i64 p.2)
  | [], j, p, h => by simp at h
  | q :: ps, 0, p, h => by
    simp at h
    subst h
    unfold cellsP
    simp
  | q :: ps, j + 1, p, h => by
    have ih := cellsP_get ps j p (by simpa using h)
    unfold cellsP at ih ⊢
    rw [List.flatMap_cons]
    rw [show (j + 1) * 2 = j * 2 + 2 from by omega]
    exact ⟨by simpa using ih.1, by simpa using ih.2⟩
def OkI (ps : List (Int × Int)) : Prop := ∀ p ∈ ps, (-9223372036854775808 ≤ p.1 ∧ p.1 < 9223372036854775808) ∧ (-9223372036854775808 ≤ p.2 ∧ p.2 < 9223372036854775808)
theorem PairsAt.of_own {w : World} {base n : Nat} {e : TypeId} {v : Value} {ps : List (Int × Int)} (h : w.ownsRow base e 2 v n (cellsP ps)) (hp : OkI ps) : ∃ A c, v = .slice A n c ∧ PairsAt w A n ps := by
  have hlen : ps.length = n := by have := h.1; rw [cellsP_len] at this; omega
  rcases h.2 with ⟨rfl, h0⟩ | ⟨g, cap, cur, rfl, hbg, hg, hnc, hcm, hcs, htake⟩
  · obtain rfl : n = 0 := h0
    exact ⟨none, 0, rfl, hlen, hp, fun hh => by omega⟩
  · refine ⟨_, _, rfl, hlen, hp, fun hn => ⟨g, 0, rfl, (Array.getElem?_eq_some_iff.1 hg).1, fun j p hj => ?_⟩⟩
    have hjl : j < ps.length := (List.getElem?_eq_some_iff.1 hj).1
    obtain ⟨h1, h2⟩ := cellsP_get ps j p hj
    have key : ∀ q u, q < n * 2 → (cellsP ps)[q]? = some u → w.cell? ⟨g, 0 + q, none⟩ = some u := fun q u hq hu => by
      rw [Nat.zero_add, cell_of_row w g q cur e (0, 0) hg]
      rw [← htake, List.getElem?_take_of_lt hq] at hu
      simpa using hu
    refine ⟨key _ _ (by omega) h1, ?_⟩
    have := key (j * 2 + 1) _ (by omega) h2
    rwa [show 0 + (j * 2 + 1) = 0 + j * 2 + 1 from by omega] at this

/-! ### the pairs of a matrix -/
def pairsK (xss : List (List Nat)) (k : Nat) : List (Int × Int) := (List.range k).flatMap fun i => (listR (xss.getD i [])).map fun j => ((i : Int), j)
def pairsM (xss : List (List Nat)) : List (Int × Int) := pairsK xss xss.length
theorem pairsK_succ {xss : List (List Nat)} {k : Nat} {xs : List Nat} (h : xss[k]? = some xs) : pairsK xss (k + 1) = pairsK xss k ++ (listR xs).map fun j => ((k : Int), j) := by
  unfold pairsK
  rw [List.range_succ, List.flatMap_append, List.flatMap_singleton, getD_at h]
def sumK (xss : List (List Nat)) (k : Nat) : Nat := ((List.range k).map fun i => countR (xss.getD i [])).sum
theorem sumK_succ {xss : List (List Nat)} {k : Nat} {xs : List Nat} (h : xss[k]? = some xs) : sumK xss (k + 1) = sumK xss k + countR xs := by
  unfold sumK
  rw [List.range_succ, List.map_append, List.sum_append, List.map_singleton, List.sum_singleton, getD_at h]
theorem sumK_le {xss : List (List Nat)} (B : Nat) (hl : ∀ (i : Nat) (xs : List Nat), xss[i]? = some xs → xs.length ≤ B) : ∀ k, sumK xss k ≤ k * (64 * B)
  | 0 => by simp [sumK]
  | k + 1 => by
    have ih := sumK_le B hl k
    unfold sumK at ih ⊢
    rw [List.range_succ, List.map_append, List.sum_append, List.map_singleton, List.sum_singleton]
    have : countR (xss.getD k []) ≤ 64 * B := by
      rcases Nat.lt_or_ge k xss.length with hk | hk
      · have hx := List.getElem?_eq_getElem hk
        rw [getD_at hx]
        exact Nat.le_trans (countR_le _) (Nat.mul_le_mul_left _ (hl k _ hx))
      · rw [List.getD_eq_getElem?_getD, List.getElem?_eq_none hk]; simp [countR]
    rw [Nat.succ_mul]
    omega
theorem pairsK_len (xss : List (List Nat)) (k : Nat) : (pairsK xss k).length = sumK xss k := by
  unfold pairsK sumK
  rw [List.length_flatMap]
  congr 1
  apply List.map_congr_left
  intro i _
  rw [List.length_map, listR_len]
theorem pairsM_ok (xss : List (List Nat)) (h1 : xss.length ≤ 1073741824) (h : ∀ (i : Nat) (xs : List Nat), xss[i]? = some xs → xs.length ≤ 1073741824) : OkI (pairsM xss) := by
  intro p hp
  unfold pairsM pairsK at hp
  rw [List.mem_flatMap] at hp
  obtain ⟨i, hi, hp⟩ := hp
  have hil := List.mem_range.1 hi
  have hx := List.getElem?_eq_getElem hil
  rw [getD_at hx, List.mem_map] at hp
  obtain ⟨j, hj, rfl⟩ := hp
  unfold listR at hj
  obtain ⟨q, hq, rfl⟩ := List.mem_map.1 hj
  have := ((listN_mem _ q).1 hq).1
  have := h i _ hx
  show (-9223372036854775808 ≤ (i : Int) ∧ (i : Int) < 9223372036854775808) ∧ (-9223372036854775808 ≤ (q : Int) ∧ (q : Int) < 9223372036854775808)
  omega

theorem info_pair : (Try.prog.info? 49).map (fun i => (i.zero, i.size, i.bytes)) = some (some (.agg #[.int .i64 0, .int .i64 0]), 2, 16) := by kernel_rfl
theorem mk_pairs (kl kc : IntKind) (c : Nat) (hc : c ≤ 1099511627776) (W : World) :
    (Instr.makeSlice 47 (.int kl 0) (.int kc (c : Int))).run Try.prog W = .ok (.slice (some ⟨W.heap.size, 0, none⟩) 0 c) (W.alloc (.cells (madeCells #[.int .i64 0, .int .i64 0] (c * 2)) 49)) := by
  obtain ⟨i, hi, hz0, hz1, hz2⟩ := info_parts info_pair
  have hr := run_make (P := Try.prog) W _ _ i _ Try.underlying47 hi hz0 kl kc 0 c (by omega) (by omega) (by rw [hz2]; omega) (by omega)
  rw [hr, hz1]
  rfl
theorem cell_two_new (w : World) (t : TypeId) (x y : Value) : ∀ (j : Nat) (u : Value), [x, y][j]? = some u → (w.alloc (.cells #[x, y] t)).cell? ((⟨w.heap.size, 0, none⟩ : Addr).add j) = some u := by
  intro j u hu
  have hB := Blk.new w t [x, y]
  have h := hB.cell j
  have e : (⟨w.heap.size, 0, none⟩ : Addr).add j = ⟨w.heap.size, j, none⟩ := by unfold Addr.add; split <;> simp_all
  rw [e]
  exact h.trans hu

/-- what a call that answers pairs ends in -/
def RetPairs (ps : List (Int × Int)) (w : World) (e : Ending) (w' : World) : Prop := ∃ A n c, e = .returned (.slice A n c) ∧ PairsAt w' A n ps ∧ Below w.heap.size w w'

end Go.Proofs.Ytjmkpoignnbcpaa

namespace Go.Proofs.Ytjmkpoignnbcpaa

/-- the lowest bits of each field of 2 s bits -/
def lowS (s : Nat) : Nat := 18446744073709551615 / (2 ^ s + 1)
def swapS (s x y : Nat) : Nat := (x >>> s ^^^ y) &&& lowS s
def newX (s x y : Nat) : Nat := x ^^^ swapS s x y <<< s
def newY (s x y : Nat) : Nat := y ^^^ swapS s x y
def Size (s : Nat) : Prop := s = 32 ∨ s = 16 ∨ s = 8 ∨ s = 4 ∨ s = 2 ∨ s = 1
theorem lowS_bit {s : Nat} (hs : Size s) : ∀ j, j < 64 → (lowS s).testBit j = decide (j / s % 2 = 0) := by
  rcases hs with h | h | h | h | h | h <;> subst h <;> decide +kernel
theorem lowS_lt {s : Nat} (hs : Size s) : lowS s < 2 ^ (64 - s) := by
  rcases hs with h | h | h | h | h | h <;> subst h <;> decide +kernel
theorem Size.le {s : Nat} (hs : Size s) : 0 < s ∧ s ≤ 32 := by
  rcases hs with h | h | h | h | h | h <;> subst h <;> omega
theorem swapS_lt {s : Nat} (hs : Size s) (x y : Nat) : swapS s x y < 2 ^ (64 - s) := Nat.lt_of_le_of_lt Nat.and_le_right (lowS_lt hs)
theorem swapS_shl {s : Nat} (hs : Size s) (x y : Nat) : swapS s x y <<< s < 18446744073709551616 := by
  rw [Nat.shiftLeft_eq]
  have h := swapS_lt hs x y
  have h2 : 2 ^ (64 - s) * 2 ^ s = 18446744073709551616 := by
    rw [← Nat.pow_add, Nat.sub_add_cancel (by have := hs.le; omega)]
  have := Nat.mul_lt_mul_of_pos_right h (Nat.two_pow_pos s)
  omega
theorem newX_lt {s x y : Nat} (hs : Size s) (hx : x < 18446744073709551616) : newX s x y < 18446744073709551616 :=
  Nat.xor_lt_two_pow (n := 64) hx (swapS_shl hs x y)
theorem swapS_lt64 {s : Nat} (hs : Size s) (x y : Nat) : swapS s x y < 18446744073709551616 := by
  have h := swapS_lt hs x y
  have : 2 ^ (64 - s) ≤ 2 ^ 64 := Nat.pow_le_pow_right (by omega) (by omega)
  omega
theorem newY_lt {s x y : Nat} (hs : Size s) (hy : y < 18446744073709551616) : newY s x y < 18446744073709551616 :=
  Nat.xor_lt_two_pow (n := 64) hy (swapS_lt64 hs x y)
theorem swapS_bit {s : Nat} (hs : Size s) (x y j : Nat) (hj : j < 64) : (swapS s x y).testBit j = ((x.testBit (s + j) ^^ y.testBit j) && decide (j / s % 2 = 0)) := by
  unfold swapS
  rw [Nat.testBit_and, Nat.testBit_xor, Nat.testBit_shiftRight, lowS_bit hs j hj]
theorem newY_bit {s : Nat} (hs : Size s) (x y j : Nat) (hj : j < 64) : (newY s x y).testBit j = if j / s % 2 = 0 then x.testBit (s + j) else y.testBit j := by
  unfold newY
  rw [Nat.testBit_xor, swapS_bit hs x y j hj]
  by_cases h : j / s % 2 = 0
  · rw [if_pos h, decide_eq_true h]; cases x.testBit (s + j) <;> cases y.testBit j <;> rfl
  · rw [if_neg h, decide_eq_false h]; cases x.testBit (s + j) <;> cases y.testBit j <;> rfl
theorem div_mod_two {j s : Nat} (hs : Size s) : (s ≤ j ∧ (j - s) / s % 2 = 0) ↔ j / s % 2 = 1 := by
  have h0 := hs.le.1
  constructor
  · rintro ⟨h1, h2⟩
    have : j / s = (j - s) / s + 1 := by
      rw [show j = (j - s) + s from by omega, Nat.add_div_right _ h0]; simp
    omega
  · intro h
    have h1 : s ≤ j := by
      rcases Nat.lt_or_ge j s with hlt | hge
      · rw [Nat.div_eq_of_lt hlt] at h; omega
      · exact hge
    refine ⟨h1, ?_⟩
    have : j / s = (j - s) / s + 1 := by
      rw [show j = (j - s) + s from by omega, Nat.add_div_right _ h0]; simp
    omega
theorem newX_bit {s : Nat} (hs : Size s) (x y j : Nat) (hj : j < 64) : (newX s x y).testBit j = if j / s % 2 = 1 then y.testBit (j - s) else x.testBit j := by
  unfold newX
  rw [Nat.testBit_xor, Nat.testBit_shiftLeft]
  by_cases h : j / s % 2 = 1
  · obtain ⟨h1, h2⟩ := (div_mod_two hs).2 h
    rw [if_pos h, decide_eq_true (by exact h1), swapS_bit hs x y (j - s) (by omega), decide_eq_true h2, show s + (j - s) = j from by omega]
    cases x.testBit j <;> cases y.testBit (j - s) <;> rfl
  · rw [if_neg h]
    by_cases h1 : s ≤ j
    · have h2 : ¬ (j - s) / s % 2 = 0 := fun h2 => h ((div_mod_two hs).1 ⟨h1, h2⟩)
      rw [swapS_bit hs x y (j - s) (by omega), decide_eq_false h2]
      simp
    · rw [decide_eq_false (by exact h1)]; simp

/-! ### one size: the rows, one by one -/
def midB (s : Nat) (old : List Nat) (m : Nat) : List Nat := (List.range 64).map fun r =>
  if r / s % 2 = 0 then (if r < m then newX s (old.getD r 0) (old.getD (r + s) 0) else old.getD r 0)
  else (if r < m + s then newY s (old.getD (r - s) 0) (old.getD r 0) else old.getD r 0)
def flipR (s : Nat) (old : List Nat) : List Nat := midB s old 64
theorem midB_len (s : Nat) (old : List Nat) (m : Nat) : (midB s old m).length = 64 := by simp [midB]
theorem midB_get (s : Nat) (old : List Nat) (m r : Nat) (hr : r < 64) : (midB s old m)[r]? = some (if r / s % 2 = 0 then (if r < m then newX s (old.getD r 0) (old.getD (r + s) 0) else old.getD r 0)
  else (if r < m + s then newY s (old.getD (r - s) 0) (old.getD r 0) else old.getD r 0)) := by
  unfold midB; rw [List.getElem?_map, List.getElem?_range hr]; rfl
theorem midB_zero {s : Nat} (hs : Size s) {old : List Nat} (hl : old.length = 64) : midB s old 0 = old := by
  apply List.ext_getElem?
  intro r
  rcases Nat.lt_or_ge r 64 with hr | hr
  · rw [midB_get s old 0 r hr]
    have hx := List.getElem?_eq_getElem (l := old) (i := r) (by omega)
    have hg : old.getD r 0 = old[r]'(by omega) := getD_at hx
    rw [hx]
    by_cases h : r / s % 2 = 0
    · rw [if_pos h, if_neg (by omega), hg]
    · have : s ≤ r := ((div_mod_two hs).2 (by omega)).1
      rw [if_neg h, if_neg (by omega), hg]
  · rw [List.getElem?_eq_none (by rw [midB_len]; exact hr), List.getElem?_eq_none (by omega)]
theorem midB_skip {s : Nat} (hs : Size s) (old : List Nat) (m : Nat) (h : ¬ m / s % 2 = 0) : midB s old (m + 1) = midB s old m := by
  unfold midB
  apply List.map_congr_left
  intro r _
  by_cases hr : r / s % 2 = 0
  · rw [if_pos hr, if_pos hr]
    by_cases h1 : r < m
    · rw [if_pos (by omega), if_pos h1]
    · rw [if_neg h1, if_neg]
      intro h2
      have : r = m := by omega
      subst this; exact h hr
  · rw [if_neg hr, if_neg hr]
    by_cases h1 : r < m + s
    · rw [if_pos (by omega), if_pos h1]
    · rw [if_neg h1, if_neg]
      intro h2
      have : r = m + s := by omega
      subst this
      have := ((div_mod_two (j := m + s) hs).2 (by omega)).2
      rw [Nat.add_sub_cancel] at this
      exact h this
theorem midB_step {s : Nat} (hs : Size s) (old : List Nat) (m : Nat) (h : m / s % 2 = 0) : midB s old (m + 1) = ((midB s old m).set m (newX s (old.getD m 0) (old.getD (m + s) 0))).set (m + s) (newY s (old.getD m 0) (old.getD (m + s) 0)) := by
  have h0 := hs.le.1
  have hms : ¬ (m + s) / s % 2 = 0 := by rw [Nat.add_div_right _ h0]; omega
  apply List.ext_getElem?
  intro r
  rcases Nat.lt_or_ge r 64 with hr | hr
  · rw [midB_get s old (m + 1) r hr, List.getElem?_set, List.getElem?_set, midB_get s old m r hr, List.length_set, midB_len]
    by_cases e1 : m + s = r
    · subst e1
      rw [if_pos rfl, if_pos hr, if_neg hms, if_pos (by omega), Nat.add_sub_cancel]
    · rw [if_neg e1]
      by_cases e2 : m = r
      · subst e2
        rw [if_pos rfl, if_pos hr, if_pos h, if_pos (by omega)]
      · rw [if_neg e2]
        congr 1
        by_cases hrr : r / s % 2 = 0
        · rw [if_pos hrr, if_pos hrr]
          by_cases h1 : r < m
          · rw [if_pos (by omega), if_pos h1]
          · rw [if_neg (by omega), if_neg h1]
        · rw [if_neg hrr, if_neg hrr]
          by_cases h1 : r < m + s
          · rw [if_pos (by omega), if_pos h1]
          · rw [if_neg (by omega), if_neg h1]
  · rw [List.getElem?_eq_none (by rw [midB_len]; exact hr), List.getElem?_eq_none (by rw [List.length_set, List.length_set, midB_len]; exact hr)]
theorem midB_at {s : Nat} (hs : Size s) (old : List Nat) (m : Nat) (hm : m < 64) (h : m / s % 2 = 0) : m + s < 64 ∧ (midB s old m)[m]? = some (old.getD m 0) ∧ (midB s old m)[m + s]? = some (old.getD (m + s) 0) := by
  have h0 := hs.le.1
  have hms : ¬ (m + s) / s % 2 = 0 := by rw [Nat.add_div_right _ h0]; omega
  have hlt : m + s < 64 := by
    rcases hs with e | e | e | e | e | e <;> subst e <;> omega
  refine ⟨hlt, ?_, ?_⟩
  · rw [midB_get s old m m hm, if_pos h, if_neg (by omega)]
  · rw [midB_get s old m (m + s) hlt, if_neg hms, if_neg (by omega)]
theorem midB_w64 {s : Nat} (hs : Size s) {old : List Nat} (h : W64 old) (m : Nat) : W64 (midB s old m) := by
  intro x hx
  unfold midB at hx
  obtain ⟨r, _, rfl⟩ := List.mem_map.1 hx
  by_cases a : r / s % 2 = 0
  · rw [if_pos a]
    by_cases b : r < m
    · rw [if_pos b]; exact newX_lt hs (getD_w64 h r)
    · rw [if_neg b]; exact getD_w64 h r
  · rw [if_neg a]
    by_cases b : r < m + s
    · rw [if_pos b]; exact newY_lt hs (getD_w64 h r)
    · rw [if_neg b]; exact getD_w64 h r

/-! ### the bits -/
/-- r, with j's bit of that size -/
def swB (s r j : Nat) : Nat := r - r / s % 2 * s + j / s % 2 * s
theorem flipR_bit {s : Nat} (hs : Size s) (old : List Nat) (r j : Nat) (hr : r < 64) (hj : j < 64) : ((flipR s old).getD r 0).testBit j = (old.getD (swB s r j) 0).testBit (swB s j r) := by
  unfold flipR
  rw [getD_at (midB_get s old 64 r hr)]
  have h2 : r / s % 2 = 0 ∨ r / s % 2 = 1 := by omega
  have h3 : j / s % 2 = 0 ∨ j / s % 2 = 1 := by omega
  rcases h2 with h2 | h2
  · rw [if_pos h2, if_pos hr, newX_bit hs _ _ _ hj]
    rcases h3 with h3 | h3
    · rw [if_neg (by omega)]
      unfold swB
      rw [h2, h3]; simp
    · rw [if_pos h3]
      unfold swB
      rw [h2, h3]; simp
  · rw [if_neg (by omega), if_pos (by omega), newY_bit hs _ _ _ hj]
    rcases h3 with h3 | h3
    · rw [if_pos h3]
      unfold swB
      rw [h2, h3]; simp [Nat.add_comm]
    · rw [if_neg (by omega)]
      have h4 := ((div_mod_two hs).2 h2).1
      have h5 := ((div_mod_two hs).2 h3).1
      unfold swB
      rw [h2, h3, Nat.one_mul, Nat.sub_add_cancel h4, Nat.sub_add_cancel h5]
theorem swB_lt {s r j : Nat} (hs : Size s) (hr : r < 64) (hj : j < 64) : swB s r j < 64 := by
  unfold swB
  rcases hs with e | e | e | e | e | e <;> subst e <;> omega
/-- the sizes that are left from a size on -/
def sizesTo : List Nat := [32, 16, 8, 4, 2, 1]
def flipB (b : List Nat) : List Nat := sizesTo.foldl (fun b s => flipR s b) b
theorem flip_pair : ∀ r, r < 64 → ∀ j, j < 64 →
    (let p1 := (swB 1 r j, swB 1 j r); let p2 := (swB 2 p1.1 p1.2, swB 2 p1.2 p1.1); let p3 := (swB 4 p2.1 p2.2, swB 4 p2.2 p2.1); let p4 := (swB 8 p3.1 p3.2, swB 8 p3.2 p3.1); let p5 := (swB 16 p4.1 p4.2, swB 16 p4.2 p4.1); (swB 32 p5.1 p5.2, swB 32 p5.2 p5.1)) = (j, r) := by decide +kernel
theorem flipB_bit (b : List Nat) (r j : Nat) (hr : r < 64) (hj : j < 64) : ((flipB b).getD r 0).testBit j = (b.getD j 0).testBit r := by
  have S32 : Size 32 := .inl rfl
  have S16 : Size 16 := .inr (.inl rfl)
  have S8 : Size 8 := .inr (.inr (.inl rfl))
  have S4 : Size 4 := .inr (.inr (.inr (.inl rfl)))
  have S2 : Size 2 := .inr (.inr (.inr (.inr (.inl rfl))))
  have S1 : Size 1 := .inr (.inr (.inr (.inr (.inr rfl))))
  have hp := flip_pair r hr j hj
  simp only [Prod.mk.injEq] at hp
  obtain ⟨hp1, hp2⟩ := hp
  show ((flipR 1 (flipR 2 (flipR 4 (flipR 8 (flipR 16 (flipR 32 b)))))).getD r 0).testBit j = _
  have a1 := swB_lt S1 hr hj
  have a2 := swB_lt S1 hj hr
  have b1 := swB_lt S2 a1 a2
  have b2 := swB_lt S2 a2 a1
  have c1 := swB_lt S4 b1 b2
  have c2 := swB_lt S4 b2 b1
  have d1 := swB_lt S8 c1 c2
  have d2 := swB_lt S8 c2 c1
  have e1 := swB_lt S16 d1 d2
  have e2 := swB_lt S16 d2 d1
  rw [flipR_bit S1 _ _ _ hr hj, flipR_bit S2 _ _ _ a1 a2, flipR_bit S4 _ _ _ b1 b2, flipR_bit S8 _ _ _ c1 c2, flipR_bit S16 _ _ _ d1 d2, flipR_bit S32 _ _ _ e1 e2, hp1, hp2]
theorem flipB_len (b : List Nat) : (flipB b).length = 64 := midB_len _ _ _
theorem flipR_w64 {s : Nat} (hs : Size s) {b : List Nat} (h : W64 b) : W64 (flipR s b) := midB_w64 hs h 64
theorem flipB_w64 {b : List Nat} (h : W64 b) : W64 (flipB b) :=
  flipR_w64 (.inr (.inr (.inr (.inr (.inr rfl))))) (flipR_w64 (.inr (.inr (.inr (.inr (.inl rfl))))) (flipR_w64 (.inr (.inr (.inr (.inl rfl)))) (flipR_w64 (.inr (.inr (.inl rfl))) (flipR_w64 (.inr (.inl rfl)) (flipR_w64 (.inl rfl) h)))))

end Go.Proofs.Ytjmkpoignnbcpaa

namespace Go.Proofs.Ytjmkpoignnbcpaa
open Go.RowKit
set_option linter.unusedVariables false

/-- all but block g is as it was; how often the order was drawn is not said -/
structure OnlyAt (g : Nat) (w w' : World) : Prop where
  os : w'.os = w.os
  tape : w'.tape = w.tape
  output : w'.output = w.output
  size : w'.heap.size = w.heap.size
  block : ∀ k, k ≠ g → w'.heap[k]? = w.heap[k]?
theorem OnlyAt.refl (g : Nat) (w : World) : OnlyAt g w w := ⟨rfl, rfl, rfl, rfl, fun _ _ => rfl⟩
theorem OnlyAt.drewN {g : Nat} {w w' : World} (h : OnlyAt g w w') (n : Nat) : OnlyAt g w (w'.drewN n) := ⟨h.os, h.tape, h.output, h.size, h.block⟩
theorem OnlyAt.set {g : Nat} {w w' : World} (h : OnlyAt g w w') (o : Nat) (u : Value) : OnlyAt g w (w'.setCell ⟨g, o, none⟩ u) :=
  ⟨h.os, h.tape, h.output, by simpa using h.size, fun k hk => (Below.heap_setCell w' ⟨g, o, none⟩ u k (by simpa using hk)).trans (h.block k hk)⟩
theorem OnlyAt.below {g : Nat} {w w' : World} (h : OnlyAt g w w') : Below g w w' := ⟨h.os, h.tape, h.output, by rw [h.size]; exact Nat.le_refl _, fun k hk => h.block k (by omega)⟩
theorem OnlyAt.trans {g : Nat} {a b c : World} (h : OnlyAt g a b) (k : OnlyAt g b c) : OnlyAt g a c :=
  ⟨k.os.trans h.os, k.tape.trans h.tape, k.output.trans h.output, k.size.trans h.size, fun i hi => (k.block i hi).trans (h.block i hi)⟩
theorem OnlyAt.cell {g : Nat} {w w' : World} (h : OnlyAt g w w') {p : Addr} (hp : p.block ≠ g) : w'.cell? p = w.cell? p := World.cell?_of_block (h.block _ hp)

def szq (q : Nat) : Nat := [32, 16, 8, 4, 2, 1].getD q 0
def flipK (q : Nat) (b : List Nat) : List Nat := (sizesTo.take q).foldl (fun b s => flipR s b) b
theorem szq_size {q : Nat} (h : q < 6) : Size (szq q) ∧ szq q / 2 = szq (q + 1) ∧ 0 < szq q := by
  have : q = 0 ∨ q = 1 ∨ q = 2 ∨ q = 3 ∨ q = 4 ∨ q = 5 := by omega
  unfold Size
  rcases this with e | e | e | e | e | e <;> subst e <;> decide
theorem flipK_succ {q : Nat} (h : q < 6) (b : List Nat) : flipK (q + 1) b = flipR (szq q) (flipK q b) := by
  have : q = 0 ∨ q = 1 ∨ q = 2 ∨ q = 3 ∨ q = 4 ∨ q = 5 := by omega
  rcases this with e | e | e | e | e | e <;> subst e <;> rfl
theorem flipK_all (b : List Nat) : flipK 6 b = flipB b := rfl
theorem flipK_len (b : List Nat) (hb : b.length = 64) : ∀ q, q ≤ 6 → (flipK q b).length = 64
  | 0, _ => hb
  | q + 1, h => by rw [flipK_succ (by omega)]; exact midB_len _ _ _
theorem flipK_w64 (b : List Nat) (hb : W64 b) : ∀ q, q ≤ 6 → W64 (flipK q b)
  | 0, _ => hb
  | q + 1, h => by rw [flipK_succ (by omega)]; exact flipR_w64 (szq_size (by omega)).1 (flipK_w64 b hb q (by omega))
theorem and_size {s : Nat} (hs : Size s) : ∀ m, m < 64 → (m &&& s = 0 ↔ m / s % 2 = 0) := by
  rcases hs with h | h | h | h | h | h <;> subst h <;> decide +kernel
theorem size_test {s : Nat} (hs : Size s) {m : Nat} (hm : m < 64) : (bits BinOp.and IntKind.i64 (m : Int) (s : Int) != 0) = decide (¬ m / s % 2 = 0) := by
  have h1 := hs.le
  rw [i64_and_nat m s (by omega) (by omega), Bool.eq_iff_iff, bne_iff_ne, decide_eq_true_eq, ← and_size hs m hm]
  omega

theorem shr_nat (x s : Nat) : (x : Int) / 2 ^ s = ((x >>> s : Nat) : Int) := by
  rw [Nat.shiftRight_eq_div_pow, Int.natCast_ediv]; simp
theorem swap_eq {s x y : Nat} (hs : Size s) (hx : x < 18446744073709551616) (hy : y < 18446744073709551616) : bits BinOp.and IntKind.u64 (bits BinOp.xor IntKind.u64 ((x : Int) / 2 ^ s) (y : Int)) (lowS s : Nat) = ((swapS s x y : Nat) : Int) := by
  have h1 : x >>> s < 18446744073709551616 := by
    rw [Nat.shiftRight_eq_div_pow]; exact Nat.lt_of_le_of_lt (Nat.div_le_self _ _) hx
  have h2 : lowS s < 18446744073709551616 := by
    have h := lowS_lt hs
    have : 2 ^ (64 - s) ≤ 2 ^ 64 := Nat.pow_le_pow_right (by omega) (by omega)
    omega
  rw [shr_nat, u64_xor_nat _ _ h1 hy, u64_and_nat _ _ (Nat.xor_lt_two_pow (n := 64) h1 hy) h2]
  rfl
theorem shl_eq {s x y : Nat} (hs : Size s) : IntKind.u64.wrap (((swapS s x y : Nat) : Int) * 2 ^ s) = ((swapS s x y <<< s : Nat) : Int) := by
  have h := swapS_shl hs x y
  rw [Nat.shiftLeft_eq] at h ⊢
  rw [IntKind.wrap_u64, Int.natCast_mul, Int.natCast_pow]
  have e : ((2 : Nat) : Int) = 2 := rfl
  rw [e]
  have h' : ((swapS s x y * 2 ^ s : Nat) : Int) < 18446744073709551616 := by omega
  rw [Int.natCast_mul, Int.natCast_pow, e] at h'
  have h0 : (0 : Int) ≤ (swapS s x y : Int) * 2 ^ s := Int.mul_nonneg (by omega) (Int.pow_nonneg (by omega))
  omega
def shlS (s x y : Nat) : Nat := swapS s x y <<< s
theorem shl_eq' {s x y : Nat} (hs : Size s) : IntKind.u64.wrap (((swapS s x y : Nat) : Int) * 2 ^ s) = ((shlS s x y : Nat) : Int) := shl_eq hs
theorem newX_eq {s x y : Nat} (hs : Size s) (hx : x < 18446744073709551616) : bits BinOp.xor IntKind.u64 (x : Int) ((shlS s x y : Nat) : Int) = ((newX s x y : Nat) : Int) := by
  unfold shlS
  rw [u64_xor_nat _ _ hx (swapS_shl hs x y)]; rfl
theorem newY_eq {s x y : Nat} (hs : Size s) (hy : y < 18446744073709551616) : bits BinOp.xor IntKind.u64 (y : Int) ((swapS s x y : Nat) : Int) = ((newY s x y : Nat) : Int) := by
  rw [u64_xor_nat _ _ hy (swapS_lt64 hs x y)]; rfl


end Go.Proofs.Ytjmkpoignnbcpaa

namespace Go.Proofs.Ytjmkpoignnbcpaa
open Go.RowKit

theorem OnlyAt.setCells {g : Nat} {w : World} : ∀ (vs : List Value) (o : Nat) (w' : World), OnlyAt g w w' → OnlyAt g w (w'.setCells g o vs)
  | [], _, _, h => h
  | v :: r, o, _, h => OnlyAt.setCells r (o + 1) _ (h.set o v)
theorem set_span (cs : List Value) (o : Nat) (v : Value) (r : List Value) (h : o < cs.length) : (cs.set o v).take (o + 1) ++ r ++ (cs.set o v).drop (o + 1 + r.length) = cs.take o ++ (v :: r) ++ cs.drop (o + (r.length + 1)) := by
  have h1 : (cs.set o v).take (o + 1) = cs.take o ++ [v] := by
    rw [List.take_succ_eq_append_getElem (by rw [List.length_set]; exact h), List.take_set_of_le (Nat.le_refl _), List.getElem_set_self]
  have h2 : (cs.set o v).drop (o + 1 + r.length) = cs.drop (o + (r.length + 1)) := by
    rw [List.drop_set_of_lt (by omega)]; congr 1; omega
  rw [h1, h2]; simp
theorem Blk.setCells {g : Nat} {t : TypeId} : ∀ (vs : List Value) (o : Nat) (cs : List Value) (w : World), Blk w g t cs → o + vs.length ≤ cs.length → Blk (w.setCells g o vs) g t (cs.take o ++ vs ++ cs.drop (o + vs.length))
  | [], o, cs, w, h, _ => by
    have : cs.take o ++ [] ++ cs.drop (o + ([] : List Value).length) = cs := by simp
    rw [this]; exact h
  | v :: r, o, cs, w, h, hl => by
    have hl' : o + (r.length + 1) ≤ cs.length := by simpa using hl
    have ih := Blk.setCells r (o + 1) (cs.set o v) _ (h.set_ o v) (by rw [List.length_set]; omega)
    rw [set_span cs o v r (by omega)] at ih
    exact ih
theorem Blk.setAll {g : Nat} {t : TypeId} {cs vs : List Value} {w : World} (h : Blk w g t cs) (hl : vs.length = cs.length) : Blk (w.setCells g 0 vs) g t vs := by
  have := Blk.setCells vs 0 cs w h (by omega)
  rwa [List.take_zero, List.nil_append, Nat.zero_add, List.drop_eq_nil_of_le (by omega), List.append_nil] at this
theorem Blk.there {g : Nat} {t : TypeId} {cs : List Value} {w : World} (h : Blk w g t cs) : w.there g 0 cs.length := fun j hj => by
  rw [Nat.zero_add, h.cell, h.frozen]
  exact ⟨by rw [List.getElem?_eq_getElem hj]; rfl, rfl⟩
theorem Blk.range {g : Nat} {t : TypeId} {cs : List Value} {w : World} (h : Blk w g t cs) : w.rangeAt g 0 cs := fun j v hv => by
  rw [Nat.zero_add, h.cell]; exact hv
theorem all_one (ys : List Nat) : (ys.map u64v).toArray.all (·.oneCell') = true := all_oneCell_toArray (fun v hv => by
  obtain ⟨x, _, rfl⟩ := List.mem_map.1 hv; rfl)

theorem results_cell {P : Program} {w : World} {fn : Func} {t : Tmp} {ty : TypeId} {v : Value} (h : fn.results = #[.cell t ty]) (tmps : Array Value) (b : Nat) (ht : tmps.getD t undef = .pointer (some ⟨b, 0, none⟩)) (hl : (loadVar ty ⟨b, 0, none⟩).run P w = .ok v w) :
    (results fn tmps).run P w = .ok v w := by
  have ht' : tmps[t]?.getD undef = .pointer (some ⟨b, 0, none⟩) := by rw [← Array.getD_eq_getD_getElem?]; exact ht
  simp [results, h, ht', asAddr, hl]

section
variable {P : Program} {ops : Array Oper} {rest : List Oper} {op : Oper} {a : Act} {w : World} {Q : Exit → Act → World → Prop}
/-- 'b := *p', p an array of so many words -/
theorem wpList_load_blk {t e : TypeId} {n : Nat} (hu : P.underlying t = some (.array n e)) (hi : (P.info? t).map (·.size) = some n) (hgd : op.guard = none) (x : Operand) (ho : op.op = .load t x) (b : Nat) (hx : a.eval x = .pointer (some ⟨b, 0, none⟩)) (te : TypeId) (ys : List Nat) (hl : ys.length = n) (hB : Blk w b te (ys.map u64v))
    (h : wpList P ops Q rest (a.put op.dst (.agg (ys.map u64v).toArray)) w) : wpList P ops Q (op :: rest) a w :=
  wpList_load_mid hgd t x ho b 0 hx (ys.map u64v) _ hB.range hu rfl (by rw [List.length_map, hl]; exact hi) h
/-- '*p = b' -/
theorem wpList_store_blk {t e : TypeId} {n : Nat} (_hu : P.underlying t = some (.array n e)) (hi : (P.info? t).map (·.size) = some n) (hgd : op.guard = none) (x y : Operand) (ho : op.op = .store t x y) (b : Nat) (hx : a.eval x = .pointer (some ⟨b, 0, none⟩)) (ys : List Nat) (hl : ys.length = n) (hy : a.eval y = .agg (ys.map u64v).toArray) (te : TypeId) (zs : List Nat) (hz : zs.length = n) (hB : Blk w b te (zs.map u64v))
    (h : ∀ w', Blk w' b te (ys.map u64v) → OnlyAt b w w' → wpList P ops Q rest (a.put op.dst undef) w') : wpList P ops Q (op :: rest) a w :=
  wpList_store_mid hgd t x y ho b 0 _ hx hy (by have := hB.there; simpa [hl, hz] using this) (by simpa [hl] using hi) (all_one ys)
    (h _ (by simpa using hB.setAll (vs := ys.map u64v) (by simp [hl, hz])) (OnlyAt.setCells _ _ _ (OnlyAt.refl _ _)))
end

end Go.Proofs.Ytjmkpoignnbcpaa

namespace Go.Proofs.Ytjmkpoignnbcpaa
open Go.RowKit
set_option linter.unusedVariables false

def padK (xss : List (List Nat)) (k : Nat) : List Nat := (List.range 64).map fun i => if i < k then (xss.getD i []).getD 0 0 else 0

theorem padK_len (xss : List (List Nat)) (k : Nat) : (padK xss k).length = 64 := by simp [padK]
theorem padK_zero (xss : List (List Nat)) : padK xss 0 = List.replicate 64 0 := by
  unfold padK
  rfl
theorem padK_succ (xss : List (List Nat)) {k : Nat} {xs : List Nat} {x : Nat} (hk : k < 64) (h : xss[k]? = some xs) (hx : xs[0]? = some x) : padK xss (k + 1) = (padK xss k).set k x := by
  apply List.ext_getElem?
  intro i
  rw [List.getElem?_set, padK_len]
  unfold padK
  rcases Nat.lt_or_ge i 64 with hi | hi
  · rw [List.getElem?_map, List.getElem?_map, List.getElem?_range hi]
    show some (if i < k + 1 then (xss.getD i []).getD 0 0 else 0) = (if k = i then (if k < 64 then some x else none) else some (if i < k then (xss.getD i []).getD 0 0 else 0))
    by_cases e : k = i
    · subst e
      rw [if_pos (by omega), if_pos rfl, if_pos hk, getD_at h, getD_at hx]
    · rw [if_neg e]
      by_cases h1 : i < k
      · rw [if_pos h1, if_pos (by omega)]
      · rw [if_neg h1, if_neg (by omega)]
  · rw [List.getElem?_eq_none (by simpa using hi)]
    by_cases e : k = i
    · omega
    · rw [if_neg e, List.getElem?_eq_none (by simpa using hi)]
theorem padK_get (xss : List (List Nat)) {k i : Nat} (hi : i < 64) : (padK xss k).getD i 0 = if i < k then (xss.getD i []).getD 0 0 else 0 := by
  unfold padK
  rw [List.getD_eq_getElem?_getD, List.getElem?_map, List.getElem?_range hi]; rfl
theorem padK_w64 {xss : List (List Nat)} (h : ∀ xs ∈ xss, W64 xs) (k : Nat) : W64 (padK xss k) := by
  intro x hx
  unfold padK at hx
  obtain ⟨i, _, rfl⟩ := List.mem_map.1 hx
  show (if i < k then (xss.getD i []).getD 0 0 else 0) < _
  split
  · rcases Nat.lt_or_ge i xss.length with hl | hl
    · have hg := List.getElem?_eq_getElem hl
      rw [getD_at hg]
      exact getD_w64 (h _ (List.mem_of_getElem? hg)) 0
    · rw [List.getD_eq_getElem?_getD (l := xss), List.getElem?_eq_none hl]; simp
  · omega


end Go.Proofs.Ytjmkpoignnbcpaa

namespace Go.Proofs.Ytjmkpoignnbcpaa
open Go.RowKit
set_option linter.unusedVariables false

/-- what was there is as it was, but for the rows' own blocks -/
structure RowsOnly (vs : List Value) (w w' : World) : Prop where
  os : w'.os = w.os
  tape : w'.tape = w.tape
  output : w'.output = w.output
  size : w.heap.size ≤ w'.heap.size
  block : ∀ k, k < w.heap.size → (∀ v ∈ vs, v.ownBlock ≠ some k) → w'.heap[k]? = w.heap[k]?
theorem RowsOnly.refl (vs : List Value) (w : World) : RowsOnly vs w w := ⟨rfl, rfl, rfl, Nat.le_refl _, fun _ _ _ => rfl⟩
theorem RowsOnly.of_below {vs : List Value} {w w' : World} (h : Below w.heap.size w w') : RowsOnly vs w w' := ⟨h.os, h.tape, h.output, h.size, fun k hk _ => h.block k hk⟩
theorem RowsOnly.trans {vs : List Value} {a b c : World} (h : RowsOnly vs a b) (k : RowsOnly vs b c) : RowsOnly vs a c :=
  ⟨k.os.trans h.os, k.tape.trans h.tape, k.output.trans h.output, Nat.le_trans h.size k.size, fun i hi hv => (k.block i (Nat.lt_of_lt_of_le hi h.size) hv).trans (h.block i hi hv)⟩
theorem RowsOnly.set {vs : List Value} {w w' : World} (h : RowsOnly vs w w') {g : Nat} (hg : ∃ v ∈ vs, v.ownBlock = some g) (o : Nat) (u : Value) : RowsOnly vs w (w'.setCell ⟨g, o, none⟩ u) :=
  ⟨h.os, h.tape, h.output, by simpa using h.size, fun k hk hv => by
    obtain ⟨v, hm, e⟩ := hg
    have hne : k ≠ g := fun e' => hv v hm (by rw [e'.symm] at e; exact e)
    exact (Below.heap_setCell w' ⟨g, o, none⟩ u k (by simpa using hne)).trans (h.block k hk hv)⟩
theorem RowsOnly.rd {vs us : List Value} {w w' : World} {A : Option Addr} {n : Nat} (h : RowsOnly vs w w') (hr : Rd w A n us) (hne : ∀ ad, A = some ad → ∀ v ∈ vs, v.ownBlock ≠ some ad.block) : Rd w' A n us :=
  ⟨hr.1, fun hn => by
    obtain ⟨b, off, e, hb, hc⟩ := hr.2 hn
    exact ⟨b, off, e, Nat.lt_of_lt_of_le hb h.size, fun j u hu => (World.cell?_of_block (h.block b hb (hne _ e))).trans (hc j u hu)⟩⟩
theorem RowsOnly.blk {vs : List Value} {w w' : World} {g : Nat} {t : TypeId} {cs : List Value} (h : RowsOnly vs w w') (hB : Blk w g t cs) (hne : ∀ v ∈ vs, v.ownBlock ≠ some g) : Blk w' g t cs := (h.block g hB.lt hne).trans hB
theorem RowsOnly.own {vs us : List Value} {w w' : World} {base n s : Nat} {e : TypeId} {v : Value} (h : RowsOnly vs w w') (ho : w.ownsRow base e s v n us) (hne : ∀ u ∈ vs, ∀ g, u.ownBlock = some g → v.ownBlock ≠ some g) : w'.ownsRow base e s v n us :=
  ⟨ho.1, ho.2.imp id fun ⟨g, cap, cur, hv, hg, hh, r⟩ => ⟨g, cap, cur, hv, hg, (h.block g (Array.getElem?_eq_some_iff.1 hh).1 (fun u hu e => hne u hu g e (by rw [hv]; rfl))).trans hh, r⟩⟩
theorem RowsOnly.below {vs : List Value} {w w' : World} {B : Nat} (h : RowsOnly vs w w') (hB : B ≤ w.heap.size) (hv : ∀ v ∈ vs, ∀ g, v.ownBlock = some g → B ≤ g) : Below B w w' :=
  ⟨h.os, h.tape, h.output, h.size, fun k hk => h.block k (by omega) (fun v hm e => by have := hv v hm k e; omega)⟩

def layK (n : Nat) (b : List Nat) (k : Nat) : List (List Nat) := (List.range n).map fun i => if i < k then [b.getD i 0] else [0]
theorem layK_len (n : Nat) (b : List Nat) (k : Nat) : (layK n b k).length = n := by simp [layK]
theorem layK_get {n : Nat} (b : List Nat) (k : Nat) {i : Nat} (h : i < n) : (layK n b k)[i]? = some (if i < k then [b.getD i 0] else [0]) := by
  unfold layK; rw [List.getElem?_map, List.getElem?_range h]; rfl
theorem layK_zero {n : Nat} (h0 : 0 < n) (h : n ≤ 64) (b : List Nat) : layK n b 0 = newM n := by
  unfold layK newM
  have hw : (wordsZ (n : Int)).toNat = 1 := by unfold wordsZ; rw [if_neg (by omega)]; omega
  rw [hw]
  apply List.ext_getElem
  · simp
  · intro i h1 h2
    simp
theorem layK_succ {n k : Nat} (h : k < n) (b : List Nat) : layK n b (k + 1) = (layK n b k).set k (([0] : List Nat).set 0 (b.getD k 0)) := by
  apply List.ext_getElem?
  intro i
  rw [List.getElem?_set, layK_len]
  rcases Nat.lt_or_ge i n with hi | hi
  · rw [layK_get b (k + 1) hi, layK_get b k hi]
    by_cases e : k = i
    · subst e
      rw [if_pos (by omega), if_pos rfl, if_pos h]; rfl
    · rw [if_neg e]
      by_cases h1 : i < k
      · rw [if_pos h1, if_pos (by omega)]
      · rw [if_neg h1, if_neg (by omega)]
  · rw [List.getElem?_eq_none (by rw [layK_len]; exact hi)]
    by_cases e : k = i
    · omega
    · rw [if_neg e, List.getElem?_eq_none (by rw [layK_len]; exact hi)]


end Go.Proofs.Ytjmkpoignnbcpaa

namespace Go.Proofs.Ytjmkpoignnbcpaa
open Go.RowKit
set_option linter.unusedVariables false

/-- a matrix of at most 63 rows turned about -/
def turnM (xss : List (List Nat)) : List (List Nat) := layK xss.length (flipB (padK xss xss.length)) xss.length


end Go.Proofs.Ytjmkpoignnbcpaa

namespace Go.Proofs.Ytjmkpoignnbcpaa
open Go.RowKit
set_option linter.unusedVariables false

set_option maxHeartbeats 1000000 in
theorem ref3_in (N : Int) (A : Option Addr) (n c : Nat) (i j : Int) (w : World) :
    Calls Try.prog 36 #[.agg #[.int .i64 N, .slice A n c], .int .i64 i, .int .i64 j] w (RetB (inM N i j) w) := by
  have ha : Below w.heap.size w (w.alloc (.cells #[.int .i64 N, .slice A n c] 37)) := (Below.refl _ _).alloc (Nat.le_refl _) _
  replace ha := Lib.hid ha
  by_cases h1 : 0 ≤ i
  · by_cases h2 : i < N
    · by_cases h3 : 0 ≤ j
      · by_cases h4 : j < N
        · have H := Lib.hid (show inM N i j = true by unfold inM; simp [h1, h2, h3, h4])
          go_enter Try.func36, Try.ntmps36
          go_wp2
          go_ret
          rw [H.out]; exact ⟨rfl, ha.out⟩
        · have H := Lib.hid (show inM N i j = false by unfold inM; simp [h4])
          go_enter Try.func36, Try.ntmps36
          go_wp2
          go_ret
          rw [H.out]; exact ⟨rfl, ha.out⟩
      · have H := Lib.hid (show inM N i j = false by unfold inM; simp [h3])
        go_enter Try.func36, Try.ntmps36
        go_wp2
        go_ret
        rw [H.out]; exact ⟨rfl, ha.out⟩
    · have H := Lib.hid (show inM N i j = false by unfold inM; simp [h2])
      go_enter Try.func36, Try.ntmps36
      go_wp2
      go_ret
      rw [H.out]; exact ⟨rfl, ha.out⟩
  · have H := Lib.hid (show inM N i j = false by unfold inM; simp [h1])
    go_enter Try.func36, Try.ntmps36
    go_wp2
    go_ret
    rw [H.out]; exact ⟨rfl, ha.out⟩

theorem inM_yes {N i j : Int} (h : inM N i j = true) : 0 ≤ i ∧ i < N ∧ 0 ≤ j ∧ j < N := by
  unfold inM at h
  simp only [Bool.and_eq_true, decide_eq_true_eq] at h
  obtain ⟨⟨⟨a, b⟩, c⟩, d⟩ := h
  exact ⟨a, b, c, d⟩
set_option maxHeartbeats 400000 in
theorem ref3_Has (A : Option Addr) (n c : Nat) (xss : List (List Nat)) (i j : Int) (w : World) (hr : RowsAt w A n xss) (hn : n ≤ 4096) (hl : ∀ (k : Nat) (xs : List Nat), xss[k]? = some xs → xs.length ≤ 1024) :
    Calls Try.prog 25 #[.agg #[.int .i64 (n : Int), .slice A n c], .int .i64 i, .int .i64 j] w (RetB (inM (n : Int) i j && hasM xss i j) w) := by
  obtain ⟨W0, hW0⟩ : ∃ W0, W0 = w.alloc (.cells #[.int .i64 n, .slice A n c] 37) := ⟨_, rfl⟩
  have ha : Below w.heap.size w W0 := by rw [hW0]; exact (Below.refl _ _).alloc (Nat.le_refl _) _
  have hB : MatB W0 w.heap.size 37 n A n c := by rw [hW0]; exact MatB.new w _
  have hin := Lib.hid (ref3_in (n : Int) A n c i j W0)
  rcases Bool.eq_false_or_eq_true (inM (n : Int) i j) with h | h
  · obtain ⟨i0, i1, j0, j1⟩ := inM_yes h
    obtain ⟨k, rfl⟩ := Int.eq_ofNat_of_zero_le i0
    have hk : k < n := by omega
    obtain ⟨b, off, B, m, d, xs, rfl, hbl, hx, hc, hxr⟩ := hr.at_ hk
    have hm : m ≤ 1024 := by have := hxr.len; have := hl k xs hx; omega
    have H := Lib.hid (show (inM (n : Int) k j && hasM xss k j) = hasR xs j by rw [h, hasM_in hx, Bool.true_and])
    have hk0 : (0 : Int) ≤ (k : Int) := by omega
    have hkn : (k : Int) < (n : Int) := by omega
    replace h := Lib.hid h
    replace hB := Lib.hid hB
    replace hxr := Lib.hid hxr
    replace ha := Lib.hid ha
    clear hx hr
    go_enter Try.func25, Try.ntmps25
    go_wp2_with fail
    rw [← hW0]
    clear hW0
    refine hin.out.mono ?_; rintro e w1 ⟨rfl, hb1⟩
    rw [h.out]
    have l1 := (hB.out.below_ hb1).c1
    have hbb := below_trans2 ha.out hb1
    have hcr := (hbb.cell (p := ⟨b, off + k, none⟩) hbl).trans hc
    have hC := Lib.hid (ref2_Has B m d xs j w1 (hxr.out.below hbb) (by omega) (by omega) (by omega))
    replace hbb := Lib.hid hbb
    clear hb1 hc
    go_wp2_with fail
    refine hC.out.mono ?_; rintro e w' ⟨rfl, rfl⟩
    go_wp2
    go_ret
    rw [H.out]; exact ⟨rfl, hbb.out⟩
  · have H := Lib.hid (show (inM (n : Int) i j && hasM xss i j) = false by rw [h]; rfl)
    replace h := Lib.hid h
    replace ha := Lib.hid ha
    clear hB hr
    go_enter Try.func25, Try.ntmps25
    go_wp2_with fail
    rw [← hW0]
    clear hW0
    refine hin.out.mono ?_; rintro e w1 ⟨rfl, hb1⟩
    rw [h.out]
    have hbb := Lib.hid (below_trans2 ha.out hb1)
    clear hb1
    go_wp2
    go_ret
    rw [H.out]; exact ⟨rfl, hbb.out⟩


end Go.Proofs.Ytjmkpoignnbcpaa

namespace Go.Proofs.Ytjmkpoignnbcpaa
open Go.RowKit
set_option linter.unusedVariables false

def equalM (N M : Int) (xss yss : List (List Nat)) : Bool := decide (N = M) && sameM xss yss
theorem equalM_N {N M : Int} {xss yss : List (List Nat)} (h : N ≠ M) : equalM N M xss yss = false := by unfold equalM; rw [decide_eq_false h]; rfl
theorem equalM_len {N : Int} {xss yss : List (List Nat)} (h : xss.length ≠ yss.length) : equalM N N xss yss = false := by
  unfold equalM sameM
  rw [decide_eq_true rfl, Bool.true_and, beq_eq_false_iff_ne]; intro e; exact h (by rw [e])
theorem equalM_row {N : Int} {xss yss : List (List Nat)} {k : Nat} {xs ys : List Nat} (hx : xss[k]? = some xs) (hy : yss[k]? = some ys) (h : sameR xs ys = false) : equalM N N xss yss = false := by
  unfold equalM sameM
  rw [decide_eq_true rfl, Bool.true_and, beq_eq_false_iff_ne]
  intro e
  rw [e, hy] at hx
  injection hx with hx
  unfold sameR at h
  rw [hx] at h
  simp at h
theorem equalM_yes {N : Int} {xss yss : List (List Nat)} (hl : xss.length = yss.length) (h : ∀ (k : Nat) (xs ys : List Nat), k < xss.length → xss[k]? = some xs → yss[k]? = some ys → sameR xs ys = true) : equalM N N xss yss = true := by
  unfold equalM
  rw [decide_eq_true rfl, Bool.true_and, ← allF_same hl]
  exact allF_yes hl h

set_option maxRecDepth 100000 in
set_option maxHeartbeats 2000000 in
theorem ref3_Equal (N M : Int) (A B : Option Addr) (n m c d : Nat) (xss yss : List (List Nat)) (w : World) (hr : RowsAt w A n xss) (hs : RowsAt w B m yss) (hn : n ≤ 1073741824) (hm : m ≤ 1073741824) (hl : ∀ (i : Nat) (xs : List Nat), xss[i]? = some xs → xs.length ≤ 1073741824) (hl2 : ∀ (i : Nat) (xs : List Nat), yss[i]? = some xs → xs.length ≤ 1073741824) :
    Calls Try.prog 10 #[.agg #[.int .i64 N, .slice A n c], .agg #[.int .i64 M, .slice B m d]] w (RetB (equalM N M xss yss) w) := by
  have hxl := hr.len
  have hyl := hs.len
  obtain ⟨W0, hW0⟩ : ∃ W0, W0 = ((w.alloc (.cells #[.int .i64 N, .slice A n c] 37)).alloc (.cells #[.int .i64 M, .slice B m d] 37)) := ⟨_, rfl⟩
  have ha : Below w.heap.size w W0 := by rw [hW0]; exact (((Below.refl _ _).alloc (Nat.le_refl _) _).alloc (by simp) _)
  have hBa : MatB W0 w.heap.size 37 N A n c := by rw [hW0]; exact ((MatB.new w _).below_ ((Below.refl _ _).alloc (Nat.le_refl _) _))
  have hBb : MatB W0 (w.heap.size + 1) 37 M B m d := by rw [hW0]; exact (MatB.new1 w _ _)
  have l0 := hBa.c0
  have l1 := hBa.c1
  have m0 := hBb.c0
  have m1 := hBb.c1
  have ha' := Lib.hid ha
  by_cases h1 : N = M
  · subst h1
    have hne : (N != N) = false := by simp
    by_cases h2 : n = m
    · subst h2
      have hne2 : ((n : Int) != (n : Int)) = false := by simp
      have hyes := Lib.hid (fun h => equalM_yes (N := N) (xss := xss) (yss := yss) (by omega) h)
      have hr' := Lib.hid (hr.below ha)
      have hs' := Lib.hid (hs.below ha)
      replace hBa := Lib.hid hBa
      replace hBb := Lib.hid hBb
      replace hl := Lib.hid hl
      replace hl2 := Lib.hid hl2
      replace hxl := Lib.hid hxl
      clear hr hs hyl ha hm
      go_enter Try.func10, Try.ntmps10
      go_wp2_with fail
      rw [← hW0]
      clear hW0
      go_wp2_with fail
      clear l0 l1 m0 m1
      go_loopw [5] (fun i wr => ∃ k : Nat, k ≤ n ∧ i = .int .i64 k ∧ Hid (∀ (j : Nat) (xs ys : List Nat), j < k → xss[j]? = some xs → yss[j]? = some ys → sameR xs ys = true) ∧ Hid (Below W0.heap.size W0 wr)) (fun i _ => n - (intOf i).toNat)
      case atStart => exact ⟨0, Nat.zero_le _, rfl, Lib.hid (fun j xs ys hj => absurd hj (by omega)), Lib.hid (Below.refl _ _)⟩
      case round =>
        obtain ⟨k, hk, rfl, hall, hbr⟩ := hrel
        have l1 := (hBa.out.below_ hbr.out).c1
        have m1 := (hBb.out.below_ hbr.out).c1
        by_cases hlt : k < n
        · obtain ⟨b1, o1, A1, n1, c1, xs, rfl, hbl1, hx, hc1, hrx⟩ := (hr'.out.below hbr.out).at_ hlt
          obtain ⟨b2, o2, B1, n2, c2, ys, rfl, hbl2, hy, hc2, hry⟩ := (hs'.out.below hbr.out).at_ hlt
          have hn1 : n1 ≤ 1073741824 := by have := hrx.len; have := hl.out k xs hx; omega
          have hn2 : n2 ≤ 1073741824 := by have := hry.len; have := hl2.out k ys hy; omega
          have hk0 : (0 : Int) ≤ (k : Int) := by omega
          have hkn : (k : Int) < (n : Int) := by omega
          rcases Bool.eq_false_or_eq_true (sameR xs ys) with hf | hf
          · have hall' : Hid (∀ (j : Nat) (us vs : List Nat), j < k + 1 → xss[j]? = some us → yss[j]? = some vs → sameR us vs = true) := Lib.hid (fun j us vs hj hu hv => by
              rcases Nat.lt_succ_iff_lt_or_eq.1 hj with h | h
              · exact hall.out j us vs h hu hv
              · rw [h, hx] at hu
                rw [h, hy] at hv
                injection hu with hu
                injection hv with hv
                rw [← hu, ← hv]; exact hf)
            replace hf := Lib.hid hf
            clear hx hy
            go_wp2_with fail
            refine wp_region_plan 12 [(true, 0), (true, 1), (true, 2), (true, 3), (true, 4), (true, 5), (true, 6), (true, 7), (true, 8), (true, 9), (false, 10), (true, 11)] (by kernel_rfl) (by kernel_rfl) (fun W hW => ?_)
            have p1 : W.cell? ⟨w.heap.size, 1, none⟩ = some (.slice (some ⟨b1, o1, none⟩) n c) := by rw [hW.out]; exact l1
            have p2 : W.cell? ⟨w.heap.size + 1, 1, none⟩ = some (.slice (some ⟨b2, o2, none⟩) n d) := by rw [hW.out]; exact m1
            have p3 : W.cell? ⟨b1, o1 + k, none⟩ = some (.slice A1 n1 c1) := by rw [hW.out]; exact hc1
            have p4 : W.cell? ⟨b2, o2 + k, none⟩ = some (.slice B1 n2 c2) := by rw [hW.out]; exact hc2
            have hbW := Lib.hid (show Below W0.heap.size W0 W by rw [hW.out]; exact hbr.out.drew)
            have hC := Lib.hid (ref2_Same A1 B1 n1 n2 c1 c2 xs ys W (by rw [hW.out]; exact hrx) (by rw [hW.out]; exact hry) (by omega) (by omega))
            clear l1 m1 hc1 hc2 hrx hry
            simp only [List.drop_succ_cons, List.drop_nil]
            iterate 10
              refine wpPlan_float (v := ?_) rfl (by rfl) (fun w' hw' => ?_) (fun K hK => ?_)
              rotate_left
              · (go_simp; try with_reducible rfl)
              go_simp
              refine hK _ ?_
              clear hK K
            refine wpPlan_only rfl (by rfl) (fun K hK => ?_)
            go_simp
            refine hC.out.mono ?_
            rintro e w' ⟨rfl, z, rfl⟩
            refine hK _ _ (below_drewN (Below.refl _ _) z) ?_
            clear hK K
            rw [hf.out]
            iterate 1
              refine wpPlan_float (v := ?_) rfl (by rfl) (fun w' hw' => ?_) (fun K hK => ?_)
              rotate_left
              · (go_simp; try with_reducible rfl)
              go_simp
              refine hK _ ?_
              clear hK K
            refine wpPlan_nil (NoPanic.normal ?_)
            go_wp2_with fail
            go_roundw
            case rel => exact ⟨k + 1, by omega, by go_num, hall', Lib.hid (below_drewN hbW.out z)⟩
            case measure => simp [intOf]; omega
          · have H := Lib.hid (equalM_row (N := N) hx hy hf)
            replace hf := Lib.hid hf
            clear hx hy
            go_wp2_with fail
            refine wp_region_plan 12 [(true, 0), (true, 1), (true, 2), (true, 3), (true, 4), (true, 5), (true, 6), (true, 7), (true, 8), (true, 9), (false, 10), (true, 11)] (by kernel_rfl) (by kernel_rfl) (fun W hW => ?_)
            have p1 : W.cell? ⟨w.heap.size, 1, none⟩ = some (.slice (some ⟨b1, o1, none⟩) n c) := by rw [hW.out]; exact l1
            have p2 : W.cell? ⟨w.heap.size + 1, 1, none⟩ = some (.slice (some ⟨b2, o2, none⟩) n d) := by rw [hW.out]; exact m1
            have p3 : W.cell? ⟨b1, o1 + k, none⟩ = some (.slice A1 n1 c1) := by rw [hW.out]; exact hc1
            have p4 : W.cell? ⟨b2, o2 + k, none⟩ = some (.slice B1 n2 c2) := by rw [hW.out]; exact hc2
            have hbW := Lib.hid (show Below W0.heap.size W0 W by rw [hW.out]; exact hbr.out.drew)
            have hC := Lib.hid (ref2_Same A1 B1 n1 n2 c1 c2 xs ys W (by rw [hW.out]; exact hrx) (by rw [hW.out]; exact hry) (by omega) (by omega))
            clear l1 m1 hc1 hc2 hrx hry
            simp only [List.drop_succ_cons, List.drop_nil]
            iterate 10
              refine wpPlan_float (v := ?_) rfl (by rfl) (fun w' hw' => ?_) (fun K hK => ?_)
              rotate_left
              · (go_simp; try with_reducible rfl)
              go_simp
              refine hK _ ?_
              clear hK K
            refine wpPlan_only rfl (by rfl) (fun K hK => ?_)
            go_simp
            refine hC.out.mono ?_
            rintro e w' ⟨rfl, z, rfl⟩
            refine hK _ _ (below_drewN (Below.refl _ _) z) ?_
            clear hK K
            rw [hf.out]
            iterate 1
              refine wpPlan_float (v := ?_) rfl (by rfl) (fun w' hw' => ?_) (fun K hK => ?_)
              rotate_left
              · (go_simp; try with_reducible rfl)
              go_simp
              refine hK _ ?_
              clear hK K
            refine wpPlan_nil (NoPanic.normal ?_)
            go_wp2_with fail
            go_ret
            rw [H.out]; exact ⟨rfl, below_trans2 ha'.out (below_drewN hbW.out z)⟩
        · have H := Lib.hid (hyes.out (fun j xs ys hj hx hy => hall.out j xs ys (by have := hxl.out; omega) hx hy))
          go_wp2_with fail
          go_ret
          rw [H.out]; exact ⟨rfl, below_trans2 ha'.out hbr.out⟩
    · have H := Lib.hid (equalM_len (N := N) (xss := xss) (yss := yss) (by omega))
      have hne2 : ((n : Int) != (m : Int)) = true := by rw [bne_iff_ne]; omega
      clear hr hs hxl hyl h2 ha hBa hBb hl hl2
      go_enter Try.func10, Try.ntmps10
      go_wp2_with fail
      rw [← hW0]
      clear hW0
      go_wp2_with fail
      go_ret
      rw [H.out]; exact ⟨rfl, ha'.out⟩
  · have H := Lib.hid (equalM_N (xss := xss) (yss := yss) h1)
    have hne : (N != M) = true := by rw [bne_iff_ne]; exact h1
    clear hr hs hxl hyl h1 ha hBa hBb hl hl2
    go_enter Try.func10, Try.ntmps10
    go_wp2_with fail
    rw [← hW0]
    clear hW0
    go_wp2_with fail
    go_ret
    rw [H.out]; exact ⟨rfl, ha'.out⟩

end Go.Proofs.Ytjmkpoignnbcpaa

namespace Go.Proofs.Ytjmkpoignnbcpaa
open Go.RowKit
set_option linter.unusedVariables false



end Go.Proofs.Ytjmkpoignnbcpaa

namespace Go.Proofs.Ytjmkpoignnbcpaa
open Go.RowKit
set_option linter.unusedVariables false

theorem fitsR_bit {r : List Nat} {n j : Nat} (hj : j < 64 * r.length) (hn : n ≤ j) (h : hasR r (j : Int) = true) : fitsR r (n : Int) = false := by
  unfold fitsR
  rw [List.all_eq_false.2 ⟨j, List.mem_range.2 hj, by rw [decide_eq_false (by omega), h]; simp⟩, Bool.and_false]
theorem fitsR_yes {r : List Nat} {n : Nat} (hl : (r.length : Int) = wordsZ (n : Int)) (h : ∀ j : Nat, n ≤ j → j < 64 * r.length → hasR r (j : Int) = false) : fitsR r (n : Int) = true := by
  unfold fitsR
  rw [decide_eq_true hl, Bool.true_and, List.all_eq_true]
  intro j hj
  have hj' := List.mem_range.1 hj
  rcases Nat.lt_or_ge j n with h1 | h1
  · rw [decide_eq_true (by omega)]; rfl
  · rw [h j h1 hj']; simp

set_option maxRecDepth 100000 in
set_option maxHeartbeats 2000000 in
theorem ref3_Right (N : Int) (A : Option Addr) (n c : Nat) (xss : List (List Nat)) (w : World) (hr : RowsAt w A n xss) (hn : n ≤ 1073741824) (hl : ∀ (i : Nat) (xs : List Nat), xss[i]? = some xs → xs.length ≤ 1024) :
    Calls Try.prog 18 #[.agg #[.int .i64 N, .slice A n c]] w (RetB (rightM N xss) w) := by
  have hlen := hr.len
  obtain ⟨W0, hW0⟩ : ∃ W0, W0 = w.alloc (.cells #[.int .i64 N, .slice A n c] 37) := ⟨_, rfl⟩
  have ha : Below w.heap.size w W0 := by rw [hW0]; exact (Below.refl _ _).alloc (Nat.le_refl _) _
  have hB : MatB W0 w.heap.size 37 N A n c := by rw [hW0]; exact MatB.new w _
  have l0 := hB.c0
  have l1 := hB.c1
  have ha' := Lib.hid ha
  by_cases h1 : N < 0
  · have H := Lib.hid (rightM_out (xss := xss) (N := N) (by omega))
    clear hr ha hB hl hlen
    go_enter Try.func18, Try.ntmps18
    go_wp2_with fail
    rw [← hW0]
    clear hW0
    go_wp2_with fail
    go_ret
    rw [H.out]; exact ⟨rfl, ha'.out⟩
  by_cases h2 : 4096 < N
  · have H := Lib.hid (rightM_out (xss := xss) (N := N) (by omega))
    clear hr ha hB hl hlen
    go_enter Try.func18, Try.ntmps18
    go_wp2_with fail
    rw [← hW0]
    clear hW0
    go_wp2_with fail
    go_ret
    rw [H.out]; exact ⟨rfl, ha'.out⟩
  by_cases h3 : (n : Int) = N
  · subst h3
    have hne : ((n : Int) != (n : Int)) = false := by simp
    have hyes := Lib.hid (fun h => rightM_yes (n := n) (xss := xss) (by omega) hlen h)
    have hno := Lib.hid (fun k xs hx h => rightM_row (N := (n : Int)) (xss := xss) (k := k) (xs := xs) hx h)
    have hr' := Lib.hid (hr.below ha)
    have hnn : n ≤ 4096 := by omega
    have hwl := words_le hnn
    obtain ⟨wz, hwz⟩ : ∃ wz, wz = (wordsZ (n : Int)).toNat := ⟨_, rfl⟩
    have hwzz : wordsZ (n : Int) = (wz : Int) := by rw [hwz]; exact wordsZ_N (n : Int)
    have hnw : n ≤ 64 * wz := by
      rcases Nat.eq_zero_or_pos n with h0 | h0
      · omega
      · have := (words_pos h0).2; omega
    have hwz64 : wz ≤ 64 := by omega
    replace hwz := Lib.hid hwz
    replace hwzz := Lib.hid hwzz
    replace hB := Lib.hid hB
    replace hlen := Lib.hid hlen
    replace hl := Lib.hid hl
    clear hr h1 h2 ha hwl
    go_enter Try.func18, Try.ntmps18
    go_wp2_with fail
    rw [← hW0]
    clear hW0
    go_wp2_with fail
    clear l0 l1
    go_loopw [3] (fun i wr => ∃ k : Nat, k ≤ n ∧ i = .int .i64 k ∧ Hid (∀ (j : Nat) (xs : List Nat), j < k → xss[j]? = some xs → fitsR xs (n : Int) = true) ∧ Hid (Below W0.heap.size W0 wr)) (fun i _ => n - (intOf i).toNat)
    case atStart => exact ⟨0, Nat.zero_le _, rfl, Lib.hid (fun j xs hj => absurd hj (by omega)), Lib.hid (Below.refl _ _)⟩
    case round =>
      obtain ⟨k, hk, rfl, hall, hbr⟩ := hrel
      have l0 := (hB.out.below_ hbr.out).c0
      have l1 := (hB.out.below_ hbr.out).c1
      by_cases hlt : k < n
      · obtain ⟨b, off, B, m, d, xs, rfl, hbl, hx, hc, hxr⟩ := (hr'.out.below hbr.out).at_ hlt
        have hml : xs.length = m := hxr.len
        have hm : m ≤ 1024 := by have := hl.out k xs hx; omega
        have hk0 : (0 : Int) ≤ (k : Int) := by omega
        have hkn : (k : Int) < (n : Int) := by omega
        have hWd := Lib.hid (fun W => ref2_Words (n : Int) (by omega) (by omega) W)
        by_cases hmw : m = wz
        · have hne2 : ((m : Int) != (wz : Int)) = false := by rw [hmw]; simp
          have hfit := Lib.hid (fun h => fitsR_yes (r := xs) (n := n) (by rw [hwzz.out, hml, hmw]) h)
          have hbad := Lib.hid (fun j a b c => fitsR_bit (r := xs) (n := n) (j := j) a b c)
          have hresn := Lib.hid (hno.out k xs hx)
          have hall' : Hid (fitsR xs (n : Int) = true → ∀ (j : Nat) (ys : List Nat), j < k + 1 → xss[j]? = some ys → fitsR ys (n : Int) = true) := Lib.hid (fun hf j ys hj hy => by
            rcases Nat.lt_succ_iff_lt_or_eq.1 hj with h | h
            · exact hall.out j ys h hy
            · rw [h, hx] at hy
              injection hy with hy
              rw [← hy]; exact hf)
          have hnm : n ≤ 64 * m := by omega
          replace hml := Lib.hid hml
          replace hxr := Lib.hid hxr
          clear hx hmw
          go_wp2_with fail
          refine wp_region_plan 10 [(true, 0), (true, 1), (true, 2), (true, 3), (true, 4), (true, 5), (true, 6), (true, 7), (false, 8), (true, 9)] (by kernel_rfl) (by kernel_rfl) (fun W hW => ?_)
          have p0 : W.cell? ⟨w.heap.size, 0, none⟩ = some (.int .i64 n) := by rw [hW.out]; exact l0
          have p1 : W.cell? ⟨w.heap.size, 1, none⟩ = some (.slice (some ⟨b, off, none⟩) n c) := by rw [hW.out]; exact l1
          have p2 : W.cell? ⟨b, off + k, none⟩ = some (.slice B m d) := by rw [hW.out]; exact hc
          have hbW := Lib.hid (show Below W0.heap.size W0 W by rw [hW.out]; exact hbr.out.drew)
          have hxW := Lib.hid (show Row W B m xs by rw [hW.out]; exact hxr.out)
          clear l0 l1 hc
          simp only [List.drop_succ_cons, List.drop_nil]
          iterate 8
            refine wpPlan_float (v := ?_) rfl (by rfl) (fun w' hw' => ?_) (fun K hK => ?_)
            rotate_left
            · (go_simp; try with_reducible rfl)
            go_simp
            refine hK _ ?_
            clear hK K
          refine wpPlan_only rfl (by rfl) (fun K hK => ?_)
          go_simp
          refine (hWd.out W).mono ?_
          rintro e w' ⟨rfl, rfl⟩
          refine hK _ _ (Below.refl _ _) ?_
          clear hK K
          rw [hwzz.out]
          iterate 1
            refine wpPlan_float (v := ?_) rfl (by rfl) (fun w' hw' => ?_) (fun K hK => ?_)
            rotate_left
            · (go_simp; try with_reducible rfl)
            go_simp
            refine hK _ ?_
            clear hK K
          refine wpPlan_nil (NoPanic.normal ?_)
          go_wp2_with fail
          go_loop [4] (fun t => ∃ j : Nat, n ≤ j ∧ j ≤ 64 * m ∧ t = .int .i64 j ∧ Hid (∀ i : Nat, n ≤ i → i < j → hasR xs (i : Int) = false)) (fun t => 64 * m - (intOf t).toNat)
          case atStart => exact ⟨n, Nat.le_refl _, hnm, rfl, Lib.hid (fun i h1 h2 => by omega)⟩
          case round =>
            obtain ⟨j, hj1, hj2, rfl, hbits⟩ := hrel
            by_cases hlj : j < 64 * m
            · have hH := Lib.hid (ref2_Has B m d xs (j : Int) W hxW.out (by omega) (by omega) (by omega))
              rcases Bool.eq_false_or_eq_true (hasR xs (j : Int)) with ht | ht
              · have H := Lib.hid (hresn.out (hbad.out j (by rw [hml.out]; exact hlj) hj1 ht))
                replace ht := Lib.hid ht
                go_wp2_with fail
                refine hH.out.mono ?_; rintro e w' ⟨rfl, rfl⟩
                rw [ht.out]
                go_wp2_with fail
                go_ret
                rw [H.out]; exact ⟨rfl, below_trans2 ha'.out hbW.out⟩
              · have hbits' : Hid (∀ i : Nat, n ≤ i → i < j + 1 → hasR xs (i : Int) = false) := Lib.hid (fun i h1 h2 => by
                  rcases Nat.lt_succ_iff_lt_or_eq.1 h2 with h | h
                  · exact hbits.out i h1 h
                  · rw [h]; exact ht)
                replace ht := Lib.hid ht
                go_wp2_with fail
                refine hH.out.mono ?_; rintro e w' ⟨rfl, rfl⟩
                rw [ht.out]
                go_wp2_with fail
                go_round
                case rel => exact ⟨j + 1, by omega, by omega, by go_num, hbits'⟩
                case measure => simp [intOf]; omega
            · have hf := Lib.hid (hall'.out (hfit.out (fun i h1 h2 => hbits.out i h1 (by have := hml.out; omega))))
              go_wp2_with fail
              go_roundw
              case rel => exact ⟨k + 1, by omega, by go_num, hf, hbW⟩
              case measure => simp [intOf]; omega
        · have hne2 : ((m : Int) != (wz : Int)) = true := by rw [bne_iff_ne]; omega
          have H := Lib.hid (hno.out k xs hx (fitsR_len (by rw [hwzz.out, hml]; intro h; exact hmw (by omega))))
          clear hx hmw hxr hml
          go_wp2_with fail
          refine wp_region_plan 10 [(true, 0), (true, 1), (true, 2), (true, 3), (true, 4), (true, 5), (true, 6), (true, 7), (false, 8), (true, 9)] (by kernel_rfl) (by kernel_rfl) (fun W hW => ?_)
          have p0 : W.cell? ⟨w.heap.size, 0, none⟩ = some (.int .i64 n) := by rw [hW.out]; exact l0
          have p1 : W.cell? ⟨w.heap.size, 1, none⟩ = some (.slice (some ⟨b, off, none⟩) n c) := by rw [hW.out]; exact l1
          have p2 : W.cell? ⟨b, off + k, none⟩ = some (.slice B m d) := by rw [hW.out]; exact hc
          have hbW := Lib.hid (show Below W0.heap.size W0 W by rw [hW.out]; exact hbr.out.drew)
          clear l0 l1 hc
          simp only [List.drop_succ_cons, List.drop_nil]
          iterate 8
            refine wpPlan_float (v := ?_) rfl (by rfl) (fun w' hw' => ?_) (fun K hK => ?_)
            rotate_left
            · (go_simp; try with_reducible rfl)
            go_simp
            refine hK _ ?_
            clear hK K
          refine wpPlan_only rfl (by rfl) (fun K hK => ?_)
          go_simp
          refine (hWd.out W).mono ?_
          rintro e w' ⟨rfl, rfl⟩
          refine hK _ _ (Below.refl _ _) ?_
          clear hK K
          rw [hwzz.out]
          iterate 1
            refine wpPlan_float (v := ?_) rfl (by rfl) (fun w' hw' => ?_) (fun K hK => ?_)
            rotate_left
            · (go_simp; try with_reducible rfl)
            go_simp
            refine hK _ ?_
            clear hK K
          refine wpPlan_nil (NoPanic.normal ?_)
          go_wp2_with fail
          go_ret
          rw [H.out]; exact ⟨rfl, below_trans2 ha'.out hbW.out⟩
      · have H := Lib.hid (hyes.out (fun j xs hx => hall.out j xs (by have := (List.getElem?_eq_some_iff.1 hx).1; have := hlen.out; omega) hx))
        go_wp2_with fail
        go_ret
        rw [H.out]; exact ⟨rfl, below_trans2 ha'.out hbr.out⟩
  · have H := Lib.hid (rightM_len (xss := xss) (N := N) (by rw [hlen]; exact h3))
    have hne : ((n : Int) != N) = true := by rw [bne_iff_ne]; exact h3
    clear hr ha hB hl hlen h3
    go_enter Try.func18, Try.ntmps18
    go_wp2_with fail
    rw [← hW0]
    clear hW0
    go_wp2_with fail
    go_ret
    rw [H.out]; exact ⟨rfl, ha'.out⟩

end Go.Proofs.Ytjmkpoignnbcpaa

namespace Go.Proofs.Ytjmkpoignnbcpaa
open Go.RowKit
set_option linter.unusedVariables false

theorem own_ne_blk {w : World} {base s n g : Nat} {e t : TypeId} {v : Value} {xs cs : List Value} (h : w.ownsRow base e s v n xs) (hB : Blk w g t cs) (hne : e ≠ t) : v.ownBlock ≠ some g := by
  intro he
  rcases h.2 with ⟨rfl, _⟩ | ⟨g', cap, cur, rfl, _, hh, _⟩
  · simp [Value.ownBlock] at he
  · have : g' = g := by simpa [Value.ownBlock] using he
    subst this
    unfold Blk at hB
    rw [hh] at hB
    injection hB with hB
    injection hB with _ ht
    exact hne ht
theorem OwnRows.grown {t e : TypeId} {w w' : World} {base b2 s n : Nat} {v : Value} {vs us : List Value} {xss : List (List Nat)} (h : OwnRows t w base vs xss) (ho : w.ownsRow b2 e s v n us) (hne : t ≠ e) (hg : w.grownBy w' v.ownBlock) : OwnRows t w' base vs xss :=
  ⟨h.1, fun i u xs h1 h2 => by
    obtain ⟨A, m, c, e', hown, hx⟩ := h.2.1 i u xs h1 h2
    exact ⟨A, m, c, e', own_grown hown ho hne hg, hx⟩, h.2.2⟩

/-- rows as RowsAt, all of whose blocks are B or later -/
def RowsG (B : Nat) (w : World) (A : Option Addr) (n : Nat) (xss : List (List Nat)) : Prop := ∃ vs, Rd w A n vs ∧ RowsC w vs xss ∧ (∀ ad, A = some ad → B ≤ ad.block) ∧ ∀ v ∈ vs, ∀ g, v.ownBlock = some g → B ≤ g
theorem RowsG.at {B : Nat} {w : World} {A : Option Addr} {n : Nat} {xss : List (List Nat)} (h : RowsG B w A n xss) : RowsAt w A n xss := by
  obtain ⟨vs, h1, h2, -, -⟩ := h; exact ⟨vs, h1, h2⟩
theorem RowsG.of {w : World} {A : Option Addr} {n : Nat} {xss : List (List Nat)} (h : RowsAt w A n xss) : RowsG 0 w A n xss := by
  obtain ⟨vs, h1, h2⟩ := h; exact ⟨vs, h1, h2, fun _ _ => Nat.zero_le _, fun _ _ _ _ => Nat.zero_le _⟩
theorem RowsG.below {B : Nat} {w w' : World} {A : Option Addr} {n : Nat} {xss : List (List Nat)} (h : RowsG B w A n xss) (hb : Below w.heap.size w w') : RowsG B w' A n xss := by
  obtain ⟨vs, h1, h2, h3, h4⟩ := h; exact ⟨vs, h1.below hb, h2.below hb, h3, h4⟩
theorem RowsG.mono {B B' : Nat} {w : World} {A : Option Addr} {n : Nat} {xss : List (List Nat)} (h : RowsG B w A n xss) (hb : B' ≤ B) : RowsG B' w A n xss := by
  obtain ⟨vs, h1, h2, h3, h4⟩ := h; exact ⟨vs, h1, h2, fun ad e => Nat.le_trans hb (h3 ad e), fun v hv g e => Nat.le_trans hb (h4 v hv g e)⟩
def RetMatG (B : Nat) (N : Int) (xss : List (List Nat)) (er : Int) (w : World) : Ending → World → Prop := fun e w' =>
  ∃ A n c, e = .returned (.tuple #[.agg #[.int .i64 N, .slice A n c], .int .i64 er]) ∧ RowsG B w' A n xss ∧ n ≤ c ∧ Below w.heap.size w w' ∧ ∀ ad, A = some ad → w.heap.size ≤ ad.block
/-- as RetMat, and the outer cells are new -/
def RetMatF (N : Int) (xss : List (List Nat)) (er : Int) (w : World) : Ending → World → Prop := fun e w' =>
  ∃ A n c, e = .returned (.tuple #[.agg #[.int .i64 N, .slice A n c], .int .i64 er]) ∧ RowsAt w' A n xss ∧ n ≤ c ∧ Below w.heap.size w w' ∧ ∀ ad, A = some ad → w.heap.size ≤ ad.block
theorem RetMatG.f {B : Nat} {N : Int} {xss : List (List Nat)} {er : Int} {w w' : World} {e : Ending} (h : RetMatG B N xss er w e w') : RetMatF N xss er w e w' := by
  obtain ⟨A, n, c, h1, h2, h3, h4, h5⟩ := h; exact ⟨A, n, c, h1, h2.at, h3, h4, h5⟩
/-- what is known at the heads of the rounds of a matrix that grows row by row -/
structure GrowI (w : World) (hi n : Nat) (M R : Nat) (v : Value) (vs : List Value) (xss : List (List Nat)) (wr : World) : Prop where
  res : MatB wr R 37 0 none 0 0
  loc : Blk wr M 37 [.int .i64 n, v]
  out : wr.ownsRow hi 61 1 v vs.length vs
  rows : OwnRows 71 wr hi vs xss
  below : Below w.heap.size w wr
  high : hi ≤ wr.heap.size
theorem GrowI.keep {w : World} {hi n M R : Nat} {v : Value} {vs : List Value} {xss : List (List Nat)} {wr w' : World} (h : GrowI w hi n M R v vs xss wr) (hb : Below wr.heap.size wr w') : GrowI w hi n M R v vs xss w' :=
  ⟨h.res.below_ hb, Blk.below h.loc hb h.loc.lt, own_below h.out hb, h.rows.below hb, below_trans2 h.below hb, Nat.le_trans h.high hb.size⟩
theorem GrowI.more {w : World} {hi n M R : Nat} {v : Value} {vs : List Value} {xss : List (List Nat)} {wr w1 w2 : World} {A : Option Addr} {m c : Nat} {xs : List Nat} {u : Value} (h : GrowI w hi n M R v vs xss wr) (hb : Below wr.heap.size wr w1)
    (ho : w1.ownsRow wr.heap.size 71 1 (.slice A m c) m (xs.map u64v)) (hx : W64 xs) (hg : w1.grownBy w2 v.ownBlock) (h2 : w2.ownsRow hi 61 1 u (vs.length + 1) (vs ++ [.slice A m c])) (hM : M < hi) (hR : R < hi) (hRM : R ≠ M) (hw : w.heap.size ≤ M) (hw2 : w.heap.size ≤ hi) :
    GrowI w hi n M R u (vs ++ [.slice A m c]) (xss ++ [xs]) (w2.setCell ⟨M, 1, none⟩ u) := by
  have h1 := h.keep hb
  have hsn := h.rows.snoc hb ho hx h.high
  have hne1 := own_ne_blk h1.out h1.res (by decide)
  have hne2 := own_ne_blk h1.out h1.loc (by decide)
  have hu : u.ownBlock ≠ some M := fun e => by have := own_lt_block h2 M e; omega
  have hsz : w1.heap.size ≤ w2.heap.size := hg.size
  refine ⟨(Blk.grown h1.res hg (fun e => hne1 e.symm)).far hRM _, ?_, ?_, (hsn.grown h1.out (by decide) hg).far hM _, ?_, ?_⟩
  · have := (Blk.grown h1.loc hg (fun e => hne2 e.symm)).set_ 1 u
    exact this
  · rw [List.length_append, List.length_singleton]
    exact own_far h2 hu _
  · refine Below.setCell ?_ hw _
    exact h1.below.grown hg (Nat.le_trans hw2 h1.high) (fun g e => Nat.le_trans hw2 (own_lt_block h1.out g e))
  · have := h1.high
    simp
    omega
set_option maxRecDepth 100000 in
set_option maxHeartbeats 2000000 in
theorem ref3_NewG (n : Nat) (hn : n ≤ 4096) (w : World) :
    Calls Try.prog 30 #[.int .i64 (n : Int)] w (RetMatG w.heap.size (n : Int) (newM n) 0 w) := by
  obtain ⟨i0, hi, hz0, hz1, hz2⟩ := info_parts info_row
  replace hi := Lib.hid hi
  replace hz0 := Lib.hid hz0
  replace hz1 := Lib.hid hz1
  replace hz2 := Lib.hid hz2
  have hrow := Lib.hid (fun W => ref2_NewO (n : Int) (by omega) (by omega) W)
  obtain ⟨W0, hW0⟩ : ∃ W0, W0 = (w.alloc (.cells #[.int .i64 0, .slice none 0 0] 37)).alloc (.cells #[.int .i64 n, .slice none 0 0] 37) := ⟨_, rfl⟩
  have hI : GrowI w (w.heap.size + 2) n (w.heap.size + 1) w.heap.size (.slice none 0 0) [] (List.replicate 0 (List.replicate (wordsN (n : Int)) 0)) W0 := by
    refine ⟨by rw [hW0]; exact (MatB.new w _).below_ ((Below.refl _ _).alloc (Nat.le_refl _) _), by rw [hW0]; exact MatB.new1 w _ _, World.ownsRow_nil _ _ _ _, OwnRows.nil _ _ _, by rw [hW0]; exact ((Below.refl _ _).alloc (Nat.le_refl _) _).alloc (by simp) _, by rw [hW0]; simp⟩
  replace hI := Lib.hid hI
  have h1 : ¬ (n : Int) < 0 := by omega
  have h2 : ¬ 4096 < (n : Int) := by omega
  go_enter Try.func30, Try.ntmps30
  go_wp2_with fail
  rw [← hW0]
  clear hW0
  go_loopw [5] (fun i wr => ∃ (v : Value) (vs : List Value), vs.length ≤ n ∧ i = .int .i64 vs.length ∧ Hid (GrowI w (w.heap.size + 2) n (w.heap.size + 1) w.heap.size v vs (List.replicate vs.length (List.replicate (wordsN (n : Int)) 0)) wr)) (fun i _ => n - (intOf i).toNat)
  case atStart => exact ⟨_, [], Nat.zero_le _, rfl, hI⟩
  case round =>
    obtain ⟨v, vs, hk, rfl, hI'⟩ := hrel
    clear hI
    obtain ⟨k, hke⟩ : ∃ k, k = vs.length := ⟨_, rfl⟩
    rw [← hke] at hk
    rw [← hke]
    by_cases hlt : k < n
    · replace hke := Lib.hid hke
      have l1 := Blk.cell hI'.out.loc 1
      simp only [List.getElem?_cons_zero, List.getElem?_cons_succ] at l1
      go_wp2_with fail
      refine wp_region_plan 5 [(true, 0), (true, 1), (true, 2), (false, 3), (false, 4)] (by kernel_rfl) (by kernel_rfl) (fun W hW => ?_)
      have p1 : W.cell? ⟨w.heap.size + 1, 1, none⟩ = some v := by rw [hW.out]; exact l1
      have hIW := Lib.hid (show GrowI w (w.heap.size + 2) n (w.heap.size + 1) w.heap.size v vs (List.replicate vs.length (List.replicate (wordsN (n : Int)) 0)) W by rw [hW.out]; exact hI'.out.keep (Below.refl _ _).drew)
      clear l1 hI'
      simp only [List.drop_succ_cons, List.drop_zero]
      iterate 3
        refine wpPlan_float (v := ?_) rfl (by rfl) (fun w' hw' => ?_) (fun K hK => ?_)
        rotate_left
        · (go_simp; try with_reducible rfl)
        go_simp
        refine hK _ ?_
        clear hK K
      refine wpPlan_only rfl (by rfl) (fun K hK => ?_)
      go_simp
      refine (hrow.out W).mono ?_
      rintro e w1 ⟨C, p, q, rfl, ho, hx64, hb1⟩
      refine hK _ _ hb1 ?_
      clear hK K p1
      refine wpPlan_only rfl (by rfl) (fun K hK => ?_)
      go_simp
      have hba : Below w1.heap.size w1 (w1.alloc (.cells #[.slice C p q] 61)) := (Below.refl _ _).alloc (Nat.le_refl _) _
      refine hK _ _ hba (wpPlan_nil ?_)
      clear hK K
      have hbb := below_trans2 hb1 hba
      have hIa := Lib.hid (hIW.out.keep hbb)
      have hoa := Lib.hid (own_below ho hba)
      replace hbb := Lib.hid hbb
      have hown := hIa.out.out
      rw [← hke.out] at hown
      have hhi := hIa.out.high
      replace hx64 := Lib.hid hx64
      clear hba hb1 ho
      go_wp2_with (at_builtin; refine wpList_append_lies _ rfl (.tmp 21) (.tmp 24) _ rfl (w.heap.size + 2) 61 i0 _ 1 24 Try.underlying35 hi.out hz0.out hz1.out hz2.out rfl (by omega) _ _ _ (by rfl) hown ⟨w1.heap.size, 0, none⟩ 1 1 [.slice C p q] rfl rfl (cell_one_new _ _ _) (by simp [Value.oneCell']) (by omega) (by unfold maxLen; omega) (by omega) hhi _ rfl ?_; intro g cap w2 hown2 hgrow hat hlt1; have hB2 := Blk.grown hIa.out.loc hgrow (fun e => own_ne_blk hIa.out.out hIa.out.loc (by decide) e.symm); have q1 := hB2.cell 1; have q2 := hB2.frozen 1; simp only [List.getElem?_cons_zero, List.getElem?_cons_succ] at q1; clear hB2 hat hlt1)
      refine NoPanic.normal ?_
      have hmore := Lib.hid (hIW.out.more hbb.out hoa.out hx64.out hgrow (by rw [← hke.out]; exact hown2) (by omega) (by omega) (by omega) (by omega) (by omega))
      clear q1 q2 hown2 hgrow hown
      go_wp2_with fail
      go_roundw
      case rel =>
        refine ⟨.slice (some ⟨g, 0, none⟩) (k + 1) cap, vs ++ [.slice C p q], by have := hke.out; simp; omega, by rw [List.length_append, ← hke.out]; simp; try omega, ?_⟩
        have h := hmore.out
        rw [← List.replicate_succ'] at h
        rw [List.length_append, List.length_singleton]
        exact Lib.hid h
      case measure => simp [intOf]; omega
    · have hkn : k = n := by omega
      have hvn : vs.length = n := by rw [← hke, hkn]
      clear hlt
      obtain rfl := hkn
      have hout := hI'.out.out
      obtain ⟨A', c', hv, hRd⟩ := Rd.of_own hout
      subst hv
      rw [hvn] at hout hRd
      have f0 := hI'.out.res.c0
      have f1 := hI'.out.res.c1
      have g0 := hI'.out.res.frozen 0
      have g1 := hI'.out.res.frozen 1
      have k0 := hI'.out.loc.cell 0
      have k1 := hI'.out.loc.cell 1
      simp only [List.getElem?_cons_zero, List.getElem?_cons_succ] at k0 k1
      rw [hvn] at k1
      have hcc := hI'.out.res.two (.int .i64 k) (.slice A' k c')
      have hc1 := Lib.hid hcc.1
      have hc2 := Lib.hid hcc.2
      replace hvn := Lib.hid hvn
      replace hke := Lib.hid hke
      clear hcc
      go_wp2_with fail
      refine bodyPost_ret (v := .tuple #[.agg #[.int .i64 k, .slice A' k c'], .int .i64 0]) (by simp [results, Try.results30, go_sem, hc1.out, hc2.out]) rfl ⟨_, _, _, rfl, ⟨vs, ?_, ?_, fun ad e => by subst e; have := own_lt_block hout _ rfl; omega, fun v hv g e => by have := (hI'.out.rows.lt v hv g e).1; omega⟩, own_cap hout, (hI'.out.below.setCell (by simp) _).setCell (by simp) _, fun ad e => by subst e; have := own_lt_block hout _ rfl; omega⟩
      · have hne : (Value.slice A' k c').ownBlock ≠ some w.heap.size := fun e => by have := own_lt_block hout _ e; omega
        exact Rd.of_own' (own_far (own_far hout (p := ⟨w.heap.size, 0, none⟩) hne _) (p := ⟨w.heap.size, 1, none⟩) hne _)
      · have h := ((hI'.out.rows.far (p := ⟨w.heap.size, 0, none⟩) (by simp) (.int .i64 k)).far (p := ⟨w.heap.size, 1, none⟩) (by simp) (.slice A' k c')).rows
        rw [hvn.out] at h
        exact h
theorem ref3_NewF (n : Nat) (hn : n ≤ 4096) (w : World) :
    Calls Try.prog 30 #[.int .i64 (n : Int)] w (RetMatF (n : Int) (newM n) 0 w) := (ref3_NewG n hn w).mono fun _ _ h => h.f
theorem ref3_New (n : Nat) (hn : n ≤ 4096) (w : World) :
    Calls Try.prog 30 #[.int .i64 (n : Int)] w (RetMat (n : Int) (newM n) 0 w) :=
  (ref3_NewF n hn w).mono fun _ _ ⟨A', n', c', h1, h2, h3, h4, _⟩ => ⟨A', n', c', h1, h2, h3, h4⟩

end Go.Proofs.Ytjmkpoignnbcpaa

namespace Go.Proofs.Ytjmkpoignnbcpaa
open Go.RowKit
set_option linter.unusedVariables false

set_option maxHeartbeats 400000 in
theorem ref3_New_no (n : Int) (h : n < 0 ∨ 4097 ≤ n) (w : World) :
    Calls Try.prog 30 #[.int .i64 n] w (RetMat 0 [] 1 w) := by
  have ha : Below w.heap.size w (w.alloc (.cells #[.int .i64 0, .slice none 0 0] 37)) := (Below.refl _ _).alloc (Nat.le_refl _) _
  replace ha := Lib.hid ha
  by_cases h0 : n < 0
  · clear h
    go_enter Try.func30, Try.ntmps30
    go_wp2_with fail
    exact bodyPost_ret (v := .tuple #[.agg #[.int .i64 0, .slice none 0 0], .int .i64 1]) (by simp [results, Try.results30, go_sem]) rfl ⟨none, 0, 0, rfl, RowsAt.nil _ _, Nat.le_refl _, ha.out⟩
  · have h1 : 4096 < n := by omega
    clear h
    go_enter Try.func30, Try.ntmps30
    go_wp2_with fail
    exact bodyPost_ret (v := .tuple #[.agg #[.int .i64 0, .slice none 0 0], .int .i64 1]) (by simp [results, Try.results30, go_sem]) rfl ⟨none, 0, 0, rfl, RowsAt.nil _ _, Nat.le_refl _, ha.out⟩


end Go.Proofs.Ytjmkpoignnbcpaa

namespace Go.Proofs.Ytjmkpoignnbcpaa
open Go.RowKit
set_option linter.unusedVariables false

theorem MatB.belowB {w w' : World} {g : Nat} {t : TypeId} {N : Int} {A : Option Addr} {n c B : Nat} (h : MatB w g t N A n c) (hb : Below B w w') (hg : g < B) : MatB w' g t N A n c := Blk.below h hb hg
theorem MatB.farB {w : World} {g : Nat} {t : TypeId} {N : Int} {A : Option Addr} {n c : Nat} (h : MatB w g t N A n c) {p : Addr} (hp : g ≠ p.block) (u : Value) : MatB (w.setCell p u) g t N A n c := Blk.far h hp u
set_option maxHeartbeats 400000 in
theorem ref3_Set_noF (N : Int) (A : Option Addr) (n c : Nat) (i j : Int) (w : World) (h3 : inM N i j = false) :
    Calls Try.prog 31 #[.agg #[.int .i64 N, .slice A n c], .int .i64 i, .int .i64 j] w (RetMatF 0 [] 1 w) := by
  obtain ⟨W0, hW0⟩ : ∃ W0, W0 = (w.alloc (.cells #[.int .i64 N, .slice A n c] 37)).alloc (.cells #[.int .i64 0, .slice none 0 0] 37) := ⟨_, rfl⟩
  have ha : Below w.heap.size w W0 := by rw [hW0]; exact ((Below.refl _ _).alloc (Nat.le_refl _) _).alloc (by simp) _
  have hB2 : MatB W0 (w.heap.size + 1) 37 0 none 0 0 := by rw [hW0]; exact MatB.new1 w _ _
  have hin := Lib.hid (ref3_in N A n c i j W0)
  replace h3 := Lib.hid h3
  replace ha := Lib.hid ha
  replace hB2 := Lib.hid hB2
  go_enter Try.func31, Try.ntmps31
  go_wp2_with fail
  rw [← hW0]
  clear hW0
  refine hin.out.mono ?_; rintro e w1 ⟨rfl, hb1⟩
  rw [h3.out]
  have hbb := Lib.hid (below_trans2 ha.out hb1)
  have hres := hB2.out.below_ hb1
  have f0 := hres.c0
  have f1 := hres.c1
  have g0 := hres.frozen 0
  have g1 := hres.frozen 1
  have hcc := hres.two (.int .i64 0) (.slice none 0 0)
  have hc1 := Lib.hid hcc.1
  have hc2 := Lib.hid hcc.2
  clear hcc hres hb1
  go_wp2_with fail
  exact bodyPost_ret (v := .tuple #[.agg #[.int .i64 0, .slice none 0 0], .int .i64 1]) (by simp [results, Try.results31, go_sem, hc1.out, hc2.out]) rfl ⟨none, 0, 0, rfl, RowsAt.nil _ _, Nat.le_refl _, (hbb.out.setCell (by simp) _).setCell (by simp) _, fun ad e => by cases e⟩

set_option maxRecDepth 100000 in
set_option maxHeartbeats 1000000 in
theorem ref3_SetG (B0 : Nat) (N : Int) (A : Option Addr) (n c : Nat) (xss : List (List Nat)) (i j : Int) (w : World) (hr : RowsG B0 w A n xss) (hB0 : B0 ≤ w.heap.size) (hN : N = (n : Int)) (hn : n ≤ 4096) (hl : ∀ xs ∈ xss, xs.length ≤ 1024)
    (h3 : inM N i j = true) :
    Calls Try.prog 31 #[.agg #[.int .i64 N, .slice A n c], .int .i64 i, .int .i64 j] w (RetMatG B0 N (setM xss i j) 0 w) := by
  subst hN
  obtain ⟨x0, hxi, hxz0, hxz1, hxz2⟩ := info_parts info_row
  replace hxi := Lib.hid hxi
  replace hxz0 := Lib.hid hxz0
  replace hxz1 := Lib.hid hxz1
  replace hxz2 := Lib.hid hxz2
  obtain ⟨i0, i1, j0, j1⟩ := inM_yes h3
  obtain ⟨k, rfl⟩ := Int.eq_ofNat_of_zero_le i0
  have hk : k < n := by omega
  obtain ⟨W0, hW0⟩ : ∃ W0, W0 = (w.alloc (.cells #[.int .i64 n, .slice A n c] 37)).alloc (.cells #[.int .i64 0, .slice none 0 0] 37) := ⟨_, rfl⟩
  have ha : Below w.heap.size w W0 := by rw [hW0]; exact ((Below.refl _ _).alloc (Nat.le_refl _) _).alloc (by simp) _
  have hB1 : MatB W0 w.heap.size 37 n A n c := by rw [hW0]; exact (MatB.new w _).below_ ((Below.refl _ _).alloc (Nat.le_refl _) _)
  have hB2 : MatB W0 (w.heap.size + 1) 37 0 none 0 0 := by rw [hW0]; exact MatB.new1 w _ _
  have hin := Lib.hid (ref3_in (n : Int) A n c k j W0)
  have hsz : W0.heap.size = w.heap.size + 2 := by rw [hW0]; simp
  have hlen := hr.at.len
  have hlt := Lib.hid hr.at.w64
  obtain ⟨vs, hrdw, hrcw, -, hvg⟩ := hr
  replace hvg := Lib.hid hvg
  replace hB0 := Lib.hid hB0
  obtain ⟨b, off, u, rfl, hbl, hu, hc⟩ := hrdw.at_ hk
  obtain ⟨xs, hx⟩ : ∃ xs, xss[k]? = some xs := ⟨_, List.getElem?_eq_getElem (by omega)⟩
  obtain ⟨B, m, d, rfl, hxr⟩ := hrcw.2 k u xs hu hx
  have hm : m ≤ 1024 := by have := hxr.len; have := hl xs (List.mem_of_getElem? hx); omega
  have hst := Lib.hid (ref2_SetO B m d xs j)
  have hx2 := Lib.hid hx
  have hu2 := Lib.hid hu
  have hone := Lib.hid (one_rows hrcw)
  replace hB1 := Lib.hid hB1
  replace hB2 := Lib.hid hB2
  replace hsz := Lib.hid hsz
  replace ha := Lib.hid ha
  replace h3 := Lib.hid h3
  replace hxr := Lib.hid hxr
  replace hrcw := Lib.hid hrcw
  replace hrdw := Lib.hid hrdw
  have hk0 : (0 : Int) ≤ (k : Int) := by omega
  have hkn : (k : Int) < (n : Int) := by omega
  clear hc hu hx hlen hl i0 i1
  go_enter Try.func31, Try.ntmps31
  go_wp2_with fail
  rw [← hW0]
  clear hW0
  refine hin.out.mono ?_; rintro e w1 ⟨rfl, hb1⟩
  rw [h3.out]
  have hbb := Lib.hid (below_trans2 ha.out hb1)
  have hs1 : w.heap.size + 2 ≤ w1.heap.size := by have := hb1.size; have := hsz.out; omega
  have hA1 := Lib.hid (hB1.out.below_ hb1)
  have hR1 := Lib.hid (hB2.out.below_ hb1)
  have hba : Below w1.heap.size w1 (w1.alloc (.cells #[] 61)) := (Below.refl _ _).alloc (Nat.le_refl _) _
  have hlit : (w1.alloc (.cells #[] 61)).ownsRow w1.heap.size 61 1 (.slice (some ⟨w1.heap.size, 0, none⟩) 0 0) 0 [] := by
    have h := World.ownsRow_lit (size := 1) (base := w1.heap.size) (e := 61) w1 #[] 0 (Nat.le_refl _) (by omega) (by simp)
    simpa using h
  have l1 : (w1.alloc (.cells #[] 61)).cell? ⟨w.heap.size, 1, none⟩ = some (.slice (some ⟨b, off, none⟩) n c) := (hA1.out.below_ hba).c1
  have hrd : Rd (w1.alloc (.cells #[] 61)) (some ⟨b, off, none⟩) n vs := (hrdw.out.below hbb.out).below hba
  have hbba := Lib.hid (below_trans2 hbb.out hba)
  have hRa := Lib.hid (hR1.out.below_ hba)
  have hAa := Lib.hid (hA1.out.below_ hba)
  clear hb1
  go_wp2_with (at_builtin; refine wpList_append_rd rfl (.tmp 15) (.tmp 17) _ rfl w1.heap.size 61 x0 _ 24 Try.underlying35 hxi.out hxz0.out hxz1.out hxz2.out rfl _ 0 _ (by rfl) hlit _ n c _ rfl hrd hone.out (by unfold maxLen; omega) (by omega) hba.size ?_; intro v2 w2 hown2 hbc hform; simp only [Nat.zero_add, List.nil_append] at hown2 hform; obtain ⟨g, cap, rfl⟩ := hform (by omega); have hcg := hown2.cellAt k (by omega); rw [hu2.out] at hcg; have hfg := hown2.frozenAt k; clear hform l1)
  have hglt := (hown2.lt g rfl).1
  have hb2 : Below w.heap.size w w2 := hbba.out.trans (hbc.mono (by omega))
  have hR2 := Lib.hid (MatB.belowB hRa.out hbc (by omega))
  have hA2 := Lib.hid (MatB.belowB hAa.out hbc (by omega))
  replace hb2 := Lib.hid hb2
  replace hown2 := Lib.hid hown2
  clear hba hlit hrd hbc hcg hfg
  refine (hst.out w2 (hxr.out.below hb2.out) (by omega) (by omega) (by omega)).mono ?_; rintro e w3 ⟨C, p, q, rfl, hxr2, hx64, hb3⟩
  have hown3 := Lib.hid (own_below hown2.out hb3)
  have hcg := hown3.out.cellAt k (by omega)
  rw [hu2.out] at hcg
  have hfg := hown3.out.frozenAt k
  have hR3 := Lib.hid (hR2.out.below_ hb3)
  have hA3 := Lib.hid (hA2.out.below_ hb3)
  have hbb3 := Lib.hid (below_trans2 hb2.out hb3)
  have hCb : Hid (∀ ad, C = some ad → w2.heap.size ≤ ad.block) := Lib.hid (fun ad e => by subst e; exact own_lt_block hxr2 _ rfl)
  have hgl2 : g < w2.heap.size := (hown2.out.lt g rfl).2
  replace hxr2 := Lib.hid (Row.of_own hxr2 hx64)
  have hA4 := MatB.farB (p := ⟨g, k, none⟩) hA3.out (by simp <;> omega) (.slice C p q)
  have hR4 := hR3.out.farB (p := ⟨g, k, none⟩) (by simp <;> omega) (.slice C p q)
  have f10 := hA4.c0
  have f20 := hR4.c0
  have f21 := hR4.c1
  have g20 := hR4.frozen 0
  have g21 := hR4.frozen 1
  have hcc := MatB.two hR4 (.int .i64 n) (.slice (some ⟨g, 0, none⟩) n cap)
  have hc1 := Lib.hid hcc.1
  have hc2 := Lib.hid hcc.2
  clear hA4 hR4 hcc hb3 hx64
  go_wp2_with fail
  have hfin : Below w.heap.size w ((((w3.setCell ⟨g, k, none⟩ (.slice C p q)).setCell ⟨w.heap.size + 1, 0, none⟩ (.int .i64 n)).setCell ⟨w.heap.size + 1, 1, none⟩ (.slice (some ⟨g, 0, none⟩) n cap))) := ((hbb3.out.setCell (by simp <;> omega) _).setCell (by simp) _).setCell (by simp) _
  refine bodyPost_ret (v := .tuple #[.agg #[.int .i64 n, .slice (some ⟨g, 0, none⟩) n cap], .int .i64 0]) (by simp [results, Try.results31, go_sem, hc1.out, hc2.out]) rfl ⟨_, _, _, rfl, ?_, own_cap hown3.out, hfin, fun ad e => by cases e; show w.heap.size ≤ g; omega⟩
  refine ⟨_, Rd.of_own' (own_far (own_far (hown3.out.stored k (.slice C p q)).1 (p := ⟨w.heap.size + 1, 0, none⟩) (by simp [Value.ownBlock]; omega) _) (p := ⟨w.heap.size + 1, 1, none⟩) (by simp [Value.ownBlock]; omega) _), ?_, fun ad e => by cases e; have := hB0.out; show B0 ≤ g; omega, fun v hv g' e => by
    rcases List.mem_or_eq_of_mem_set hv with h | rfl
    · exact hvg.out v h g' e
    · cases C with
      | none => cases e
      | some ad =>
        injection e with e
        have h1 := hCb.out ad rfl
        have h2 := hB0.out
        have h3 := hb2.out.size
        omega⟩
  have h1 := hrcw.out.below hfin
  rw [setM_nat hx2.out]
  refine h1.set ⟨C, p, q, rfl, ?_⟩ k
  exact ((hxr2.out.setCell (fun ad e => by have := hCb.out ad e; simp <;> omega) _).setCell (fun ad e => by have := hCb.out ad e; simp <;> omega) _).setCell (fun ad e => by have := hCb.out ad e; simp <;> omega) _
theorem ref3_SetF (N : Int) (A : Option Addr) (n c : Nat) (xss : List (List Nat)) (i j : Int) (w : World) (hr : RowsAt w A n xss) (hN : N = (n : Int)) (hn : n ≤ 4096) (hl : ∀ xs ∈ xss, xs.length ≤ 1024)
    (h3 : inM N i j = true) :
    Calls Try.prog 31 #[.agg #[.int .i64 N, .slice A n c], .int .i64 i, .int .i64 j] w (RetMatF N (setM xss i j) 0 w) :=
  (ref3_SetG 0 N A n c xss i j w (RowsG.of hr) (Nat.zero_le _) hN hn hl h3).mono fun _ _ h => h.f
theorem ref3_Set_no (N : Int) (A : Option Addr) (n c : Nat) (i j : Int) (w : World) (h3 : inM N i j = false) :
    Calls Try.prog 31 #[.agg #[.int .i64 N, .slice A n c], .int .i64 i, .int .i64 j] w (RetMat 0 [] 1 w) :=
  (ref3_Set_noF N A n c i j w h3).mono fun _ _ ⟨A', n', c', h1, h2, h3, h4, _⟩ => ⟨A', n', c', h1, h2, h3, h4⟩
theorem ref3_Set (N : Int) (A : Option Addr) (n c : Nat) (xss : List (List Nat)) (i j : Int) (w : World) (hr : RowsAt w A n xss) (hN : N = (n : Int)) (hn : n ≤ 4096) (hl : ∀ xs ∈ xss, xs.length ≤ 1024)
    (h3 : inM N i j = true) :
    Calls Try.prog 31 #[.agg #[.int .i64 N, .slice A n c], .int .i64 i, .int .i64 j] w (RetMat N (setM xss i j) 0 w) :=
  (ref3_SetF N A n c xss i j w hr hN hn hl h3).mono fun _ _ ⟨A', n', c', h1, h2, h3, h4, _⟩ => ⟨A', n', c', h1, h2, h3, h4⟩

end Go.Proofs.Ytjmkpoignnbcpaa
