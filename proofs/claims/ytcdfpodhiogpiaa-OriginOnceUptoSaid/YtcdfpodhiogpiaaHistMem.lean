/- Words for memory: slices of operations (three cells each), histories (slices of such slices). No function of the program is named here. -/
import Derived.Test.YtcdfpodhiogpiaaMem
namespace Go.Proofs.Ytcdfpodhiogpiaa
open Go.RowKit
set_option linter.unusedVariables false

/-- an operation: does it write, its variable, its value -/
abbrev OpT := Bool × ByteArray × Int
def cellsO (os : List OpT) : List Value := os.flatMap fun o => [.bool o.1, .string o.2.1, .int .i64 o.2.2]
def OkO (os : List OpT) : Prop := ∀ o ∈ os, (-9223372036854775808 ≤ o.2.2 ∧ o.2.2 < 9223372036854775808) ∧ o.2.1.size ≤ 9223372036854775807
theorem cellsO_len (os : List OpT) : (cellsO os).length = os.length * 3 := by
  induction os with
  | nil => rfl
  | cons o os ih => show (_ :: _ :: _ :: cellsO os).length = _; simp only [List.length_cons, ih]; omega
theorem cellsO_append (a b : List OpT) : cellsO (a ++ b) = cellsO a ++ cellsO b := List.flatMap_append
theorem cellsO_at {os : List OpT} {k : Nat} {o : OpT} (h : os[k]? = some o) : (cellsO os)[k * 3]? = some (.bool o.1) ∧ (cellsO os)[k * 3 + 1]? = some (.string o.2.1) ∧ (cellsO os)[k * 3 + 2]? = some (.int .i64 o.2.2) := by
  induction os generalizing k with
  | nil => simp at h
  | cons p os ih =>
    have e : cellsO (p :: os) = .bool p.1 :: .string p.2.1 :: .int .i64 p.2.2 :: cellsO os := rfl
    cases k with
    | zero => simp at h; subst h; exact ⟨rfl, rfl, rfl⟩
    | succ k =>
      rw [e, show (k + 1) * 3 = k * 3 + 1 + 1 + 1 from by omega]
      exact ih (by simpa using h)
/-- the slice '.slice A n c' of operations reads as os -/
def OpsAt (w : World) (A : Option Addr) (n : Nat) (os : List OpT) : Prop :=
  os.length = n ∧ OkO os ∧ (0 < n → ∃ b off, A = some ⟨b, off, none⟩ ∧ b < w.heap.size ∧ ∀ (j : Nat) (u : Value), (cellsO os)[j]? = some u → w.cell? ⟨b, off + j, none⟩ = some u)
/-- a value that is a slice that reads as the operations os -/
def SessV (w : World) (v : Value) (os : List OpT) : Prop := ∃ A n c, v = .slice A n c ∧ n ≤ c ∧ n ≤ 9223372036854775807 ∧ OpsAt w A n os
/-- the slice '.slice A n c' of sessions reads as hs -/
def HistAt (w : World) (A : Option Addr) (n : Nat) (hs : List (List OpT)) : Prop :=
  ∃ vs, Rd w A n vs ∧ vs.length = hs.length ∧ ∀ (i : Nat) (v : Value) (os : List OpT), vs[i]? = some v → hs[i]? = some os → SessV w v os
section
variable {w w' : World} {A : Option Addr} {n : Nat} {os : List OpT} {hs : List (List OpT)} {v : Value}
theorem OpsAt.len (h : OpsAt w A n os) : os.length = n := h.1
theorem OpsAt.below (h : OpsAt w A n os) (hb : Below w.heap.size w w') : OpsAt w' A n os :=
  ⟨h.1, h.2.1, fun hn => by
    obtain ⟨b, off, e, hbl, hc⟩ := h.2.2 hn
    exact ⟨b, off, e, Nat.lt_of_lt_of_le hbl hb.size, fun j u hu => (hb.cell (p := ⟨b, off + j, none⟩) hbl).trans (hc j u hu)⟩⟩
theorem OpsAt.nil (w : World) (A : Option Addr) : OpsAt w A 0 [] := ⟨rfl, fun o h => (by cases h), fun h => absurd h (by omega)⟩
theorem OpsAt.at_ {k : Nat} (h : OpsAt w A n os) (hk : k < n) : ∃ b off o, A = some ⟨b, off, none⟩ ∧ b < w.heap.size ∧ os[k]? = some o ∧ ((-9223372036854775808 ≤ o.2.2 ∧ o.2.2 < 9223372036854775808) ∧ o.2.1.size ≤ 9223372036854775807) ∧
    w.cell? ⟨b, off + k * 3, none⟩ = some (.bool o.1) ∧ w.cell? ⟨b, off + k * 3 + 1, none⟩ = some (.string o.2.1) ∧ w.cell? ⟨b, off + k * 3 + 2, none⟩ = some (.int .i64 o.2.2) := by
  obtain ⟨b, off, e, hb, hc⟩ := h.2.2 (by omega)
  have hl : k < os.length := by rw [h.1]; exact hk
  have ho := List.getElem?_eq_getElem hl
  obtain ⟨c0, c1, c2⟩ := cellsO_at ho
  exact ⟨b, off, os[k], e, hb, ho, h.2.1 _ (List.getElem_mem hl), hc _ _ c0, hc _ _ c1, hc _ _ c2⟩
theorem OpsAt.of_own {base : Nat} {e : TypeId} (h : w.ownsRow base e 3 v n (cellsO os)) (ho : OkO os) (hl : os.length = n) : ∃ A c, v = .slice A n c ∧ OpsAt w A n os := by
  rcases h.2 with ⟨rfl, rfl⟩ | ⟨g, cap, cur, rfl, hbg, hg, hnc, hcm, hcs, htake⟩
  · have : os = [] := List.eq_nil_of_length_eq_zero hl
    subst this
    exact ⟨none, 0, rfl, OpsAt.nil _ _⟩
  · refine ⟨_, _, rfl, hl, ho, fun _ => ⟨g, 0, rfl, (Array.getElem?_eq_some_iff.1 hg).1, fun j u hu => ?_⟩⟩
    rw [Nat.zero_add, cell_of_row w g j cur e (0, 0) hg]
    have hj : j < n * 3 := by
      have := (List.getElem?_eq_some_iff.1 hu).1
      rw [cellsO_len, hl] at this
      exact this
    rw [← htake, List.getElem?_take_of_lt hj] at hu
    simpa using hu
theorem SessV.below (h : SessV w v os) (hb : Below w.heap.size w w') : SessV w' v os := by
  obtain ⟨A, n, c, e, h1, h2, h3⟩ := h; exact ⟨A, n, c, e, h1, h2, h3.below hb⟩
theorem HistAt.len (h : HistAt w A n hs) : hs.length = n := by
  obtain ⟨vs, h1, h2, _⟩ := h; rw [← h2, h1.1]
theorem HistAt.below (h : HistAt w A n hs) (hb : Below w.heap.size w w') : HistAt w' A n hs := by
  obtain ⟨vs, h1, h2, h3⟩ := h; exact ⟨vs, h1.below hb, h2, fun i v os hv ho => (h3 i v os hv ho).below hb⟩
theorem HistAt.nil (w : World) (A : Option Addr) : HistAt w A 0 [] := ⟨[], Rd.nil _ _, rfl, fun i v os h => by simp at h⟩
theorem HistAt.at_ {k : Nat} (h : HistAt w A n hs) (hk : k < n) : ∃ b off B m c os, A = some ⟨b, off, none⟩ ∧ b < w.heap.size ∧ hs[k]? = some os ∧ w.cell? ⟨b, off + k, none⟩ = some (.slice B m c) ∧ m ≤ c ∧ m ≤ 9223372036854775807 ∧ OpsAt w B m os := by
  obtain ⟨vs, h1, h2, h3⟩ := h
  obtain ⟨b, off, u, hA, hb, hu, hc⟩ := h1.at_ hk
  have hl : k < hs.length := by rw [← h2, h1.1]; exact hk
  obtain ⟨B, m, c, e, h4, h5, h6⟩ := h3 k u hs[k] hu (List.getElem?_eq_getElem hl)
  subst e
  exact ⟨b, off, B, m, c, hs[k], hA, hb, List.getElem?_eq_getElem hl, hc, h4, h5, h6⟩
/-- the first k sessions -/
theorem HistAt.take (h : HistAt w A n hs) {k : Nat} (hk : k ≤ n) : HistAt w A k (hs.take k) := by
  obtain ⟨vs, h1, h2, h3⟩ := h
  refine ⟨vs.take k, ⟨by rw [List.length_take, h1.1]; omega, fun h0 => ?_⟩, by rw [List.length_take, List.length_take, h2], fun i v os hv ho => ?_⟩
  · obtain ⟨b, off, e, hb, hc⟩ := h1.2 (by omega)
    refine ⟨b, off, e, hb, fun j u hu => hc j u ?_⟩
    have hj : j < k := by
      have := (List.getElem?_eq_some_iff.1 hu).1
      rw [List.length_take] at this; omega
    rwa [List.getElem?_take_of_lt hj] at hu
  · have hj : i < k := by
      have := (List.getElem?_eq_some_iff.1 hv).1
      rw [List.length_take] at this; omega
    rw [List.getElem?_take_of_lt hj] at hv ho
    exact h3 i v os hv ho
end

/-! ### how many there are -/
theorem flat_take_succ {hs : List (List OpT)} {k : Nat} {os : List OpT} (h : hs[k]? = some os) : (hs.take (k + 1)).flatten = (hs.take k).flatten ++ os := by
  rw [List.take_succ_eq_append_getElem (List.getElem?_eq_some_iff.1 h).1, (List.getElem?_eq_some_iff.1 h).2, List.flatten_append]; simp
theorem flat_take_le (hs : List (List OpT)) (k : Nat) : (hs.take k).flatten.length ≤ hs.flatten.length := by
  have h : hs.flatten = (hs.take k).flatten ++ (hs.drop k).flatten := by rw [← List.flatten_append, List.take_append_drop]
  rw [h, List.length_append]; omega
theorem okO_append {a b : List OpT} (ha : OkO a) (hb : OkO b) : OkO (a ++ b) := fun o h => (List.mem_append.1 h).elim (ha o) (hb o)
end Go.Proofs.Ytcdfpodhiogpiaa
