/- Arguments opened: a history (a slice of slices of operations), and what the bound of an '..Upto' statement says of it. -/
import Derived.Test.YtjhjojklfdjmdaaGreatRows
import Derived.Test.YtjhjojklfdjmdaaGreatBadFieldsPk1
import Derived.Deep.Slices
import Derived.OpenShut
import Derived.ChangeArms
import Derived.WalkKit
import Derived.ProofKit
namespace Go.Proofs.YtjhjojklfdjmdaaGreat
open Go.RowKit Go.ChangeShapes Go.WideShapes Go.Deep
set_option linter.unusedVariables false

theorem bulk_append {H : Type} (l r : List (DataW H)) : Rows.uptoBulkAll (l ++ r) = Rows.uptoBulkAll l + Rows.uptoBulkAll r := by
  induction l with
  | nil => simp [Rows.uptoBulkAll]
  | cons x l ih => rw [List.cons_append, Rows.uptoBulkAll, Rows.uptoBulkAll, ih]; omega
theorem bulk_pos {H : Type} (d : DataW H) : 1 ≤ Rows.uptoBulk d := by
  cases d with
  | lit l => cases l <;> simp [Rows.uptoBulk]
  | nil => simp [Rows.uptoBulk]
  | ptr d => simp [Rows.uptoBulk]
  | slice elems spare => simp [Rows.uptoBulk]
  | agg parts => simp [Rows.uptoBulk]
  | iface t d => simp [Rows.uptoBulk]
  | map entries => simp [Rows.uptoBulk]
  | held h => simp [Rows.uptoBulk]
theorem bulk_len {H : Type} (l : List (DataW H)) : l.length ≤ Rows.uptoBulkAll l := by
  induction l with
  | nil => simp
  | cons x r ih => have := bulk_pos x; rw [Rows.uptoBulkAll, List.length_cons]; omega
theorem bulk_slice {H : Type} (a b : List (DataW H)) : Rows.uptoBulk (.slice a b) = Rows.uptoBulkAll a + Rows.uptoBulkAll b + 1 := by rw [Rows.uptoBulk]
theorem addr_plus (b off j : Nat) : (⟨b, off, none⟩ : Addr).add j = ⟨b, off + j, none⟩ := by unfold Addr.add; split <;> simp_all

section
variable {H : Type} {enc : TypeId × Value → H} {P : Program} {w : World} {base : Nat} {held : Bool}
theorem open_ops {t e : TypeId} {f0 f1 f2 : Field} {fuel : Nat} {A : Option Addr} {len cap : Nat} {x : DataW H × List MemPlace} (ht : P.underlying t = some (.slice e)) (he : P.underlying e = some (.struct #[f0, f1, f2])) (ce : P.cellsOf e = 3)
    (o0 : f0.offset = 0) (o1 : f1.offset = 1) (o2 : f2.offset = 2) (k0 : P.cellsOf f0.type = 1) (k1 : P.cellsOf f1.type = 1) (k2 : P.cellsOf f2.type = 1)
    (u0 : P.underlying f0.type = some .bool) (u1 : P.underlying f1.type = some .string) (u2 : P.underlying f2.type = some (.int .i64))
    (h : DataW.trod enc P w base (fun _ => true) held fuel t [.slice A len cap] = some x) : ∃ os, OpsAt w A len os ∧ len ≤ cap ∧ cap ≤ 9223372036854775807 ∧ cap ≤ Rows.uptoBulk x.1 := by
  rcases open_slice ht h with ⟨hcs, hx⟩ | ⟨⟨b, off, spot⟩, l, c, m, n, D, Pl, hcs, hb, hl, hm, hmm, hx, hel⟩
  · injection hcs with hcs
    injection hcs with h1 h2 h3
    subst h1 h2 h3
    exact ⟨[], OpsAt.nil _ _, by omega, by omega, by omega⟩
  · injection hcs with hcs
    injection hcs with h1 h2 h3
    subst h1 h2 h3
    rw [if_pos rfl] at hmm
    subst hmm
    have hbulk : m ≤ Rows.uptoBulk x.1 := by
      rw [hx, bulk_slice]
      have := bulk_len ((List.range len).map D)
      have := bulk_len ((List.range (m - len)).map fun j => D (len + j))
      simp only [List.length_map, List.length_range] at *
      omega
    have hmm : m ≤ 9223372036854775807 := by unfold maxLen at hm; omega
    have hat : ∀ k, k < len → ∃ o : OpT, ((-9223372036854775808 ≤ o.2.2 ∧ o.2.2 < 9223372036854775808) ∧ o.2.1.size ≤ 9223372036854775807) ∧
        w.cell? ((⟨b, off, spot⟩ : Addr).add (k * 3)) = some (.bool o.1) ∧ w.cell? (((⟨b, off, spot⟩ : Addr).add (k * 3)).add 1) = some (.string o.2.1) ∧ w.cell? (((⟨b, off, spot⟩ : Addr).add (k * 3)).add 2) = some (.int .i64 o.2.2) := by
      intro k hk
      obtain ⟨cs', hc, ht'⟩ := hel k (by omega)
      rw [ce] at hc
      obtain ⟨_, hcl, hcat⟩ := World.cells?_some hc
      obtain ⟨xs, m', _, _, _, hxl, hf⟩ := DataW.trod_struct he ht'
      match cs', hcl with
      | [p, q, r], _ =>
        match xs, hxl with
        | [y0, y1, y2], _ =>
          have f0' := hf 0 f0 rfl
          have f1' := hf 1 f1 rfl
          have f2' := hf 2 f2 rfl
          rw [o0, k0] at f0'
          rw [o1, k1] at f1'
          rw [o2, k2] at f2'
          simp at f0' f1' f2'
          obtain ⟨bv, e0, _⟩ := DataW.trod_bool u0 f0'
          obtain ⟨sv, e1, _, ws⟩ := DataW.trod_string u1 f1'
          obtain ⟨iv, e2, _, wi⟩ := DataW.trod_int u2 f2'
          injection e0 with e0
          injection e1 with e1
          injection e2 with e2
          subst e0; subst e1; subst e2
          have c0 := hcat 0 (by omega)
          have c1 := hcat 1 (by omega)
          have c2 := hcat 2 (by omega)
          have hz : ∀ a : Addr, a.add 0 = a := fun a => by obtain ⟨b, o, s⟩ := a; unfold Addr.add; split <;> simp_all
          rw [hz] at c0
          have hb := bounds_i64 wi
          exact ⟨(bv, sv, iv), ⟨⟨hb.1, by have := hb.2; show iv < _; omega⟩, by unfold maxLen at ws; exact ws⟩, by simpa using c0, by simpa using c1, by simpa using c2⟩
    by_cases h0 : len = 0
    · subst h0
      exact ⟨[], OpsAt.nil _ _, by omega, hmm, hbulk⟩
    · obtain ⟨_, _, hc0, _, _⟩ := hat 0 (by omega)
      have hspot : spot = none := by
        have h := World.cell?_spot hc0
        cases spot with
        | none => rfl
        | some s => unfold Addr.add at h; simp at h
      subst hspot
      have hblt : b < w.heap.size := by
        have := World.block_lt_of_cell? w _ hc0
        rwa [addr_plus] at this
      have hall : ∀ k, k ≤ len → ∃ os : List OpT, os.length = k ∧ OkO os ∧ ∀ (j : Nat) (u : Value), (cellsO os)[j]? = some u → w.cell? ⟨b, off + j, none⟩ = some u := by
        intro k
        induction k with
        | zero => exact fun _ => ⟨[], rfl, fun o h => by simp at h, fun j u h => by simp [cellsO] at h⟩
        | succ k ih =>
          intro hk
          obtain ⟨os, p1, p2, p3⟩ := ih (by omega)
          obtain ⟨o, hok, c0, c1, c2⟩ := hat k (by omega)
          rw [addr_plus] at c0 c1 c2
          rw [addr_plus] at c1 c2
          refine ⟨os ++ [o], by simp [p1], okO_append p2 (fun o' h => by rw [List.mem_singleton.1 h]; exact hok), fun j u hj => ?_⟩
          rw [cellsO_append] at hj
          rcases Nat.lt_or_ge j (cellsO os).length with hlt | hge
          · rw [List.getElem?_append_left hlt] at hj; exact p3 j u hj
          · rw [List.getElem?_append_right hge] at hj
            have hlk : (cellsO os).length = k * 3 := by rw [cellsO_len, p1]
            obtain ⟨r, rfl⟩ : ∃ r, j = k * 3 + r := ⟨j - k * 3, by omega⟩
            rw [hlk, Nat.add_sub_cancel_left] at hj
            match r, hj with
            | 0, hj =>
              have : u = .bool o.1 := by simpa [cellsO] using hj.symm
              rw [this]; exact c0
            | 1, hj =>
              have : u = .string o.2.1 := by simpa [cellsO] using hj.symm
              rw [this, ← Nat.add_assoc]; exact c1
            | 2, hj =>
              have : u = .int .i64 o.2.2 := by simpa [cellsO] using hj.symm
              rw [this, ← Nat.add_assoc]; exact c2
            | r + 3, hj => simp [cellsO] at hj
      obtain ⟨os, p1, p2, p3⟩ := hall len (Nat.le_refl _)
      exact ⟨os, ⟨p1, p2, fun _ => ⟨b, off, rfl, hblt, p3⟩⟩, hl, hmm, hbulk⟩
theorem open_hist {th t e : TypeId} {f0 f1 f2 : Field} {fuel : Nat} {v : Value} {x : DataW H × List MemPlace} (hth : P.underlying th = some (.slice t)) (ct : P.cellsOf t = 1) (ht : P.underlying t = some (.slice e)) (he : P.underlying e = some (.struct #[f0, f1, f2])) (ce : P.cellsOf e = 3)
    (o0 : f0.offset = 0) (o1 : f1.offset = 1) (o2 : f2.offset = 2) (k0 : P.cellsOf f0.type = 1) (k1 : P.cellsOf f1.type = 1) (k2 : P.cellsOf f2.type = 1)
    (u0 : P.underlying f0.type = some .bool) (u1 : P.underlying f1.type = some .string) (u2 : P.underlying f2.type = some (.int .i64))
    (h : DataW.trod enc P w base (fun _ => true) held fuel th [v] = some x) : ∃ A len cap hs, v = .slice A len cap ∧ HistAt w A len hs ∧ len ≤ cap ∧ cap ≤ 9223372036854775807 ∧ cap ≤ Rows.uptoBulk x.1 ∧ (allO hs).length ≤ Rows.uptoBulk x.1 := by
  rcases open_slice1 hth ct h with ⟨hcs, hx⟩ | ⟨⟨b, off, spot⟩, len, cap, m, n, V, D, Pl, hcs, hb, hl, hm, hmm, hx, hel⟩
  · injection hcs with hcs
    exact ⟨none, 0, 0, [], hcs, HistAt.nil _ _, by omega, by omega, by omega, by simp [allO]⟩
  · injection hcs with hcs
    rw [if_pos rfl] at hmm
    subst hmm
    have hmm : m ≤ 9223372036854775807 := by unfold maxLen at hm; omega
    have hbulk : m ≤ Rows.uptoBulk x.1 ∧ Rows.uptoBulkAll ((List.range len).map D) ≤ Rows.uptoBulk x.1 := by
      rw [hx, bulk_slice]
      have := bulk_len ((List.range len).map D)
      have := bulk_len ((List.range (m - len)).map fun j => D (len + j))
      simp only [List.length_map, List.length_range] at *
      omega
    have hat : ∀ k, k < len → ∃ os, SessV w (V k) os ∧ os.length ≤ Rows.uptoBulk (D k) := by
      intro k hk
      obtain ⟨_, hk2⟩ := hel k (by omega)
      obtain ⟨A', n', c', e'⟩ : ∃ A' n' c', V k = .slice A' n' c' := by
        rcases open_slice ht hk2 with ⟨hcs, _⟩ | ⟨a, l, c, m, n, D, Pl, hcs, _⟩
        · injection hcs with hcs; exact ⟨_, _, _, hcs⟩
        · injection hcs with hcs; exact ⟨_, _, _, hcs⟩
      rw [e'] at hk2
      obtain ⟨os, h1, h2, h3, h4⟩ := open_ops ht he ce o0 o1 o2 k0 k1 k2 u0 u1 u2 hk2
      exact ⟨os, ⟨A', n', c', e', h2, by omega, h1⟩, by rw [h1.len]; exact Nat.le_trans h2 h4⟩
    by_cases h0 : len = 0
    · subst h0
      exact ⟨_, 0, m, [], hcs, HistAt.nil _ _, by omega, hmm, hbulk.1, by simp [allO]⟩
    · have hc0 := (hel 0 (by omega)).1
      have hspot : spot = none := by
        have h := World.cell?_spot hc0
        cases spot with
        | none => rfl
        | some s => unfold Addr.add at h; simp at h
      subst hspot
      have hblt : b < w.heap.size := by
        have := World.block_lt_of_cell? w _ hc0
        rwa [addr_plus] at this
      have hall : ∀ k, k ≤ len → ∃ hs : List (List OpT), hs.length = k ∧ (∀ (i : Nat) (v : Value) (os : List OpT), ((List.range k).map V)[i]? = some v → hs[i]? = some os → SessV w v os) ∧ (allO hs).length ≤ Rows.uptoBulkAll ((List.range k).map D) := by
        intro k
        induction k with
        | zero => exact fun _ => ⟨[], rfl, fun i v os h => by simp at h, by simp [allO]⟩
        | succ k ih =>
          intro hk
          obtain ⟨hs, p1, p2, p3⟩ := ih (by omega)
          obtain ⟨os, q1, q2⟩ := hat k (by omega)
          refine ⟨hs ++ [os], by simp [p1], fun i v o hv ho => ?_, ?_⟩
          · rw [List.range_succ, List.map_append] at hv
            rcases Nat.lt_or_ge i k with hlt | hge
            · rw [List.getElem?_append_left (by simpa using hlt)] at hv
              rw [List.getElem?_append_left (by omega)] at ho
              exact p2 i v o hv ho
            · rw [List.getElem?_append_right (by simpa using hge)] at hv
              rw [List.getElem?_append_right (by omega)] at ho
              have hv' := List.mem_of_getElem? hv
              have ho' := List.mem_of_getElem? ho
              simp at hv' ho'
              subst hv'; subst ho'
              exact q1
          · rw [allO_append, List.range_succ, List.map_append, bulk_append, List.length_append]
            have e1 : (allO [os]).length = os.length := by simp [allO]
            have e2 : Rows.uptoBulkAll (List.map D [k]) = Rows.uptoBulk (D k) := by simp [Rows.uptoBulkAll]
            omega
      obtain ⟨hs, p1, p2, p3⟩ := hall len (Nat.le_refl _)
      refine ⟨_, len, m, hs, hcs, ⟨(List.range len).map V, ⟨by simp, fun _ => ⟨b, off, rfl, hblt, fun j u hu => ?_⟩⟩, by simp [p1], p2⟩, hl, hmm, hbulk.1, by omega⟩
      have hj : j < len := by have := (List.getElem?_eq_some_iff.1 hu).1; simpa using this
      rw [List.getElem?_map, List.getElem?_range hj, Option.map_some] at hu
      have h1 := (hel j (by omega)).1
      rw [addr_plus] at h1
      rw [h1]; exact hu
end
end Go.Proofs.YtjhjojklfdjmdaaGreat
