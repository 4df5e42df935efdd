/- Arguments opened: a slice of pairs ('[][2]int'), and the rows of a matrix. An argument opened: a matrix, with its capacity. Arguments opened: a matrix by its cells, inside a struct. -/
import Derived.Test.YtkikoniihmieiaaMatMem
import Derived.Test.YtkikoniihmieiaaRowFacts
import Derived.Deep.Slices
import Derived.Deep.Matrix
import Derived.OpenShut
import Derived.ChangeArms
import Derived.Lib.SmallJoins
namespace Go.Proofs.Ytkikoniihmieiaa
open Go.RowKit Go.ChangeShapes Go.WideShapes Go.Deep Go.Joins
set_option linter.unusedVariables false

theorem addr_add (b off j : Nat) : (⟨b, off, none⟩ : Addr).add j = ⟨b, off + j, none⟩ := by unfold Addr.add; split <;> simp_all

section
variable {H : Type} {enc : TypeId × Value → H} {P : Program} {w : World} {base : Nat} {spare : Nat → Bool} {held : Bool}
theorem open_pairs {t e i : TypeId} {fuel : Nat} {A : Option Addr} {len cap : Nat} {x : DataW H × List MemPlace} (ht : P.underlying t = some (.slice e)) (he : P.underlying e = some (.array 2 i)) (hi : P.underlying i = some (.int .i64))
    (ce : P.cellsOf e = 2) (ci : P.cellsOf i = 1) (h : DataW.trod enc P w base spare held fuel t [.slice A len cap] = some x) : ∃ ps, PairsAt w A len ps ∧ len ≤ 9223372036854775807 := by
  rcases open_slice ht h with ⟨hcs, _⟩ | ⟨⟨b, off, spot⟩, l, c, m, n, D, Pl, hcs, hb, hl, hm, hmm, hx, hel⟩
  · injection hcs with hcs
    injection hcs with h1 h2 h3
    subst h1 h2 h3
    exact ⟨[], ⟨rfl, by simp, fun h => absurd h (by omega)⟩, by omega⟩
  · injection hcs with hcs
    injection hcs with h1 h2 h3
    subst h1 h2 h3
    have hlm : len ≤ m := by rw [hmm]; split <;> omega
    have hat : ∀ k, k < len → ∃ x y : Int, w.cell? ((⟨b, off, spot⟩ : Addr).add (k * 2)) = some (.int .i64 x) ∧ w.cell? (((⟨b, off, spot⟩ : Addr).add (k * 2)).add 1) = some (.int .i64 y) ∧ (Lit.int .i64 x).wf = true ∧ (Lit.int .i64 y).wf = true := by
      intro k hk
      obtain ⟨cs', hc, ht'⟩ := hel k (by omega)
      rw [ce] at hc
      obtain ⟨_, hcl, hcat⟩ := World.cells?_some hc
      obtain ⟨xs, m', _, _, _, hxl, hf⟩ := DataW.trod_array he ht'
      match cs', hcl with
      | [u, v], _ =>
        have f0 := hf 0 (by omega)
        have f1 := hf 1 (by omega)
        rw [ci] at f0 f1
        rw [List.getElem?_eq_getElem (by omega)] at f0 f1
        obtain ⟨n0, e0, _, w0⟩ := DataW.trod_int hi f0
        obtain ⟨n1, e1, _, w1⟩ := DataW.trod_int hi f1
        simp at e0 e1
        subst e0 e1
        have c0 := hcat 0 (by omega)
        have c1 := hcat 1 (by omega)
        refine ⟨n0, n1, ?_, by simpa using c1, w0, w1⟩
        have hz : ∀ a : Addr, a.add 0 = a := fun a => by obtain ⟨b, o, s⟩ := a; unfold Addr.add; split <;> simp_all
        rw [hz] at c0
        simpa using c0
    by_cases h0 : len = 0
    · subst h0
      exact ⟨[], ⟨rfl, by simp, fun h => absurd h (by omega)⟩, by omega⟩
    · obtain ⟨_, _, hc0, _, _, _⟩ := hat 0 (by omega)
      have hspot : spot = none := by
        have h := World.cell?_spot hc0
        cases spot with
        | none => rfl
        | some s => unfold Addr.add at h; simp at h
      subst hspot
      have hblt : b < w.heap.size := by
        have := World.block_lt_of_cell? w _ hc0
        rwa [addr_add] at this
      have hall : ∀ k, k ≤ len → ∃ ps : List (Int × Int), ps.length = k ∧ (∀ p ∈ ps, (-9223372036854775808 ≤ p.1 ∧ p.1 < 9223372036854775808) ∧ (-9223372036854775808 ≤ p.2 ∧ p.2 < 9223372036854775808)) ∧
          ∀ (j : Nat) (p : Int × Int), ps[j]? = some p → w.cell? ⟨b, off + j * 2, none⟩ = some (.int .i64 p.1) ∧ w.cell? ⟨b, off + j * 2 + 1, none⟩ = some (.int .i64 p.2) := by
        intro k
        induction k with
        | zero => exact fun _ => ⟨[], rfl, by simp, fun j p h => by simp at h⟩
        | succ k ih =>
          intro hk
          obtain ⟨ps, p1, p2, p3⟩ := ih (by omega)
          obtain ⟨x, y, cx, cy, wx, wy⟩ := hat k (by omega)
          rw [addr_add] at cx cy
          rw [addr_add] at cy
          refine ⟨ps ++ [(x, y)], by simp [p1], fun p hp => ?_, fun j p hj => ?_⟩
          · rcases List.mem_append.1 hp with hp | hp
            · exact p2 p hp
            · rw [List.mem_singleton.1 hp]
              have := bounds_i64 wx
              have := bounds_i64 wy
              refine ⟨⟨?_, ?_⟩, ?_, ?_⟩ <;> simp only <;> omega
          · rcases Nat.lt_or_ge j ps.length with hlt | hge
            · rw [List.getElem?_append_left hlt] at hj; exact p3 j p hj
            · rw [List.getElem?_append_right hge] at hj
              have hjk : j = k := by
                have := (List.getElem?_eq_some_iff.1 hj).1
                simp at this; omega
              subst hjk
              rw [p1, Nat.sub_self] at hj
              simp at hj
              subst hj
              exact ⟨cx, cy⟩
      obtain ⟨ps, p1, p2, p3⟩ := hall len (Nat.le_refl _)
      exact ⟨ps, ⟨p1, p2, fun _ => ⟨b, off, rfl, hblt, p3⟩⟩, by unfold maxLen at hm; omega⟩
theorem row_of_ints {a' : Option Addr} {L C : Nat} {zs : List Int} (hl : L ≤ C) (hm : C ≤ maxLen) (hz : zs.length = C) (hwz : ∀ n ∈ zs, (Lit.int .u64 n).wf = true) (hnil : a' = none → C = 0)
    (hcell : ∀ x, a' = some x → ∀ c, c < C → w.cell? (x.add c) = some (.int .u64 (zs.getD c 0))) : ∃ xs, Row w a' L xs ∧ L ≤ 9223372036854775807 := by
  cases a' with
  | none =>
    have := hnil rfl
    obtain rfl : L = 0 := by omega
    exact ⟨[], Row.nil _ _, by omega⟩
  | some x => exact row_of_is (c := C) (zs := zs) (.inr ⟨x, rfl, hl, hm, hz, fun i hi => hcell x rfl i (by omega), hwz⟩)
theorem open_mat {t e q : TypeId} {fuel : Nat} {A : Option Addr} {len cap : Nat} {x : DataW H × List MemPlace} (ht : P.underlying t = some (.slice e)) (he : P.underlying e = some (.slice q)) (hq : P.underlying q = some (.int .u64))
    (ce : P.cellsOf e = 1) (cq : P.cellsOf q = 1) (h : DataW.trod enc P w base (fun _ => true) held fuel t [.slice A len cap] = some x) :
    ∃ xss, RowsAt w A len xss ∧ len ≤ 9223372036854775807 ∧ ∀ (k : Nat) (xs : List Nat), xss[k]? = some xs → xs.length ≤ 9223372036854775807 := by
  rcases open_int_rows ht he hq ce cq h with ⟨hcs, _⟩ | ⟨⟨b, off, spot⟩, l, c, B, L, C, Z, hcs, hb, hl, hm, hx, hrow⟩
  · injection hcs with hcs
    injection hcs with h1 h2 h3
    subst h1 h2 h3
    exact ⟨[], RowsAt.nil _ _, by omega, fun k xs hx => by simp at hx⟩
  · injection hcs with hcs
    injection hcs with h1 h2 h3
    subst h1 h2 h3
    have hlm : len ≤ 9223372036854775807 := by unfold maxLen at hm; omega
    have hrow' : ∀ k, k < len → ∃ xs, Row w (B k) (L k) xs ∧ L k ≤ 9223372036854775807 := fun k hk => by
      obtain ⟨_, h1, h2, h3, h4, h5, h6⟩ := hrow k (by omega)
      exact row_of_ints h1 h2 h3 h4 h5 (fun x e c hc => (h6 x e).2 c hc)
    by_cases h0 : len = 0
    · subst h0
      exact ⟨[], RowsAt.nil _ _, by omega, fun k xs hx => by simp at hx⟩
    · have hc0 := (hrow 0 (by omega)).1
      have hspot : spot = none := by
        have h := World.cell?_spot hc0
        cases spot with
        | none => rfl
        | some s => unfold Addr.add at h; simp at h
      subst hspot
      have hblt : b < w.heap.size := by
        have := World.block_lt_of_cell? w _ hc0
        rwa [addr_add] at this
      have hall : ∀ k, k ≤ len → ∃ xss : List (List Nat), RowsC w ((List.range k).map fun i => .slice (B i) (L i) (C i)) xss ∧ ∀ (j : Nat) (xs : List Nat), xss[j]? = some xs → xs.length ≤ 9223372036854775807 := by
        intro k
        induction k with
        | zero => exact fun _ => ⟨[], RowsC.nil _, fun j xs h => by simp at h⟩
        | succ k ih =>
          intro hk
          obtain ⟨xss, p1, p2⟩ := ih (by omega)
          obtain ⟨xs, hx1, hx2⟩ := hrow' k (by omega)
          refine ⟨xss ++ [xs], ?_, fun j ys hj => ?_⟩
          · rw [List.range_succ, List.map_append]
            exact p1.snoc ⟨_, _, _, rfl, hx1⟩
          · rcases Nat.lt_or_ge j xss.length with hlt | hge
            · rw [List.getElem?_append_left hlt] at hj; exact p2 j ys hj
            · rw [List.getElem?_append_right hge] at hj
              have hj' := List.mem_of_getElem? hj
              rw [List.mem_singleton.1 hj', hx1.len]; exact hx2
      obtain ⟨xss, p1, p2⟩ := hall len (Nat.le_refl _)
      refine ⟨xss, ⟨_, ⟨by simp, fun _ => ⟨b, off, rfl, hblt, fun j u hu => ?_⟩⟩, p1⟩, hlm, p2⟩
      have hj : j < len := by have := (List.getElem?_eq_some_iff.1 hu).1; simpa using this
      rw [List.getElem?_map, List.getElem?_range hj, Option.map_some] at hu
      have h1 := (hrow j (by omega)).1
      rw [addr_add] at h1
      rw [h1]; exact hu
theorem open_matV {r : Reach} {b0 : Nat} {t e q : TypeId} {f0 f1 : Field} {v : Value} {d : DataW H} {p : List MemPlace} (ht : P.underlying t = some (.struct #[f0, f1])) (hone : oneCellFields P #[f0, f1] = true) (cT : P.cellsOf t = 2)
    (hi : P.underlying f0.type = some (.int .i64)) (hr : P.underlying f1.type = some (.slice e)) (he : P.underlying e = some (.slice q)) (hq : P.underlying q = some (.int .u64)) (ce : P.cellsOf e = 1) (cq : P.cellsOf q = 1)
    (hv : Value.okWide P w r b0 t v) (h : DataW.Trod enc P w base (fun _ => true) held t v d p) :
    ∃ (N : Int) (A : Option Addr) (n c : Nat) (xss : List (List Nat)), v = .agg #[.int .i64 N, .slice A n c] ∧ (-9223372036854775808 ≤ N ∧ N ≤ 9223372036854775807) ∧ RowsAt w A n xss ∧ n ≤ 9223372036854775807 ∧
      ∀ (k : Nat) (xs : List Nat), xss[k]? = some xs → xs.length ≤ 9223372036854775807 := by
  obtain ⟨v0, v1, y0, y1, m, rfl, _, _, h0, h1⟩ := open_agg2 ht hone cT hv h
  obtain ⟨N, e0, _, hw⟩ := DataW.trod_int hi h0
  injection e0 with e0
  subst e0
  obtain ⟨A, n, c, rfl⟩ : ∃ A n c, v1 = .slice A n c := by
    rcases open_int_rows hr he hq ce cq h1 with ⟨hcs, _⟩ | ⟨a, l, c, B, L, C, Z, hcs, _⟩
    · injection hcs with hcs; exact ⟨_, _, _, hcs⟩
    · injection hcs with hcs; exact ⟨_, _, _, hcs⟩
  obtain ⟨xss, hx1, hx2, hx3⟩ := open_mat hr he hq ce cq h1
  exact ⟨N, A, n, c, xss, rfl, bounds_i64 hw, hx1, hx2, hx3⟩
end

end Go.Proofs.Ytkikoniihmieiaa

namespace Go.Proofs.Ytkikoniihmieiaa
open Go.RowKit Go.ChangeShapes Go.WideShapes Go.Deep Go.Joins
set_option linter.unusedVariables false
section
variable {H : Type} {enc : TypeId × Value → H} {P : Program} {w : World} {base : Nat} {held : Bool}
theorem open_cap {t e q : TypeId} {fuel : Nat} {A : Option Addr} {len cap : Nat} {x : DataW H × List MemPlace} (ht : P.underlying t = some (.slice e)) (he : P.underlying e = some (.slice q)) (hq : P.underlying q = some (.int .u64))
    (ce : P.cellsOf e = 1) (cq : P.cellsOf q = 1) (h : DataW.trod enc P w base (fun _ => true) held fuel t [.slice A len cap] = some x) : len ≤ cap := by
  rcases open_int_rows ht he hq ce cq h with ⟨hcs, _⟩ | ⟨a, l, c, B, L, C, Z, hcs, hb, hl, hm, hx, hrow⟩
  · injection hcs with hcs
    injection hcs with h1 h2 h3
    omega
  · injection hcs with hcs
    injection hcs with h1 h2 h3
    omega
theorem open_matV_cap {r : Reach} {b0 : Nat} {t e q : TypeId} {f0 f1 : Field} {N : Int} {A : Option Addr} {n c : Nat} {d : DataW H} {p : List MemPlace} (ht : P.underlying t = some (.struct #[f0, f1])) (hone : oneCellFields P #[f0, f1] = true) (cT : P.cellsOf t = 2)
    (hr : P.underlying f1.type = some (.slice e)) (he : P.underlying e = some (.slice q)) (hq : P.underlying q = some (.int .u64)) (ce : P.cellsOf e = 1) (cq : P.cellsOf q = 1)
    (hv : Value.okWide P w r b0 t (.agg #[.int .i64 N, .slice A n c])) (h : DataW.Trod enc P w base (fun _ => true) held t (.agg #[.int .i64 N, .slice A n c]) d p) : n ≤ c := by
  obtain ⟨v0, v1, y0, y1, m, e1, _, _, h0, h1⟩ := open_agg2 ht hone cT hv h
  injection e1 with e1
  simp at e1
  obtain ⟨_, rfl⟩ := e1
  exact open_cap hr he hq ce cq h1
end
end Go.Proofs.Ytkikoniihmieiaa

namespace Go.Proofs.Ytkikoniihmieiaa
open Go.RowKit Go.ChangeShapes Go.WideShapes Go.Deep Go.Joins
set_option linter.unusedVariables false
section
variable {H : Type} {enc : TypeId × Value → H} {P : Program} {w : World} {base : Nat} {held : Bool}
theorem open_matC {t e q : TypeId} {f0 f1 : Field} {fuel : Nat} {c0 c1 : Value} {x : DataW H × List MemPlace} (ht : P.underlying t = some (.struct #[f0, f1])) (hone : oneCellFields P #[f0, f1] = true)
    (hi : P.underlying f0.type = some (.int .i64)) (hr : P.underlying f1.type = some (.slice e)) (he : P.underlying e = some (.slice q)) (hq : P.underlying q = some (.int .u64)) (ce : P.cellsOf e = 1) (cq : P.cellsOf q = 1)
    (h : DataW.trod enc P w base (fun _ => true) held fuel t [c0, c1] = some x) :
    ∃ (N : Int) (A : Option Addr) (n c : Nat) (xss : List (List Nat)), c0 = .int .i64 N ∧ c1 = .slice A n c ∧ (-9223372036854775808 ≤ N ∧ N ≤ 9223372036854775807) ∧ RowsAt w A n xss ∧ n ≤ c ∧ n ≤ 9223372036854775807 ∧
      ∀ (k : Nat) (xs : List Nat), xss[k]? = some xs → xs.length ≤ 9223372036854775807 := by
  obtain ⟨xs, n, _, hx, _, hlen, hg⟩ := DataW.trod_struct ht h
  obtain ⟨o0, k0⟩ := hone_of hone 0 f0 rfl
  obtain ⟨o1, k1⟩ := hone_of hone 1 f1 rfl
  have h0 := hg 0 f0 rfl
  have h1 := hg 1 f1 rfl
  match xs, hlen with
  | [y0, y1], _ =>
    rw [o0, k0] at h0
    rw [o1, k1] at h1
    simp at h0 h1
    obtain ⟨N, e0, _, hw⟩ := DataW.trod_int hi h0
    injection e0 with e0
    subst e0
    obtain ⟨A, n, c, rfl⟩ : ∃ A n c, c1 = .slice A n c := by
      rcases open_int_rows hr he hq ce cq h1 with ⟨hcs, _⟩ | ⟨a, l, c, B, L, C, Z, hcs, _⟩
      · injection hcs with hcs; exact ⟨_, _, _, hcs⟩
      · injection hcs with hcs; exact ⟨_, _, _, hcs⟩
    obtain ⟨xss, hx1, hx2, hx3⟩ := open_mat hr he hq ce cq h1
    exact ⟨N, A, n, c, xss, rfl, rfl, bounds_i64 hw, hx1, open_cap hr he hq ce cq h1, hx2, hx3⟩
/-- a struct of two structs of two cells and two one-cell fields -/
theorem open_ask6 {r : Reach} {b0 : Nat} {t : TypeId} {f0 f1 f2 f3 : Field} {v : Value} {d : DataW H} {p : List MemPlace} (hs : P.underlying t = some (.struct #[f0, f1, f2, f3])) (hC : P.cellsOf t = 6)
    (o0 : f0.offset = 0) (o1 : f1.offset = 2) (o2 : f2.offset = 4) (o3 : f3.offset = 5) (k0 : P.cellsOf f0.type = 2) (k1 : P.cellsOf f1.type = 2) (k2 : P.cellsOf f2.type = 1) (k3 : P.cellsOf f3.type = 1)
    (hv : Value.okWide P w r b0 t v) (h : DataW.Trod enc P w base (fun _ => true) held t v d p) :
    ∃ (v0 v1 v2 v3 v4 v5 : Value) (y0 y1 y2 y3 : DataW H × List MemPlace) (n : Nat), v = .agg #[v0, v1, v2, v3, v4, v5] ∧
      DataW.trod enc P w base (fun _ => true) held n f0.type [v0, v1] = some y0 ∧ DataW.trod enc P w base (fun _ => true) held n f1.type [v2, v3] = some y1 ∧ DataW.trod enc P w base (fun _ => true) held n f2.type [v4] = some y2 ∧ DataW.trod enc P w base (fun _ => true) held n f3.type [v5] = some y3 := by
  obtain ⟨cs, rfl, hsz⟩ := okWide_struct hs hv
  obtain ⟨l⟩ := cs
  match l, hsz.trans hC with
  | [c0, c1, c2, c3, c4, c5], _ =>
    obtain ⟨fuel, hf⟩ := h
    obtain ⟨xs, n, _, hx, _, hlen, hg⟩ := DataW.trod_struct hs hf
    match xs, hlen with
    | [y0, y1, y2, y3], _ =>
      exact ⟨c0, c1, c2, c3, c4, c5, y0, y1, y2, y3, n, rfl, by simpa [Value.cells, o0, k0] using hg 0 f0 rfl, by simpa [Value.cells, o1, k1] using hg 1 f1 rfl, by simpa [Value.cells, o2, k2] using hg 2 f2 rfl, by simpa [Value.cells, o3, k3] using hg 3 f3 rfl⟩
/-- a struct of a struct of two cells and three one-cell fields -/
theorem open_ask5 {r : Reach} {b0 : Nat} {t : TypeId} {f0 f1 f2 f3 : Field} {v : Value} {d : DataW H} {p : List MemPlace} (hs : P.underlying t = some (.struct #[f0, f1, f2, f3])) (hC : P.cellsOf t = 5)
    (o0 : f0.offset = 0) (o1 : f1.offset = 2) (o2 : f2.offset = 3) (o3 : f3.offset = 4) (k0 : P.cellsOf f0.type = 2) (k1 : P.cellsOf f1.type = 1) (k2 : P.cellsOf f2.type = 1) (k3 : P.cellsOf f3.type = 1)
    (hv : Value.okWide P w r b0 t v) (h : DataW.Trod enc P w base (fun _ => true) held t v d p) :
    ∃ (v0 v1 v2 v3 v4 : Value) (y0 y1 y2 y3 : DataW H × List MemPlace) (n : Nat), v = .agg #[v0, v1, v2, v3, v4] ∧
      DataW.trod enc P w base (fun _ => true) held n f0.type [v0, v1] = some y0 ∧ DataW.trod enc P w base (fun _ => true) held n f1.type [v2] = some y1 ∧ DataW.trod enc P w base (fun _ => true) held n f2.type [v3] = some y2 ∧ DataW.trod enc P w base (fun _ => true) held n f3.type [v4] = some y3 := by
  obtain ⟨cs, rfl, hsz⟩ := okWide_struct hs hv
  obtain ⟨l⟩ := cs
  match l, hsz.trans hC with
  | [c0, c1, c2, c3, c4], _ =>
    obtain ⟨fuel, hf⟩ := h
    obtain ⟨xs, n, _, hx, _, hlen, hg⟩ := DataW.trod_struct hs hf
    match xs, hlen with
    | [y0, y1, y2, y3], _ =>
      exact ⟨c0, c1, c2, c3, c4, y0, y1, y2, y3, n, rfl, by simpa [Value.cells, o0, k0] using hg 0 f0 rfl, by simpa [Value.cells, o1, k1] using hg 1 f1 rfl, by simpa [Value.cells, o2, k2] using hg 2 f2 rfl, by simpa [Value.cells, o3, k3] using hg 3 f3 rfl⟩
end
end Go.Proofs.Ytkikoniihmieiaa
