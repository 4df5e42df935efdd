/- Arguments opened: slices of anything that has an encoding; facts. -/
import Derived.Test.YtcdfpodhiogpiaaOpen6
import Derived.Test.YtcdfpodhiogpiaaLMem
namespace Go.Proofs.Ytcdfpodhiogpiaa
open Go.RowKit Go.ChangeShapes Go.WideShapes Go.Deep
set_option linter.unusedVariables false

section
variable {H : Type} {enc : TypeId × Value → H} {P : Program} {w : World} {base : Nat} {held : Bool}
theorem open_L {α : Type} (E : Enc α) {t e : TypeId} {fuel : Nat} {A : Option Addr} {len cap : Nat} {x : DataW H × List MemPlace} (ht : P.underlying t = some (.slice e)) (ce : P.cellsOf e = E.sz)
    (hel : ∀ (cs : List Value) (fuel : Nat) (sp : Nat → Bool) (y : DataW H × List MemPlace), cs.length = E.sz → DataW.trod enc P w base sp held fuel e cs = some y → ∃ a, cs = E.cells a ∧ E.ok a)
    (h : DataW.trod enc P w base (fun _ => true) held fuel t [.slice A len cap] = some x) : ∃ xs, LAt E w A len xs ∧ len ≤ cap ∧ cap ≤ 9223372036854775807 ∧ cap ≤ Rows.uptoBulk x.1 := by
  rcases open_slice ht h with ⟨hcs, hx⟩ | ⟨⟨b, off, spot⟩, l, c, m, n, D, Pl, hcs, hb, hl, hm, hmm, hx, hE⟩
  · injection hcs with hcs
    injection hcs with h1 h2 h3
    subst h1 h2 h3
    exact ⟨[], LAt.nil _ _ _, by omega, by omega, by omega⟩
  · injection hcs with hcs
    injection hcs with h1 h2 h3
    subst h1 h2 h3
    rw [if_pos rfl] at hmm
    subst hmm
    have hbulk : m ≤ Rows.uptoBulk x.1 := by
      rw [hx, bulk_slice]
      have := bulk_len ((List.range len).map D)
      have := bulk_len ((List.range (m - len)).map fun j => D (len + j))
      simp only [List.length_map, List.length_range] at *
      omega
    have hmm : m ≤ 9223372036854775807 := by unfold maxLen at hm; omega
    have hat : ∀ k, k < len → ∃ a : α, E.ok a ∧ ∀ r u, (E.cells a)[r]? = some u → w.cell? (((⟨b, off, spot⟩ : Addr).add (k * E.sz)).add r) = some u := by
      intro k hk
      obtain ⟨cs', hc, ht'⟩ := hE k (by omega)
      rw [ce] at hc
      obtain ⟨_, hcl, hcat⟩ := World.cells?_some hc
      obtain ⟨a, rfl, hok⟩ := hel cs' _ _ _ hcl ht'
      refine ⟨a, hok, fun r u hr => ?_⟩
      have hr' : r < E.sz := by rw [← E.len a]; exact (List.getElem?_eq_some_iff.1 hr).1
      rw [hcat r hr']; exact hr
    by_cases h0 : len = 0
    · subst h0
      exact ⟨[], LAt.nil _ _ _, by omega, hmm, hbulk⟩
    · obtain ⟨a0, _, hc0⟩ := hat 0 (by omega)
      obtain ⟨y, s, hy⟩ : ∃ y s, E.cells a0 = y :: s := by
        have h1 := E.len a0
        have h2 := E.pos
        cases hcx : E.cells a0 with
        | nil => rw [hcx] at h1; simp at h1; omega
        | cons y s => exact ⟨y, s, rfl⟩
      have hc00 := hc0 0 y (by rw [hy]; rfl)
      have hz : ∀ a : Addr, a.add 0 = a := fun a => by obtain ⟨b, o, s⟩ := a; unfold Addr.add; split <;> simp_all
      rw [hz] at hc00
      have hspot : spot = none := by
        have h := World.cell?_spot hc00
        cases spot with
        | none => rfl
        | some s => unfold Addr.add at h; simp at h
      subst hspot
      have hblt : b < w.heap.size := by
        have := World.block_lt_of_cell? w _ hc00
        rwa [addr_plus] at this
      have hall : ∀ k, k ≤ len → ∃ xs : List α, xs.length = k ∧ (∀ x ∈ xs, E.ok x) ∧ ∀ (j : Nat) (u : Value), (E.all xs)[j]? = some u → w.cell? ⟨b, off + j, none⟩ = some u := by
        intro k
        induction k with
        | zero => exact fun _ => ⟨[], rfl, fun o h => by simp at h, fun j u h => by simp [Enc.all] at h⟩
        | succ k ih =>
          intro hk
          obtain ⟨xs, p1, p2, p3⟩ := ih (by omega)
          obtain ⟨o, hok, hc⟩ := hat k (by omega)
          refine ⟨xs ++ [o], by simp [p1], fun x hx => (List.mem_append.1 hx).elim (p2 x) (fun h => by rw [List.mem_singleton.1 h]; exact hok), fun j u hj => ?_⟩
          rw [E.all_append, E.all_single] at hj
          rcases Nat.lt_or_ge j (E.all xs).length with hlt | hge
          · rw [List.getElem?_append_left hlt] at hj; exact p3 j u hj
          · rw [List.getElem?_append_right hge] at hj
            have hlk : (E.all xs).length = k * E.sz := by rw [E.all_len, p1]
            obtain ⟨r, rfl⟩ : ∃ r, j = k * E.sz + r := ⟨j - k * E.sz, by omega⟩
            rw [hlk, Nat.add_sub_cancel_left] at hj
            have := hc r u hj
            rw [addr_plus, addr_plus, Nat.add_assoc] at this
            exact this
      obtain ⟨xs, p1, p2, p3⟩ := hall len (Nat.le_refl _)
      exact ⟨xs, ⟨p1, p2, fun _ => ⟨b, off, rfl, hblt, p3⟩⟩, by omega, hmm, hbulk⟩
theorem el_str {e : TypeId} (u0 : P.underlying e = some .string) (cs : List Value) (fuel : Nat) (sp : Nat → Bool) (y : DataW H × List MemPlace) (hl : cs.length = encS.sz) (h : DataW.trod enc P w base sp held fuel e cs = some y) : ∃ a, cs = encS.cells a ∧ encS.ok a := by
  match cs, hl with
  | [c0], _ =>
    obtain ⟨sv, e1, _, ws⟩ := DataW.trod_string u0 h
    exact ⟨sv, e1, by unfold maxLen at ws; exact ws⟩
theorem el_int {e : TypeId} (u0 : P.underlying e = some (.int .i64)) (cs : List Value) (fuel : Nat) (sp : Nat → Bool) (y : DataW H × List MemPlace) (hl : cs.length = encI.sz) (h : DataW.trod enc P w base sp held fuel e cs = some y) : ∃ a, cs = encI.cells a ∧ encI.ok a := by
  match cs, hl with
  | [c0], _ =>
    obtain ⟨iv, e1, _, wi⟩ := DataW.trod_int u0 h
    have := bounds_i64 wi
    exact ⟨iv, e1, this.1, by omega⟩
theorem el_item {e : TypeId} {f0 f1 f2 f3 f4 : Field} (he : P.underlying e = some (.struct #[f0, f1, f2, f3, f4])) (o0 : f0.offset = 0) (o1 : f1.offset = 1) (o2 : f2.offset = 2) (o3 : f3.offset = 3) (o4 : f4.offset = 4)
    (k0 : P.cellsOf f0.type = 1) (k1 : P.cellsOf f1.type = 1) (k2 : P.cellsOf f2.type = 1) (k3 : P.cellsOf f3.type = 1) (k4 : P.cellsOf f4.type = 1)
    (u0 : P.underlying f0.type = some (.int .i64)) (u1 : P.underlying f1.type = some (.int .i64)) (u2 : P.underlying f2.type = some .bool) (u3 : P.underlying f3.type = some (.int .i64)) (u4 : P.underlying f4.type = some (.int .i64))
    (cs : List Value) (fuel : Nat) (sp : Nat → Bool) (y : DataW H × List MemPlace) (hl : cs.length = encT.sz) (h : DataW.trod enc P w base sp held fuel e cs = some y) : ∃ a, cs = encT.cells a ∧ encT.ok a := by
  obtain ⟨xs, m', _, _, _, hxl, hf⟩ := DataW.trod_struct he h
  match cs, hl with
  | [c0, c1, c2, c3, c4], _ =>
    match xs, hxl with
    | [y0, y1, y2, y3, y4], _ =>
      have g0 := hf 0 f0 rfl
      have g1 := hf 1 f1 rfl
      have g2 := hf 2 f2 rfl
      have g3 := hf 3 f3 rfl
      have g4 := hf 4 f4 rfl
      rw [o0, k0] at g0
      rw [o1, k1] at g1
      rw [o2, k2] at g2
      rw [o3, k3] at g3
      rw [o4, k4] at g4
      simp at g0 g1 g2 g3 g4
      obtain ⟨a0, e0, _, w0⟩ := DataW.trod_int u0 g0
      obtain ⟨a1, e1, _, w1⟩ := DataW.trod_int u1 g1
      obtain ⟨a2, e2, _⟩ := DataW.trod_bool u2 g2
      obtain ⟨a3, e3, _, w3⟩ := DataW.trod_int u3 g3
      obtain ⟨a4, e4, _, w4⟩ := DataW.trod_int u4 g4
      injection e0 with e0
      injection e1 with e1
      injection e2 with e2
      injection e3 with e3
      injection e4 with e4
      have b0 := bounds_i64 w0
      have b1 := bounds_i64 w1
      have b3 := bounds_i64 w3
      have b4 := bounds_i64 w4
      refine ⟨⟨a0, a1, a2, a3, a4⟩, by rw [e0, e1, e2, e3, e4]; rfl, ⟨b0.1, by simp only; omega, b1.1, by simp only; omega, b3.1, by simp only; omega, b4.1, by simp only; omega⟩⟩
/-- a struct of three parts of one cell each -/
theorem open_three {r : Reach} {b0 : Nat} {t : TypeId} {f0 f1 f2 : Field} {v : Value} {d : DataW H} {p : List MemPlace} (hs : P.underlying t = some (.struct #[f0, f1, f2])) (hC : P.cellsOf t = 3)
    (o0 : f0.offset = 0) (o1 : f1.offset = 1) (o2 : f2.offset = 2) (k0 : P.cellsOf f0.type = 1) (k1 : P.cellsOf f1.type = 1) (k2 : P.cellsOf f2.type = 1)
    (hv : Value.okWide P w r b0 t v) (h : DataW.Trod enc P w base (fun _ => true) held t v d p) :
    ∃ (v0 v1 v2 : Value) (y0 y1 y2 : DataW H × List MemPlace) (n : Nat), v = .agg #[v0, v1, v2] ∧ d = .agg [y0.1, y1.1, y2.1] ∧
      DataW.trod enc P w base (fun _ => true) held n f0.type [v0] = some y0 ∧ DataW.trod enc P w base (fun _ => true) held n f1.type [v1] = some y1 ∧ DataW.trod enc P w base (fun _ => true) held n f2.type [v2] = some y2 := by
  obtain ⟨cs, rfl, hsz⟩ := okWide_struct hs hv
  obtain ⟨l⟩ := cs
  match l, hsz.trans hC with
  | [c0, c1, c2], _ =>
    obtain ⟨fuel, hf⟩ := h
    obtain ⟨xs, n, _, hx, _, hlen, hg⟩ := DataW.trod_struct hs hf
    match xs, hlen with
    | [y0, y1, y2], _ =>
      injection hx with hx1 hx2
      exact ⟨c0, c1, c2, y0, y1, y2, n, rfl, hx1, by simpa [Value.cells, o0, k0] using hg 0 f0 rfl, by simpa [Value.cells, o1, k1] using hg 1 f1 rfl, by simpa [Value.cells, o2, k2] using hg 2 f2 rfl⟩
end
end Go.Proofs.Ytcdfpodhiogpiaa
