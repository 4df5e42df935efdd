/- Words for memory: slices that read as lists, blocks that are known whole, rows of a call's own. No function of the program is named here. -/
import Derived.WalkKit
import Derived.Below
import Derived.Laws.OwnMore
import Derived.Laws.Rows
import Derived.Laws.CopyOwn
import Derived.Laws.MakeOwn
import Derived.Deep.AppendLies
import Derived.Deep.Draws
import Derived.Deep.OwnRows
import Derived.Maps.AppendAt
import Derived.OwnWalk
import Derived.StillTailTactics
import Derived.Laws.AppendOwnNone
import Derived.Lib.Hide
namespace Go.Proofs.Ytcdfpodhiogpiaa
open Go.RowKit

/-- the slice '.slice A n c' (whatever c) reads as the cells vs, in a block of w -/
def Rd (w : World) (A : Option Addr) (n : Nat) (vs : List Value) : Prop :=
  vs.length = n ∧ (0 < n → ∃ b off, A = some ⟨b, off, none⟩ ∧ b < w.heap.size ∧ ∀ j u, vs[j]? = some u → w.cell? ⟨b, off + j, none⟩ = some u)

section
variable {w w' : World} {A : Option Addr} {n : Nat} {vs : List Value}
theorem Rd.len (h : Rd w A n vs) : vs.length = n := h.1
theorem Rd.at_ {k : Nat} (h : Rd w A n vs) (hk : k < n) : ∃ b off u, A = some ⟨b, off, none⟩ ∧ b < w.heap.size ∧ vs[k]? = some u ∧ w.cell? ⟨b, off + k, none⟩ = some u := by
  obtain ⟨b, off, e, hb, hc⟩ := h.2 (by omega)
  have hl : k < vs.length := by rw [h.1]; exact hk
  exact ⟨b, off, vs[k], e, hb, List.getElem?_eq_getElem hl, hc k _ (List.getElem?_eq_getElem hl)⟩
theorem Rd.keep (h : Rd w A n vs) (hs : w.heap.size ≤ w'.heap.size) (hk : ∀ p : Addr, p.block < w.heap.size → w'.cell? p = w.cell? p) : Rd w' A n vs :=
  ⟨h.1, fun hn => by
    obtain ⟨b, off, e, hb, hc⟩ := h.2 hn
    exact ⟨b, off, e, by omega, fun j u hu => (hk ⟨b, off + j, none⟩ hb).trans (hc j u hu)⟩⟩
theorem Rd.below (h : Rd w A n vs) (hb : Below w.heap.size w w') : Rd w' A n vs := h.keep hb.size fun _ hp => hb.cell hp
theorem Rd.drewN (h : Rd w A n vs) (k : Nat) : Rd (w.drewN k) A n vs := h
theorem Rd.nil (w : World) (A : Option Addr) : Rd w A 0 [] := ⟨rfl, fun h => absurd h (by omega)⟩
theorem Rd.of_nil (h : Rd w A 0 vs) : vs = [] := List.eq_nil_of_length_eq_zero h.1
/-- out of a block that is known whole -/
theorem Rd.of_block {g : Nat} {cs : Array Value} {t : TypeId} {fr : Nat × Nat} (h : w.heap[g]? = some (.cells cs t fr)) (hn : cs.size = n) : Rd w (some ⟨g, 0, none⟩) n cs.toList := by
  refine ⟨by simpa using hn, fun _ => ⟨g, 0, rfl, ?_, fun j u hu => ?_⟩⟩
  · exact (Array.getElem?_eq_some_iff.1 h).1
  · rw [Nat.zero_add, cell_of_row w g j cs t fr h]; simpa using hu
theorem Rd.of_own {base : Nat} {e : TypeId} {v : Value} (h : w.ownsRow base e 1 v n vs) : ∃ A c, v = .slice A n c ∧ Rd w A n vs := by
  rcases h.2 with ⟨rfl, rfl⟩ | ⟨g, cap, cur, rfl, hbg, hg, hnc, hcm, hcs, htake⟩
  · have : vs = [] := List.eq_nil_of_length_eq_zero (by simpa using h.1)
    subst this
    exact ⟨none, 0, rfl, Rd.nil _ _⟩
  · refine ⟨_, _, rfl, by simpa using h.1, fun _ => ⟨g, 0, rfl, (Array.getElem?_eq_some_iff.1 hg).1, fun j u hu => ?_⟩⟩
    rw [Nat.zero_add, cell_of_row w g j cur e (0, 0) hg]
    rw [← htake, Nat.mul_one] at hu
    have hj : j < n := by
      rcases Nat.lt_or_ge j n with h' | h'
      · exact h'
      · rw [List.getElem?_eq_none (by rw [List.length_take]; omega)] at hu; cases hu
    rw [List.getElem?_take_of_lt hj] at hu
    simpa using hu
theorem Rd.of_own' {base : Nat} {e : TypeId} {c : Nat} (h : w.ownsRow base e 1 (.slice A n c) n vs) : Rd w A n vs := by
  obtain ⟨A', c', hv, hr⟩ := Rd.of_own h
  injection hv with h1 h2 h3
  subst h1
  exact hr
end

/-- block g is just the cells cs of element type t, none frozen -/
def Blk (w : World) (g : Nat) (t : TypeId) (cs : List Value) : Prop := w.heap[g]? = some (.cells cs.toArray t (0, 0))
section
variable {w w' : World} {g : Nat} {t : TypeId} {cs : List Value}
theorem Blk.lt (h : Blk w g t cs) : g < w.heap.size := (Array.getElem?_eq_some_iff.1 h).1
theorem Blk.cell (h : Blk w g t cs) (i : Nat) : w.cell? ⟨g, i, none⟩ = cs[i]? := by rw [cell_of_row w g i _ t (0, 0) h]; simp
theorem Blk.frozen (h : Blk w g t cs) (i : Nat) : w.frozen? ⟨g, i, none⟩ = false := by
  unfold Blk at h; simp [World.frozen?, h]
theorem Blk.new (w : World) (t : TypeId) (cs : List Value) : Blk (w.alloc (.cells cs.toArray t)) w.heap.size t cs := heap_alloc_new w _
theorem Blk.drewN (h : Blk w g t cs) (n : Nat) : Blk (w.drewN n) g t cs := h
theorem Blk.drew (h : Blk w g t cs) : Blk w.drew g t cs := h
theorem Blk.alloc (h : Blk w g t cs) (o : Obj) : Blk (w.alloc o) g t cs := (Below.heap_alloc w o g h.lt).trans h
theorem Blk.set_ (h : Blk w g t cs) (i : Nat) (u : Value) : Blk (w.setCell ⟨g, i, none⟩ u) g t (cs.set i u) := by
  unfold Blk at h ⊢
  simp [World.setCell, Array.getElem?_modify, h]
theorem Blk.far (h : Blk w g t cs) {p : Addr} (hp : g ≠ p.block) (u : Value) : Blk (w.setCell p u) g t cs := (Below.heap_setCell w p u g hp).trans h
theorem Blk.below {B : Nat} (h : Blk w g t cs) (hb : Below B w w') (hg : g < B) : Blk w' g t cs := (hb.block g hg).trans h
theorem Blk.grown {row : Option Nat} (h : Blk w g t cs) (hb : w.grownBy w' row) (hg : some g ≠ row) : Blk w' g t cs := (hb.block g h.lt hg).trans h
theorem Blk.rd (h : Blk w g t cs) : Rd w (some ⟨g, 0, none⟩) cs.length cs := by
  have := Rd.of_block (n := cs.length) h (by simp)
  simpa using this
theorem Blk.of_own {base n : Nat} {vs : List Value} (h : w.ownsRow base t 1 (.slice (some ⟨g, 0, none⟩) n n) n vs) : Blk w g t vs := by
  rcases h.2 with ⟨h1, _⟩ | ⟨g', cap, cur, hv, hbg, hg, hnc, hcm, hcs, htake⟩
  · cases h1
  · injection hv with h1 h2 h3
    injection h1 with h1
    injection h1 with h1
    subst h1; subst h3
    have : cur.toList = vs := by
      rw [← htake]; symm; apply List.take_of_length_le; simp; omega
    unfold Blk
    rw [hg, ← this]
end

theorem below_trans2 {a b c : World} (h : Below a.heap.size a b) (k : Below b.heap.size b c) : Below a.heap.size a c := h.trans (k.mono h.size)
theorem below_drewN {B : Nat} {a w : World} (h : Below B a w) (n : Nat) : Below B a (w.drewN n) := ⟨h.os, h.tape, h.output, h.size, h.block⟩
theorem own_below {w w' : World} {base : Nat} {e : TypeId} {size : Nat} {v : Value} {n : Nat} {xs : List Value} (h : w.ownsRow base e size v n xs) (hb : Below w.heap.size w w') : w'.ownsRow base e size v n xs :=
  ⟨h.1, h.2.imp id fun ⟨g, cap, cur, hv, hg, hh, r⟩ => ⟨g, cap, cur, hv, hg, (hb.block g (Array.getElem?_eq_some_iff.1 hh).1).trans hh, r⟩⟩
theorem own_lt_block {w : World} {base : Nat} {e : TypeId} {size : Nat} {v : Value} {n : Nat} {xs : List Value} (h : w.ownsRow base e size v n xs) : ∀ k, v.ownBlock = some k → base ≤ k := fun k hk => (h.lt k hk).1

def zeros (c : Nat) (z : Value) : Array Value := (List.replicate c z).toArray
/-- 'make([]T, n, c)', T of one cell: an equation for every world, to be laid ahead of a walk -/
theorem run_make_one {P : Program} (t e : TypeId) (i : TypeInfo) (z : Value) (ht : P.underlying t = some (.slice e)) (hi : P.info? e = some i) (hz : i.zero = some z) (hs : i.size = 1) (hzc : z.cells = #[z])
    (kl kc : IntKind) (n c : Nat) (hnc : n ≤ c) (hbytes : i.bytes * c ≤ 281474976710656) (h63 : c ≤ 9223372036854775807) (w : World) :
    (Instr.makeSlice t (.int kl (n : Int)) (.int kc (c : Int))).run P w = .ok (.slice (some ⟨w.heap.size, 0, none⟩) n c) (w.alloc (.cells (zeros c z) e)) := by
  have hb : (i.bytes : Int) * (c : Int) ≤ 281474976710656 := by
    have h : ((i.bytes * c : Nat) : Int) ≤ 281474976710656 := by omega
    rwa [Int.natCast_mul] at h
  have hr := run_make (P := P) w t e i z ht hi hz kl kc n c (by omega) (by omega) hb (by omega)
  simp only [Int.toNat_natCast] at hr
  rw [hr, hs, Nat.mul_one, hzc]
  have : madeCells #[z] c = zeros c z := by
    apply Array.toList_inj.1; rw [toList_madeCells_one]; simp [zeros]
  rw [this]
theorem own_zeros (w : World) (c : Nat) (z : Value) (e : TypeId) (hc : c ≤ maxLen) : (w.alloc (.cells (zeros c z) e)).ownsRow w.heap.size e 1 (.slice (some ⟨w.heap.size, 0, none⟩) c c) c (List.replicate c z) := by
  have h := World.ownsRow_lit (size := 1) (base := w.heap.size) (e := e) w (zeros c z) c (Nat.le_refl _) hc (by simp [zeros])
  simpa [zeros] using h

/-- a region that draws, all of whose operations but those from number n on only read, or call what leaves the world alone: walked in the text's order, in a world W of which the facts are to be laid anew -/
theorem still_tail {P : Program} {id : Nat} {Q : Exit → Act → World → Prop} {a : Act} {w : World} {l : List Oper} (n : Nat) (hm : P.follows .mixedOrders = true) (hB : Region.lexTailB .any l.toArray n = true)
    (h : ∀ W : World, Hid (W = w.drew) → wpStill P l.toArray W (fun a' => wpList P l.toArray Q (l.drop n) a' W) (l.take n) a) : (Code.region id l.toArray true).wp P Q a w :=
  wp_region_still_tail n hm hB (h w.drew rfl)
theorem still_call {P : Program} {f : FuncId} {args : Array Value} {w : World} {v : Value} (h : Calls P f args w fun e w' => e = .returned v ∧ w = w') : Calls P f args w fun e w' => e = .returned v ∧ w' = w :=
  h.mono fun _ _ ⟨he, hw⟩ => ⟨he, hw.symm⟩

section
variable {P : Program} {w : World}
/-- 'append(s, xs...)', xs nil, whatever its third cell -/
theorem run_append_nothing (base : Nat) (t ty e : TypeId) (i : TypeInfo) (size : Nat) (ht : P.underlying t = some (.slice e)) (hi : P.info? e = some i)
    (v : Value) (n : Nat) (xs : List Value) (hown : w.ownsRow base e size v n xs) (c : Nat) : (Builtin.append_ #[t, t] ty #[v, .slice none 0 c]).run P w = .ok v w := by
  rcases hown.2 with ⟨rfl, rfl⟩ | ⟨g, cap, cur, rfl, _, _, hnc, _⟩
  · simp [Builtin.append_, run_underlying ht, sizeOf, typeInfo, hi, Builtin.lenOf, Builtin.firstCells]
  · simp [Builtin.append_, run_underlying ht, sizeOf, typeInfo, hi, Builtin.lenOf, Builtin.firstCells, hnc, storeCells]
/-- 'append(s, xs...)' of one-cell elements: s the call's own, xs whatever reads as a list -/
theorem wpList_append_rd {ops : Array Oper} {rest : List Oper} {o : Oper} {a : Act} {Q : Exit → Act → World → Prop} (hgd : o.guard = none) (s x : Operand) (t : TypeId)
    (ho : o.op = .call { callee := .builtin .append, args := #[s, x], argTypes := #[t, t] })
    (base : Nat) (e : TypeId) (i : TypeInfo) (z : Value) (bytes : Nat) (ht : P.underlying t = some (.slice e)) (hi : P.info? e = some i) (hz : i.zero = some z)
    (hsize : i.size = 1) (hby : i.bytes = bytes) (hzs : z.cells.size = 1)
    (v : Value) (n : Nat) (xs : List Value) (hs : a.eval s = v) (hown : w.ownsRow base e 1 v n xs)
    (A : Option Addr) (m c : Nat) (news : List Value) (hx : a.eval x = .slice A m c) (hr : Rd w A m news) (h1 : ∀ u ∈ news, u.oneCell' = true)
    (h63 : n + m ≤ maxLen) (hbytes : (n + m) * bytes ≤ 140737488355328) (hbase : base ≤ w.heap.size)
    (h : ∀ v' w', w'.ownsRow base e 1 v' (n + m) (xs ++ news) → Below base w w' → (0 < n + m → ∃ g cap, v' = .slice (some ⟨g, 0, none⟩) (n + m) cap) → wpList P ops Q rest (a.put o.dst v') w') :
    wpList P ops Q (o :: rest) a w := by
  rcases A with _ | ad
  · have hm : m = 0 := by
      rcases Nat.eq_zero_or_pos m with h0 | h0
      · exact h0
      · obtain ⟨_, _, hh, _⟩ := hr.2 h0
        cases hh
    subst hm
    obtain rfl := hr.of_nil
    refine wpList_plain hgd fun K hK => ?_
    have hrun := run_append_nothing (P := P) (w := w) base t o.type e i 1 ht hi v n xs hown c
    unfold Oper.wp
    simp [execOp, ho, resolve, invoke, builtin, hs, hx, hrun, Result.andThen]
    exact hK _ _ (h v w (by simpa using hown) (Below.refl _ _) (fun hp => by
      obtain ⟨g, cap, hv, _⟩ := hown.form hp
      exact ⟨g, cap, hv⟩))
  · have hcells : ∀ j u, news[j]? = some u → w.cell? (ad.add j) = some u := by
      intro j u hu
      have hj : 0 < m := by
        rcases Nat.eq_zero_or_pos m with h0 | h0
        · subst h0; rw [hr.of_nil] at hu; simp at hu
        · exact h0
      obtain ⟨b, off, hh, _, hc⟩ := hr.2 hj
      injection hh with hh
      subst hh
      have he : (⟨b, off, none⟩ : Addr).add j = ⟨b, off + j, none⟩ := by unfold Addr.add; split <;> simp_all
      rw [he]; exact hc j u hu
    refine wpList_append_own_at w hgd s x t ho base e i z 1 bytes ht hi hz hsize hby hzs (by omega) v n xs hs hown ad m c news hx (by rw [hr.1]; omega) hcells h1 h63 hbytes hbase ?_
    intro v' w' hown' hg _ hat
    exact h v' w' hown' ((Below.refl _ _).grown hg hbase (own_lt_block hown)) (fun hp => by
      obtain ⟨g, cap, hv, _⟩ := hown'.form hp
      exact ⟨g, cap, hv⟩)
end

/-! ### rows of words (uint64), lists of numbers (int) -/
def u64v (x : Nat) : Value := .int .u64 (x : Int)
def i64v (x : Int) : Value := .int .i64 x
def Row (w : World) (A : Option Addr) (n : Nat) (xs : List Nat) : Prop := Rd w A n (xs.map u64v) ∧ ∀ x ∈ xs, x < 18446744073709551616
def Ints (w : World) (A : Option Addr) (n : Nat) (xs : List Int) : Prop := Rd w A n (xs.map i64v) ∧ ∀ x ∈ xs, -9223372036854775808 ≤ x ∧ x < 9223372036854775808
section
variable {w w' : World} {A : Option Addr} {n : Nat} {xs : List Nat} {zs : List Int}
theorem Row.len (h : Row w A n xs) : xs.length = n := by have := h.1.1; simpa using this
theorem Row.lt (h : Row w A n xs) : ∀ x ∈ xs, x < 18446744073709551616 := h.2
theorem Row.at_ {k : Nat} (h : Row w A n xs) (hk : k < n) : ∃ b off x, A = some ⟨b, off, none⟩ ∧ b < w.heap.size ∧ xs[k]? = some x ∧ x < 18446744073709551616 ∧ w.cell? ⟨b, off + k, none⟩ = some (.int .u64 (x : Int)) := by
  obtain ⟨b, off, u, hA, hb, hu, hc⟩ := h.1.at_ hk
  rw [List.getElem?_map] at hu
  obtain ⟨x, hx, rfl⟩ : ∃ x, xs[k]? = some x ∧ u64v x = u := by
    cases hx : xs[k]? with
    | none => rw [hx] at hu; cases hu
    | some x => rw [hx] at hu; exact ⟨x, rfl, by simpa using hu⟩
  exact ⟨b, off, x, hA, hb, hx, h.2 x (List.mem_of_getElem? hx), hc⟩
theorem Row.below (h : Row w A n xs) (hb : Below w.heap.size w w') : Row w' A n xs := ⟨h.1.below hb, h.2⟩
theorem Row.drewN (h : Row w A n xs) (k : Nat) : Row (w.drewN k) A n xs := h
theorem Row.nil (w : World) (A : Option Addr) : Row w A 0 [] := ⟨Rd.nil _ _, fun x hx => by cases hx⟩
theorem Row.getD_lt (h : Row w A n xs) (k : Nat) : xs.getD k 0 < 18446744073709551616 := by
  rw [List.getD_eq_getElem?_getD]
  cases hx : xs[k]? with
  | none => simp
  | some x => simpa using h.2 x (List.mem_of_getElem? hx)
theorem Row.get {k x : Nat} (h : xs[k]? = some x) : xs.getD k 0 = x := by rw [List.getD_eq_getElem?_getD, h]; rfl
theorem Ints.len (h : Ints w A n zs) : zs.length = n := by have := h.1.1; simpa using this
theorem Ints.at_ {k : Nat} (h : Ints w A n zs) (hk : k < n) : ∃ b off x, A = some ⟨b, off, none⟩ ∧ b < w.heap.size ∧ zs[k]? = some x ∧ (-9223372036854775808 ≤ x ∧ x < 9223372036854775808) ∧ w.cell? ⟨b, off + k, none⟩ = some (.int .i64 x) := by
  obtain ⟨b, off, u, hA, hb, hu, hc⟩ := h.1.at_ hk
  rw [List.getElem?_map] at hu
  obtain ⟨x, hx, rfl⟩ : ∃ x, zs[k]? = some x ∧ i64v x = u := by
    cases hx : zs[k]? with
    | none => rw [hx] at hu; cases hu
    | some x => rw [hx] at hu; exact ⟨x, rfl, by simpa using hu⟩
  exact ⟨b, off, x, hA, hb, hx, h.2 x (List.mem_of_getElem? hx), hc⟩
theorem Ints.below (h : Ints w A n zs) (hb : Below w.heap.size w w') : Ints w' A n zs := ⟨h.1.below hb, h.2⟩
theorem Ints.drewN (h : Ints w A n zs) (k : Nat) : Ints (w.drewN k) A n zs := h
theorem Ints.nil (w : World) (A : Option Addr) : Ints w A 0 [] := ⟨Rd.nil _ _, fun x hx => by cases hx⟩
theorem Ints.get {k : Nat} {x : Int} (h : zs[k]? = some x) : zs.getD k 0 = x := by rw [List.getD_eq_getElem?_getD, h]; rfl
end

/-- what a call that answers a row ends in -/
def RetRow (xs : List Nat) (w : World) (e : Ending) (w' : World) : Prop := ∃ A n c, e = .returned (.slice A n c) ∧ Row w' A n xs ∧ Below w.heap.size w w'
/-- .. a row of the call's own, of words of type t -/
def RetRowO (t : TypeId) (xs : List Nat) (w : World) (e : Ending) (w' : World) : Prop := ∃ A n c, e = .returned (.slice A n c) ∧ w'.ownsRow w.heap.size t 1 (.slice A n c) n (xs.map u64v) ∧ (∀ x ∈ xs, x < 18446744073709551616) ∧ Below w.heap.size w w'
theorem Row.of_own {w : World} {base n c : Nat} {A : Option Addr} {t : TypeId} {xs : List Nat} (h : w.ownsRow base t 1 (.slice A n c) n (xs.map u64v)) (hx : ∀ x ∈ xs, x < 18446744073709551616) : Row w A n xs := by
  obtain ⟨A', c', hv, hr⟩ := Rd.of_own h
  injection hv with h1 h2 h3
  subst h1
  exact ⟨hr, hx⟩
theorem RetRowO.row {t : TypeId} {xs : List Nat} {w w' : World} {e : Ending} (h : RetRowO t xs w e w') : RetRow xs w e w' := by
  obtain ⟨A, n, c, he, ho, hx, hb⟩ := h
  exact ⟨A, n, c, he, Row.of_own ho hx, hb⟩
theorem own_ret {t : TypeId} {xs : List Nat} {w w' : World} {A : Option Addr} {n c : Nat} (h : w'.ownsRow w.heap.size t 1 (.slice A n c) n (xs.map u64v)) (hx : ∀ x ∈ xs, x < 18446744073709551616) (hb : Below w.heap.size w w') :
    RetRowO t xs w (.returned (.slice A n c)) w' := ⟨A, n, c, rfl, h, hx, hb⟩
def RetInts (zs : List Int) (w : World) (e : Ending) (w' : World) : Prop := ∃ A n c, e = .returned (.slice A n c) ∧ Ints w' A n zs ∧ Below w.heap.size w w'

/-- .. numbers of the call's own, of type t -/
def RetIntsO (t : TypeId) (zs : List Int) (w : World) (e : Ending) (w' : World) : Prop := ∃ A n c, e = .returned (.slice A n c) ∧ w'.ownsRow w.heap.size t 1 (.slice A n c) n (zs.map i64v) ∧ (∀ x ∈ zs, -9223372036854775808 ≤ x ∧ x < 9223372036854775808) ∧ Below w.heap.size w w'
theorem Ints.of_own {w : World} {base n c : Nat} {A : Option Addr} {t : TypeId} {zs : List Int} (h : w.ownsRow base t 1 (.slice A n c) n (zs.map i64v)) (hx : ∀ x ∈ zs, -9223372036854775808 ≤ x ∧ x < 9223372036854775808) : Ints w A n zs := by
  obtain ⟨A', c', hv, hr⟩ := Rd.of_own h
  injection hv with h1 h2 h3
  subst h1
  exact ⟨hr, hx⟩
theorem RetIntsO.ints {t : TypeId} {zs : List Int} {w w' : World} {e : Ending} (h : RetIntsO t zs w e w') : RetInts zs w e w' := by
  obtain ⟨A, n, c, he, ho, hx, hb⟩ := h
  exact ⟨A, n, c, he, Ints.of_own ho hx, hb⟩
/-- a row of other elements stays as it is where one grows -/
theorem own_grown {w w' : World} {b1 b2 s1 s2 n1 n2 : Nat} {e1 e2 : TypeId} {v1 v2 : Value} {xs1 xs2 : List Value} (h1 : w.ownsRow b1 e1 s1 v1 n1 xs1) (h2 : w.ownsRow b2 e2 s2 v2 n2 xs2) (hne : e1 ≠ e2) (hg : w.grownBy w' v2.ownBlock) : w'.ownsRow b1 e1 s1 v1 n1 xs1 := by
  refine ⟨h1.1, ?_⟩
  rcases h1.2 with ⟨a, b⟩ | ⟨g, cap, cur, rfl, hbg, hgg, r⟩
  · exact .inl ⟨a, b⟩
  · refine .inr ⟨g, cap, cur, rfl, hbg, ?_, r⟩
    refine (hg.block g (Array.getElem?_eq_some_iff.1 hgg).1 ?_).trans hgg
    intro e
    rcases h2.2 with ⟨rfl, _⟩ | ⟨g', cap', cur', rfl, _, hgg', _⟩
    · simp [Value.ownBlock] at e
    · have : g' = g := by simpa [Value.ownBlock] using e.symm
      subst this
      rw [hgg] at hgg'
      injection hgg' with hh
      injection hh with _ ht
      exact hne ht

end Go.Proofs.Ytcdfpodhiogpiaa
