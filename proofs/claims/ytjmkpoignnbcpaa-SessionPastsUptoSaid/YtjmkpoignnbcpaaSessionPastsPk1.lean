/- Words for memory: slices that read as lists, blocks that are known whole, rows of a call's own. No function of the program is named here. Words for memory: slices of anything that takes a fixed number of cells (an encoding 'Enc'). No function of the program is named here. Words for memory: slices of operations (three cells each), histories (slices of such slices). No function of the program is named here. Words for memory: operations appended to a call's own slice of them; mathematics of histories: numbers and spots. No function of the program is named here. Plain mathematics of layer 9: histories interned. Nothing of the program is named. The contracts of the document's own answers of layer 6: Name, Flat, Count, Right, Spot, Small. A region that draws its order: walked in an order of one's own ('plan'): what only reads (copies, addresses, arithmetic, loads) is taken as soon as it may come up; a call comes up alone; behind the plan a tail, one operation behind the other. What a call makes of memory may be anything that leaves the blocks that were there as they were ('Below'). No function of the program is named here. The contracts of the document's own answers of layer 6: Spot, Number, Same. The contracts of the document's own answers of layer 9, first half: find, texts, items, Ints, Same, Small. The contract of the document's own answer of layer 9: Of. Plain mathematics of layer 9: facts laid back into a history. Nothing of the program is named. -/
import Derived.WalkKit
import Derived.Below
import Derived.Laws.OwnMore
import Derived.Laws.Rows
import Derived.Laws.CopyOwn
import Derived.Laws.MakeOwn
import Derived.Deep.AppendLies
import Derived.Deep.Draws
import Derived.Deep.OwnRows
import Derived.Maps.AppendAt
import Derived.OwnWalk
import Derived.StillTailTactics
import Derived.Laws.AppendOwnNone
import Derived.Lib.Hide
import Derived.Test.YtjmkpoignnbcpaaProg
import Derived.BigQuiet
import Derived.OrdersHeld
import Derived.StillTail
import Derived.Deep.RegionHeld3
namespace Go.Proofs.Ytjmkpoignnbcpaa
open Go.RowKit

/-- the slice '.slice A n c' (whatever c) reads as the cells vs, in a block of w -/
def Rd (w : World) (A : Option Addr) (n : Nat) (vs : List Value) : Prop :=
  vs.length = n ∧ (0 < n → ∃ b off, A = some ⟨b, off, none⟩ ∧ b < w.heap.size ∧ ∀ j u, vs[j]? = some u → w.cell? ⟨b, off + j, none⟩ = some u)

section
variable {w w' : World} {A : Option Addr} {n : Nat} {vs : List Value}
theorem Rd.len (h : Rd w A n vs) : vs.length = n := h.1
theorem Rd.at_ {k : Nat} (h : Rd w A n vs) (hk : k < n) : ∃ b off u, A = some ⟨b, off, none⟩ ∧ b < w.heap.size ∧ vs[k]? = some u ∧ w.cell? ⟨b, off + k, none⟩ = some u := by
  obtain ⟨b, off, e, hb, hc⟩ := h.2 (by omega)
  have hl : k < vs.length := by rw [h.1]; exact hk
  exact ⟨b, off, vs[k], e, hb, List.getElem?_eq_getElem hl, hc k _ (List.getElem?_eq_getElem hl)⟩
theorem Rd.keep (h : Rd w A n vs) (hs : w.heap.size ≤ w'.heap.size) (hk : ∀ p : Addr, p.block < w.heap.size → w'.cell? p = w.cell? p) : Rd w' A n vs :=
  ⟨h.1, fun hn => by
    obtain ⟨b, off, e, hb, hc⟩ := h.2 hn
    exact ⟨b, off, e, by omega, fun j u hu => (hk ⟨b, off + j, none⟩ hb).trans (hc j u hu)⟩⟩
theorem Rd.below (h : Rd w A n vs) (hb : Below w.heap.size w w') : Rd w' A n vs := h.keep hb.size fun _ hp => hb.cell hp
theorem Rd.drewN (h : Rd w A n vs) (k : Nat) : Rd (w.drewN k) A n vs := h
theorem Rd.nil (w : World) (A : Option Addr) : Rd w A 0 [] := ⟨rfl, fun h => absurd h (by omega)⟩
theorem Rd.of_nil (h : Rd w A 0 vs) : vs = [] := List.eq_nil_of_length_eq_zero h.1
/-- out of a block that is known whole -/
theorem Rd.of_block {g : Nat} {cs : Array Value} {t : TypeId} {fr : Nat × Nat} (h : w.heap[g]? = some (.cells cs t fr)) (hn : cs.size = n) : Rd w (some ⟨g, 0, none⟩) n cs.toList := by
  refine ⟨by simpa using hn, fun _ => ⟨g, 0, rfl, ?_, fun j u hu => ?_⟩⟩
  · exact (Array.getElem?_eq_some_iff.1 h).1
  · rw [Nat.zero_add, cell_of_row w g j cs t fr h]; simpa using hu
theorem Rd.of_own {base : Nat} {e : TypeId} {v : Value} (h : w.ownsRow base e 1 v n vs) : ∃ A c, v = .slice A n c ∧ Rd w A n vs := by
  rcases h.2 with ⟨rfl, rfl⟩ | ⟨g, cap, cur, rfl, hbg, hg, hnc, hcm, hcs, htake⟩
  · have : vs = [] := List.eq_nil_of_length_eq_zero (by simpa using h.1)
    subst this
    exact ⟨none, 0, rfl, Rd.nil _ _⟩
  · refine ⟨_, _, rfl, by simpa using h.1, fun _ => ⟨g, 0, rfl, (Array.getElem?_eq_some_iff.1 hg).1, fun j u hu => ?_⟩⟩
    rw [Nat.zero_add, cell_of_row w g j cur e (0, 0) hg]
    rw [← htake, Nat.mul_one] at hu
    have hj : j < n := by
      rcases Nat.lt_or_ge j n with h' | h'
      · exact h'
      · rw [List.getElem?_eq_none (by rw [List.length_take]; omega)] at hu; cases hu
    rw [List.getElem?_take_of_lt hj] at hu
    simpa using hu
theorem Rd.of_own' {base : Nat} {e : TypeId} {c : Nat} (h : w.ownsRow base e 1 (.slice A n c) n vs) : Rd w A n vs := by
  obtain ⟨A', c', hv, hr⟩ := Rd.of_own h
  injection hv with h1 h2 h3
  subst h1
  exact hr
end

/-- block g is just the cells cs of element type t, none frozen -/
def Blk (w : World) (g : Nat) (t : TypeId) (cs : List Value) : Prop := w.heap[g]? = some (.cells cs.toArray t (0, 0))
section
variable {w w' : World} {g : Nat} {t : TypeId} {cs : List Value}
theorem Blk.lt (h : Blk w g t cs) : g < w.heap.size := (Array.getElem?_eq_some_iff.1 h).1
theorem Blk.cell (h : Blk w g t cs) (i : Nat) : w.cell? ⟨g, i, none⟩ = cs[i]? := by rw [cell_of_row w g i _ t (0, 0) h]; simp
theorem Blk.frozen (h : Blk w g t cs) (i : Nat) : w.frozen? ⟨g, i, none⟩ = false := by
  unfold Blk at h; simp [World.frozen?, h]
theorem Blk.new (w : World) (t : TypeId) (cs : List Value) : Blk (w.alloc (.cells cs.toArray t)) w.heap.size t cs := heap_alloc_new w _
theorem Blk.drewN (h : Blk w g t cs) (n : Nat) : Blk (w.drewN n) g t cs := h
theorem Blk.drew (h : Blk w g t cs) : Blk w.drew g t cs := h
theorem Blk.alloc (h : Blk w g t cs) (o : Obj) : Blk (w.alloc o) g t cs := (Below.heap_alloc w o g h.lt).trans h
theorem Blk.set_ (h : Blk w g t cs) (i : Nat) (u : Value) : Blk (w.setCell ⟨g, i, none⟩ u) g t (cs.set i u) := by
  unfold Blk at h ⊢
  simp [World.setCell, Array.getElem?_modify, h]
theorem Blk.far (h : Blk w g t cs) {p : Addr} (hp : g ≠ p.block) (u : Value) : Blk (w.setCell p u) g t cs := (Below.heap_setCell w p u g hp).trans h
theorem Blk.below {B : Nat} (h : Blk w g t cs) (hb : Below B w w') (hg : g < B) : Blk w' g t cs := (hb.block g hg).trans h
theorem Blk.grown {row : Option Nat} (h : Blk w g t cs) (hb : w.grownBy w' row) (hg : some g ≠ row) : Blk w' g t cs := (hb.block g h.lt hg).trans h
theorem Blk.rd (h : Blk w g t cs) : Rd w (some ⟨g, 0, none⟩) cs.length cs := by
  have := Rd.of_block (n := cs.length) h (by simp)
  simpa using this
theorem Blk.of_own {base n : Nat} {vs : List Value} (h : w.ownsRow base t 1 (.slice (some ⟨g, 0, none⟩) n n) n vs) : Blk w g t vs := by
  rcases h.2 with ⟨h1, _⟩ | ⟨g', cap, cur, hv, hbg, hg, hnc, hcm, hcs, htake⟩
  · cases h1
  · injection hv with h1 h2 h3
    injection h1 with h1
    injection h1 with h1
    subst h1; subst h3
    have : cur.toList = vs := by
      rw [← htake]; symm; apply List.take_of_length_le; simp; omega
    unfold Blk
    rw [hg, ← this]
end

theorem below_trans2 {a b c : World} (h : Below a.heap.size a b) (k : Below b.heap.size b c) : Below a.heap.size a c := h.trans (k.mono h.size)
theorem below_drewN {B : Nat} {a w : World} (h : Below B a w) (n : Nat) : Below B a (w.drewN n) := ⟨h.os, h.tape, h.output, h.size, h.block⟩
theorem own_below {w w' : World} {base : Nat} {e : TypeId} {size : Nat} {v : Value} {n : Nat} {xs : List Value} (h : w.ownsRow base e size v n xs) (hb : Below w.heap.size w w') : w'.ownsRow base e size v n xs :=
  ⟨h.1, h.2.imp id fun ⟨g, cap, cur, hv, hg, hh, r⟩ => ⟨g, cap, cur, hv, hg, (hb.block g (Array.getElem?_eq_some_iff.1 hh).1).trans hh, r⟩⟩
theorem own_lt_block {w : World} {base : Nat} {e : TypeId} {size : Nat} {v : Value} {n : Nat} {xs : List Value} (h : w.ownsRow base e size v n xs) : ∀ k, v.ownBlock = some k → base ≤ k := fun k hk => (h.lt k hk).1

def zeros (c : Nat) (z : Value) : Array Value := (List.replicate c z).toArray
/-- 'make([]T, n, c)', T of one cell: an equation for every world, to be laid ahead of a walk -/
theorem run_make_one {P : Program} (t e : TypeId) (i : TypeInfo) (z : Value) (ht : P.underlying t = some (.slice e)) (hi : P.info? e = some i) (hz : i.zero = some z) (hs : i.size = 1) (hzc : z.cells = #[z])
    (kl kc : IntKind) (n c : Nat) (hnc : n ≤ c) (hbytes : i.bytes * c ≤ 281474976710656) (h63 : c ≤ 9223372036854775807) (w : World) :
    (Instr.makeSlice t (.int kl (n : Int)) (.int kc (c : Int))).run P w = .ok (.slice (some ⟨w.heap.size, 0, none⟩) n c) (w.alloc (.cells (zeros c z) e)) := by
  have hb : (i.bytes : Int) * (c : Int) ≤ 281474976710656 := by
    have h : ((i.bytes * c : Nat) : Int) ≤ 281474976710656 := by omega
    rwa [Int.natCast_mul] at h
  have hr := run_make (P := P) w t e i z ht hi hz kl kc n c (by omega) (by omega) hb (by omega)
  simp only [Int.toNat_natCast] at hr
  rw [hr, hs, Nat.mul_one, hzc]
  have : madeCells #[z] c = zeros c z := by
    apply Array.toList_inj.1; rw [toList_madeCells_one]; simp [zeros]
  rw [this]
theorem own_zeros (w : World) (c : Nat) (z : Value) (e : TypeId) (hc : c ≤ maxLen) : (w.alloc (.cells (zeros c z) e)).ownsRow w.heap.size e 1 (.slice (some ⟨w.heap.size, 0, none⟩) c c) c (List.replicate c z) := by
  have h := World.ownsRow_lit (size := 1) (base := w.heap.size) (e := e) w (zeros c z) c (Nat.le_refl _) hc (by simp [zeros])
  simpa [zeros] using h

/-- a region that draws, all of whose operations but those from number n on only read, or call what leaves the world alone: walked in the text's order, in a world W of which the facts are to be laid anew -/
theorem still_tail {P : Program} {id : Nat} {Q : Exit → Act → World → Prop} {a : Act} {w : World} {l : List Oper} (n : Nat) (hm : P.follows .mixedOrders = true) (hB : Region.lexTailB .any l.toArray n = true)
    (h : ∀ W : World, Hid (W = w.drew) → wpStill P l.toArray W (fun a' => wpList P l.toArray Q (l.drop n) a' W) (l.take n) a) : (Code.region id l.toArray true).wp P Q a w :=
  wp_region_still_tail n hm hB (h w.drew rfl)
theorem still_call {P : Program} {f : FuncId} {args : Array Value} {w : World} {v : Value} (h : Calls P f args w fun e w' => e = .returned v ∧ w = w') : Calls P f args w fun e w' => e = .returned v ∧ w' = w :=
  h.mono fun _ _ ⟨he, hw⟩ => ⟨he, hw.symm⟩

section
variable {P : Program} {w : World}
/-- 'append(s, xs...)', xs nil, whatever its third cell -/
theorem run_append_nothing (base : Nat) (t ty e : TypeId) (i : TypeInfo) (size : Nat) (ht : P.underlying t = some (.slice e)) (hi : P.info? e = some i)
    (v : Value) (n : Nat) (xs : List Value) (hown : w.ownsRow base e size v n xs) (c : Nat) : (Builtin.append_ #[t, t] ty #[v, .slice none 0 c]).run P w = .ok v w := by
  rcases hown.2 with ⟨rfl, rfl⟩ | ⟨g, cap, cur, rfl, _, _, hnc, _⟩
  · simp [Builtin.append_, run_underlying ht, sizeOf, typeInfo, hi, Builtin.lenOf, Builtin.firstCells]
  · simp [Builtin.append_, run_underlying ht, sizeOf, typeInfo, hi, Builtin.lenOf, Builtin.firstCells, hnc, storeCells]
/-- 'append(s, xs...)' of one-cell elements: s the call's own, xs whatever reads as a list -/
theorem wpList_append_rd {ops : Array Oper} {rest : List Oper} {o : Oper} {a : Act} {Q : Exit → Act → World → Prop} (hgd : o.guard = none) (s x : Operand) (t : TypeId)
    (ho : o.op = .call { callee := .builtin .append, args := #[s, x], argTypes := #[t, t] })
    (base : Nat) (e : TypeId) (i : TypeInfo) (z : Value) (bytes : Nat) (ht : P.underlying t = some (.slice e)) (hi : P.info? e = some i) (hz : i.zero = some z)
    (hsize : i.size = 1) (hby : i.bytes = bytes) (hzs : z.cells.size = 1)
    (v : Value) (n : Nat) (xs : List Value) (hs : a.eval s = v) (hown : w.ownsRow base e 1 v n xs)
    (A : Option Addr) (m c : Nat) (news : List Value) (hx : a.eval x = .slice A m c) (hr : Rd w A m news) (h1 : ∀ u ∈ news, u.oneCell' = true)
    (h63 : n + m ≤ maxLen) (hbytes : (n + m) * bytes ≤ 140737488355328) (hbase : base ≤ w.heap.size)
    (h : ∀ v' w', w'.ownsRow base e 1 v' (n + m) (xs ++ news) → Below base w w' → (0 < n + m → ∃ g cap, v' = .slice (some ⟨g, 0, none⟩) (n + m) cap) → wpList P ops Q rest (a.put o.dst v') w') :
    wpList P ops Q (o :: rest) a w := by
  rcases A with _ | ad
  · have hm : m = 0 := by
      rcases Nat.eq_zero_or_pos m with h0 | h0
      · exact h0
      · obtain ⟨_, _, hh, _⟩ := hr.2 h0
        cases hh
    subst hm
    obtain rfl := hr.of_nil
    refine wpList_plain hgd fun K hK => ?_
    have hrun := run_append_nothing (P := P) (w := w) base t o.type e i 1 ht hi v n xs hown c
    unfold Oper.wp
    simp [execOp, ho, resolve, invoke, builtin, hs, hx, hrun, Result.andThen]
    exact hK _ _ (h v w (by simpa using hown) (Below.refl _ _) (fun hp => by
      obtain ⟨g, cap, hv, _⟩ := hown.form hp
      exact ⟨g, cap, hv⟩))
  · have hcells : ∀ j u, news[j]? = some u → w.cell? (ad.add j) = some u := by
      intro j u hu
      have hj : 0 < m := by
        rcases Nat.eq_zero_or_pos m with h0 | h0
        · subst h0; rw [hr.of_nil] at hu; simp at hu
        · exact h0
      obtain ⟨b, off, hh, _, hc⟩ := hr.2 hj
      injection hh with hh
      subst hh
      have he : (⟨b, off, none⟩ : Addr).add j = ⟨b, off + j, none⟩ := by unfold Addr.add; split <;> simp_all
      rw [he]; exact hc j u hu
    refine wpList_append_own_at w hgd s x t ho base e i z 1 bytes ht hi hz hsize hby hzs (by omega) v n xs hs hown ad m c news hx (by rw [hr.1]; omega) hcells h1 h63 hbytes hbase ?_
    intro v' w' hown' hg _ hat
    exact h v' w' hown' ((Below.refl _ _).grown hg hbase (own_lt_block hown)) (fun hp => by
      obtain ⟨g, cap, hv, _⟩ := hown'.form hp
      exact ⟨g, cap, hv⟩)
end

/-! ### rows of words (uint64), lists of numbers (int) -/
def u64v (x : Nat) : Value := .int .u64 (x : Int)
def i64v (x : Int) : Value := .int .i64 x
def Row (w : World) (A : Option Addr) (n : Nat) (xs : List Nat) : Prop := Rd w A n (xs.map u64v) ∧ ∀ x ∈ xs, x < 18446744073709551616
def Ints (w : World) (A : Option Addr) (n : Nat) (xs : List Int) : Prop := Rd w A n (xs.map i64v) ∧ ∀ x ∈ xs, -9223372036854775808 ≤ x ∧ x < 9223372036854775808
section
variable {w w' : World} {A : Option Addr} {n : Nat} {xs : List Nat} {zs : List Int}
theorem Row.len (h : Row w A n xs) : xs.length = n := by have := h.1.1; simpa using this
theorem Row.lt (h : Row w A n xs) : ∀ x ∈ xs, x < 18446744073709551616 := h.2
theorem Row.at_ {k : Nat} (h : Row w A n xs) (hk : k < n) : ∃ b off x, A = some ⟨b, off, none⟩ ∧ b < w.heap.size ∧ xs[k]? = some x ∧ x < 18446744073709551616 ∧ w.cell? ⟨b, off + k, none⟩ = some (.int .u64 (x : Int)) := by
  obtain ⟨b, off, u, hA, hb, hu, hc⟩ := h.1.at_ hk
  rw [List.getElem?_map] at hu
  obtain ⟨x, hx, rfl⟩ : ∃ x, xs[k]? = some x ∧ u64v x = u := by
    cases hx : xs[k]? with
    | none => rw [hx] at hu; cases hu
    | some x => rw [hx] at hu; exact ⟨x, rfl, by simpa using hu⟩
  exact ⟨b, off, x, hA, hb, hx, h.2 x (List.mem_of_getElem? hx), hc⟩
theorem Row.below (h : Row w A n xs) (hb : Below w.heap.size w w') : Row w' A n xs := ⟨h.1.below hb, h.2⟩
theorem Row.drewN (h : Row w A n xs) (k : Nat) : Row (w.drewN k) A n xs := h
theorem Row.nil (w : World) (A : Option Addr) : Row w A 0 [] := ⟨Rd.nil _ _, fun x hx => by cases hx⟩
theorem Row.getD_lt (h : Row w A n xs) (k : Nat) : xs.getD k 0 < 18446744073709551616 := by
  rw [List.getD_eq_getElem?_getD]
  cases hx : xs[k]? with
  | none => simp
  | some x => simpa using h.2 x (List.mem_of_getElem? hx)
theorem Row.get {k x : Nat} (h : xs[k]? = some x) : xs.getD k 0 = x := by rw [List.getD_eq_getElem?_getD, h]; rfl
theorem Ints.len (h : Ints w A n zs) : zs.length = n := by have := h.1.1; simpa using this
theorem Ints.at_ {k : Nat} (h : Ints w A n zs) (hk : k < n) : ∃ b off x, A = some ⟨b, off, none⟩ ∧ b < w.heap.size ∧ zs[k]? = some x ∧ (-9223372036854775808 ≤ x ∧ x < 9223372036854775808) ∧ w.cell? ⟨b, off + k, none⟩ = some (.int .i64 x) := by
  obtain ⟨b, off, u, hA, hb, hu, hc⟩ := h.1.at_ hk
  rw [List.getElem?_map] at hu
  obtain ⟨x, hx, rfl⟩ : ∃ x, zs[k]? = some x ∧ i64v x = u := by
    cases hx : zs[k]? with
    | none => rw [hx] at hu; cases hu
    | some x => rw [hx] at hu; exact ⟨x, rfl, by simpa using hu⟩
  exact ⟨b, off, x, hA, hb, hx, h.2 x (List.mem_of_getElem? hx), hc⟩
theorem Ints.below (h : Ints w A n zs) (hb : Below w.heap.size w w') : Ints w' A n zs := ⟨h.1.below hb, h.2⟩
theorem Ints.drewN (h : Ints w A n zs) (k : Nat) : Ints (w.drewN k) A n zs := h
theorem Ints.nil (w : World) (A : Option Addr) : Ints w A 0 [] := ⟨Rd.nil _ _, fun x hx => by cases hx⟩
theorem Ints.get {k : Nat} {x : Int} (h : zs[k]? = some x) : zs.getD k 0 = x := by rw [List.getD_eq_getElem?_getD, h]; rfl
end

/-- what a call that answers a row ends in -/
def RetRow (xs : List Nat) (w : World) (e : Ending) (w' : World) : Prop := ∃ A n c, e = .returned (.slice A n c) ∧ Row w' A n xs ∧ Below w.heap.size w w'
/-- .. a row of the call's own, of words of type t -/
def RetRowO (t : TypeId) (xs : List Nat) (w : World) (e : Ending) (w' : World) : Prop := ∃ A n c, e = .returned (.slice A n c) ∧ w'.ownsRow w.heap.size t 1 (.slice A n c) n (xs.map u64v) ∧ (∀ x ∈ xs, x < 18446744073709551616) ∧ Below w.heap.size w w'
theorem Row.of_own {w : World} {base n c : Nat} {A : Option Addr} {t : TypeId} {xs : List Nat} (h : w.ownsRow base t 1 (.slice A n c) n (xs.map u64v)) (hx : ∀ x ∈ xs, x < 18446744073709551616) : Row w A n xs := by
  obtain ⟨A', c', hv, hr⟩ := Rd.of_own h
  injection hv with h1 h2 h3
  subst h1
  exact ⟨hr, hx⟩
theorem RetRowO.row {t : TypeId} {xs : List Nat} {w w' : World} {e : Ending} (h : RetRowO t xs w e w') : RetRow xs w e w' := by
  obtain ⟨A, n, c, he, ho, hx, hb⟩ := h
  exact ⟨A, n, c, he, Row.of_own ho hx, hb⟩
theorem own_ret {t : TypeId} {xs : List Nat} {w w' : World} {A : Option Addr} {n c : Nat} (h : w'.ownsRow w.heap.size t 1 (.slice A n c) n (xs.map u64v)) (hx : ∀ x ∈ xs, x < 18446744073709551616) (hb : Below w.heap.size w w') :
    RetRowO t xs w (.returned (.slice A n c)) w' := ⟨A, n, c, rfl, h, hx, hb⟩
def RetInts (zs : List Int) (w : World) (e : Ending) (w' : World) : Prop := ∃ A n c, e = .returned (.slice A n c) ∧ Ints w' A n zs ∧ Below w.heap.size w w'

/-- .. numbers of the call's own, of type t -/
def RetIntsO (t : TypeId) (zs : List Int) (w : World) (e : Ending) (w' : World) : Prop := ∃ A n c, e = .returned (.slice A n c) ∧ w'.ownsRow w.heap.size t 1 (.slice A n c) n (zs.map i64v) ∧ (∀ x ∈ zs, -9223372036854775808 ≤ x ∧ x < 9223372036854775808) ∧ Below w.heap.size w w'
theorem Ints.of_own {w : World} {base n c : Nat} {A : Option Addr} {t : TypeId} {zs : List Int} (h : w.ownsRow base t 1 (.slice A n c) n (zs.map i64v)) (hx : ∀ x ∈ zs, -9223372036854775808 ≤ x ∧ x < 9223372036854775808) : Ints w A n zs := by
  obtain ⟨A', c', hv, hr⟩ := Rd.of_own h
  injection hv with h1 h2 h3
  subst h1
  exact ⟨hr, hx⟩
theorem RetIntsO.ints {t : TypeId} {zs : List Int} {w w' : World} {e : Ending} (h : RetIntsO t zs w e w') : RetInts zs w e w' := by
  obtain ⟨A, n, c, he, ho, hx, hb⟩ := h
  exact ⟨A, n, c, he, Ints.of_own ho hx, hb⟩
/-- a row of other elements stays as it is where one grows -/
theorem own_grown {w w' : World} {b1 b2 s1 s2 n1 n2 : Nat} {e1 e2 : TypeId} {v1 v2 : Value} {xs1 xs2 : List Value} (h1 : w.ownsRow b1 e1 s1 v1 n1 xs1) (h2 : w.ownsRow b2 e2 s2 v2 n2 xs2) (hne : e1 ≠ e2) (hg : w.grownBy w' v2.ownBlock) : w'.ownsRow b1 e1 s1 v1 n1 xs1 := by
  refine ⟨h1.1, ?_⟩
  rcases h1.2 with ⟨a, b⟩ | ⟨g, cap, cur, rfl, hbg, hgg, r⟩
  · exact .inl ⟨a, b⟩
  · refine .inr ⟨g, cap, cur, rfl, hbg, ?_, r⟩
    refine (hg.block g (Array.getElem?_eq_some_iff.1 hgg).1 ?_).trans hgg
    intro e
    rcases h2.2 with ⟨rfl, _⟩ | ⟨g', cap', cur', rfl, _, hgg', _⟩
    · simp [Value.ownBlock] at e
    · have : g' = g := by simpa [Value.ownBlock] using e.symm
      subst this
      rw [hgg] at hgg'
      injection hgg' with hh
      injection hh with _ ht
      exact hne ht

end Go.Proofs.Ytjmkpoignnbcpaa

namespace Go.Proofs.Ytjmkpoignnbcpaa
open Go.RowKit
set_option linter.unusedVariables false

/-- how something lies in memory -/
structure Enc (α : Type) where
  cells : α → List Value
  sz : Nat
  pos : 0 < sz
  len : ∀ x, (cells x).length = sz
  one : ∀ x u, u ∈ cells x → u.oneCell' = true
  ok : α → Prop
section
variable {α : Type} {E : Enc α}
def Enc.all (E : Enc α) (xs : List α) : List Value := xs.flatMap E.cells
theorem Enc.all_nil (E : Enc α) : E.all [] = [] := rfl
theorem Enc.all_cons (E : Enc α) (x : α) (xs : List α) : E.all (x :: xs) = E.cells x ++ E.all xs := rfl
theorem Enc.all_len (E : Enc α) (xs : List α) : (E.all xs).length = xs.length * E.sz := by
  induction xs with
  | nil => simp [Enc.all]
  | cons x xs ih => rw [E.all_cons, List.length_append, E.len, ih, List.length_cons, Nat.succ_mul]; omega
theorem Enc.all_append (E : Enc α) (a b : List α) : E.all (a ++ b) = E.all a ++ E.all b := List.flatMap_append
theorem Enc.all_single (E : Enc α) (x : α) : E.all [x] = E.cells x := by simp [Enc.all]
theorem Enc.all_at {xs : List α} {k : Nat} {x : α} (h : xs[k]? = some x) {r : Nat} (hr : r < E.sz) : (E.all xs)[k * E.sz + r]? = (E.cells x)[r]? := by
  induction xs generalizing k with
  | nil => simp at h
  | cons y xs ih =>
    rw [E.all_cons]
    cases k with
    | zero =>
      simp at h; subst h
      rw [Nat.zero_mul, Nat.zero_add, List.getElem?_append_left (by rw [E.len]; exact hr)]
    | succ k =>
      have h' : xs[k]? = some x := by simpa using h
      have e : (k + 1) * E.sz + r = E.sz + (k * E.sz + r) := by rw [Nat.succ_mul]; omega
      rw [e, List.getElem?_append_right (by rw [E.len]; omega), E.len, Nat.add_sub_cancel_left]
      exact ih h'
theorem Enc.all_one (E : Enc α) (xs : List α) : ∀ u ∈ E.all xs, u.oneCell' = true := by
  intro u hu
  obtain ⟨x, _, h⟩ := List.mem_flatMap.1 hu
  exact E.one x u h
/-- the slice '.slice A n c' reads as xs -/
def LAt (E : Enc α) (w : World) (A : Option Addr) (n : Nat) (xs : List α) : Prop :=
  xs.length = n ∧ (∀ x ∈ xs, E.ok x) ∧ (0 < n → ∃ b off, A = some ⟨b, off, none⟩ ∧ b < w.heap.size ∧ ∀ (j : Nat) (u : Value), (E.all xs)[j]? = some u → w.cell? ⟨b, off + j, none⟩ = some u)
variable {w w' : World} {A : Option Addr} {n : Nat} {xs : List α}
theorem LAt.len (h : LAt E w A n xs) : xs.length = n := h.1
theorem LAt.okAll (h : LAt E w A n xs) : ∀ x ∈ xs, E.ok x := h.2.1
theorem LAt.below (h : LAt E w A n xs) (hb : Below w.heap.size w w') : LAt E w' A n xs :=
  ⟨h.1, h.2.1, fun hn => by
    obtain ⟨b, off, e, hbl, hc⟩ := h.2.2 hn
    exact ⟨b, off, e, Nat.lt_of_lt_of_le hbl hb.size, fun j u hu => (hb.cell (p := ⟨b, off + j, none⟩) hbl).trans (hc j u hu)⟩⟩
theorem LAt.nil (E : Enc α) (w : World) (A : Option Addr) : LAt E w A 0 [] := ⟨rfl, fun x h => (by cases h), fun h => absurd h (by omega)⟩
theorem LAt.at_ {k : Nat} (h : LAt E w A n xs) (hk : k < n) : ∃ b off x, A = some ⟨b, off, none⟩ ∧ b < w.heap.size ∧ xs[k]? = some x ∧ E.ok x ∧ ∀ (r : Nat) (u : Value), (E.cells x)[r]? = some u → w.cell? ⟨b, off + k * E.sz + r, none⟩ = some u := by
  obtain ⟨b, off, e, hb, hc⟩ := h.2.2 (by omega)
  have hl : k < xs.length := by rw [h.1]; exact hk
  have ho := List.getElem?_eq_getElem hl
  refine ⟨b, off, xs[k], e, hb, ho, h.2.1 _ (List.getElem_mem hl), fun r u hu => ?_⟩
  have hr : r < E.sz := by rw [← E.len xs[k]]; exact (List.getElem?_eq_some_iff.1 hu).1
  have := hc (k * E.sz + r) u (by rw [Enc.all_at ho hr]; exact hu)
  rwa [← Nat.add_assoc] at this
theorem LAt.of_own {base : Nat} {e : TypeId} {v : Value} (h : w.ownsRow base e E.sz v n (E.all xs)) (ho : ∀ x ∈ xs, E.ok x) (hl : xs.length = n) : ∃ A c, v = .slice A n c ∧ n ≤ c ∧ c ≤ 9223372036854775807 ∧ LAt E w A n xs := by
  rcases h.2 with ⟨rfl, rfl⟩ | ⟨g, cap, cur, rfl, hbg, hg, hnc, hcm, hcs, htake⟩
  · have : xs = [] := List.eq_nil_of_length_eq_zero hl
    subst this
    exact ⟨none, 0, rfl, Nat.le_refl _, by omega, LAt.nil _ _ _⟩
  · refine ⟨_, _, rfl, hnc, by unfold maxLen at hcm; exact hcm, hl, ho, fun _ => ⟨g, 0, rfl, (Array.getElem?_eq_some_iff.1 hg).1, fun j u hu => ?_⟩⟩
    rw [Nat.zero_add, cell_of_row w g j cur e (0, 0) hg]
    have hj : j < n * E.sz := by
      have := (List.getElem?_eq_some_iff.1 hu).1
      rw [E.all_len, hl] at this
      exact this
    rw [← htake, List.getElem?_take_of_lt hj] at hu
    simpa using hu
theorem LAt.of_own' {base c : Nat} {e : TypeId} (h : w.ownsRow base e E.sz (.slice A n c) n (E.all xs)) (ho : ∀ x ∈ xs, E.ok x) (hl : xs.length = n) : LAt E w A n xs := by
  obtain ⟨A', c', hv, _, _, hr⟩ := LAt.of_own h ho hl
  injection hv with h1
  subst h1; exact hr
theorem LAt.of_blk {g : Nat} {t : TypeId} (h : Blk w g t (E.all xs)) (ho : ∀ x ∈ xs, E.ok x) (hn : xs.length = n) : LAt E w (some ⟨g, 0, none⟩) n xs :=
  ⟨hn, ho, fun _ => ⟨g, 0, rfl, h.lt, fun j u hu => by rw [Nat.zero_add, h.cell]; exact hu⟩⟩
/-- a store into a block of other values -/
theorem LAt.setBlk {g i : Nat} {t : TypeId} {cs : List Value} (h : LAt E w A n xs) (k : Blk w g t cs) (hne : ∀ x u v, u ∈ E.cells x → v ∈ cs → u ≠ v) (u : Value) : LAt E (w.setCell ⟨g, i, none⟩ u) A n xs :=
  ⟨h.1, h.2.1, fun hn => by
    obtain ⟨b, off, e, hb, hc⟩ := h.2.2 hn
    have hbg : b ≠ g := by
      intro hbg
      subst hbg
      obtain ⟨x, r, hx⟩ : ∃ x r, xs = x :: r := by
        cases xs with
        | nil => have := h.1; simp at this; omega
        | cons x r => exact ⟨x, r, rfl⟩
      obtain ⟨y, s, hy⟩ : ∃ y s, E.cells x = y :: s := by
        have h1 := E.len x
        have h2 := E.pos
        cases hcx : E.cells x with
        | nil => rw [hcx] at h1; simp at h1; omega
        | cons y s => exact ⟨y, s, rfl⟩
      have h0 := hc 0 y (by rw [hx, E.all_cons, hy]; rfl)
      rw [Nat.add_zero, k.cell] at h0
      exact hne x y y (by rw [hy]; simp) (List.mem_of_getElem? h0) rfl
    exact ⟨b, off, e, by simpa using hb, fun j v hv => (World.cell?_of_block (Below.heap_setCell w ⟨g, i, none⟩ u b hbg)).trans (hc j v hv)⟩⟩
/-- the first k -/
theorem LAt.take (h : LAt E w A n xs) {k : Nat} (hk : k ≤ n) : LAt E w A k (xs.take k) :=
  ⟨by rw [List.length_take, h.1]; omega, fun x hx => h.2.1 x (List.mem_of_mem_take hx), fun h0 => by
    obtain ⟨b, off, e, hb, hc⟩ := h.2.2 (by omega)
    refine ⟨b, off, e, hb, fun j u hu => hc j u ?_⟩
    have hx : xs = xs.take k ++ xs.drop k := (List.take_append_drop k xs).symm
    rw [hx, E.all_append, List.getElem?_append_left (List.getElem?_eq_some_iff.1 hu).1]; exact hu⟩
/-- 'append(s, xs...)': s the call's own, xs whatever reads -/
theorem run_append_L {P : Program} (w : World) (base : Nat) (t ty e : TypeId) (i : TypeInfo) (z : Value) (by_ : Nat) (ht : P.underlying t = some (.slice e)) (hi : P.info? e = some i) (hz : i.zero = some z)
    (hsize : i.size = E.sz) (hby : i.bytes = by_) (hzs : z.cells.size = E.sz) (v : Value) (n : Nat) (os : List α) (hown : w.ownsRow base e E.sz v n (E.all os))
    (A : Option Addr) (m c : Nat) (news : List α) (hr : LAt E w A m news) (hb : n + m ≤ maxLen) (hbytes : (n + m) * by_ ≤ 140737488355328) (hbase : base ≤ w.heap.size) :
    ∃ v' w', (Builtin.append_ #[t, t] ty #[v, .slice A m c]).run P w = .ok v' w' ∧ w'.ownsRow base e E.sz v' (n + m) (E.all (os ++ news)) ∧ Below base w w' ∧ w.grownBy w' v.ownBlock ∧ (v'.ownBlock = v.ownBlock ∨ v'.ownBlock = some w.heap.size) := by
  rcases A with _ | ad
  · have hm : m = 0 := by
      rcases Nat.eq_zero_or_pos m with h0 | h0
      · exact h0
      · obtain ⟨_, _, hh, _⟩ := hr.2.2 h0
        cases hh
    subst hm
    have hn : news = [] := List.eq_nil_of_length_eq_zero hr.1
    subst hn
    have hrun := run_append_nothing (P := P) (w := w) base t ty e i E.sz ht hi v n (E.all os) hown c
    exact ⟨v, w, hrun, by simpa using hown, Below.refl _ _, World.grownBy.refl w _, .inl rfl⟩
  · have hcells : ∀ j u, (E.all news)[j]? = some u → w.cell? (ad.add j) = some u := by
      intro j u hu
      have hj : 0 < m := by
        rcases Nat.eq_zero_or_pos m with h0 | h0
        · subst h0; rw [List.eq_nil_of_length_eq_zero hr.1] at hu; simp [Enc.all] at hu
        · exact h0
      obtain ⟨b, off, hh, _, hc⟩ := hr.2.2 hj
      injection hh with hh
      subst hh
      have he : (⟨b, off, none⟩ : Addr).add j = ⟨b, off + j, none⟩ := by unfold Addr.add; split <;> simp_all
      rw [he]; exact hc j u hu
    obtain ⟨v', w', hrun, h2, h3, _, h5⟩ := run_append_own_at (P := P) w base t ty e i z E.sz by_ ht hi hz hsize hby hzs E.pos v n (E.all os) hown ad m c (E.all news) (by rw [E.all_len, hr.1]) hcells (E.all_one news) hb hbytes hbase
    rw [← E.all_append] at h2
    exact ⟨v', w', hrun, h2, (Below.refl _ _).grown h3 hbase (own_lt_block hown), h3, h5⟩
theorem wpList_append_L {P : Program} {ops : Array Oper} {rest : List Oper} {o : Oper} {a : Act} {Q : Exit → Act → World → Prop} (hgd : o.guard = none) (s x : Operand) (t : TypeId)
    (ho : o.op = .call { callee := .builtin .append, args := #[s, x], argTypes := #[t, t] })
    (base : Nat) (e : TypeId) (i : TypeInfo) (z : Value) (by_ : Nat) (ht : P.underlying t = some (.slice e)) (hi : P.info? e = some i) (hz : i.zero = some z)
    (hsize : i.size = E.sz) (hby : i.bytes = by_) (hzs : z.cells.size = E.sz)
    (v : Value) (n : Nat) (os : List α) (hs : a.eval s = v) (hown : w.ownsRow base e E.sz v n (E.all os))
    (A : Option Addr) (m c : Nat) (news : List α) (hx : a.eval x = .slice A m c) (hr : LAt E w A m news)
    (hb : n + m ≤ maxLen) (hbytes : (n + m) * by_ ≤ 140737488355328) (hbase : base ≤ w.heap.size)
    (h : ∀ v' w', w'.ownsRow base e E.sz v' (n + m) (E.all (os ++ news)) → Below base w w' → w.grownBy w' v.ownBlock → (v'.ownBlock = v.ownBlock ∨ v'.ownBlock = some w.heap.size) → wpList P ops Q rest (a.put o.dst v') w') :
    wpList P ops Q (o :: rest) a w := by
  obtain ⟨v', w', hrun, h2, h3, h4, h5⟩ := run_append_L (P := P) w base t o.type e i z by_ ht hi hz hsize hby hzs v n os hown A m c news hr hb hbytes hbase
  refine wpList_plain hgd fun K hK => ?_
  unfold Oper.wp execOp
  simp only [ho, resolve, invoke, builtin, Sem.run_bind, Sem.run_pure, Result.andThen_ok, List.map_toArray, List.map_cons, List.map_nil, hs, hx, hrun]
  exact hK _ _ (h v' w' h2 h3 h4 h5)
end
/-- a literal of one element, behind which it is appended -/
theorem LAt.lit1 {α : Type} {E : Enc α} (w : World) (t : TypeId) (x : α) (hx : E.ok x) : LAt E (w.alloc (.cells (E.cells x).toArray t)) (some ⟨w.heap.size, 0, none⟩) 1 [x] :=
  LAt.of_blk (t := t) (by have := Blk.new w t (E.all [x]); rw [E.all_single] at this ⊢; exact this) (fun y hy => by rw [List.mem_singleton.1 hy]; exact hx) rfl

/-! ### texts, numbers, items -/
def encS : Enc ByteArray := { cells := fun s => [.string s], sz := 1, pos := by decide, len := fun _ => rfl, one := fun x u h => by simp at h; subst h; rfl, ok := fun s => s.size ≤ 9223372036854775807 }
def encI : Enc Int := { cells := fun z => [.int .i64 z], sz := 1, pos := by decide, len := fun _ => rfl, one := fun x u h => by simp at h; subst h; rfl, ok := fun z => -9223372036854775808 ≤ z ∧ z < 9223372036854775808 }
/-- an item: its session, its place in it, whether it writes, its variable's number, its value -/
structure It where
  se : Int
  pl : Int
  wr : Bool
  va : Int
  vl : Int
deriving DecidableEq
structure It.Ok (i : It) : Prop where
  s0 : -9223372036854775808 ≤ i.se
  s1 : i.se < 9223372036854775808
  p0 : -9223372036854775808 ≤ i.pl
  p1 : i.pl < 9223372036854775808
  v0 : -9223372036854775808 ≤ i.va
  v1 : i.va < 9223372036854775808
  x0 : -9223372036854775808 ≤ i.vl
  x1 : i.vl < 9223372036854775808
def encT : Enc It := { cells := fun i => [.int .i64 i.se, .int .i64 i.pl, .bool i.wr, .int .i64 i.va, .int .i64 i.vl], sz := 5, pos := by decide, len := fun _ => rfl, one := fun x u h => by simp only [List.mem_cons, List.not_mem_nil, or_false] at h; rcases h with rfl | rfl | rfl | rfl | rfl <;> rfl, ok := It.Ok }
theorem LAt.str {w : World} {A : Option Addr} {n k : Nat} {xs : List ByteArray} (h : LAt encS w A n xs) (hk : k < n) : ∃ b off s, A = some ⟨b, off, none⟩ ∧ b < w.heap.size ∧ xs[k]? = some s ∧ s.size ≤ 9223372036854775807 ∧ w.cell? ⟨b, off + k, none⟩ = some (.string s) := by
  obtain ⟨b, off, s, e, hb, hs, hok, hc⟩ := h.at_ hk
  exact ⟨b, off, s, e, hb, hs, hok, by have := hc 0 _ rfl; simpa [encS] using this⟩
theorem LAt.int {w : World} {A : Option Addr} {n k : Nat} {xs : List Int} (h : LAt encI w A n xs) (hk : k < n) : ∃ b off z, A = some ⟨b, off, none⟩ ∧ b < w.heap.size ∧ xs[k]? = some z ∧ (-9223372036854775808 ≤ z ∧ z < 9223372036854775808) ∧ w.cell? ⟨b, off + k, none⟩ = some (.int .i64 z) := by
  obtain ⟨b, off, s, e, hb, hs, hok, hc⟩ := h.at_ hk
  exact ⟨b, off, s, e, hb, hs, hok, by have := hc 0 _ rfl; simpa [encI] using this⟩
theorem LAt.item {w : World} {A : Option Addr} {n k : Nat} {xs : List It} (h : LAt encT w A n xs) (hk : k < n) : ∃ b off i, A = some ⟨b, off, none⟩ ∧ b < w.heap.size ∧ xs[k]? = some i ∧ It.Ok i ∧
    w.cell? ⟨b, off + k * 5, none⟩ = some (.int .i64 i.se) ∧ w.cell? ⟨b, off + k * 5 + 1, none⟩ = some (.int .i64 i.pl) ∧ w.cell? ⟨b, off + k * 5 + 2, none⟩ = some (.bool i.wr) ∧ w.cell? ⟨b, off + k * 5 + 3, none⟩ = some (.int .i64 i.va) ∧ w.cell? ⟨b, off + k * 5 + 4, none⟩ = some (.int .i64 i.vl) := by
  obtain ⟨b, off, i, e, hb, hi, hok, hc⟩ := h.at_ hk
  exact ⟨b, off, i, e, hb, hi, hok, hc 0 _ rfl, hc 1 _ rfl, hc 2 _ rfl, hc 3 _ rfl, hc 4 _ rfl⟩
/-- the facts of a history -/
structure Fac where
  vars : List ByteArray
  items : List It
  frm : List Int
deriving DecidableEq
/-- where facts lie: three slices -/
structure FV where
  A : Option Addr
  n : Nat
  c : Nat
  B : Option Addr
  m : Nat
  d : Nat
  C : Option Addr
  k : Nat
  e : Nat
def FV.cells (v : FV) : List Value := [.slice v.A v.n v.c, .slice v.B v.m v.d, .slice v.C v.k v.e]
structure FactsAt (w : World) (v : FV) (f : Fac) : Prop where
  vs : LAt encS w v.A v.n f.vars
  vc : v.n ≤ v.c
  vm : v.c ≤ 9223372036854775807
  is : LAt encT w v.B v.m f.items
  ic : v.m ≤ v.d
  im : v.d ≤ 9223372036854775807
  fs : LAt encI w v.C v.k f.frm
  fc : v.k ≤ v.e
  fm : v.e ≤ 9223372036854775807
theorem FactsAt.below {w w' : World} {v : FV} {f : Fac} (h : FactsAt w v f) (hb : Below w.heap.size w w') : FactsAt w' v f :=
  ⟨h.vs.below hb, h.vc, h.vm, h.is.below hb, h.ic, h.im, h.fs.below hb, h.fc, h.fm⟩
theorem FactsAt.setBlk {w : World} {v : FV} {f : Fac} {g i : Nat} {t : TypeId} {cs : List Value} (h : FactsAt w v f) (k : Blk w g t cs) (hcs : ∀ u ∈ cs, ∃ A n c, u = .slice A n c) (u : Value) : FactsAt (w.setCell ⟨g, i, none⟩ u) v f :=
  ⟨h.vs.setBlk k (fun x y z hy hz e => by
    obtain ⟨A, n, c, rfl⟩ := hcs z hz
    simp only [encS, List.mem_cons, List.not_mem_nil, or_false] at hy
    rw [hy] at e; cases e) u, h.vc, h.vm, h.is.setBlk k (fun x y z hy hz e => by
    obtain ⟨A, n, c, rfl⟩ := hcs z hz
    simp only [encT, List.mem_cons, List.not_mem_nil, or_false] at hy
    rw [e] at hy; rcases hy with h | h | h | h | h <;> cases h) u, h.ic, h.im, h.fs.setBlk k (fun x y z hy hz e => by
    obtain ⟨A, n, c, rfl⟩ := hcs z hz
    simp only [encI, List.mem_cons, List.not_mem_nil, or_false] at hy
    rw [hy] at e; cases e) u, h.fc, h.fm⟩
/-- facts put into a variable of facts, part by part -/
theorem FactsAt.put {w : World} {v : FV} {f : Fac} {g : Nat} {t : TypeId} {a b c : Value} (h : FactsAt w v f) (k : Blk w g t [a, b, c]) (hcs : ∀ u ∈ [a, b, c], ∃ A n c, u = .slice A n c) :
    FactsAt (((w.setCell ⟨g, 0, none⟩ (.slice v.A v.n v.c)).setCell ⟨g, 1, none⟩ (.slice v.B v.m v.d)).setCell ⟨g, 2, none⟩ (.slice v.C v.k v.e)) v f := by
  refine ((h.setBlk k hcs _).setBlk (k.set_ 0 _) (fun u hu => ?_) _).setBlk ((k.set_ 0 _).set_ 1 _) (fun u hu => ?_) _
  · simp only [List.set_cons_zero, List.mem_cons, List.not_mem_nil, or_false] at hu
    rcases hu with rfl | rfl | rfl
    · exact ⟨_, _, _, rfl⟩
    · exact hcs _ (by simp)
    · exact hcs _ (by simp)
  · simp only [List.set_cons_zero, List.set_cons_succ, List.mem_cons, List.not_mem_nil, or_false] at hu
    rcases hu with rfl | rfl | rfl
    · exact ⟨_, _, _, rfl⟩
    · exact ⟨_, _, _, rfl⟩
    · exact hcs _ (by simp)
/-- a call's answer: facts -/
def RetFacts (f : Fac) (w : World) (e : Ending) (w' : World) : Prop := ∃ v : FV, e = .returned (.agg #[.slice v.A v.n v.c, .slice v.B v.m v.d, .slice v.C v.k v.e]) ∧ FactsAt w' v f ∧ Below w.heap.size w w'
end Go.Proofs.Ytjmkpoignnbcpaa

namespace Go.Proofs.Ytjmkpoignnbcpaa
open Go.RowKit
set_option linter.unusedVariables false

/-- an operation: does it write, its variable, its value -/
abbrev OpT := Bool × ByteArray × Int
def cellsO (os : List OpT) : List Value := os.flatMap fun o => [.bool o.1, .string o.2.1, .int .i64 o.2.2]
def OkO (os : List OpT) : Prop := ∀ o ∈ os, (-9223372036854775808 ≤ o.2.2 ∧ o.2.2 < 9223372036854775808) ∧ o.2.1.size ≤ 9223372036854775807
theorem cellsO_len (os : List OpT) : (cellsO os).length = os.length * 3 := by
  induction os with
  | nil => rfl
  | cons o os ih => show (_ :: _ :: _ :: cellsO os).length = _; simp only [List.length_cons, ih]; omega
theorem cellsO_append (a b : List OpT) : cellsO (a ++ b) = cellsO a ++ cellsO b := List.flatMap_append
theorem cellsO_at {os : List OpT} {k : Nat} {o : OpT} (h : os[k]? = some o) : (cellsO os)[k * 3]? = some (.bool o.1) ∧ (cellsO os)[k * 3 + 1]? = some (.string o.2.1) ∧ (cellsO os)[k * 3 + 2]? = some (.int .i64 o.2.2) := by
  induction os generalizing k with
  | nil => simp at h
  | cons p os ih =>
    have e : cellsO (p :: os) = .bool p.1 :: .string p.2.1 :: .int .i64 p.2.2 :: cellsO os := rfl
    cases k with
    | zero => simp at h; subst h; exact ⟨rfl, rfl, rfl⟩
    | succ k =>
      rw [e, show (k + 1) * 3 = k * 3 + 1 + 1 + 1 from by omega]
      exact ih (by simpa using h)
/-- the slice '.slice A n c' of operations reads as os -/
def OpsAt (w : World) (A : Option Addr) (n : Nat) (os : List OpT) : Prop :=
  os.length = n ∧ OkO os ∧ (0 < n → ∃ b off, A = some ⟨b, off, none⟩ ∧ b < w.heap.size ∧ ∀ (j : Nat) (u : Value), (cellsO os)[j]? = some u → w.cell? ⟨b, off + j, none⟩ = some u)
/-- a value that is a slice that reads as the operations os -/
def SessV (w : World) (v : Value) (os : List OpT) : Prop := ∃ A n c, v = .slice A n c ∧ n ≤ c ∧ n ≤ 9223372036854775807 ∧ OpsAt w A n os
/-- the slice '.slice A n c' of sessions reads as hs -/
def HistAt (w : World) (A : Option Addr) (n : Nat) (hs : List (List OpT)) : Prop :=
  ∃ vs, Rd w A n vs ∧ vs.length = hs.length ∧ ∀ (i : Nat) (v : Value) (os : List OpT), vs[i]? = some v → hs[i]? = some os → SessV w v os
section
variable {w w' : World} {A : Option Addr} {n : Nat} {os : List OpT} {hs : List (List OpT)} {v : Value}
theorem OpsAt.len (h : OpsAt w A n os) : os.length = n := h.1
theorem OpsAt.below (h : OpsAt w A n os) (hb : Below w.heap.size w w') : OpsAt w' A n os :=
  ⟨h.1, h.2.1, fun hn => by
    obtain ⟨b, off, e, hbl, hc⟩ := h.2.2 hn
    exact ⟨b, off, e, Nat.lt_of_lt_of_le hbl hb.size, fun j u hu => (hb.cell (p := ⟨b, off + j, none⟩) hbl).trans (hc j u hu)⟩⟩
theorem OpsAt.nil (w : World) (A : Option Addr) : OpsAt w A 0 [] := ⟨rfl, fun o h => (by cases h), fun h => absurd h (by omega)⟩
theorem OpsAt.at_ {k : Nat} (h : OpsAt w A n os) (hk : k < n) : ∃ b off o, A = some ⟨b, off, none⟩ ∧ b < w.heap.size ∧ os[k]? = some o ∧ ((-9223372036854775808 ≤ o.2.2 ∧ o.2.2 < 9223372036854775808) ∧ o.2.1.size ≤ 9223372036854775807) ∧
    w.cell? ⟨b, off + k * 3, none⟩ = some (.bool o.1) ∧ w.cell? ⟨b, off + k * 3 + 1, none⟩ = some (.string o.2.1) ∧ w.cell? ⟨b, off + k * 3 + 2, none⟩ = some (.int .i64 o.2.2) := by
  obtain ⟨b, off, e, hb, hc⟩ := h.2.2 (by omega)
  have hl : k < os.length := by rw [h.1]; exact hk
  have ho := List.getElem?_eq_getElem hl
  obtain ⟨c0, c1, c2⟩ := cellsO_at ho
  exact ⟨b, off, os[k], e, hb, ho, h.2.1 _ (List.getElem_mem hl), hc _ _ c0, hc _ _ c1, hc _ _ c2⟩
theorem OpsAt.of_own {base : Nat} {e : TypeId} (h : w.ownsRow base e 3 v n (cellsO os)) (ho : OkO os) (hl : os.length = n) : ∃ A c, v = .slice A n c ∧ OpsAt w A n os := by
  rcases h.2 with ⟨rfl, rfl⟩ | ⟨g, cap, cur, rfl, hbg, hg, hnc, hcm, hcs, htake⟩
  · have : os = [] := List.eq_nil_of_length_eq_zero hl
    subst this
    exact ⟨none, 0, rfl, OpsAt.nil _ _⟩
  · refine ⟨_, _, rfl, hl, ho, fun _ => ⟨g, 0, rfl, (Array.getElem?_eq_some_iff.1 hg).1, fun j u hu => ?_⟩⟩
    rw [Nat.zero_add, cell_of_row w g j cur e (0, 0) hg]
    have hj : j < n * 3 := by
      have := (List.getElem?_eq_some_iff.1 hu).1
      rw [cellsO_len, hl] at this
      exact this
    rw [← htake, List.getElem?_take_of_lt hj] at hu
    simpa using hu
theorem SessV.below (h : SessV w v os) (hb : Below w.heap.size w w') : SessV w' v os := by
  obtain ⟨A, n, c, e, h1, h2, h3⟩ := h; exact ⟨A, n, c, e, h1, h2, h3.below hb⟩
theorem HistAt.len (h : HistAt w A n hs) : hs.length = n := by
  obtain ⟨vs, h1, h2, _⟩ := h; rw [← h2, h1.1]
theorem HistAt.below (h : HistAt w A n hs) (hb : Below w.heap.size w w') : HistAt w' A n hs := by
  obtain ⟨vs, h1, h2, h3⟩ := h; exact ⟨vs, h1.below hb, h2, fun i v os hv ho => (h3 i v os hv ho).below hb⟩
theorem HistAt.nil (w : World) (A : Option Addr) : HistAt w A 0 [] := ⟨[], Rd.nil _ _, rfl, fun i v os h => by simp at h⟩
theorem HistAt.at_ {k : Nat} (h : HistAt w A n hs) (hk : k < n) : ∃ b off B m c os, A = some ⟨b, off, none⟩ ∧ b < w.heap.size ∧ hs[k]? = some os ∧ w.cell? ⟨b, off + k, none⟩ = some (.slice B m c) ∧ m ≤ c ∧ m ≤ 9223372036854775807 ∧ OpsAt w B m os := by
  obtain ⟨vs, h1, h2, h3⟩ := h
  obtain ⟨b, off, u, hA, hb, hu, hc⟩ := h1.at_ hk
  have hl : k < hs.length := by rw [← h2, h1.1]; exact hk
  obtain ⟨B, m, c, e, h4, h5, h6⟩ := h3 k u hs[k] hu (List.getElem?_eq_getElem hl)
  subst e
  exact ⟨b, off, B, m, c, hs[k], hA, hb, List.getElem?_eq_getElem hl, hc, h4, h5, h6⟩
/-- the first k sessions -/
theorem HistAt.take (h : HistAt w A n hs) {k : Nat} (hk : k ≤ n) : HistAt w A k (hs.take k) := by
  obtain ⟨vs, h1, h2, h3⟩ := h
  refine ⟨vs.take k, ⟨by rw [List.length_take, h1.1]; omega, fun h0 => ?_⟩, by rw [List.length_take, List.length_take, h2], fun i v os hv ho => ?_⟩
  · obtain ⟨b, off, e, hb, hc⟩ := h1.2 (by omega)
    refine ⟨b, off, e, hb, fun j u hu => hc j u ?_⟩
    have hj : j < k := by
      have := (List.getElem?_eq_some_iff.1 hu).1
      rw [List.length_take] at this; omega
    rwa [List.getElem?_take_of_lt hj] at hu
  · have hj : i < k := by
      have := (List.getElem?_eq_some_iff.1 hv).1
      rw [List.length_take] at this; omega
    rw [List.getElem?_take_of_lt hj] at hv ho
    exact h3 i v os hv ho
end

/-! ### how many there are -/
theorem flat_take_succ {hs : List (List OpT)} {k : Nat} {os : List OpT} (h : hs[k]? = some os) : (hs.take (k + 1)).flatten = (hs.take k).flatten ++ os := by
  rw [List.take_succ_eq_append_getElem (List.getElem?_eq_some_iff.1 h).1, (List.getElem?_eq_some_iff.1 h).2, List.flatten_append]; simp
theorem flat_take_le (hs : List (List OpT)) (k : Nat) : (hs.take k).flatten.length ≤ hs.flatten.length := by
  have h : hs.flatten = (hs.take k).flatten ++ (hs.drop k).flatten := by rw [← List.flatten_append, List.take_append_drop]
  rw [h, List.length_append]; omega
theorem okO_append {a b : List OpT} (ha : OkO a) (hb : OkO b) : OkO (a ++ b) := fun o h => (List.mem_append.1 h).elim (ha o) (hb o)
end Go.Proofs.Ytjmkpoignnbcpaa

namespace Go.Proofs.Ytjmkpoignnbcpaa
open Go.RowKit
set_option linter.unusedVariables false

theorem cellsO_one (os : List OpT) : ∀ u ∈ cellsO os, u.oneCell' = true := by
  intro u hu
  unfold cellsO at hu
  obtain ⟨o, _, h⟩ := List.mem_flatMap.1 hu
  simp only [List.mem_cons, List.not_mem_nil, or_false] at h
  rcases h with rfl | rfl | rfl <;> rfl
section
variable {P : Program} {w : World}
/-- 'append(s, xs...)' of operations: s the call's own, xs whatever reads as operations -/
theorem wpList_append_ops {ops : Array Oper} {rest : List Oper} {o : Oper} {a : Act} {Q : Exit → Act → World → Prop} (hgd : o.guard = none) (s x : Operand) (t : TypeId)
    (ho : o.op = .call { callee := .builtin .append, args := #[s, x], argTypes := #[t, t] })
    (base : Nat) (e : TypeId) (i : TypeInfo) (z : Value) (ht : P.underlying t = some (.slice e)) (hi : P.info? e = some i) (hz : i.zero = some z)
    (hsize : i.size = 3) (hby : i.bytes = 32) (hzs : z.cells.size = 3)
    (v : Value) (n : Nat) (os : List OpT) (hs : a.eval s = v) (hown : w.ownsRow base e 3 v n (cellsO os))
    (A : Option Addr) (m c : Nat) (news : List OpT) (hx : a.eval x = .slice A m c) (hr : OpsAt w A m news)
    (hb : n + m ≤ 4398046511104) (hbase : base ≤ w.heap.size)
    (h : ∀ v' w', w'.ownsRow base e 3 v' (n + m) (cellsO (os ++ news)) → Below base w w' → wpList P ops Q rest (a.put o.dst v') w') :
    wpList P ops Q (o :: rest) a w := by
  rcases A with _ | ad
  · have hm : m = 0 := by
      rcases Nat.eq_zero_or_pos m with h0 | h0
      · exact h0
      · obtain ⟨_, _, hh, _⟩ := hr.2.2 h0
        cases hh
    subst hm
    have hn : news = [] := List.eq_nil_of_length_eq_zero hr.1
    subst hn
    refine wpList_plain hgd fun K hK => ?_
    have hrun := run_append_nothing (P := P) (w := w) base t o.type e i 3 ht hi v n (cellsO os) hown c
    unfold Oper.wp
    simp [execOp, ho, resolve, invoke, builtin, hs, hx, hrun, Result.andThen]
    exact hK _ _ (h v w (by simpa using hown) (Below.refl _ _))
  · have hcells : ∀ j u, (cellsO news)[j]? = some u → w.cell? (ad.add j) = some u := by
      intro j u hu
      have hj : 0 < m := by
        rcases Nat.eq_zero_or_pos m with h0 | h0
        · subst h0; rw [List.eq_nil_of_length_eq_zero hr.1] at hu; simp [cellsO] at hu
        · exact h0
      obtain ⟨b, off, hh, _, hc⟩ := hr.2.2 hj
      injection hh with hh
      subst hh
      have he : (⟨b, off, none⟩ : Addr).add j = ⟨b, off + j, none⟩ := by unfold Addr.add; split <;> simp_all
      rw [he]; exact hc j u hu
    refine wpList_append_own_at w hgd s x t ho base e i z 3 32 ht hi hz hsize hby hzs (by omega) v n (cellsO os) hs hown ad m c (cellsO news) hx (by rw [cellsO_len, hr.1]) hcells (cellsO_one news) (by unfold maxLen; omega) (by omega) hbase ?_
    intro v' w' hown' hg _ hat
    rw [← cellsO_append] at hown'
    exact h v' w' hown' ((Below.refl _ _).grown hg hbase (own_lt_block hown))
theorem wpList_wanted {ops : Array Oper} {rest : List Oper} {o : Oper} {a : Act} {Q : Exit → Act → World → Prop} (hw : Region.wanted o (yielded ops a.tmps) = true)
    (h : ∀ K : Act → World → Prop, (∀ a w, wpList P ops Q rest a w → K a w) → o.wp P a w K Q) : wpList P ops Q (o :: rest) a w :=
  wpList_step fun K hK => by rw [if_pos hw]; exact h K hK
/-- the same, behind a guard that holds -/
theorem wpList_append_ops_g {ops : Array Oper} {rest : List Oper} {o : Oper} {a : Act} {Q : Exit → Act → World → Prop} (hw : Region.wanted o (yielded ops a.tmps) = true) (s x : Operand) (t : TypeId)
    (ho : o.op = .call { callee := .builtin .append, args := #[s, x], argTypes := #[t, t] })
    (base : Nat) (e : TypeId) (i : TypeInfo) (z : Value) (ht : P.underlying t = some (.slice e)) (hi : P.info? e = some i) (hz : i.zero = some z)
    (hsize : i.size = 3) (hby : i.bytes = 32) (hzs : z.cells.size = 3)
    (v : Value) (n : Nat) (os : List OpT) (hs : a.eval s = v) (hown : w.ownsRow base e 3 v n (cellsO os))
    (A : Option Addr) (m c : Nat) (news : List OpT) (hx : a.eval x = .slice A m c) (hr : OpsAt w A m news)
    (hb : n + m ≤ 4398046511104) (hbase : base ≤ w.heap.size)
    (h : ∀ v' w', w'.ownsRow base e 3 v' (n + m) (cellsO (os ++ news)) → Below base w w' → wpList P ops Q rest (a.put o.dst v') w') :
    wpList P ops Q (o :: rest) a w := by
  rcases A with _ | ad
  · have hm : m = 0 := by
      rcases Nat.eq_zero_or_pos m with h0 | h0
      · exact h0
      · obtain ⟨_, _, hh, _⟩ := hr.2.2 h0
        cases hh
    subst hm
    have hn : news = [] := List.eq_nil_of_length_eq_zero hr.1
    subst hn
    refine wpList_wanted hw fun K hK => ?_
    have hrun := run_append_nothing (P := P) (w := w) base t o.type e i 3 ht hi v n (cellsO os) hown c
    unfold Oper.wp
    simp [execOp, ho, resolve, invoke, builtin, hs, hx, hrun, Result.andThen]
    exact hK _ _ (h v w (by simpa using hown) (Below.refl _ _))
  · have hcells : ∀ j u, (cellsO news)[j]? = some u → w.cell? (ad.add j) = some u := by
      intro j u hu
      have hj : 0 < m := by
        rcases Nat.eq_zero_or_pos m with h0 | h0
        · subst h0; rw [List.eq_nil_of_length_eq_zero hr.1] at hu; simp [cellsO] at hu
        · exact h0
      obtain ⟨b, off, hh, _, hc⟩ := hr.2.2 hj
      injection hh with hh
      subst hh
      have he : (⟨b, off, none⟩ : Addr).add j = ⟨b, off + j, none⟩ := by unfold Addr.add; split <;> simp_all
      rw [he]; exact hc j u hu
    obtain ⟨v', w', hrun, h2, h3, _, _⟩ := run_append_own_at (P := P) w base t o.type e i z 3 32 ht hi hz hsize hby hzs (by omega) v n (cellsO os) hown ad m c (cellsO news) (by rw [cellsO_len, hr.1]) hcells (cellsO_one news) (by unfold maxLen; omega) (by omega) hbase
    refine wpList_wanted hw fun K hK => ?_
    unfold Oper.wp execOp
    simp only [ho, resolve, invoke, builtin, Sem.run_bind, Sem.run_pure, Result.andThen_ok, List.map_toArray, List.map_cons, List.map_nil, hs, hx, hrun]
    rw [← cellsO_append] at h2
    exact hK _ _ (h v' w' h2 ((Below.refl _ _).grown h3 hbase (own_lt_block hown)))
end
theorem OwnsRow.cap_le {w : World} {base n m c : Nat} {e : TypeId} {size : Nat} {A : Option Addr} {xs : List Value} (h : w.ownsRow base e size (.slice A m c) n xs) : m ≤ c := by
  rcases h.2 with ⟨hv, h0⟩ | ⟨g, cap, cur, hv, _, _, hnc, _⟩
  · injection hv with _ h1 h2; omega
  · injection hv with _ h1 h2; omega
theorem OwnsRow.cap_max {w : World} {base n m c : Nat} {e : TypeId} {size : Nat} {A : Option Addr} {xs : List Value} (h : w.ownsRow base e size (.slice A m c) n xs) : c ≤ maxLen := by
  rcases h.2 with ⟨hv, h0⟩ | ⟨g, cap, cur, hv, _, _, _, hcm, _⟩
  · injection hv with _ h1 h2; rw [h2]; exact Nat.zero_le _
  · injection hv with _ h1 h2; rw [h2]; exact hcm
/-- a call's answer: operations of its own -/
def RetOps (t : TypeId) (os : List OpT) (w : World) (e : Ending) (w' : World) : Prop := ∃ A n c, e = .returned (.slice A n c) ∧ w'.ownsRow w.heap.size t 3 (.slice A n c) n (cellsO os) ∧ n = os.length ∧ OkO os ∧ OpsAt w' A n os ∧ n ≤ c ∧ Below w.heap.size w w'

/-! ### numbers and spots -/
/-- all operations, in order -/
def allO (hs : List (List OpT)) : List OpT := hs.flatten
theorem allO_cons (x : List OpT) (r : List (List OpT)) : allO (x :: r) = x ++ allO r := rfl
theorem allO_append (a b : List (List OpT)) : allO (a ++ b) = allO a ++ allO b := List.flatten_append
theorem allO_take_succ {hs : List (List OpT)} {k : Nat} {os : List OpT} (h : hs[k]? = some os) : allO (hs.take (k + 1)) = allO (hs.take k) ++ os := flat_take_succ h
theorem allO_take_le (hs : List (List OpT)) (k : Nat) : (allO (hs.take k)).length ≤ (allO hs).length := flat_take_le hs k
def spotN : List (List OpT) → Nat → Option (Nat × Nat)
  | [], _ => none
  | s :: r, i => if i < s.length then some (0, i) else (spotN r (i - s.length)).map fun x => (x.1 + 1, x.2)
def spotZ (hs : List (List OpT)) (i : Int) : Option (Nat × Nat) := if i < 0 then none else spotN hs i.toNat
def numZ (hs : List (List OpT)) (a b : Int) : Option Nat :=
  if 0 ≤ a ∧ a < hs.length ∧ 0 ≤ b ∧ b < (hs.getD a.toNat []).length then some ((allO (hs.take a.toNat)).length + b.toNat) else none
theorem spotN_some : ∀ (hs : List (List OpT)) (i s p : Nat), spotN hs i = some (s, p) → s < hs.length ∧ p < (hs.getD s []).length ∧ (allO (hs.take s)).length + p = i ∧ (allO hs)[i]? = (hs.getD s [])[p]?
  | [], i, s, p, h => by simp [spotN] at h
  | x :: r, i, s, p, h => by
    unfold spotN at h
    by_cases hi : i < x.length
    · rw [if_pos hi] at h
      injection h with h
      injection h with h1 h2
      subst h1; subst h2
      refine ⟨by simp, by simpa using hi, by simp [allO], ?_⟩
      rw [allO_cons, List.getElem?_append_left hi]; rfl
    · rw [if_neg hi] at h
      cases hr : spotN r (i - x.length) with
      | none => rw [hr] at h; simp at h
      | some y =>
        obtain ⟨s', p'⟩ := y
        rw [hr] at h
        simp at h
        obtain ⟨rfl, rfl⟩ := h
        obtain ⟨h1, h2, h3, h4⟩ := spotN_some r _ s' p' hr
        refine ⟨by simpa using h1, by simpa using h2, ?_, ?_⟩
        · rw [List.take_succ_cons, allO_cons, List.length_append]; omega
        · rw [allO_cons, List.getElem?_append_right (by omega), h4]; rfl
theorem spotN_none : ∀ (hs : List (List OpT)) (i : Nat), (allO hs).length ≤ i → spotN hs i = none
  | [], i, _ => rfl
  | x :: r, i, h => by
    have h' : x.length + (allO r).length ≤ i := by rw [← List.length_append, ← allO_cons]; exact h
    unfold spotN
    rw [if_neg (by omega), spotN_none r _ (by omega)]; rfl
theorem spotN_is : ∀ (hs : List (List OpT)) (i : Nat), i < (allO hs).length → ∃ s p, spotN hs i = some (s, p)
  | [], i, h => by simp [allO] at h
  | x :: r, i, h => by
    have h' : i < x.length + (allO r).length := by rw [← List.length_append, ← allO_cons]; exact h
    unfold spotN
    by_cases hi : i < x.length
    · rw [if_pos hi]; exact ⟨_, _, rfl⟩
    · rw [if_neg hi]
      obtain ⟨s, p, e⟩ := spotN_is r (i - x.length) (by omega)
      rw [e]; exact ⟨_, _, rfl⟩
/-- the search, from the k-th session on -/
theorem spotN_drop {hs : List (List OpT)} {k i : Nat} {os : List OpT} (h : hs[k]? = some os) :
    spotN (hs.drop k) i = if i < os.length then some (0, i) else (spotN (hs.drop (k + 1)) (i - os.length)).map fun x => (x.1 + 1, x.2) := by
  rw [List.drop_eq_getElem_cons (List.getElem?_eq_some_iff.1 h).1, (List.getElem?_eq_some_iff.1 h).2]
  conv => lhs; unfold spotN
/-- a name of a variable -/
def nameL (l : List UInt8) : Bool := l.all (fun c => decide (97 ≤ c.toNat) && decide (c.toNat ≤ 122)) && decide (1 ≤ l.length) && decide (l.length ≤ 8)
def rightL (hs : List (List OpT)) : Bool := (allO hs).all (fun o => nameL o.2.1.data.toList) && decide ((allO hs).length ≤ 4096)
def smallL (hs : List (List OpT)) (most : Int) : Bool := decide ((hs.length : Int) ≤ most) && decide (((allO hs).length : Int) ≤ most) && (allO hs).all (fun o => decide (o.2.1.size ≤ 20))
theorem smallL_says {hs : List (List OpT)} {most : Int} (h : smallL hs most = true) : (hs.length : Int) ≤ most ∧ ((allO hs).length : Int) ≤ most ∧ ∀ o ∈ allO hs, o.2.1.size ≤ 20 := by
  unfold smallL at h
  simp only [Bool.and_eq_true, decide_eq_true_eq, List.all_eq_true] at h
  exact ⟨h.1.1, h.1.2, h.2⟩

/-! ### histories of literals -/
theorem OpsAt.of_blk {w : World} {g : Nat} {t : TypeId} {os : List OpT} {n : Nat} (h : Blk w g t (cellsO os)) (ho : OkO os) (hn : os.length = n) : OpsAt w (some ⟨g, 0, none⟩) n os :=
  ⟨hn, ho, fun _ => ⟨g, 0, rfl, h.lt, fun j u hu => by rw [Nat.zero_add, h.cell]; exact hu⟩⟩
theorem HistAt.of_blk {w : World} {g : Nat} {t : TypeId} {vs : List Value} {hs : List (List OpT)} {n : Nat} (h : Blk w g t vs) (hn : vs.length = n) (hl : vs.length = hs.length) (hv : ∀ (i : Nat) (v : Value) (os : List OpT), vs[i]? = some v → hs[i]? = some os → SessV w v os) :
    HistAt w (some ⟨g, 0, none⟩) n hs :=
  ⟨vs, ⟨hn, fun _ => ⟨g, 0, rfl, h.lt, fun j u hu => by rw [Nat.zero_add, h.cell]; exact hu⟩⟩, hl, hv⟩
theorem HistAt.one {w : World} {g : Nat} {t : TypeId} {A : Option Addr} {n c : Nat} {os : List OpT} (h : Blk w g t [.slice A n c]) (hO : OpsAt w A n os) (hc : n ≤ c) (hn : n ≤ 9223372036854775807) : HistAt w (some ⟨g, 0, none⟩) 1 [os] :=
  HistAt.of_blk h rfl rfl (fun i v o hv ho => by
    match i with
    | 0 =>
      simp at hv ho
      subst hv; subst ho
      exact ⟨A, n, c, rfl, hc, hn, hO⟩
    | i + 1 => simp at hv)
theorem HistAt.two {w : World} {g : Nat} {t : TypeId} {A B : Option Addr} {n c m d : Nat} {os ps : List OpT} (h : Blk w g t [.slice A n c, .slice B m d]) (hO : OpsAt w A n os) (hP : OpsAt w B m ps) (hc : n ≤ c) (hn : n ≤ 9223372036854775807) (hd : m ≤ d) (hm : m ≤ 9223372036854775807) : HistAt w (some ⟨g, 0, none⟩) 2 [os, ps] :=
  HistAt.of_blk h rfl rfl (fun i v o hv ho => by
    match i with
    | 0 =>
      simp at hv ho
      subst hv; subst ho
      exact ⟨A, n, c, rfl, hc, hn, hO⟩
    | 1 =>
      simp at hv ho
      subst hv; subst ho
      exact ⟨B, m, d, rfl, hd, hm, hP⟩
    | i + 2 => simp at hv)
/-- a call's answer: operations, whoever's -/
def RetOpsW (os : List OpT) (w : World) (e : Ending) (w' : World) : Prop := ∃ A n c, e = .returned (.slice A n c) ∧ n = os.length ∧ OpsAt w' A n os ∧ n ≤ c ∧ Below w.heap.size w w'
def RetInt (z : Int) (w : World) (e : Ending) (w' : World) : Prop := e = .returned (.int .i64 z) ∧ Below w.heap.size w w'
def RetBool (b : Bool) (w : World) (e : Ending) (w' : World) : Prop := e = .returned (.bool b) ∧ Below w.heap.size w w'

end Go.Proofs.Ytjmkpoignnbcpaa

namespace Go.Proofs.Ytjmkpoignnbcpaa
set_option linter.unusedVariables false

/-- where a text first stands; -1: nowhere -/
def findZ : List ByteArray → ByteArray → Int
  | [], _ => -1
  | x :: r, s => if x = s then 0 else if findZ r s < 0 then -1 else findZ r s + 1
theorem findZ_range : ∀ (l : List ByteArray) (s : ByteArray), -1 ≤ findZ l s ∧ findZ l s < l.length
  | [], s => by simp [findZ]
  | x :: r, s => by
    have := findZ_range r s
    unfold findZ
    simp only [List.length_cons]
    split
    · omega
    · split <;> omega
theorem findZ_none {l : List ByteArray} {s : ByteArray} (h : ∀ i, i < l.length → l[i]? ≠ some s) : findZ l s = -1 := by
  induction l with
  | nil => rfl
  | cons x r ih =>
    have h0 := h 0 (by simp)
    have hr := ih (fun i hi e => h (i + 1) (by simp; omega) (by simpa using e))
    unfold findZ
    rw [if_neg (fun e => h0 (by rw [e]; rfl)), hr, if_pos (by omega)]
theorem findZ_at {l : List ByteArray} {s : ByteArray} {k : Nat} (hk : l[k]? = some s) (h : ∀ i, i < k → l[i]? ≠ some s) : findZ l s = k := by
  induction l generalizing k with
  | nil => simp at hk
  | cons x r ih =>
    unfold findZ
    cases k with
    | zero => simp at hk; rw [if_pos hk]; rfl
    | succ k =>
      have h0 := h 0 (by omega)
      have hr := ih (k := k) (by simpa using hk) (fun i hi e => h (i + 1) (by omega) (by simpa using e))
      rw [if_neg (fun e => h0 (by rw [e]; rfl)), hr, if_neg (by omega)]; omega
theorem findZ_append {l : List ByteArray} {s : ByteArray} (h : 0 ≤ findZ l s) (r : List ByteArray) : findZ (l ++ r) s = findZ l s := by
  induction l with
  | nil => simp [findZ] at h
  | cons x l ih =>
    unfold findZ at h
    rw [List.cons_append]
    unfold findZ
    by_cases hx : x = s
    · rw [if_pos hx, if_pos hx]
    · rw [if_neg hx] at h
      rw [if_neg hx, if_neg hx]
      have h0 : ¬ findZ l s < 0 := by
        intro hlt; rw [if_pos hlt] at h; omega
      rw [ih (by omega)]
theorem findZ_snoc {l : List ByteArray} {s : ByteArray} (h : findZ l s < 0) : findZ (l ++ [s]) s = l.length := by
  induction l with
  | nil => simp [findZ]
  | cons x l ih =>
    unfold findZ at h
    rw [List.cons_append]
    unfold findZ
    by_cases hx : x = s
    · rw [if_pos hx] at h; omega
    · rw [if_neg hx] at h ⊢
      have h0 : findZ l s < 0 := by
        rcases Int.lt_or_le (findZ l s) 0 with h' | h'
        · exact h'
        · rw [if_neg (by omega)] at h; omega
      rw [ih h0, if_neg (by omega), List.length_cons]; omega
theorem findZ_get {l : List ByteArray} {s : ByteArray} (h : 0 ≤ findZ l s) : l[(findZ l s).toNat]? = some s := by
  induction l with
  | nil => simp [findZ] at h
  | cons x l ih =>
    unfold findZ at h ⊢
    by_cases hx : x = s
    · rw [if_pos hx, hx]; rfl
    · rw [if_neg hx] at h ⊢
      have h0 : ¬ findZ l s < 0 := by
        intro hlt; rw [if_pos hlt] at h; omega
      rw [if_neg h0, show (findZ l s + 1).toNat = (findZ l s).toNat + 1 from by omega, List.getElem?_cons_succ]
      exact ih (by omega)
theorem findZ_mem {l : List ByteArray} {s : ByteArray} : 0 ≤ findZ l s ↔ s ∈ l := by
  constructor
  · intro h; exact List.mem_of_getElem? (findZ_get h)
  · intro h
    induction l with
    | nil => cases h
    | cons x l ih =>
      unfold findZ
      by_cases hx : x = s
      · rw [if_pos hx]; omega
      · rw [if_neg hx]
        have := ih ((List.mem_cons.1 h).resolve_left (fun e => hx e.symm))
        rw [if_neg (by omega)]; omega
/-- names, and one more, if it is new -/
def addV (vs : List ByteArray) (s : ByteArray) : List ByteArray := if findZ vs s < 0 then vs ++ [s] else vs
theorem addV_new {vs : List ByteArray} {s : ByteArray} (h : findZ vs s < 0) : addV vs s = vs ++ [s] := if_pos h
theorem addV_old {vs : List ByteArray} {s : ByteArray} (h : ¬ findZ vs s < 0) : addV vs s = vs := if_neg h
theorem addV_find (vs : List ByteArray) (s : ByteArray) : findZ (addV vs s) s = if findZ vs s < 0 then (vs.length : Int) else findZ vs s := by
  by_cases h : findZ vs s < 0
  · rw [addV_new h, if_pos h, findZ_snoc h]
  · rw [addV_old h, if_neg h]
theorem addV_mem (vs : List ByteArray) (s : ByteArray) : s ∈ addV vs s := by
  by_cases h : findZ vs s < 0
  · rw [addV_new h]; simp
  · rw [addV_old h]; exact findZ_mem.1 (by omega)
theorem addV_sub {vs : List ByteArray} {x : ByteArray} (s : ByteArray) (h : x ∈ vs) : x ∈ addV vs s := by
  by_cases hf : findZ vs s < 0
  · rw [addV_new hf]; simp [h]
  · rw [addV_old hf]; exact h
theorem addV_keep {vs : List ByteArray} {x : ByteArray} (s : ByteArray) (h : x ∈ vs) : findZ (addV vs s) x = findZ vs x := by
  by_cases hf : findZ vs s < 0
  · rw [addV_new hf]; exact findZ_append (findZ_mem.2 h) _
  · rw [addV_old hf]
theorem addV_nodup {vs : List ByteArray} (s : ByteArray) (h : vs.Nodup) : (addV vs s).Nodup := by
  by_cases hf : findZ vs s < 0
  · rw [addV_new hf]
    refine List.nodup_append.2 ⟨h, by simp, fun a ha b hb e => ?_⟩
    rw [List.mem_singleton.1 hb] at e
    subst e
    have := findZ_mem.2 ha
    omega
  · rw [addV_old hf]; exact h
theorem addV_len (vs : List ByteArray) (s : ByteArray) : vs.length ≤ (addV vs s).length ∧ (addV vs s).length ≤ vs.length + 1 := by
  by_cases hf : findZ vs s < 0
  · rw [addV_new hf]; simp
  · rw [addV_old hf]; omega

theorem snoc_ind {α : Type} {p : List α → Prop} (h0 : p []) (h1 : ∀ l x, p l → p (l ++ [x])) : ∀ l, p l := by
  intro l
  rw [← List.reverse_reverse l]
  induction l.reverse with
  | nil => exact h0
  | cons x r ih => rw [List.reverse_cons]; exact h1 _ _ ih
/-- what is built: names, items -/
abbrev StF := List ByteArray × List It
/-- one more operation: of the session se, at a place -/
def oneF (se : Nat) (st : StF) (x : OpT × Nat) : StF := (addV st.1 x.1.2.1, st.2 ++ [⟨se, x.2, x.1.1, findZ (addV st.1 x.1.2.1) x.1.2.1, x.1.2.2⟩])
def sesF (se : Nat) (os : List OpT) (st : StF) : StF := os.zipIdx.foldl (oneF se) st
def hisF (hs : List (List OpT)) : StF := hs.zipIdx.foldl (fun st x => sesF x.2 x.1 st) ([], [])
def facO (hs : List (List OpT)) : Fac := ⟨(hisF hs).1, (hisF hs).2, []⟩
theorem sesF_nil (se : Nat) (st : StF) : sesF se [] st = st := rfl
theorem sesF_snoc (se : Nat) (os : List OpT) (o : OpT) (st : StF) : sesF se (os ++ [o]) st = oneF se (sesF se os st) (o, os.length) := by
  unfold sesF; rw [List.zipIdx_append, List.foldl_append]; simp
theorem hisF_nil : hisF [] = ([], []) := rfl
theorem hisF_snoc (hs : List (List OpT)) (os : List OpT) : hisF (hs ++ [os]) = sesF hs.length os (hisF hs) := by
  unfold hisF; rw [List.zipIdx_append, List.foldl_append]; simp
theorem sesF_len (se : Nat) (os : List OpT) (st : StF) : (sesF se os st).2.length = st.2.length + os.length ∧ (sesF se os st).1.length ≤ st.1.length + os.length := by
  induction os using snoc_ind with
  | h0 => exact ⟨rfl, Nat.le_refl _⟩
  | h1 os o ih =>
    rw [sesF_snoc]
    have := (addV_len (sesF se os st).1 o.2.1).2
    simp only [oneF, List.length_append, List.length_cons, List.length_nil]
    omega
theorem hisF_len (hs : List (List OpT)) : (hisF hs).2.length = (allO hs).length := by
  induction hs using snoc_ind with
  | h0 => rfl
  | h1 hs os ih =>
    rw [hisF_snoc, (sesF_len hs.length os (hisF hs)).1, ih, allO_append, List.length_append]
    simp [allO]
end Go.Proofs.Ytjmkpoignnbcpaa

namespace Go.Proofs.Ytjmkpoignnbcpaa
open Go.RowKit
set_option linter.unusedVariables false

theorem info_op : (Try.prog.info? 56).map (fun i => (i.zero, i.size, i.bytes)) = some (some (.agg #[.bool false, .string .empty, .int .i64 0]), 3, 32) := by kernel_rfl
set_option maxRecDepth 100000 in
set_option maxHeartbeats 2000000 in
theorem ref6_Flat (A : Option Addr) (n c : Nat) (hs : List (List OpT)) (w : World) (hH : HistAt w A n hs) (hn : n ≤ 9223372036854775807) (hF : (allO hs).length ≤ 4398046511104) :
    Calls Try.prog 23 #[.slice A n c] w (RetOps 56 (allO hs) w) := by
  obtain ⟨i0, hi, hz0, hz1, hz2⟩ := info_parts info_op
  replace hH := Lib.hid hH
  go_enter Try.func23, Try.ntmps23
  go_wp2_with fail
  go_loopw [3, 4] (fun v i wr => ∃ k : Nat, k ≤ n ∧ i = .int .i64 k ∧ Hid (wr.ownsRow w.heap.size 56 3 v (allO (hs.take k)).length (cellsO (allO (hs.take k))) ∧ OkO (allO (hs.take k)) ∧ Below w.heap.size w wr)) (fun _ i _ => n - (intOf i).toNat)
  case atStart => exact ⟨0, Nat.zero_le _, rfl, Lib.hid ⟨World.ownsRow_nil _ _ _ _, fun o h => by simp [allO] at h, Below.refl _ _⟩⟩
  case round =>
    obtain ⟨k, hk, rfl, hI⟩ := hrel
    by_cases hlt : k < n
    · obtain ⟨b, off, B, m, cc, os, rfl, hb, hos, hcell, hmc, hm63, hO⟩ := (hH.out.below hI.out.2.2).at_ hlt
      have hlen := allO_take_succ hos
      have hle := allO_take_le hs (k + 1)
      rw [hlen, List.length_append, hO.len] at hle
      have hlt' : (k : Int) < (n : Int) := by omega
      replace hO := Lib.hid hO
      replace hlen := Lib.hid hlen
      replace hos := Lib.hid hos
      replace hmc := Lib.hid hmc
      clear hlt
      go_wp2_with (at_builtin; refine wpList_append_ops rfl (.tmp 11) (.tmp 15) _ rfl w.heap.size 56 i0 _ Try.underlying46 hi hz0 hz1 hz2 rfl _ _ _ (by rfl) hI.out.1 _ _ _ _ rfl hO.out (by omega) hI.out.2.2.size ?_; intro v' w' hown' hb')
      refine ⟨⟨k + 1, by omega, by go_num, Lib.hid ⟨by rw [hlen.out, List.length_append, hO.out.len]; exact hown', by rw [hlen.out]; exact okO_append hI.out.2.1 hO.out.2.1, hI.out.2.2.trans hb'⟩⟩, by simp [intOf]; omega⟩
    · have hkn : k = n := by omega
      have hall : hs.take k = hs := by rw [hkn, ← hH.out.len]; exact List.take_length
      rw [hall] at hI
      have hkn' : ¬ (k : Int) < (n : Int) := by omega
      clear hlt hkn hall
      obtain ⟨A', cap, hv, hO⟩ := OpsAt.of_own hI.out.1 hI.out.2.1 rfl
      subst hv
      go_wp2_with fail
      go_ret
      exact ⟨A', _, cap, rfl, hI.out.1, rfl, hI.out.2.1, hO, OwnsRow.cap_le hI.out.1, hI.out.2.2⟩

theorem ref6_Count (A : Option Addr) (n c : Nat) (hs : List (List OpT)) (w : World) (hH : HistAt w A n hs) (hn : n ≤ 9223372036854775807) (hF : (allO hs).length ≤ 4398046511104) :
    Calls Try.prog 22 #[.slice A n c] w fun e w' => e = .returned (.int .i64 ((allO hs).length : Nat)) ∧ Below w.heap.size w w' := by
  have cF := Lib.hid (ref6_Flat A n c hs w hH hn hF)
  clear hH
  go_enter Try.func22, Try.ntmps22
  go_wp2_with fail
  refine cF.out.mono ?_; rintro e w1 ⟨A1, n1, c1, rfl, -, h1, -, -, -, b⟩
  go_wp2_with fail
  go_ret
  exact ⟨by rw [← h1]; rfl, b⟩
theorem name_size (s : ByteArray) : s.data.toList.length = s.size := by cases s; rfl
theorem name_byte (s : ByteArray) (k : Nat) (h : k < s.size) : s.data.toList[k]? = some (s[k]'h) := by
  obtain ⟨⟨l⟩⟩ := s
  exact List.getElem?_eq_getElem h
theorem nameL_no {l : List UInt8} {k : Nat} {c : UInt8} (h : l[k]? = some c) (hc : ¬ (97 ≤ c.toNat ∧ c.toNat ≤ 122)) : nameL l = false := by
  unfold nameL
  have : l.all (fun c => decide (97 ≤ c.toNat) && decide (c.toNat ≤ 122)) = false := by
    rw [List.all_eq_false]
    exact ⟨c, List.mem_of_getElem? h, by simpa using fun h1 => by omega⟩
  rw [this]; rfl
theorem nameL_len {l : List UInt8} (h : ∀ j, j < l.length → ∃ c, l[j]? = some c ∧ 97 ≤ c.toNat ∧ c.toNat ≤ 122) : nameL l = (decide (1 ≤ l.length) && decide (l.length ≤ 8)) := by
  unfold nameL
  have : l.all (fun c => decide (97 ≤ c.toNat) && decide (c.toNat ≤ 122)) = true := by
    rw [List.all_eq_true]
    intro c hc
    obtain ⟨j, hj⟩ := List.getElem?_of_mem hc
    obtain ⟨d, hd, h1, h2⟩ := h j (List.getElem?_eq_some_iff.1 hj).1
    rw [hj] at hd; injection hd with hd; subst hd
    simp [h1, h2]
  rw [this, Bool.true_and]
set_option maxRecDepth 100000 in
set_option maxHeartbeats 2000000 in
theorem ref6_Name (s : ByteArray) (w : World) (hs : s.size ≤ 9223372036854775807) :
    Calls Try.prog 24 #[.string s] w fun e w' => e = .returned (.bool (nameL s.data.toList)) ∧ w' = w := by
  go_enter Try.func24, Try.ntmps24
  go_wp2_with fail
  go_loop [3] (fun t => ∃ q : Nat, t = .int .i64 q ∧ q ≤ s.size ∧ Hid (∀ j, j < q → ∃ c, s.data.toList[j]? = some c ∧ 97 ≤ c.toNat ∧ c.toNat ≤ 122)) (fun t => s.size - (intOf t).toNat)
  case atStart => exact ⟨0, rfl, by omega, Lib.hid (fun j hj => absurd hj (by omega))⟩
  case round =>
    obtain ⟨q, rfl, hq, hall⟩ := hrel
    by_cases hlt : (q : Int) < (s.size : Int)
    · have h : 0 ≤ (q : Int) ∧ (q : Int) < (s.size : Int) := ⟨by omega, hlt⟩
      have hlt' : q < s.size := by omega
      obtain ⟨c, hc⟩ : ∃ c : UInt8, s[q]'hlt' = c := ⟨_, rfl⟩
      have hcl : Hid (s.data.toList[q]? = some c) := Lib.hid (by rw [name_byte s q hlt', hc])
      by_cases h97 : 97 ≤ c.toNat
      · by_cases h122 : c.toNat ≤ 122
        · have e1 : ¬ (c.toNat : Int) < 97 := by omega
          have e2 : ¬ (122 : Int) < (c.toNat : Int) := by omega
          have hall' : Hid (∀ j, j < q + 1 → ∃ c, s.data.toList[j]? = some c ∧ 97 ≤ c.toNat ∧ c.toNat ≤ 122) := Lib.hid (fun j hj => by
            rcases Nat.lt_succ_iff_lt_or_eq.1 hj with h1 | h1
            · exact hall.out j h1
            · subst h1
              exact ⟨c, hcl.out, h97, h122⟩)
          clear hall h97 h122
          go_wp2_with fail
          go_round
          case rel => exact ⟨q + 1, by go_num, by omega, hall'⟩
          case measure => simp [intOf]; omega
        · have e1 : ¬ (c.toNat : Int) < 97 := by omega
          have e2 : (122 : Int) < (c.toNat : Int) := by omega
          have hres := Lib.hid (nameL_no hcl.out (by omega))
          clear hall h97 h122
          go_wp2_with fail
          go_ret
          exact ⟨by rw [hres.out]; rfl, rfl⟩
      · have e1 : (c.toNat : Int) < 97 := by omega
        have hres := Lib.hid (nameL_no hcl.out (by omega))
        clear hall h97
        go_wp2_with fail
        go_ret
        exact ⟨by rw [hres.out]; rfl, rfl⟩
    · have hqs : q = s.data.toList.length := by rw [name_size]; omega
      have hres := Lib.hid (nameL_len (l := s.data.toList) (by rw [← hqs]; exact hall.out))
      rw [name_size] at hres
      clear hall hqs
      by_cases h1 : 1 ≤ s.size
      · have h1' : (1 : Int) ≤ (s.size : Int) := by omega
        by_cases h8 : s.size ≤ 8
        · have h8' : (s.size : Int) ≤ 8 := by omega
          rw [decide_eq_true h1, decide_eq_true h8] at hres
          clear h1 h8
          go_wp2_with fail
          go_ret
          exact ⟨by rw [hres.out]; rfl, rfl⟩
        · have h8' : ¬ (s.size : Int) ≤ 8 := by omega
          rw [decide_eq_true h1, decide_eq_false h8] at hres
          clear h1 h8
          go_wp2_with fail
          go_ret
          exact ⟨by rw [hres.out]; rfl, rfl⟩
      · have h1' : ¬ (1 : Int) ≤ (s.size : Int) := by omega
        rw [decide_eq_false h1] at hres
        clear h1
        go_wp2_with fail
        go_ret
        exact ⟨by rw [hres.out]; rfl, rfl⟩

theorem rightL_no {hs : List (List OpT)} {k : Nat} {o : OpT} (h : (allO hs)[k]? = some o) (hc : nameL o.2.1.data.toList = false) : rightL hs = false := by
  unfold rightL
  have : (allO hs).all (fun o => nameL o.2.1.data.toList) = false := by
    rw [List.all_eq_false]
    exact ⟨o, List.mem_of_getElem? h, by rw [hc]; simp⟩
  rw [this]; rfl
theorem rightL_len {hs : List (List OpT)} (h : ∀ j, j < (allO hs).length → ∃ o, (allO hs)[j]? = some o ∧ nameL o.2.1.data.toList = true) : rightL hs = decide ((allO hs).length ≤ 4096) := by
  unfold rightL
  have : (allO hs).all (fun o => nameL o.2.1.data.toList) = true := by
    rw [List.all_eq_true]
    intro o ho
    obtain ⟨j, hj⟩ := List.getElem?_of_mem ho
    obtain ⟨d, hd, h1⟩ := h j (List.getElem?_eq_some_iff.1 hj).1
    rw [hj] at hd; injection hd with hd; subst hd
    exact h1
  rw [this, Bool.true_and]
set_option maxRecDepth 100000 in
set_option maxHeartbeats 2000000 in
theorem ref6_Right (A : Option Addr) (n c : Nat) (hs : List (List OpT)) (w : World) (hH : HistAt w A n hs) (hn : n ≤ 9223372036854775807) (hF : (allO hs).length ≤ 4398046511104) :
    Calls Try.prog 7 #[.slice A n c] w fun e w' => e = .returned (.bool (rightL hs)) ∧ Below w.heap.size w w' := by
  have cF := Lib.hid (ref6_Flat A n c hs w hH hn hF)
  clear hH
  go_enter Try.func7, Try.ntmps7
  go_wp2_with fail
  refine cF.out.mono ?_; rintro e w1 ⟨A1, n1, c1, rfl, -, h1, -, hO, hmc, b⟩
  replace hO := Lib.hid hO
  replace h1 := Lib.hid h1
  replace hmc := Lib.hid hmc
  replace b := Lib.hid b
  have hF' : n1 ≤ 4398046511104 := by rw [h1.out]; exact hF
  clear hF
  go_wp2_with fail
  go_loop [4] (fun t => ∃ q : Nat, t = .int .i64 q ∧ q ≤ n1 ∧ Hid (∀ j, j < q → ∃ o, (allO hs)[j]? = some o ∧ nameL o.2.1.data.toList = true)) (fun t => n1 - (intOf t).toNat)
  case atStart => exact ⟨0, rfl, by omega, Lib.hid (fun j hj => absurd hj (by omega))⟩
  case round =>
    obtain ⟨q, rfl, hq, hall⟩ := hrel
    by_cases hlt : q < n1
    · obtain ⟨bb, off, o, rfl, hb, ho, hok, c0, c1', c2⟩ := hO.out.at_ hlt
      have hlt' : (q : Int) < (n1 : Int) := by omega
      have cN := Lib.hid (ref6_Name o.2.1 w1 hok.2)
      cases hnm : nameL o.2.1.data.toList with
      | true =>
        rw [hnm] at cN
        have hall' : Hid (∀ j, j < q + 1 → ∃ o, (allO hs)[j]? = some o ∧ nameL o.2.1.data.toList = true) := Lib.hid (fun j hj => by
          rcases Nat.lt_succ_iff_lt_or_eq.1 hj with h1 | h1
          · exact hall.out j h1
          · subst h1; exact ⟨o, ho, hnm⟩)
        replace ho := Lib.hid ho
        clear hall hlt hnm hok
        go_wp2_with fail
        refine cN.out.mono ?_; rintro e w' ⟨rfl, rfl⟩
        go_wp2_with fail
        go_round
        case rel => exact ⟨q + 1, by go_num, by omega, hall'⟩
        case measure => simp [intOf]; omega
      | false =>
        rw [hnm] at cN
        have hres := Lib.hid (rightL_no ho hnm)
        replace ho := Lib.hid ho
        clear hall hlt hnm hok
        go_wp2_with fail
        refine cN.out.mono ?_; rintro e w' ⟨rfl, rfl⟩
        go_wp2_with fail
        go_ret
        exact ⟨by rw [hres.out]; rfl, b.out⟩
    · have hqn : q = n1 := by omega
      have hres := Lib.hid (rightL_len (hs := hs) (by rw [← h1.out, ← hqn]; exact hall.out))
      rw [← h1.out] at hres
      have hlt' : ¬ (q : Int) < (n1 : Int) := by omega
      clear hall hqn hlt
      by_cases h8 : n1 ≤ 4096
      · have h8' : (n1 : Int) ≤ 4096 := by omega
        rw [decide_eq_true h8] at hres
        clear h8
        go_wp2_with fail
        go_ret
        exact ⟨by rw [hres.out]; rfl, b.out⟩
      · have h8' : ¬ (n1 : Int) ≤ 4096 := by omega
        rw [decide_eq_false h8] at hres
        clear h8
        go_wp2_with fail
        go_ret
        exact ⟨by rw [hres.out]; rfl, b.out⟩
theorem smallL_no1 {hs : List (List OpT)} {most : Int} (h : most < (hs.length : Int)) : smallL hs most = false := by
  unfold smallL; rw [decide_eq_false (by omega : ¬ (hs.length : Int) ≤ most)]; rfl
theorem smallL_no2 {hs : List (List OpT)} {most : Int} (h : most < ((allO hs).length : Int)) : smallL hs most = false := by
  unfold smallL; rw [decide_eq_false (by omega : ¬ ((allO hs).length : Int) ≤ most), Bool.and_false]; rfl
theorem smallL_no3 {hs : List (List OpT)} {most : Int} {k : Nat} {o : OpT} (h : (allO hs)[k]? = some o) (hc : ¬ o.2.1.size ≤ 20) : smallL hs most = false := by
  unfold smallL
  have : (allO hs).all (fun o => decide (o.2.1.size ≤ 20)) = false := by
    rw [List.all_eq_false]
    exact ⟨o, List.mem_of_getElem? h, by rw [decide_eq_false hc]; simp⟩
  rw [this, Bool.and_false]
theorem smallL_yes {hs : List (List OpT)} {most : Int} (h1 : (hs.length : Int) ≤ most) (h2 : ((allO hs).length : Int) ≤ most) (h : ∀ j, j < (allO hs).length → ∃ o, (allO hs)[j]? = some o ∧ o.2.1.size ≤ 20) : smallL hs most = true := by
  unfold smallL
  have : (allO hs).all (fun o => decide (o.2.1.size ≤ 20)) = true := by
    rw [List.all_eq_true]
    intro o ho
    obtain ⟨j, hj⟩ := List.getElem?_of_mem ho
    obtain ⟨d, hd, h1⟩ := h j (List.getElem?_eq_some_iff.1 hj).1
    rw [hj] at hd; injection hd with hd; subst hd
    exact decide_eq_true h1
  rw [this, decide_eq_true h1, decide_eq_true h2]; rfl
set_option maxRecDepth 100000 in
set_option maxHeartbeats 2000000 in
theorem ref6_Small (A : Option Addr) (n c : Nat) (most : Int) (hs : List (List OpT)) (w : World) (hH : HistAt w A n hs) (hn : n ≤ 9223372036854775807) (hF : (allO hs).length ≤ 4398046511104) :
    Calls Try.prog 6 #[.slice A n c, .int .i64 most] w fun e w' => e = .returned (.bool (smallL hs most)) ∧ Below w.heap.size w w' := by
  have hlen := hH.len
  by_cases h1 : (n : Int) ≤ most
  · have cC := Lib.hid (ref6_Count A n c hs w hH hn hF)
    obtain ⟨N, hN⟩ : ∃ N, N = (allO hs).length := ⟨_, rfl⟩
    rw [← hN] at cC
    by_cases h2 : (N : Int) ≤ most
    · have hyes := Lib.hid (fun h => smallL_yes (hs := hs) (most := most) (by rw [hlen]; exact h1) (by rw [← hN]; exact h2) h)
      replace hlen := Lib.hid hlen
      replace hH := Lib.hid hH
      replace hN := Lib.hid hN
      go_enter Try.func6, Try.ntmps6
      go_wp2_with fail
      refine cC.out.mono ?_; rintro e w1 ⟨rfl, b1⟩
      have cF := Lib.hid (ref6_Flat A n c hs w1 (hH.out.below b1) hn hF)
      replace b1 := Lib.hid b1
      replace hF := Lib.hid hF
      go_wp2_with fail
      refine cF.out.mono ?_; rintro e w2 ⟨A1, n1, c1, rfl, -, h1', -, hO, hmc, b⟩
      replace b := Lib.hid (below_trans2 b1.out b)
      replace hO := Lib.hid hO
      replace hmc := Lib.hid hmc
      have hF' : n1 ≤ 4398046511104 := by rw [h1']; exact hF.out
      rw [← h1'] at hyes
      replace h1' := Lib.hid h1'
      go_wp2_with fail
      go_loop [6] (fun t => ∃ q : Nat, t = .int .i64 q ∧ q ≤ n1 ∧ Hid (∀ j, j < q → ∃ o, (allO hs)[j]? = some o ∧ o.2.1.size ≤ 20)) (fun t => n1 - (intOf t).toNat)
      case atStart => exact ⟨0, rfl, by omega, Lib.hid (fun j hj => absurd hj (by omega))⟩
      case round =>
        obtain ⟨q, rfl, hq, hall⟩ := hrel
        by_cases hlt : q < n1
        · obtain ⟨bb, off, o, rfl, hb, ho, hok, c0, c1', c2⟩ := hO.out.at_ hlt
          have hlt' : (q : Int) < (n1 : Int) := by omega
          by_cases h20 : o.2.1.size ≤ 20
          · have hall' : Hid (∀ j, j < q + 1 → ∃ o, (allO hs)[j]? = some o ∧ o.2.1.size ≤ 20) := Lib.hid (fun j hj => by
              rcases Nat.lt_succ_iff_lt_or_eq.1 hj with h1 | h1
              · exact hall.out j h1
              · subst h1; exact ⟨o, ho, h20⟩)
            have h20' : (o.2.1.size : Int) ≤ 20 := by omega
            replace ho := Lib.hid ho
            replace hyes := Lib.hid hyes
            clear hall hlt hok h20
            go_wp2_with fail
            go_round
            case rel => exact ⟨q + 1, by go_num, by omega, hall'⟩
            case measure => simp [intOf]; omega
          · have hres := Lib.hid (smallL_no3 (most := most) ho h20)
            have h20' : (20 : Int) < (o.2.1.size : Int) := by omega
            replace ho := Lib.hid ho
            clear hall hlt hok h20
            go_wp2_with fail
            go_ret
            exact ⟨by rw [hres.out]; rfl, b.out⟩
        · have hqn : q = n1 := by omega
          have hres := Lib.hid (hyes.out (by rw [← hqn]; exact hall.out))
          have hlt' : ¬ (q : Int) < (n1 : Int) := by omega
          clear hall hqn hlt
          go_wp2_with fail
          go_ret
          exact ⟨by rw [hres.out]; rfl, b.out⟩
    · have hres := Lib.hid (smallL_no2 (hs := hs) (most := most) (by omega))
      have h2' : most < (N : Int) := by omega
      clear hH h2
      replace hN := Lib.hid hN
      replace hlen := Lib.hid hlen
      go_enter Try.func6, Try.ntmps6
      go_wp2_with fail
      refine cC.out.mono ?_; rintro e w1 ⟨rfl, b1⟩
      go_wp2_with fail
      go_ret
      exact ⟨by rw [hres.out]; rfl, b1⟩
  · have hres := Lib.hid (smallL_no1 (hs := hs) (most := most) (by omega))
    have h1' : most < (n : Int) := by omega
    clear hH h1
    replace hlen := Lib.hid hlen
    go_enter Try.func6, Try.ntmps6
    go_wp2_with fail
    go_ret
    exact ⟨by rw [hres.out]; rfl, Below.refl _ _⟩

end Go.Proofs.Ytjmkpoignnbcpaa

namespace Go.Proofs.Ytjmkpoignnbcpaa
open Go.RowKit

section
variable {P : Program} {ops : Array Oper} {md : Region.Mode} {Q : Exit → Act → World → Prop}

/-- Whatever order is picked from here on, till the first n operations are done; each leaves what was there. -/
def wpAnyR (P : Program) (md : Region.Mode) (ops : Array Oper) (Q : Exit → Act → World → Prop) (n : Nat) (F : Array Bool → Act → World → Prop) : Nat → Array Bool → Act → World → Prop
  | 0, listed, a, w => F listed a w
  | f + 1, listed, a, w => Region.ready md ops listed ≠ [] ∧ ∀ i ∈ Region.ready md ops listed, i < n ∧ wpOp P ops Q i (fun a' w' => Below w.heap.size w w' ∧ wpAnyR P md ops Q n F f (listed.setIfInBounds i true) a' w') a w

theorem wpAny_of_R {n g : Nat} {F : Array Bool → Act → World → Prop} (hF : ∀ listed a w, F listed a w → wpAny P md ops Q g listed a w) :
    ∀ (f : Nat) (listed : Array Bool) (a : Act) (w : World), wpAnyR P md ops Q n F f listed a w → wpAny P md ops Q (f + g) listed a w
  | 0, _, _, _, h => by rw [Nat.zero_add]; exact hF _ _ _ h
  | f + 1, listed, a, w, h => by
    rw [show f + 1 + g = (f + g) + 1 by omega]
    exact ⟨fun h0 => absurd h0 h.1, fun i hi => wpOp_mono (fun a' w' h' => wpAny_of_R hF f _ a' w' h'.2) (h.2 i hi).2⟩

theorem below_of {w w' w'' : World} (h : Below w.heap.size w w') (h' : Below w'.heap.size w' w'') : Below w.heap.size w w'' := h.trans (h'.mono h.size)
theorem yields_later {w w' : World} {o : Oper} {v : Value} {a : Act} (hb : Below w.heap.size w w') (h : YieldsIf P ops (fun x => Below w.heap.size w x) o v a) : YieldsIf P ops (fun x => Below w'.heap.size w' x) o v a :=
  h.imp (fun ⟨h1, h2⟩ => ⟨h1, fun x hx => h2 x (below_of hb hx)⟩) id

theorem wpAnyR_first {n i : Nat} {oi : Oper} {v : Value} {F : Array Bool → Act → World → Prop} (hi : ops[i]? = some oi) (hsel : ∀ (j : Nat) (o : Oper) cs b, ops[j]? = some o → o.op ≠ .select cs b)
    (hQ : ∀ c a w, Q (.panic c) (a.put oi.dst v) w → Q (.panic c) a w)
    (hlate : ∀ listed, HeadInv md ops n listed → listed.getD i true = false → ∀ t, n ≤ t → t ∉ Region.ready md ops listed) (hin : i < n)
    (hdone : ∀ listed a w, F listed a w → ∀ j ∈ Region.ready md ops listed, n ≤ j) :
    ∀ (f : Nat) (listed : Array Bool) (a : Act) (w : World), HeadInv md ops n listed →
      (∀ j oj, ops[j]? = some oj → j ≠ i → listed.getD j true = false → (∀ e ∈ oj.after, Region.binds md e = true → e.on ≠ i) → oi.apart ops oj = true) →
      i ∈ Region.ready md ops listed → YieldsIf P ops (fun x => Below w.heap.size w x) oi v a →
      wpAnyR P md ops Q n F f (listed.setIfInBounds i true) (a.put oi.dst v) w → wpAnyR P md ops Q n F (f + 1) listed a w := by
  intro f
  induction f with
  | zero =>
    intro listed a w inv _ hr hy H
    have hun := (mem_ready.1 hr).1
    refine ⟨fun h => (by rw [h] at hr; cases hr), fun j hj => ?_⟩
    have hjn : j < n := by
      rcases Nat.lt_or_ge j n with h | h
      · exact h
      · exact absurd hj (hlate listed inv hun j h)
    refine ⟨hjn, ?_⟩
    by_cases hji : j = i
    · subst hji; exact hy.wpOp hi (Below.refl _ _) ⟨Below.refl _ _, H⟩
    · have := hdone _ _ _ H j (ready_mono hj hji)
      omega
  | succ f ih =>
    intro listed a w inv hfree hr hy H
    have hun := (mem_ready.1 hr).1
    refine ⟨fun h => (by rw [h] at hr; cases hr), fun j hj => ?_⟩
    have hjn : j < n := by
      rcases Nat.lt_or_ge j n with h | h
      · exact h
      · exact absurd hj (hlate listed inv hun j h)
    refine ⟨hjn, ?_⟩
    by_cases hji : j = i
    · subst hji; exact hy.wpOp hi (Below.refl _ _) ⟨Below.refl _ _, H⟩
    · have h1 := (H.2 j (ready_mono hj hji)).2
      obtain ⟨hjun, oj, hoj, hall⟩ := mem_ready.1 hj
      have hnot : ∀ e ∈ oj.after, Region.binds md e = true → e.on ≠ i := fun e he hb heq => by
        have h1 := hall e he hb
        rw [heq, getD_both hun] at h1
        cases h1
      have h2 := wpOp_putIf hoj (hfree j oj hoj hji hjun hnot) (fun cs b => hsel i oi cs b hi) (fun cs b => hsel j oj cs b hoj) hQ hy h1
      have hfree' : ∀ k ok, ops[k]? = some ok → k ≠ i → (listed.setIfInBounds j true).getD k true = false →
          (∀ e ∈ ok.after, Region.binds md e = true → e.on ≠ i) → oi.apart ops ok = true := fun k ok hk hki hun hno => by
        refine hfree k ok hk hki ?_ hno
        by_cases hjk : j = k
        · subst hjk; exact hjun
        · rw [getD_set_ne true hjk] at hun; exact hun
      refine wpOp_mono (fun a' w' h3 => ⟨h3.2.1, ih (listed.setIfInBounds j true) a' w' (inv.set hj hjn) hfree' (ready_mono hr (Ne.symm hji)) (yields_later h3.2.1 h3.1) ?_⟩) h2
      rw [Array.setIfInBounds_comm _ _ hji]
      exact h3.2.2

/-- the plan's check: b: it may come up, and no other that may come up looks at its slot; not b: it alone may come up -/
def planB (md : Region.Mode) (ops : Array Oper) (n : Nat) : List (Bool × Nat) → Array Bool → Bool
  | [], listed => Region.seqB md ops (ops.size - n) n listed
  | (b, i) :: rest, listed => decide (i < n) && (if b then (Region.ready md ops listed).contains i && Region.free md ops listed i else decide (Region.ready md ops listed = [i])) && planB md ops n rest (listed.setIfInBounds i true)
def planAll (md : Region.Mode) (ops : Array Oper) (n : Nat) (pl : List (Bool × Nat)) : Bool :=
  Region.noSelect ops && decide (pl.length = n) && decide (n ≤ ops.size) && (decide (n = ops.size) || (Region.sinkB md ops n && Region.chainB md ops n)) && planB md ops n pl (Array.replicate ops.size false)

/-- the walk of the plan -/
def wpPlan (P : Program) (ops : Array Oper) (Q : Exit → Act → World → Prop) (tail : List Oper) : List (Bool × Nat) → Act → World → Prop
  | [], a, w => wpList P ops Q tail a w
  | (true, i) :: rest, a, w => ∃ o v, ops[i]? = some o ∧ YieldsIf P ops (fun x => Below w.heap.size w x) o v a ∧ wpPlan P ops Q tail rest (a.put o.dst v) w
  | (false, i) :: rest, a, w => wpOp P ops Q i (fun a' w' => Below w.heap.size w w' ∧ wpPlan P ops Q tail rest a' w') a w

theorem wpAnyR_plan {n : Nat} {tail : List Oper} (hsel : Region.noSelect ops = true) (hQ : ∀ c a d v w, Q (.panic c) (a.put d v) w → Q (.panic c) a w)
    (hlate : ∀ listed, HeadInv md ops n listed → ∀ i, i < n → listed.getD i true = false → ∀ t, n ≤ t → t ∉ Region.ready md ops listed) :
    ∀ (pl : List (Bool × Nat)) (listed : Array Bool) (a : Act) (w : World), HeadInv md ops n listed → planB md ops n pl listed = true → wpPlan P ops Q tail pl a w →
    wpAnyR P md ops Q n (fun listed' a' w' => Region.seqB md ops (ops.size - n) n listed' = true ∧ wpList P ops Q tail a' w') pl.length listed a w
  | [], listed, a, w, _, hB, h => ⟨hB, h⟩
  | (true, i) :: rest, listed, a, w, inv, hB, h => by
    simp only [planB, if_true, Bool.and_eq_true, decide_eq_true_eq] at hB
    obtain ⟨⟨hin, hr, hf⟩, hB'⟩ := hB
    obtain ⟨o, v, ho, hy, h'⟩ := h
    have hr' : i ∈ Region.ready md ops listed := by simpa using hr
    exact wpAnyR_first ho (Region.noSelect_spec hsel) (fun c a w => hQ c a o.dst v w) (fun l hl hu => hlate l hl i hin hu) hin (fun listed' a' w' hL => seqB_ready hL.1) rest.length listed a w inv (Region.free_spec ho hf) hr' hy
      (wpAnyR_plan hsel hQ hlate rest _ _ _ (inv.set hr' hin) hB' h')
  | (false, i) :: rest, listed, a, w, inv, hB, h => by
    simp only [planB, Bool.false_eq_true, if_false, Bool.and_eq_true, decide_eq_true_eq] at hB
    obtain ⟨⟨hin, hr⟩, hB'⟩ := hB
    have hr' : i ∈ Region.ready md ops listed := by rw [hr]; simp
    refine ⟨by rw [hr]; simp, fun j hj => ?_⟩
    rw [hr] at hj
    have hji : j = i := by simpa using hj
    subst hji
    exact ⟨hin, wpOp_mono (fun a' w' h3 => ⟨h3.1, wpAnyR_plan hsel hQ hlate rest _ a' w' (inv.set hr' hin) hB' h3.2⟩) h⟩

theorem wpAny_plan {a : Act} {w : World} {l : List Oper} (n : Nat) (pl : List (Bool × Nat)) (hB : planAll .any l.toArray n pl = true)
    (h : ∀ W : World, Hid (W = w.drew) → wpPlan P l.toArray (NoPanic Q) (l.drop n) pl a W) : wpAny P .any l.toArray (NoPanic Q) l.toArray.size (Array.replicate l.toArray.size false) a { w with drawn := w.drawn + 1 } := by
  have hQ : ∀ c a d v w, NoPanic Q (.panic c) (a.put d v) w → NoPanic Q (.panic c) a w := fun _ _ _ _ _ h => h
  simp only [planAll, Bool.and_eq_true, decide_eq_true_eq] at hB
  obtain ⟨⟨⟨⟨hsel, hlen⟩, hn⟩, hsc⟩, hpl⟩ := hB
  have hn' : n ≤ l.length := by simpa using hn
  have hdl : (l.drop n).length = l.toArray.size - n := by simp
  have inv0 : HeadInv .any l.toArray n (Array.replicate l.toArray.size false) :=
    ⟨by simp, fun j oj _ hl => (by rw [getD_replicate_false] at hl; cases hl), fun t _ ht => getD_in (by simpa using ht) (getD_replicate_false _ _)⟩
  have hlate : ∀ listed, HeadInv .any l.toArray n listed → ∀ i, i < n → listed.getD i true = false → ∀ t, n ≤ t → t ∉ Region.ready .any l.toArray listed := by
    intro listed inv i hin hun t ht hr
    rw [Bool.or_eq_true, decide_eq_true_eq, Bool.and_eq_true] at hsc
    obtain ⟨_, ot, hot, _⟩ := mem_ready.1 hr
    have htl := (Array.getElem?_eq_some_iff.1 hot).1
    rcases hsc with h0 | ⟨hs, hc⟩
    · omega
    · exact tail_waits hs hc (by omega) inv _ i rfl hin hun t ht hr
  have H := wpAnyR_plan (md := .any) hsel hQ hlate pl _ a w.drew inv0 hpl (h w.drew (Lib.hid rfl))
  have := wpAny_of_R (Q := NoPanic Q) (g := l.toArray.size - n) (fun listed a' w' hL => by
    have := wpAny_of_seq (md := .any) (Q' := NoPanic Q) (l.drop n) n listed a' w' (fun j => by simp [List.getElem?_drop]) (by rw [hdl]; exact hL.1) hL.2
    rwa [hdl] at this) _ _ _ _ H
  rw [hlen, show n + (l.toArray.size - n) = l.toArray.size by omega] at this
  exact this
theorem wp_region_plan {id : Nat} {a : Act} {w : World} {l : List Oper} (n : Nat) (pl : List (Bool × Nat)) (hm : P.follows .mixedOrders = true) (hB : planAll .any l.toArray n pl = true)
    (h : ∀ W : World, Hid (W = w.drew) → wpPlan P l.toArray (NoPanic Q) (l.drop n) pl a W) : (Code.region id l.toArray true).wp P Q a w :=
  wp_region_noPanic (wp_region_any hm (wpAny_plan n pl hB h))

/-! ### the steps -/
section
variable {tail : List Oper} {rest : List (Bool × Nat)} {a : Act} {w : World} {i : Nat} {o : Oper}
/-- what only reads: its value, in every world whose cells are those of w, where w has any -/
theorem wpPlan_float {v : Value} (hi : ops[i]? = some o) (hw : Region.wanted o (yielded ops a.tmps) = true)
    (hy : ∀ w' : World, (∀ p, (w.cell? p).isSome = true → w'.cell? p = w.cell? p) → (execOp a.eval o).run P w' = .ok (.value v) w') (h : ∀ K : Act → Prop, (∀ a', wpPlan P ops Q tail rest a' w → K a') → K (a.put o.dst v)) : wpPlan P ops Q tail ((true, i) :: rest) a w :=
  ⟨o, v, hi, .inl ⟨hw, fun w' hb => hy w' (fun p hp => by
    have hlt : p.block < w.heap.size := by
      cases hc : w.cell? p with
      | none => rw [hc] at hp; cases hp
      | some u => exact block_lt_of_cell hc
    exact hb.cell hlt)⟩, h _ (fun _ h => h)⟩
theorem wpPlan_skip (hi : ops[i]? = some o) (hw : Region.wanted o (yielded ops a.tmps) = false) (h : ∀ K : Act → Prop, (∀ a', wpPlan P ops Q tail rest a' w → K a') → K (a.put o.dst undef)) : wpPlan P ops Q tail ((true, i) :: rest) a w :=
  ⟨o, undef, hi, .inr ⟨hw, rfl⟩, h _ (fun _ h => h)⟩
theorem wpPlan_skip' (hi : ops[i]? = some o) (hw : Region.wanted o (yielded ops a.tmps) = false) (h : ∀ K : Act → Prop, (∀ a', wpPlan P ops Q tail rest a' w → K a') → K (a.put o.dst undef)) : wpPlan P ops Q tail ((false, i) :: rest) a w := by
  show wpOp P ops Q i _ a w
  unfold wpOp
  simp only [hi, hw, Bool.false_eq_true, if_false]
  exact ⟨Below.refl _ _, h _ (fun _ h => h)⟩
/-- what comes up alone: a call -/
theorem wpPlan_only (hi : ops[i]? = some o) (hw : Region.wanted o (yielded ops a.tmps) = true)
    (h : ∀ K : Act → World → Prop, (∀ a' w', Below w.heap.size w w' → wpPlan P ops Q tail rest a' w' → K a' w') → o.wp P a w K Q) : wpPlan P ops Q tail ((false, i) :: rest) a w := by
  show wpOp P ops Q i _ a w
  unfold wpOp
  simp only [hi, hw, if_true]
  exact .inl (h _ (fun a' w' hb hp => ⟨hb, hp⟩))
theorem wpPlan_nil (h : wpList P ops Q tail a w) : wpPlan P ops Q tail [] a w := h
end
end
end Go.Proofs.Ytjmkpoignnbcpaa

namespace Go.Proofs.Ytjmkpoignnbcpaa
open Go.RowKit
set_option linter.unusedVariables false

/-- a variable of two numbers -/
def TwoI (w : World) (g : Nat) (t : TypeId) (x y : Int) : Prop := Blk w g t [.int .i64 x, .int .i64 y]
section
variable {w w' : World} {g : Nat} {t : TypeId} {x y : Int}
theorem TwoI.c0 (h : TwoI w g t x y) : w.cell? ⟨g, 0, none⟩ = some (.int .i64 x) := Blk.cell h 0
theorem TwoI.c1 (h : TwoI w g t x y) : w.cell? ⟨g, 1, none⟩ = some (.int .i64 y) := Blk.cell h 1
theorem TwoI.new (w : World) (t : TypeId) (x y : Int) : TwoI (w.alloc (.cells #[.int .i64 x, .int .i64 y] t)) w.heap.size t x y := Blk.new w t _
theorem TwoI.put (h : TwoI w g t x y) (x' y' : Int) : TwoI ((w.setCell ⟨g, 0, none⟩ (.int .i64 x')).setCell ⟨g, 1, none⟩ (.int .i64 y')) g t x' y' :=
  Blk.set_ (Blk.set_ h 0 (.int .i64 x')) 1 (.int .i64 y')
theorem TwoI.below (h : TwoI w g t x y) (hb : Below w.heap.size w w') : TwoI w' g t x y := Blk.below h hb h.lt
end

def spotS : Option (Nat × Nat) → Int | none => 0 | some x => x.1
def spotP : Option (Nat × Nat) → Int | none => 0 | some x => x.2
def spotB : Option (Nat × Nat) → Bool | none => false | some _ => true
def RetSpot (o : Option (Nat × Nat)) (w : World) (e : Ending) (w' : World) : Prop := e = .returned (.tuple #[.agg #[.int .i64 (spotS o), .int .i64 (spotP o)], .bool (spotB o)]) ∧ Below w.heap.size w w'
def numV : Option Nat → Int | none => 0 | some x => x
def numB : Option Nat → Bool | none => false | some _ => true
def RetNum (o : Option Nat) (w : World) (e : Ending) (w' : World) : Prop := e = .returned (.tuple #[.int .i64 (numV o), .bool (numB o)]) ∧ Below w.heap.size w w'


theorem toList_inj {a b : ByteArray} (h : a.toList = b.toList) : a = b := by
  rw [ByteArray.toList_eq, ByteArray.toList_eq] at h
  obtain ⟨⟨x⟩⟩ := a
  obtain ⟨⟨y⟩⟩ := b
  have h' : x = y := h
  rw [h']
theorem sameH_no_len {a b : List (List OpT)} (h : a.length ≠ b.length) : decide (a = b) = false := decide_eq_false (fun e => h (by rw [e]))
theorem sameH_no_sess {a b : List (List OpT)} {i : Nat} {s t : List OpT} (ha : a[i]? = some s) (hb : b[i]? = some t) (h : s.length ≠ t.length) : decide (a = b) = false :=
  decide_eq_false (fun e => by subst e; rw [ha] at hb; injection hb with hb; exact h (by rw [hb]))
theorem sameH_no_op {a b : List (List OpT)} {i k : Nat} {s t : List OpT} {x y : OpT} (ha : a[i]? = some s) (hb : b[i]? = some t) (hx : s[k]? = some x) (hy : t[k]? = some y) (h : x ≠ y) : decide (a = b) = false :=
  decide_eq_false (fun e => by subst e; rw [ha] at hb; injection hb with hb; subst hb; rw [hx] at hy; injection hy with hy; exact h hy)
theorem sess_eq {s t : List OpT} (hl : s.length = t.length) (h : ∀ k, k < s.length → s[k]? = t[k]?) : s = t :=
  List.ext_getElem? (fun k => by
    by_cases hk : k < s.length
    · exact h k hk
    · rw [List.getElem?_eq_none (by omega), List.getElem?_eq_none (by omega)])
theorem sameH_yes {a b : List (List OpT)} (hl : a.length = b.length) (h : ∀ i, i < a.length → a[i]? = b[i]?) : decide (a = b) = true :=
  decide_eq_true (List.ext_getElem? (fun k => by
    by_cases hk : k < a.length
    · exact h k hk
    · rw [List.getElem?_eq_none (by omega), List.getElem?_eq_none (by omega)]))

end Go.Proofs.Ytjmkpoignnbcpaa

namespace Go.Proofs.Ytjmkpoignnbcpaa
open Go.RowKit
set_option linter.unusedVariables false

theorem list_eq {α : Type} {s t : List α} (hl : s.length = t.length) (h : ∀ k, k < s.length → s[k]? = t[k]?) : s = t :=
  List.ext_getElem? (fun k => by
    by_cases hk : k < s.length
    · exact h k hk
    · rw [List.getElem?_eq_none (by omega), List.getElem?_eq_none (by omega)])
set_option maxRecDepth 100000 in
set_option maxHeartbeats 1000000 in
theorem ref9_find (A : Option Addr) (n c : Nat) (l : List ByteArray) (s : ByteArray) (w : World) (hL : LAt encS w A n l) (hn : n ≤ 9223372036854775807) :
    Calls Try.prog 26 #[.slice A n c, .string s] w fun e w' => e = .returned (.int .i64 (findZ l s)) ∧ w' = w := by
  have hl := Lib.hid hL.len
  replace hL := Lib.hid hL
  go_enter Try.func26, Try.ntmps26
  go_wp2_with fail
  go_loop [5] (fun t => ∃ q : Nat, t = .int .i64 q ∧ q ≤ n ∧ Hid (∀ i, i < q → l[i]? ≠ some s)) (fun t => n - (intOf t).toNat)
  case atStart => exact ⟨0, rfl, by omega, Lib.hid (fun j hj => absurd hj (by omega))⟩
  case round =>
    obtain ⟨q, rfl, hq, hall⟩ := hrel
    by_cases hlt : q < n
    · obtain ⟨b, off, x, rfl, hb, hx, hok, hc⟩ := hL.out.str hlt
      have hlt' : (q : Int) < (n : Int) := by omega
      by_cases hxs : x = s
      · subst hxs
        have e1 : (x.toList == x.toList) = true := by simp
        have hres := Lib.hid (findZ_at hx hall.out)
        replace hx := Lib.hid hx
        clear hlt
        go_wp2_with fail
        go_ret
        exact ⟨by rw [hres.out]; rfl, rfl⟩
      · have e1 : (x.toList == s.toList) = false := by
          rw [beq_eq_false_iff_ne]
          exact fun h => hxs (toList_inj h)
        have hall' : Hid (∀ i, i < q + 1 → l[i]? ≠ some s) := Lib.hid (fun i hi => by
          rcases Nat.lt_succ_iff_lt_or_eq.1 hi with h1 | h1
          · exact hall.out i h1
          · subst h1; rw [hx]; exact fun e => hxs (by injection e))
        replace hx := Lib.hid hx
        clear hlt hxs hall
        go_wp2_with fail
        go_round
        case rel => exact ⟨q + 1, by go_num, by omega, hall'⟩
        case measure => simp [intOf]; omega
    · have hlt' : ¬ (q : Int) < (n : Int) := by omega
      have hres : Hid (findZ l s = -1) := Lib.hid (findZ_none (fun i hi => hall.out i (by rw [hl.out] at hi; omega)))
      clear hlt hall
      go_wp2_with fail
      go_ret
      exact ⟨by rw [hres.out]; rfl, rfl⟩
set_option maxRecDepth 100000 in
set_option maxHeartbeats 1000000 in
theorem ref2_IntsL (A B : Option Addr) (n c m d : Nat) (s t : List Int) (w : World) (hX : LAt encI w A n s) (hY : LAt encI w B m t) (hn : n ≤ 9223372036854775807) (hm : m ≤ 9223372036854775807) :
    Calls Try.prog 15 #[.slice A n c, .slice B m d] w fun e w' => e = .returned (.bool (decide (s = t))) ∧ ∃ q, w' = w.drewN q := by
  -- two slices that read as s, t; $at gives a cell; eyewitnessref02.Ints the function; $T the type's name
  have hXl := hX.len
  have hYl := hY.len
  by_cases hnm : n = m
  · subst hnm
    have hee : ((n : Int) != (n : Int)) = false := by simp
    replace hX := Lib.hid hX
    replace hY := Lib.hid hY
    replace hXl := Lib.hid hXl
    replace hYl := Lib.hid hYl
    go_enter Try.func15, Try.ntmps15
    go_wp2_with fail
    go_loopw [5] (fun t' wr => ∃ j q : Nat, j ≤ n ∧ t' = .int .i64 j ∧ Hid (∀ i, i < j → s[i]? = t[i]?) ∧ wr = w.drewN q) (fun t' _ => n - (intOf t').toNat)
    case atStart => exact ⟨0, 0, Nat.zero_le _, rfl, Lib.hid (fun i hi => absurd hi (by omega)), rfl⟩
    case round =>
      obtain ⟨j, q2, hj, rfl, hin, rfl⟩ := hrel
      by_cases hjl : j < n
      · have hjl' : (j : Int) < (n : Int) := by omega
        obtain ⟨b3, off3, x, rfl, hb3, hx, hok3, x0⟩ := hX.out.int hjl
        obtain ⟨b4, off4, y, rfl, hb4, hy, hok4, y0⟩ := hY.out.int hjl
        by_cases hxy : x = y
        · have e1 : (x == y) = true := by rw [hxy]; simp
          have e1' : (x != y) = false := by rw [hxy]; simp
          have hin' : Hid (∀ i, i < j + 1 → s[i]? = t[i]?) := Lib.hid (fun i hi => by
            rcases Nat.lt_succ_iff_lt_or_eq.1 hi with h1 | h1
            · exact hin.out i h1
            · subst h1; rw [hx, hy, hxy])
          clear hx hy hjl hxy
          go_wp2_with fail
          go_quiet (fail)
          go_wp2_with fail
          exact ⟨⟨j + 1, _, by omega, by go_num, hin', rfl⟩, by simp [intOf]; omega⟩
        · have hno : Hid (decide (s = t) = false) := Lib.hid (decide_eq_false (fun e => by subst e; rw [hx] at hy; injection hy with hy; exact hxy hy))
          have e1 : (x == y) = false := by rw [beq_eq_false_iff_ne]; exact hxy
          have e1' : (x != y) = true := by rw [bne_iff_ne]; exact hxy
          clear hx hy hjl hxy
          go_wp2_with fail
          go_quiet (fail)
          go_wp2_with fail
          go_ret
          exact ⟨by rw [hno.out]; rfl, _, by rw [World.drewN_drewN]⟩
      · have hjn : j = n := by omega
        have hres := Lib.hid (decide_eq_true (list_eq (s := s) (t := t) (by rw [hXl.out, hYl.out]) (by rw [hXl.out, ← hjn]; exact hin.out)))
        have hlt' : ¬ (j : Int) < (n : Int) := by omega
        clear hin hjl hjn
        go_wp2_with fail
        go_ret
        exact ⟨by rw [hres.out]; rfl, _, rfl⟩
  · have hee : ((n : Int) != (m : Int)) = true := by simp; omega
    have hres : Hid (decide (s = t) = false) := Lib.hid (decide_eq_false (fun e => by subst e; omega))
    clear hnm hX hY
    replace hXl := Lib.hid hXl
    replace hYl := Lib.hid hYl
    go_enter Try.func15, Try.ntmps15
    go_wp2_with fail
    go_ret
    exact ⟨by rw [hres.out]; rfl, 0, rfl⟩

end Go.Proofs.Ytjmkpoignnbcpaa

namespace Go.Proofs.Ytjmkpoignnbcpaa
open Go.RowKit
set_option linter.unusedVariables false

theorem Blk.not_row {w : World} {g : Nat} {t e : TypeId} {cs : List Value} {base size n : Nat} {v : Value} {xs : List Value} (h : Blk w g t cs) (hte : t ≠ e) (hr : w.ownsRow base e size v n xs) : v.ownBlock ≠ some g := by
  rcases hr.2 with ⟨rfl, _⟩ | ⟨k, cap, cur, rfl, _, hk, _⟩
  · intro h; cases h
  · intro he
    have : k = g := by simpa [Value.ownBlock] using he
    subst this
    rw [show w.heap[k]? = _ from h] at hk
    injection hk with hk
    injection hk with _ h2 _
    exact hte h2
theorem Blk.kept {w w' : World} {g : Nat} {t : TypeId} {cs : List Value} {row : Option Nat} (h : Blk w g t cs) (hg : w.grownBy w' row) (hne : row ≠ some g) : Blk w' g t cs :=
  (hg.block g h.lt (fun e => hne e.symm)).trans h
theorem own_farT {w : World} {g i : Nat} {t e : TypeId} {cs : List Value} {base size n : Nat} {v : Value} {xs : List Value} (hr : w.ownsRow base e size v n xs) (h : Blk w g t cs) (hte : t ≠ e) (u : Value) : (w.setCell ⟨g, i, none⟩ u).ownsRow base e size v n xs := by
  have hne := h.not_row hte hr
  refine ⟨hr.1, ?_⟩
  rcases hr.2 with h1 | ⟨k, cap, cur, rfl, hb, hk, r⟩
  · exact .inl h1
  · refine .inr ⟨k, cap, cur, rfl, hb, ?_, r⟩
    rw [Below.heap_setCell w ⟨g, i, none⟩ u k (fun e => hne (by rw [e]; rfl))]
    exact hk
/-- what is built may be told -/
structure StOk (st : StF) : Prop where
  s : ∀ x ∈ st.1, x.size ≤ 9223372036854775807
  i : ∀ x ∈ st.2, It.Ok x
  l : st.1.length ≤ st.2.length
  n : st.2.length ≤ 4398046511104
theorem StOk.nil : StOk ([], []) := ⟨fun x h => by simp at h, fun x h => by simp at h, Nat.le_refl _, by simp⟩
theorem StOk.one {st : StF} (h : StOk st) {se pl : Nat} {o : OpT} (hn : st.2.length < 4398046511104) (hse : se ≤ 4398046511104) (hpl : pl ≤ 4398046511104) (ho : (-9223372036854775808 ≤ o.2.2 ∧ o.2.2 < 9223372036854775808) ∧ o.2.1.size ≤ 9223372036854775807) : StOk (oneF se st (o, pl)) := by
  have hl := addV_len st.1 o.2.1
  have hf := findZ_range (addV st.1 o.2.1) o.2.1
  have h1 := h.l
  refine ⟨fun x hx => ?_, fun x hx => ?_, ?_, ?_⟩
  · simp only [oneF] at hx
    by_cases hfz : findZ st.1 o.2.1 < 0
    · rw [addV_new hfz] at hx
      rcases List.mem_append.1 hx with hx | hx
      · exact h.s x hx
      · rw [List.mem_singleton.1 hx]; exact ho.2
    · rw [addV_old hfz] at hx; exact h.s x hx
  · simp only [oneF] at hx
    rcases List.mem_append.1 hx with hx | hx
    · exact h.i x hx
    · rw [List.mem_singleton.1 hx]
      have := h.n
      exact ⟨by simp only; omega, by simp only; omega, by simp only; omega, by simp only; omega, by simp only; omega, by simp only; omega, ho.1.1, ho.1.2⟩
  · simp only [oneF, List.length_append, List.length_cons, List.length_nil]; omega
  · simp only [oneF, List.length_append, List.length_cons, List.length_nil]; omega
/-- while facts are built: in the variable g1, of which the answer's is g0 -/
structure FI (w wr : World) (g0 g1 : Nat) (v u : Value) (st : StF) : Prop where
  r : Blk wr g0 30 [.slice none 0 0, .slice none 0 0, .slice none 0 0]
  f : Blk wr g1 30 [v, u, .slice none 0 0]
  ov : wr.ownsRow w.heap.size 9 1 v st.1.length (encS.all st.1)
  ou : wr.ownsRow w.heap.size 51 5 u st.2.length (encT.all st.2)
  b : Below w.heap.size w wr
  ok : StOk st
  l0 : w.heap.size ≤ g0
  l1 : g0 < g1
theorem FI.later {w wr w' : World} {g0 g1 : Nat} {v u : Value} {st : StF} (h : FI w wr g0 g1 v u st) (hb : Below wr.heap.size wr w') : FI w w' g0 g1 v u st :=
  ⟨h.r.below hb h.r.lt, h.f.below hb h.f.lt, own_below h.ov hb, own_below h.ou hb, below_trans2 h.b hb, h.ok, h.l0, h.l1⟩
theorem info_str : (Try.prog.info? 9).map (fun i => (i.zero, i.size, i.bytes)) = some (some (.string .empty), 1, 16) := by kernel_rfl
theorem info_item : (Try.prog.info? 51).map (fun i => (i.zero, i.size, i.bytes)) = some (some (.agg #[.int .i64 0, .int .i64 0, .bool false, .int .i64 0, .int .i64 0]), 5, 40) := by kernel_rfl
set_option maxRecDepth 100000 in
set_option maxHeartbeats 4000000 in
theorem ref9_Of (A : Option Addr) (n c : Nat) (hs : List (List OpT)) (w : World) (hH : HistAt w A n hs) (hn : n ≤ 1099511627776) (hF : (allO hs).length ≤ 1099511627776) :
    Calls Try.prog 9 #[.slice A n c] w fun e w' => ∃ v : FV, e = .returned (.tuple #[.agg #[.slice v.A v.n v.c, .slice v.B v.m v.d, .slice v.C v.k v.e], .int .i64 (if rightL hs = true then 0 else 1)]) ∧
      FactsAt w' v (if rightL hs = true then facO hs else ⟨[], [], []⟩) ∧ Below w.heap.size w w' := by
  obtain ⟨i0, hi, hz0, hz1, hz2⟩ := info_parts info_str
  obtain ⟨j0, ji, jz0, jz1, jz2⟩ := info_parts info_item
  replace hi := Lib.hid hi
  replace hz0 := Lib.hid hz0
  replace hz1 := Lib.hid hz1
  replace hz2 := Lib.hid hz2
  replace ji := Lib.hid ji
  replace jz0 := Lib.hid jz0
  replace jz1 := Lib.hid jz1
  replace jz2 := Lib.hid jz2
  have hlen := Lib.hid hH.len
  have hH0 := Lib.hid hH
  obtain ⟨W0, hW0⟩ : ∃ W, W = w.alloc (.cells #[.slice none 0 0, .slice none 0 0, .slice none 0 0] 30) := ⟨_, rfl⟩
  obtain ⟨g0, hg0⟩ : ∃ g, g = w.heap.size := ⟨_, rfl⟩
  have k0 : Blk W0 g0 30 [.slice none 0 0, .slice none 0 0, .slice none 0 0] := by rw [hW0, hg0]; exact Blk.new w _ _
  have bb := Lib.hid (show Below w.heap.size w W0 from by rw [hW0]; exact (Below.refl _ w).alloc (Nat.le_refl _) _)
  have cR := Lib.hid (ref6_Right A n c hs W0 (hH.below bb.out) (by omega) (by omega))
  replace hF := Lib.hid hF
  cases hr : rightL hs with
  | false =>
    rw [hr] at cR
    replace hr := Lib.hid hr
    clear hH
    go_enter Try.func9, Try.ntmps9
    go_wp2_with (rw [← hW0, ← hg0]; clear hW0; replace hg0 := Lib.hid hg0)
    refine cR.out.mono ?_; rintro e w1 ⟨rfl, b⟩
    replace bb := Lib.hid (below_trans2 bb.out b)
    replace k0 := k0.below b k0.lt
    clear b
    have c0 := k0.cell 0
    have c1 := k0.cell 1
    have c2 := k0.cell 2
    have f0 := k0.frozen 0
    have f1 := k0.frozen 1
    have f2 := k0.frozen 2
    go_wp2_with fail
    have k3 := ((k0.set_ 0 (.slice none 0 0)).set_ 1 (.slice none 0 0)).set_ 2 (.slice none 0 0)
    have e0 := k3.cell 0
    have e1 := k3.cell 1
    have e2 := k3.cell 2
    refine bodyPost_ret (v := .tuple #[.agg #[.slice none 0 0, .slice none 0 0, .slice none 0 0], .int .i64 1]) (by simp [results, Try.results9, go_sem, e0, e1, e2]) rfl ⟨⟨none, 0, 0, none, 0, 0, none, 0, 0⟩, rfl, ⟨LAt.nil _ _ _, Nat.le_refl _, by simp, LAt.nil _ _ _, Nat.le_refl _, by simp, LAt.nil _ _ _, Nat.le_refl _, by simp⟩, ?_⟩
    exact ((bb.out.setCell (by rw [hg0.out]; exact Nat.le_refl _) _).setCell (by rw [hg0.out]; exact Nat.le_refl _) _).setCell (by rw [hg0.out]; exact Nat.le_refl _) _
  | true =>
    rw [hr] at cR
    replace hr := Lib.hid hr
    replace hH := Lib.hid (hH.below bb.out)
    go_enter Try.func9, Try.ntmps9
    go_wp2_with (rw [← hW0, ← hg0]; clear hW0; replace hg0 := Lib.hid hg0)
    refine cR.out.mono ?_; rintro e w1 ⟨rfl, b⟩
    replace bb := Lib.hid (below_trans2 bb.out b)
    replace hH := Lib.hid (hH.out.below b)
    replace k0 := k0.below b k0.lt
    obtain ⟨W1, hW1⟩ : ∃ W, W = w1.alloc (.cells #[.slice none 0 0, .slice none 0 0, .slice none 0 0] 30) := ⟨_, rfl⟩
    obtain ⟨g1, hg1⟩ : ∃ g, g = w1.heap.size := ⟨_, rfl⟩
    have hFI : FI w W1 g0 g1 (.slice none 0 0) (.slice none 0 0) ([], []) := by
      have b1 : Below w1.heap.size w1 W1 := by rw [hW1]; exact (Below.refl _ w1).alloc (Nat.le_refl _) _
      exact ⟨k0.below b1 k0.lt, by rw [hW1, hg1]; exact Blk.new w1 _ _, World.ownsRow_nil _ _ _ _, World.ownsRow_nil _ _ _ _, below_trans2 bb.out b1, StOk.nil, by rw [hg0.out]; exact Nat.le_refl _, by rw [hg1]; exact k0.lt⟩
    replace hH := Lib.hid (hH.out.below (show Below w1.heap.size w1 W1 from by rw [hW1]; exact (Below.refl _ w1).alloc (Nat.le_refl _) _))
    replace hFI := Lib.hid hFI
    clear b k0 bb cR
    go_wp2_with (rw [← hW1, ← hg1]; clear hW1; replace hg1 := Lib.hid hg1)
    go_loopw [5] (fun i wr => ∃ (k : Nat) (v u : Value), k ≤ n ∧ i = .int .i64 k ∧ Hid (FI w wr g0 g1 v u (hisF (hs.take k))) ∧ Hid (HistAt wr A n hs)) (fun i _ => n - (intOf i).toNat)
    case atStart => exact ⟨0, _, _, Nat.zero_le _, rfl, hFI, hH⟩
    case round =>
      obtain ⟨k, v, u, hk, rfl, hI, hHr⟩ := hrel
      by_cases hlt : k < n
      · obtain ⟨b1, off, B, m, cc, os, rfl, hbl, hos, hcell, hmc, hm63, hO⟩ := hHr.out.at_ hlt
        have hlt' : (k : Int) < (n : Int) := by omega
        have hol := Lib.hid hO.len
        have htk := Lib.hid (List.take_succ_eq_append_getElem (List.getElem?_eq_some_iff.1 hos).1)
        rw [(List.getElem?_eq_some_iff.1 hos).2] at htk
        replace hos := Lib.hid hos
        replace hO := Lib.hid hO
        go_wp2_with fail
        go_loopw [6] (fun i wr => ∃ (j : Nat) (v u : Value), j ≤ m ∧ i = .int .i64 j ∧ Hid (FI w wr g0 g1 v u (sesF k (os.take j) (hisF (hs.take k)))) ∧ Hid (HistAt wr (some ⟨b1, off, none⟩) n hs)) (fun i _ => m - (intOf i).toNat)
        case atStart => exact ⟨0, v, u, Nat.zero_le _, rfl, hI, hHr⟩
        case round =>
          clear hI hHr hcell hO
          obtain ⟨j, v, u, hj, rfl, hI, hHr⟩ := hrel
          obtain ⟨b1', off', B, m', cc, os', e1, hbl, hos', hcell, hmc, hm63, hO⟩ := hHr.out.at_ hlt
          injection e1 with e1
          injection e1 with e1 e2
          subst e1; subst e2
          obtain rfl : os' = os := by rw [hos.out] at hos'; injection hos' with h; exact h.symm
          obtain rfl : m' = m := by rw [← hO.len]; exact hol.out
          clear hos'
          by_cases hjm : j < m'
          · obtain ⟨b2, off2, o, rfl, hb2, ho, hok, x0, x1, x2⟩ := hO.at_ hjm
            have hjm' : (j : Int) < (m' : Int) := by omega
            have htj := Lib.hid (List.take_succ_eq_append_getElem (List.getElem?_eq_some_iff.1 ho).1)
            rw [(List.getElem?_eq_some_iff.1 ho).2] at htj
            obtain ⟨st, hst⟩ : ∃ st, st = sesF k (os'.take j) (hisF (hs.take k)) := ⟨_, rfl⟩
            rw [← hst] at hI
            have hone : Hid (sesF k (os'.take (j + 1)) (hisF (hs.take k)) = oneF k st (o, j)) := Lib.hid (by
              rw [htj.out, sesF_snoc, ← hst, List.length_take, hol.out, Nat.min_eq_left (by omega)])
            have hstl : st.2.length < 1099511627776 := by
              have h1 := (sesF_len k (os'.take j) (hisF (hs.take k))).1
              have h2 := hisF_len (hs.take k)
              have h3 := allO_take_le hs (k + 1)
              rw [allO_take_succ hos.out, List.length_append, hol.out] at h3
              rw [← hst, h2, List.length_take] at h1
              have := hF.out
              omega
            have hjb : j ≤ 4398046511104 := by
              have h3 := allO_take_le hs (k + 1)
              rw [allO_take_succ hos.out, List.length_append, hol.out] at h3
              have := hF.out
              omega
            have hok4 := hI.out.ok.one (se := k) (pl := j) (o := o) (by omega) (by omega) (by omega) hok
            have hitok : It.Ok ⟨k, j, o.1, findZ (addV st.1 o.2.1) o.2.1, o.2.2⟩ := hok4.i _ (by simp [oneF])
            replace hst := Lib.hid hst
            replace ho := Lib.hid ho
            replace htj := Lib.hid htj
            have hhI := hI
            obtain ⟨A1, c1, rfl, h11, h12, hLv⟩ := LAt.of_own hI.out.ov hI.out.ok.s rfl
            obtain ⟨Wo, hWo⟩ : ∃ W, W = wr.alloc (.cells #[.bool o.1, .string o.2.1, .int .i64 o.2.2] 56) := ⟨_, rfl⟩
            obtain ⟨g2, hg2⟩ : ∃ g, g = wr.heap.size := ⟨_, rfl⟩
            have bo : Below wr.heap.size wr Wo := by rw [hWo]; exact (Below.refl _ _).alloc (Nat.le_refl _) _
            have ko : Blk Wo g2 56 [.bool o.1, .string o.2.1, .int .i64 o.2.2] := by rw [hWo, hg2]; exact Blk.new wr _ _
            have I3 := hI.out.later bo
            have hne : g1 ≠ g2 := by have := hI.out.f.lt; omega
            have hne' : g2 ≠ g1 := fun e => hne e.symm
            have cf := Lib.hid (ref9_find A1 st.1.length c1 st.1 o.2.1 Wo (hLv.below bo) (by omega))
            replace hHr := Lib.hid (hHr.out.below bo)
            have q0 := I3.f.cell 0
            have q1 := I3.f.cell 1
            have p0 := ko.cell 0
            have p1 := ko.cell 1
            have p2 := ko.cell 2
            clear hjm hI hLv hO
            replace I3 := Lib.hid I3
            replace hitok := Lib.hid hitok
            replace hok4 := Lib.hid hok4
            obtain ⟨V, hV⟩ : ∃ V, V = findZ st.1 o.2.1 := ⟨_, rfl⟩
            rw [← hV] at cf
            have hVr := findZ_range st.1 o.2.1
            rw [← hV] at hVr
            replace hone := Lib.hid hone.out
            go_wp2_with (rw [← hWo, ← hg2]; clear hWo; replace hg2 := Lib.hid hg2)
            refine cf.out.mono ?_; rintro e wx ⟨rfl, hwx⟩
            rw [hwx]
            clear hwx cf
            by_cases hV0 : V < 0
            · have hadd : Hid (addV st.1 o.2.1 = st.1 ++ [o.2.1]) := Lib.hid (addV_new (by rw [← hV]; exact hV0))
              have hVis : Hid (findZ (addV st.1 o.2.1) o.2.1 = (st.1.length : Int)) := Lib.hid (by rw [addV_find, if_pos (by rw [← hV]; exact hV0)])
              rw [hVis.out] at hitok
              have hsl := hok4.out.s o.2.1 (addV_mem _ _)
              obtain ⟨W3, hW3⟩ : ∃ W, W = Wo.alloc (.cells #[.string o.2.1] 9) := ⟨_, rfl⟩
              have b3 : Below Wo.heap.size Wo W3 := by rw [hW3]; exact (Below.refl _ _).alloc (Nat.le_refl _) _
              have hlit : LAt encS W3 (some ⟨Wo.heap.size, 0, none⟩) 1 [o.2.1] := by rw [hW3]; exact LAt.lit1 (E := encS) Wo _ o.2.1 hsl
              have I4 := I3.out.later b3
              have ko3 := ko.below b3 ko.lt
              have hstn := I4.ok.l
              replace hV := Lib.hid hV
              go_wp2_with (first
                | (rw [← hW3]
                   clear hW3
                   at_builtin
                   refine wpList_append_L (E := encS) rfl (.tmp 46) (.tmp 49) _ rfl w.heap.size 9 i0 _ 16 Try.underlying26 hi.out hz0.out hz1.out hz2.out rfl _ st.1.length st.1 (by rfl) I4.ov _ 1 1 [o.2.1] rfl hlit (by unfold maxLen; omega) (by omega) I4.b.size ?_
                   intro v' w4 hown' hbb hg hob
                   obtain ⟨A3, c3, rfl, h31, h32, hL3⟩ := LAt.of_own hown' (fun x hx => (List.mem_append.1 hx).elim (I4.ok.s x) (fun h => by rw [List.mem_singleton.1 h]; exact hsl)) (by simp)
                   have kf4 := I4.f.kept hg (I4.f.not_row (by decide) I4.ov)
                   have kr4 := I4.r.kept hg (I4.r.not_row (by decide) I4.ov)
                   have ko4 := ko3.kept hg (ko3.not_row (by decide) I4.ov)
                   have ou4 := own_grown I4.ou I4.ov (by decide) hg
                   have b4 := I4.b.trans hbb
                   clear q0 q1 p0 p1 p2
                   have q0 := kf4.cell 0
                   have q1 := kf4.cell 1
                   have s0 := kf4.frozen 0
                   have p0 := ko4.cell 0
                   have p1 := ko4.cell 1
                   have p2 := ko4.cell 2
                   obtain ⟨W5, hW5⟩ : ∃ W, W = w4.setCell ⟨g1, 0, none⟩ (.slice A3 (st.1.length + 1) c3) := ⟨_, rfl⟩
                   have kf5 : Blk W5 g1 30 [.slice A3 (st.1.length + 1) c3, u, .slice none 0 0] := by rw [hW5]; exact kf4.set_ 0 _
                   have kr5 : Blk W5 g0 30 [.slice none 0 0, .slice none 0 0, .slice none 0 0] := by rw [hW5]; exact kr4.far (p := ⟨g1, 0, none⟩) (by have := I3.out.l1; show g0 ≠ g1; omega) _
                   have ov5 : W5.ownsRow w.heap.size 9 1 (.slice A3 (st.1.length + 1) c3) (st.1.length + 1) (encS.all (st.1 ++ [o.2.1])) := by rw [hW5]; exact own_farT (i := 0) hown' kf4 (by decide) _
                   have ou5 : W5.ownsRow w.heap.size 51 5 u st.2.length (encT.all st.2) := by rw [hW5]; exact own_farT (i := 0) ou4 kf4 (by decide) _
                   have b5 : Below w.heap.size w W5 := by rw [hW5]; exact b4.setCell (p := ⟨g1, 0, none⟩) (by have := I3.out.l0; have := I3.out.l1; show w.heap.size ≤ g1; omega) _
                   clear hbb hg hob hlit ko3 I4 b3 hL3 h31 h32 kf4 kr4 ko4 ou4 b4 hown'
                   -- an item more, its number is (st.1.length : Int); the world is W5: ov5, ou5, kf5, kr5, b5 : what stands there
                   obtain ⟨W6, hW6⟩ : ∃ W, W = W5.alloc (.cells #[.int .i64 (k : Int), .int .i64 (j : Int), .bool o.1, .int .i64 (st.1.length : Int), .int .i64 o.2.2] 51) := ⟨_, rfl⟩
                   have b6 : Below W5.heap.size W5 W6 := by rw [hW6]; exact (Below.refl _ _).alloc (Nat.le_refl _) _
                   have hlit6 : LAt encT W6 (some ⟨W5.heap.size, 0, none⟩) 1 [⟨k, j, o.1, (st.1.length : Int), o.2.2⟩] := by rw [hW6]; exact LAt.lit1 (E := encT) W5 _ ⟨k, j, o.1, (st.1.length : Int), o.2.2⟩ hitok.out
                   have ov6 := Lib.hid (own_below ov5 b6)
                   have ou6 := Lib.hid (own_below ou5 b6)
                   have kf6 := Lib.hid (kf5.below b6 kf5.lt)
                   have kr6 := Lib.hid (kr5.below b6 kr5.lt)
                   have hw6 : w.heap.size ≤ W6.heap.size := Nat.le_trans b5.size b6.size
                   have bw6 := Lib.hid (below_trans2 b5 b6)
                   replace hlit6 := Lib.hid hlit6
                   clear ov5 ou5 kf5 kr5 b5 b6
                   rw [show W5.heap.size = w4.heap.size from by rw [hW5]; simp] at hlit6
                   )
                | (rw [← hW5, ← hW6]
                   clear hW5 hW6
                   at_builtin
                   refine wpList_append_L (E := encT) rfl (.tmp 53) (.tmp 62) _ rfl w.heap.size 51 j0 _ 40 Try.underlying27 ji.out jz0.out jz1.out jz2.out rfl _ st.2.length st.2 (by rfl) ou6.out _ 1 1 _ rfl hlit6.out (by unfold maxLen; omega) (by omega) hw6 ?_
                   intro v7 w7 hown7 hbb7 hg7 hob7
                   obtain ⟨A7, c7, rfl, h71, h72, hL7⟩ := LAt.of_own hown7 (fun x hx => (List.mem_append.1 hx).elim (I3.out.ok.i x) (fun h => by rw [List.mem_singleton.1 h]; exact hitok.out)) (by simp)
                   have kf7 := kf6.out.kept hg7 (kf6.out.not_row (by decide) ou6.out)
                   have kr7 := kr6.out.kept hg7 (kr6.out.not_row (by decide) ou6.out)
                   have ov7 := own_grown ov6.out ou6.out (by decide) hg7
                   have b7 : Below w.heap.size w w7 := bw6.out.trans hbb7
                   have r0 := kf7.cell 0
                   have r1 := kf7.cell 1
                   have r2 := kf7.cell 2
                   have s1 := kf7.frozen 1
                   have kf8 := Lib.hid (kf7.set_ 1 (.slice A7 (st.2.length + 1) c7))
                   have kr8 := Lib.hid (kr7.far (p := ⟨g1, 1, none⟩) (by have := I3.out.l1; show g0 ≠ g1; omega) (.slice A7 (st.2.length + 1) c7))
                   have ov8 := Lib.hid (own_farT (i := 1) ov7 kf7 (by decide) (.slice A7 (st.2.length + 1) c7))
                   have ou8 := Lib.hid (own_farT (i := 1) hown7 kf7 (by decide) (.slice A7 (st.2.length + 1) c7))
                   have b8 := Lib.hid (b7.setCell (p := ⟨g1, 1, none⟩) (by have := I3.out.l0; have := I3.out.l1; show w.heap.size ≤ g1; omega) (.slice A7 (st.2.length + 1) c7))
                   clear ov6 ou6 kf6 kr6 hlit6 hown7 hbb7 hg7 hob7 kf7 kr7 ov7 b7 hL7 h71 h72 hw6 bw6
                   ))
              exact ⟨⟨j + 1, _, _, by omega, by go_num, Lib.hid (by
                rw [hone.out]
                unfold oneF
                rw [hVis.out]
                refine ⟨kr8.out, kf8.out, ?_, by rw [List.length_append]; exact ou8.out, b8.out, by have := hok4.out; unfold oneF at this; rw [hVis.out] at this; exact this, I3.out.l0, I3.out.l1⟩
                show World.ownsRow _ _ _ _ _ (addV st.1 o.2.1).length (encS.all (addV st.1 o.2.1))
                rw [hadd.out]
                have h := ov8.out
                first | exact h | (rw [List.length_append]; exact h)), Lib.hid (hH0.out.below b8.out)⟩, by simp [intOf]; omega⟩
            · have hadd : Hid (addV st.1 o.2.1 = st.1) := Lib.hid (addV_old (by rw [← hV]; exact hV0))
              have hVis : Hid (findZ (addV st.1 o.2.1) o.2.1 = V) := Lib.hid (by rw [addV_find, if_neg (by rw [← hV]; exact hV0), hV])
              rw [hVis.out] at hitok
              replace hV := Lib.hid hV
              have ov5 := I3.out.ov
              have ou5 := I3.out.ou
              have kf5 := I3.out.f
              have kr5 := I3.out.r
              have b5 := I3.out.b
              -- an item more, its number is V; the world is Wo: ov5, ou5, kf5, kr5, b5 : what stands there
              obtain ⟨W6, hW6⟩ : ∃ W, W = Wo.alloc (.cells #[.int .i64 (k : Int), .int .i64 (j : Int), .bool o.1, .int .i64 V, .int .i64 o.2.2] 51) := ⟨_, rfl⟩
              have b6 : Below Wo.heap.size Wo W6 := by rw [hW6]; exact (Below.refl _ _).alloc (Nat.le_refl _) _
              have hlit6 : LAt encT W6 (some ⟨Wo.heap.size, 0, none⟩) 1 [⟨k, j, o.1, V, o.2.2⟩] := by rw [hW6]; exact LAt.lit1 (E := encT) Wo _ ⟨k, j, o.1, V, o.2.2⟩ hitok.out
              have ov6 := Lib.hid (own_below ov5 b6)
              have ou6 := Lib.hid (own_below ou5 b6)
              have kf6 := Lib.hid (kf5.below b6 kf5.lt)
              have kr6 := Lib.hid (kr5.below b6 kr5.lt)
              have hw6 : w.heap.size ≤ W6.heap.size := Nat.le_trans b5.size b6.size
              have bw6 := Lib.hid (below_trans2 b5 b6)
              replace hlit6 := Lib.hid hlit6
              clear ov5 ou5 kf5 kr5 b5 b6
              go_wp2_with (
                rw [← hW6]
                clear hW6
                at_builtin
                refine wpList_append_L (E := encT) rfl (.tmp 53) (.tmp 62) _ rfl w.heap.size 51 j0 _ 40 Try.underlying27 ji.out jz0.out jz1.out jz2.out rfl _ st.2.length st.2 (by rfl) ou6.out _ 1 1 _ rfl hlit6.out (by unfold maxLen; omega) (by omega) hw6 ?_
                intro v7 w7 hown7 hbb7 hg7 hob7
                obtain ⟨A7, c7, rfl, h71, h72, hL7⟩ := LAt.of_own hown7 (fun x hx => (List.mem_append.1 hx).elim (I3.out.ok.i x) (fun h => by rw [List.mem_singleton.1 h]; exact hitok.out)) (by simp)
                have kf7 := kf6.out.kept hg7 (kf6.out.not_row (by decide) ou6.out)
                have kr7 := kr6.out.kept hg7 (kr6.out.not_row (by decide) ou6.out)
                have ov7 := own_grown ov6.out ou6.out (by decide) hg7
                have b7 : Below w.heap.size w w7 := bw6.out.trans hbb7
                have r0 := kf7.cell 0
                have r1 := kf7.cell 1
                have r2 := kf7.cell 2
                have s1 := kf7.frozen 1
                have kf8 := Lib.hid (kf7.set_ 1 (.slice A7 (st.2.length + 1) c7))
                have kr8 := Lib.hid (kr7.far (p := ⟨g1, 1, none⟩) (by have := I3.out.l1; show g0 ≠ g1; omega) (.slice A7 (st.2.length + 1) c7))
                have ov8 := Lib.hid (own_farT (i := 1) ov7 kf7 (by decide) (.slice A7 (st.2.length + 1) c7))
                have ou8 := Lib.hid (own_farT (i := 1) hown7 kf7 (by decide) (.slice A7 (st.2.length + 1) c7))
                have b8 := Lib.hid (b7.setCell (p := ⟨g1, 1, none⟩) (by have := I3.out.l0; have := I3.out.l1; show w.heap.size ≤ g1; omega) (.slice A7 (st.2.length + 1) c7))
                clear ov6 ou6 kf6 kr6 hlit6 hown7 hbb7 hg7 hob7 kf7 kr7 ov7 b7 hL7 h71 h72 hw6 bw6
                )
              exact ⟨⟨j + 1, _, _, by omega, by go_num, Lib.hid (by
                rw [hone.out]
                unfold oneF
                rw [hVis.out]
                refine ⟨kr8.out, kf8.out, ?_, by rw [List.length_append]; exact ou8.out, b8.out, by have := hok4.out; unfold oneF at this; rw [hVis.out] at this; exact this, I3.out.l0, I3.out.l1⟩
                show World.ownsRow _ _ _ _ _ (addV st.1 o.2.1).length (encS.all (addV st.1 o.2.1))
                rw [hadd.out]
                have h := ov8.out
                first | exact h | (rw [List.length_append]; exact h)), Lib.hid (hH0.out.below b8.out)⟩, by simp [intOf]; omega⟩
          · have hjm' : ¬ (j : Int) < (m' : Int) := by omega
            have htk2 : os'.take j = os' := List.take_of_length_le (by rw [hol.out]; omega)
            rw [htk2] at hI
            have hnx : Hid (hisF (hs.take (k + 1)) = sesF k os' (hisF (hs.take k))) := Lib.hid (by
              rw [htk.out, hisF_snoc, List.length_take, hlen.out, Nat.min_eq_left (by omega)])
            rw [← hnx.out] at hI
            clear hjm htk2 hO
            go_wp2_with fail
            exact ⟨⟨k + 1, _, _, by omega, by go_num, hI, hHr⟩, by simp [intOf]; omega⟩
      · have hkn' : ¬ (k : Int) < (n : Int) := by omega
        rw [show hs.take k = hs from List.take_of_length_le (by rw [hlen.out]; omega)] at hI
        obtain ⟨A1, c1, rfl, h11, h12, hLv⟩ := LAt.of_own hI.out.ov hI.out.ok.s rfl
        obtain ⟨A2, c2, rfl, h21, h22, hLu⟩ := LAt.of_own hI.out.ou hI.out.ok.i rfl
        obtain ⟨N, hN⟩ : ∃ N, N = (hisF hs).1.length := ⟨_, rfl⟩
        obtain ⟨M, hM⟩ : ∃ M, M = (hisF hs).2.length := ⟨_, rfl⟩
        have kf := hI.out.f
        have kr := hI.out.r
        rw [← hN] at kf hLv h11
        rw [← hM] at kf hLu h21
        have q0 := kf.cell 0
        have q1 := kf.cell 1
        have q2 := kf.cell 2
        have s0 := kr.frozen 0
        have s1 := kr.frozen 1
        have s2 := kr.frozen 2
        have p0 := kr.cell 0
        have p1 := kr.cell 1
        have p2 := kr.cell 2
        have k3 := ((kr.set_ 0 (.slice A1 N c1)).set_ 1 (.slice A2 M c2)).set_ 2 (.slice none 0 0)
        have e0 := k3.cell 0
        have e1 := k3.cell 1
        have e2 := k3.cell 2
        have bl := hI.out.l0
        have bS : ∀ i (u : Value) (X : World), Below w.heap.size w X → Below w.heap.size w (X.setCell ⟨g0, i, none⟩ u) := fun i u X h => h.setCell (p := ⟨g0, i, none⟩) bl u
        have bE := bS 2 (.slice none 0 0) _ (bS 1 (.slice A2 M c2) _ (bS 0 (.slice A1 N c1) _ hI.out.b))
        have ovX := own_farT (i := 2) (own_farT (i := 1) (own_farT (i := 0) hI.out.ov kr (by decide) (.slice A1 N c1)) (kr.set_ 0 _) (by decide) (.slice A2 M c2)) ((kr.set_ 0 _).set_ 1 _) (by decide) (.slice none 0 0)
        have ouX := own_farT (i := 2) (own_farT (i := 1) (own_farT (i := 0) hI.out.ou kr (by decide) (.slice A1 N c1)) (kr.set_ 0 _) (by decide) (.slice A2 M c2)) ((kr.set_ 0 _).set_ 1 _) (by decide) (.slice none 0 0)
        have hLX := LAt.of_own' ovX hI.out.ok.s rfl
        have hUX := LAt.of_own' ouX hI.out.ok.i rfl
        rw [← hN] at hLX
        rw [← hM] at hUX
        replace hLX := Lib.hid hLX
        replace hUX := Lib.hid hUX
        replace bE := Lib.hid bE
        clear ovX ouX bS hLv hLu kf kr k3 hlt hn
        replace hI := Lib.hid True.intro
        replace hN := Lib.hid hN
        replace hM := Lib.hid hM
        go_wp2_with fail
        refine bodyPost_ret (v := .tuple #[.agg #[.slice A1 N c1, .slice A2 M c2, .slice none 0 0], .int .i64 0]) (by simp [results, Try.results9, go_sem, e0, e1, e2]) rfl ⟨⟨A1, N, c1, A2, M, c2, none, 0, 0⟩, rfl, ?_, bE.out⟩
        exact ⟨hLX.out, h11, h12, hUX.out, h21, h22, LAt.nil _ _ _, Nat.le_refl _, by simp⟩

end Go.Proofs.Ytjmkpoignnbcpaa

namespace Go.Proofs.Ytjmkpoignnbcpaa
set_option linter.unusedVariables false

/-- with sessions behind, till there are n -/
def extH (h : List (List OpT)) (n : Nat) : List (List OpT) := h ++ List.replicate (n - h.length) []
/-- one operation more in a session -/
def putH (h : List (List OpT)) (i : Nat) (o : OpT) : List (List OpT) := h.modify i (fun s => s ++ [o])
def okX (vars : List ByteArray) (x : It) : Bool := decide (0 ≤ x.se) && decide (0 ≤ x.va) && decide (x.va < vars.length)
def opX (vars : List ByteArray) (x : It) : OpT := (x.wr, vars.getD x.va.toNat ⟨#[]⟩, x.vl)
def layF (vars : List ByteArray) : List It → List (List OpT) → Option (List (List OpT))
  | [], h => some h
  | x :: r, h => if okX vars x = true then layF vars r (putH (extH h (x.se.toNat + 1)) x.se.toNat (opX vars x)) else none
/-- the history of facts -/
def backF (f : Fac) : Option (List (List OpT)) := (layF f.vars f.items []).bind fun h => if (rightL h && decide ((facO h).vars = f.vars) && decide ((facO h).items = f.items)) = true then some h else none
theorem extH_len (h : List (List OpT)) (n : Nat) : (extH h n).length = max h.length n := by unfold extH; rw [List.length_append, List.length_replicate]; omega
theorem extH_done {h : List (List OpT)} {n : Nat} (hn : n ≤ h.length) : extH h n = h := by unfold extH; rw [show n - h.length = 0 from by omega]; simp
theorem extH_step {h : List (List OpT)} {n : Nat} (hn : h.length < n) : extH (h ++ [[]]) n = extH h n := by
  unfold extH
  rw [List.length_append, List.append_assoc]
  congr 1
  obtain ⟨m, hm⟩ : ∃ m, n - h.length = m + 1 := ⟨n - h.length - 1, by omega⟩
  rw [hm, show n - (h.length + [([] : List OpT)].length) = m from by simp; omega, List.replicate_succ]; rfl
theorem putH_len (h : List (List OpT)) (i : Nat) (o : OpT) : (putH h i o).length = h.length := by unfold putH; simp
theorem putH_at (h : List (List OpT)) (i : Nat) (o : OpT) (j : Nat) : (putH h i o)[j]? = (h[j]?).map (fun s => if i = j then s ++ [o] else s) := by
  unfold putH; rw [List.getElem?_modify]; cases h[j]? <;> simp
theorem layF_cons {vars : List ByteArray} {x : It} {r : List It} {h : List (List OpT)} (hx : okX vars x = true) : layF vars (x :: r) h = layF vars r (putH (extH h (x.se.toNat + 1)) x.se.toNat (opX vars x)) := by
  rw [layF, if_pos hx]
theorem layF_bad {vars : List ByteArray} {x : It} {r : List It} {h : List (List OpT)} (hx : okX vars x = false) : layF vars (x :: r) h = none := by
  rw [layF, hx]; rfl
theorem layF_drop {vars : List ByteArray} {l : List It} {q : Nat} {x : It} (hx : l[q]? = some x) (h : List (List OpT)) (hok : okX vars x = true) : layF vars (l.drop q) h = layF vars (l.drop (q + 1)) (putH (extH h (x.se.toNat + 1)) x.se.toNat (opX vars x)) := by
  rw [List.drop_eq_getElem_cons (List.getElem?_eq_some_iff.1 hx).1, (List.getElem?_eq_some_iff.1 hx).2, layF_cons hok]
theorem layF_dropbad {vars : List ByteArray} {l : List It} {q : Nat} {x : It} (hx : l[q]? = some x) (h : List (List OpT)) (hok : okX vars x = false) : layF vars (l.drop q) h = none := by
  rw [List.drop_eq_getElem_cons (List.getElem?_eq_some_iff.1 hx).1, (List.getElem?_eq_some_iff.1 hx).2, layF_bad hok]
theorem allO_ext (h : List (List OpT)) (n : Nat) : allO (extH h n) = allO h := by
  unfold extH; rw [allO_append]
  have : ∀ m, allO (List.replicate m ([] : List OpT)) = [] := fun m => by
    induction m with
    | zero => rfl
    | succ m ih => rw [List.replicate_succ, allO_cons, ih]; rfl
  rw [this]; simp
theorem allO_put : ∀ (h : List (List OpT)) (i : Nat) (o : OpT), (allO (putH h i o)).length ≤ (allO h).length + 1
  | [], i, o => by unfold putH; simp [allO]
  | s :: h, 0, o => by
    show (allO ((s ++ [o]) :: h)).length ≤ _
    rw [allO_cons, allO_cons, List.length_append, List.length_append, List.length_append]; simp; omega
  | s :: h, i + 1, o => by
    have := allO_put h i o
    show (allO (s :: putH h i o)).length ≤ _
    rw [allO_cons, allO_cons, List.length_append, List.length_append]; omega
/-- all sessions that are laid are few -/
theorem layF_len : ∀ (l : List It) (vars : List ByteArray) (h g : List (List OpT)) (N : Nat), layF vars l h = some g → h.length ≤ N → (∀ x ∈ l, x.se < N) → g.length ≤ N
  | [], vars, h, g, N, e, hn, _ => by rw [layF] at e; injection e with e; rw [← e]; exact hn
  | x :: l, vars, h, g, N, e, hn, hx => by
    cases hok : okX vars x with
    | false => rw [layF_bad hok] at e; cases e
    | true =>
      rw [layF_cons hok] at e
      refine layF_len l vars _ g N e ?_ (fun y hy => hx y (by simp [hy]))
      rw [putH_len, extH_len]
      have h1 := hx x (by simp)
      have h0 : 0 ≤ x.se := by
        unfold okX at hok
        simp only [Bool.and_eq_true, decide_eq_true_eq] at hok
        exact hok.1.1
      omega
end Go.Proofs.Ytjmkpoignnbcpaa
