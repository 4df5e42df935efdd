/- Words for memory: slices that read as lists, blocks that are known whole, rows of a call's own. No function of the program is named here. Words for memory: slices of anything that takes a fixed number of cells (an encoding 'Enc'). No function of the program is named here. Words for memory: slices of operations (three cells each), histories (slices of such slices). No function of the program is named here. Words for memory: operations appended to a call's own slice of them; mathematics of histories: numbers and spots. No function of the program is named here. Plain mathematics of layer 9: histories interned. Nothing of the program is named. Plain mathematics of layer 9: facts laid back into a history. Nothing of the program is named. Plain mathematics of layer 9: a history comes back of its facts, but for empty sessions at its end. Nothing of the program is named. Plain mathematics of layer 9: each item stands where its operation does, and says the same. Nothing of the program is named. Plain mathematics of words of 64 bits: counts of bits, the lowest bit, sums of neighbouring fields. No Go is named here but the model's integer kinds. Contracts of package word. Contracts of the document's own answers for words (package eyewitnessref01). Plain mathematics of rows of words. Contracts of package row. -/
import Derived.WalkKit
import Derived.Below
import Derived.Laws.OwnMore
import Derived.Laws.Rows
import Derived.Laws.CopyOwn
import Derived.Laws.MakeOwn
import Derived.Deep.AppendLies
import Derived.Deep.Draws
import Derived.Deep.OwnRows
import Derived.Maps.AppendAt
import Derived.OwnWalk
import Derived.StillTailTactics
import Derived.Laws.AppendOwnNone
import Derived.Lib.Hide
import Derived.Test.YtjhjojklfdjmdaaGreatRows
import Derived.WalkSpells
import Derived.WalkLawsBesides
import Derived.Deep.DeepCutAuto
import Derived.Laws.BitsAllLaws
import Derived.Deep.QuietTactic
import Derived.BigQuiet
namespace Go.Proofs.YtjhjojklfdjmdaaGreat
set_option maxRecDepth 100000
set_option maxHeartbeats 8000000
open Go.RowKit
set_option linter.unusedVariables false

def Rd (w : World) (A : Option Addr) (n : Nat) (vs : List Value) : Prop :=
 vs.length = n ∧ (0 < n → ∃ b off, A = some ⟨b, off, none⟩ ∧ b < w.heap.size ∧ ∀ j u, vs[j]? = some u → w.cell? ⟨b, off + j, none⟩ = some u)

section
variable {w w' : World} {A : Option Addr} {n : Nat} {vs : List Value}
theorem Rd.at_ {k : Nat} (h : Rd w A n vs) (hk : k < n) : ∃ b off u, A = some ⟨b, off, none⟩ ∧ b < w.heap.size ∧ vs[k]? = some u ∧ w.cell? ⟨b, off + k, none⟩ = some u := by
 obtain ⟨b, off, e, hb, hc⟩ := h.2 (by omega);have hl : k < vs.length := by rw [h.1]; exact hk
 exact ⟨b, off, vs[k], e, hb, List.getElem?_eq_getElem hl, hc k _ (List.getElem?_eq_getElem hl)⟩
theorem Rd.keep (h : Rd w A n vs) (hs : w.heap.size ≤ w'.heap.size) (hk : ∀ p : Addr, p.block < w.heap.size → w'.cell? p = w.cell? p) : Rd w' A n vs :=
 ⟨h.1, fun hn => by
  obtain ⟨b, off, e, hb, hc⟩ := h.2 hn;exact ⟨b, off, e, by omega, fun j u hu => (hk ⟨b, off + j, none⟩ hb).trans (hc j u hu)⟩⟩
theorem Rd.below (h : Rd w A n vs) (hb : Below w.heap.size w w') : Rd w' A n vs := h.keep hb.size fun _ hp => hb.cell hp
theorem Rd.nil (w : World) (A : Option Addr) : Rd w A 0 [] := ⟨rfl, fun h => absurd h (by omega)⟩
theorem Rd.of_nil (h : Rd w A 0 vs) : vs = [] := List.eq_nil_of_length_eq_zero h.1
theorem Rd.of_block {g : Nat} {cs : Array Value} {t : TypeId} {fr : Nat × Nat} (h : w.heap[g]? = some (.cells cs t fr)) (hn : cs.size = n) : Rd w (some ⟨g, 0, none⟩) n cs.toList := by
 refine ⟨by simpa using hn, fun _ => ⟨g, 0, rfl, ?_, fun j u hu => ?_⟩⟩
 ·exact (Array.getElem?_eq_some_iff.1 h).1
 ·rw [Nat.zero_add, cell_of_row w g j cs t fr h]; simpa using hu
theorem Rd.of_own {base : Nat} {e : TypeId} {v : Value} (h : w.ownsRow base e 1 v n vs) : ∃ A c, v = .slice A n c ∧ Rd w A n vs := by
 rcases h.2 with ⟨rfl, rfl⟩ | ⟨g, cap, cur, rfl, hbg, hg, hnc, hcm, hcs, htake⟩
 ·have : vs = [] := List.eq_nil_of_length_eq_zero (by simpa using h.1)
  subst this;exact ⟨none, 0, rfl, Rd.nil _ _⟩
 ·refine ⟨_, _, rfl, by simpa using h.1, fun _ => ⟨g, 0, rfl, (Array.getElem?_eq_some_iff.1 hg).1, fun j u hu => ?_⟩⟩
  rw [Nat.zero_add, cell_of_row w g j cur e (0, 0) hg];rw [← htake, Nat.mul_one] at hu;have hj : j < n := by
   rcases Nat.lt_or_ge j n with h' | h'
   ·exact h'
   ·rw [List.getElem?_eq_none (by rw [List.length_take]; omega)] at hu; cases hu
  rw [List.getElem?_take_of_lt hj] at hu
  simpa using hu
theorem Rd.of_own' {base : Nat} {e : TypeId} {c : Nat} (h : w.ownsRow base e 1 (.slice A n c) n vs) : Rd w A n vs := by
 obtain ⟨A', c', hv, hr⟩ := Rd.of_own h;injection hv with h1 h2 h3;subst h1;exact hr
end

def Blk (w : World) (g : Nat) (t : TypeId) (cs : List Value) : Prop := w.heap[g]? = some (.cells cs.toArray t (0, 0))
section
variable {w w' : World} {g : Nat} {t : TypeId} {cs : List Value}
theorem Blk.lt (h : Blk w g t cs) : g < w.heap.size := (Array.getElem?_eq_some_iff.1 h).1
theorem Blk.cell (h : Blk w g t cs) (i : Nat) : w.cell? ⟨g, i, none⟩ = cs[i]? := by rw [cell_of_row w g i _ t (0, 0) h]; simp
theorem Blk.frozen (h : Blk w g t cs) (i : Nat) : w.frozen? ⟨g, i, none⟩ = false := by
 unfold Blk at h; simp [World.frozen?, h]
theorem Blk.new (w : World) (t : TypeId) (cs : List Value) : Blk (w.alloc (.cells cs.toArray t)) w.heap.size t cs := heap_alloc_new w _
theorem Blk.drewN (h : Blk w g t cs) (n : Nat) : Blk (w.drewN n) g t cs := h
theorem Blk.drew (h : Blk w g t cs) : Blk w.drew g t cs := h
theorem Blk.alloc (h : Blk w g t cs) (o : Obj) : Blk (w.alloc o) g t cs := (Below.heap_alloc w o g h.lt).trans h
theorem Blk.set_ (h : Blk w g t cs) (i : Nat) (u : Value) : Blk (w.setCell ⟨g, i, none⟩ u) g t (cs.set i u) := by
 unfold Blk at h ⊢
 simp [World.setCell, Array.getElem?_modify, h]
theorem Blk.far (h : Blk w g t cs) {p : Addr} (hp : g ≠ p.block) (u : Value) : Blk (w.setCell p u) g t cs := (Below.heap_setCell w p u g hp).trans h
theorem Blk.below {B : Nat} (h : Blk w g t cs) (hb : Below B w w') (hg : g < B) : Blk w' g t cs := (hb.block g hg).trans h
theorem Blk.grown {row : Option Nat} (h : Blk w g t cs) (hb : w.grownBy w' row) (hg : some g ≠ row) : Blk w' g t cs := (hb.block g h.lt hg).trans h
theorem Blk.rd (h : Blk w g t cs) : Rd w (some ⟨g, 0, none⟩) cs.length cs := by
 have := Rd.of_block (n := cs.length) h (by simp)
 simpa using this
end

theorem bT2 {a b c : World} (h : Below a.heap.size a b) (k : Below b.heap.size b c) : Below a.heap.size a c := h.trans (k.mono h.size)
theorem bDN {B : Nat} {a w : World} (h : Below B a w) (n : Nat) : Below B a (w.drewN n) := ⟨h.os, h.tape, h.output, h.size, h.block⟩
theorem oBl {w w' : World} {base : Nat} {e : TypeId} {size : Nat} {v : Value} {n : Nat} {xs : List Value} (h : w.ownsRow base e size v n xs) (hb : Below w.heap.size w w') : w'.ownsRow base e size v n xs :=
 ⟨h.1, h.2.imp id fun ⟨g, cap, cur, hv, hg, hh, r⟩ => ⟨g, cap, cur, hv, hg, (hb.block g (Array.getElem?_eq_some_iff.1 hh).1).trans hh, r⟩⟩
theorem oLb {w : World} {base : Nat} {e : TypeId} {size : Nat} {v : Value} {n : Nat} {xs : List Value} (h : w.ownsRow base e size v n xs) : ∀ k, v.ownBlock = some k → base ≤ k := fun k hk => (h.lt k hk).1

def zeros (c : Nat) (z : Value) : Array Value := (List.replicate c z).toArray
theorem run_make_one {P : Program} (t e : TypeId) (i : TypeInfo) (z : Value) (ht : P.underlying t = some (.slice e)) (hi : P.info? e = some i) (hz : i.zero = some z) (hs : i.size = 1) (hzc : z.cells = #[z])
  (kl kc : IntKind) (n c : Nat) (hnc : n ≤ c) (hbytes : i.bytes * c ≤ 281474976710656) (h63 : c ≤ 9223372036854775807) (w : World) :
  (Instr.makeSlice t (.int kl (n : Int)) (.int kc (c : Int))).run P w = .ok (.slice (some ⟨w.heap.size, 0, none⟩) n c) (w.alloc (.cells (zeros c z) e)) := by
 have hb : (i.bytes : Int) * (c : Int) ≤ 281474976710656 := by
  have h : ((i.bytes * c : Nat) : Int) ≤ 281474976710656 := by omega
  rwa [Int.natCast_mul] at h
 have hr := run_make (P := P) w t e i z ht hi hz kl kc n c (by omega) (by omega) hb (by omega);simp only [Int.toNat_natCast] at hr;rw [hr, hs, Nat.mul_one, hzc];have : madeCells #[z] c = zeros c z := by
  apply Array.toList_inj.1; rw [toList_madeCells_one]; simp [zeros]
 rw [this]
theorem own_zeros (w : World) (c : Nat) (z : Value) (e : TypeId) (hc : c ≤ maxLen) : (w.alloc (.cells (zeros c z) e)).ownsRow w.heap.size e 1 (.slice (some ⟨w.heap.size, 0, none⟩) c c) c (List.replicate c z) := by
 have h := World.ownsRow_lit (size := 1) (base := w.heap.size) (e := e) w (zeros c z) c (Nat.le_refl _) hc (by simp [zeros])
 simpa [zeros] using h

theorem still_tail {P : Program} {id : Nat} {Q : Exit → Act → World → Prop} {a : Act} {w : World} {l : List Oper} (n : Nat) (hm : P.follows .mixedOrders = true) (hB : Region.lexTailB .any l.toArray n = true)
  (h : ∀ W : World, Hid (W = w.drew) → wpStill P l.toArray W (fun a' => wpList P l.toArray Q (l.drop n) a' W) (l.take n) a) : (Code.region id l.toArray true).wp P Q a w :=
 wp_region_still_tail n hm hB (h w.drew rfl)
theorem still_call {P : Program} {f : FuncId} {args : Array Value} {w : World} {v : Value} (h : Calls P f args w fun e w' => e = .returned v ∧ w = w') : Calls P f args w fun e w' => e = .returned v ∧ w' = w :=
 h.mono fun _ _ ⟨he, hw⟩ => ⟨he, hw.symm⟩

section
variable {P : Program} {w : World}
theorem run_append_nothing (base : Nat) (t ty e : TypeId) (i : TypeInfo) (size : Nat) (ht : P.underlying t = some (.slice e)) (hi : P.info? e = some i)
  (v : Value) (n : Nat) (xs : List Value) (hown : w.ownsRow base e size v n xs) (c : Nat) : (Builtin.append_ #[t, t] ty #[v, .slice none 0 c]).run P w = .ok v w := by
 rcases hown.2 with ⟨rfl, rfl⟩ | ⟨g, cap, cur, rfl, _, _, hnc, _⟩
 ·simp [Builtin.append_, run_underlying ht, sizeOf, typeInfo, hi, Builtin.lenOf, Builtin.firstCells]
 ·simp [Builtin.append_, run_underlying ht, sizeOf, typeInfo, hi, Builtin.lenOf, Builtin.firstCells, hnc, storeCells]
theorem wpList_append_rd {ops : Array Oper} {rest : List Oper} {o : Oper} {a : Act} {Q : Exit → Act → World → Prop} (hgd : o.guard = none) (s x : Operand) (t : TypeId)
  (ho : o.op = .call { callee := .builtin .append, args := #[s, x], argTypes := #[t, t] })
  (base : Nat) (e : TypeId) (i : TypeInfo) (z : Value) (bytes : Nat) (ht : P.underlying t = some (.slice e)) (hi : P.info? e = some i) (hz : i.zero = some z)
  (hsize : i.size = 1) (hby : i.bytes = bytes) (hzs : z.cells.size = 1)
  (v : Value) (n : Nat) (xs : List Value) (hs : a.eval s = v) (hown : w.ownsRow base e 1 v n xs)
  (A : Option Addr) (m c : Nat) (news : List Value) (hx : a.eval x = .slice A m c) (hr : Rd w A m news) (h1 : ∀ u ∈ news, u.oneCell' = true)
  (h63 : n + m ≤ maxLen) (hbytes : (n + m) * bytes ≤ 140737488355328) (hbase : base ≤ w.heap.size)
  (h : ∀ v' w', w'.ownsRow base e 1 v' (n + m) (xs ++ news) → Below base w w' → (0 < n + m → ∃ g cap, v' = .slice (some ⟨g, 0, none⟩) (n + m) cap) → wpList P ops Q rest (a.put o.dst v') w') :
  wpList P ops Q (o :: rest) a w := by
 rcases A with _ | ad
 ·have hm : m = 0 := by
   rcases Nat.eq_zero_or_pos m with h0 | h0
   ·exact h0
   ·obtain ⟨_, _, hh, _⟩ := hr.2 h0
    cases hh
  subst hm;obtain rfl := hr.of_nil;refine wpList_plain hgd fun K hK => ?_;have hrun := run_append_nothing (P := P) (w := w) base t o.type e i 1 ht hi v n xs hown c;unfold Oper.wp
  simp [execOp, ho, resolve, invoke, builtin, hs, hx, hrun, Result.andThen]
  exact hK _ _ (h v w (by simpa using hown) (Below.refl _ _) (fun hp => by
   obtain ⟨g, cap, hv, _⟩ := hown.form hp;exact ⟨g, cap, hv⟩))
 ·have hcells : ∀ j u, news[j]? = some u → w.cell? (ad.add j) = some u := by
   intro j u hu;have hj : 0 < m := by
    rcases Nat.eq_zero_or_pos m with h0 | h0
    ·subst h0; rw [hr.of_nil] at hu; simp at hu
    ·exact h0
   obtain ⟨b, off, hh, _, hc⟩ := hr.2 hj;injection hh with hh;subst hh;have he : (⟨b, off, none⟩ : Addr).add j = ⟨b, off + j, none⟩ := by unfold Addr.add; split <;> simp_all
   rw [he]; exact hc j u hu
  refine wpList_append_own_at w hgd s x t ho base e i z 1 bytes ht hi hz hsize hby hzs (by omega) v n xs hs hown ad m c news hx (by rw [hr.1]; omega) hcells h1 h63 hbytes hbase ?_;intro v' w' hown' hg _ hat;exact h v' w' hown' ((Below.refl _ _).grown hg hbase (oLb hown)) (fun hp => by
   obtain ⟨g, cap, hv, _⟩ := hown'.form hp;exact ⟨g, cap, hv⟩)
end

/-! ### rows of words (uint64), lists of numbers (int) -/
def u64v (x : Nat) : Value := .int .u64 (x : Int)
def i64v (x : Int) : Value := .int .i64 x
def Row (w : World) (A : Option Addr) (n : Nat) (xs : List Nat) : Prop := Rd w A n (xs.map u64v) ∧ ∀ x ∈ xs, x < 18446744073709551616
def Ints (w : World) (A : Option Addr) (n : Nat) (xs : List Int) : Prop := Rd w A n (xs.map i64v) ∧ ∀ x ∈ xs, -9223372036854775808 ≤ x ∧ x < 9223372036854775808
section
variable {w w' : World} {A : Option Addr} {n : Nat} {xs : List Nat} {zs : List Int}
theorem Row.len (h : Row w A n xs) : xs.length = n := by have := h.1.1; simpa using this
theorem Row.at_ {k : Nat} (h : Row w A n xs) (hk : k < n) : ∃ b off x, A = some ⟨b, off, none⟩ ∧ b < w.heap.size ∧ xs[k]? = some x ∧ x < 18446744073709551616 ∧ w.cell? ⟨b, off + k, none⟩ = some (.int .u64 (x : Int)) := by
 obtain ⟨b, off, u, hA, hb, hu, hc⟩ := h.1.at_ hk;rw [List.getElem?_map] at hu;obtain ⟨x, hx, rfl⟩ : ∃ x, xs[k]? = some x ∧ u64v x = u := by
  cases hx : xs[k]? with
  | none => rw [hx] at hu; cases hu
  | some x => rw [hx] at hu; exact ⟨x, rfl, by simpa using hu⟩
 exact ⟨b, off, x, hA, hb, hx, h.2 x (List.mem_of_getElem? hx), hc⟩
theorem Row.below (h : Row w A n xs) (hb : Below w.heap.size w w') : Row w' A n xs := ⟨h.1.below hb, h.2⟩
theorem Row.nil (w : World) (A : Option Addr) : Row w A 0 [] := ⟨Rd.nil _ _, fun x hx => by cases hx⟩
theorem Row.getD_lt (h : Row w A n xs) (k : Nat) : xs.getD k 0 < 18446744073709551616 := by
 rw [List.getD_eq_getElem?_getD]
 cases hx : xs[k]? with
 | none => simp
 | some x => simpa using h.2 x (List.mem_of_getElem? hx)
theorem Row.get {k x : Nat} (h : xs[k]? = some x) : xs.getD k 0 = x := by rw [List.getD_eq_getElem?_getD, h]; rfl
theorem Ints.len (h : Ints w A n zs) : zs.length = n := by have := h.1.1; simpa using this
theorem Ints.at_ {k : Nat} (h : Ints w A n zs) (hk : k < n) : ∃ b off x, A = some ⟨b, off, none⟩ ∧ b < w.heap.size ∧ zs[k]? = some x ∧ (-9223372036854775808 ≤ x ∧ x < 9223372036854775808) ∧ w.cell? ⟨b, off + k, none⟩ = some (.int .i64 x) := by
 obtain ⟨b, off, u, hA, hb, hu, hc⟩ := h.1.at_ hk;rw [List.getElem?_map] at hu;obtain ⟨x, hx, rfl⟩ : ∃ x, zs[k]? = some x ∧ i64v x = u := by
  cases hx : zs[k]? with
  | none => rw [hx] at hu; cases hu
  | some x => rw [hx] at hu; exact ⟨x, rfl, by simpa using hu⟩
 exact ⟨b, off, x, hA, hb, hx, h.2 x (List.mem_of_getElem? hx), hc⟩
theorem Ints.below (h : Ints w A n zs) (hb : Below w.heap.size w w') : Ints w' A n zs := ⟨h.1.below hb, h.2⟩
end

def RetRow (xs : List Nat) (w : World) (e : Ending) (w' : World) : Prop := ∃ A n c, e = .returned (.slice A n c) ∧ Row w' A n xs ∧ Below w.heap.size w w'
def RetRowO (t : TypeId) (xs : List Nat) (w : World) (e : Ending) (w' : World) : Prop := ∃ A n c, e = .returned (.slice A n c) ∧ w'.ownsRow w.heap.size t 1 (.slice A n c) n (xs.map u64v) ∧ (∀ x ∈ xs, x < 18446744073709551616) ∧ Below w.heap.size w w'
theorem Row.of_own {w : World} {base n c : Nat} {A : Option Addr} {t : TypeId} {xs : List Nat} (h : w.ownsRow base t 1 (.slice A n c) n (xs.map u64v)) (hx : ∀ x ∈ xs, x < 18446744073709551616) : Row w A n xs := by
 obtain ⟨A', c', hv, hr⟩ := Rd.of_own h;injection hv with h1 h2 h3;subst h1;exact ⟨hr, hx⟩
theorem RetRowO.row {t : TypeId} {xs : List Nat} {w w' : World} {e : Ending} (h : RetRowO t xs w e w') : RetRow xs w e w' := by
 obtain ⟨A, n, c, he, ho, hx, hb⟩ := h;exact ⟨A, n, c, he, Row.of_own ho hx, hb⟩
theorem own_ret {t : TypeId} {xs : List Nat} {w w' : World} {A : Option Addr} {n c : Nat} (h : w'.ownsRow w.heap.size t 1 (.slice A n c) n (xs.map u64v)) (hx : ∀ x ∈ xs, x < 18446744073709551616) (hb : Below w.heap.size w w') :
  RetRowO t xs w (.returned (.slice A n c)) w' := ⟨A, n, c, rfl, h, hx, hb⟩

def RetIntsO (t : TypeId) (zs : List Int) (w : World) (e : Ending) (w' : World) : Prop := ∃ A n c, e = .returned (.slice A n c) ∧ w'.ownsRow w.heap.size t 1 (.slice A n c) n (zs.map i64v) ∧ (∀ x ∈ zs, -9223372036854775808 ≤ x ∧ x < 9223372036854775808) ∧ Below w.heap.size w w'
theorem Ints.of_own {w : World} {base n c : Nat} {A : Option Addr} {t : TypeId} {zs : List Int} (h : w.ownsRow base t 1 (.slice A n c) n (zs.map i64v)) (hx : ∀ x ∈ zs, -9223372036854775808 ≤ x ∧ x < 9223372036854775808) : Ints w A n zs := by
 obtain ⟨A', c', hv, hr⟩ := Rd.of_own h;injection hv with h1 h2 h3;subst h1;exact ⟨hr, hx⟩
theorem own_grown {w w' : World} {b1 b2 s1 s2 n1 n2 : Nat} {e1 e2 : TypeId} {v1 v2 : Value} {xs1 xs2 : List Value} (h1 : w.ownsRow b1 e1 s1 v1 n1 xs1) (h2 : w.ownsRow b2 e2 s2 v2 n2 xs2) (hne : e1 ≠ e2) (hg : w.grownBy w' v2.ownBlock) : w'.ownsRow b1 e1 s1 v1 n1 xs1 := by
 refine ⟨h1.1, ?_⟩;rcases h1.2 with ⟨a, b⟩ | ⟨g, cap, cur, rfl, hbg, hgg, r⟩
 ·exact .inl ⟨a, b⟩
 ·refine .inr ⟨g, cap, cur, rfl, hbg, ?_, r⟩
  refine (hg.block g (Array.getElem?_eq_some_iff.1 hgg).1 ?_).trans hgg;intro e;rcases h2.2 with ⟨rfl, _⟩ | ⟨g', cap', cur', rfl, _, hgg', _⟩
  ·simp [Value.ownBlock] at e
  ·have : g' = g := by simpa [Value.ownBlock] using e.symm
   subst this;rw [hgg] at hgg';injection hgg' with hh;injection hh with _ ht;exact hne ht

theorem Blk.cells8 {w : World} {g : Nat} {t : TypeId} {c0 c1 c2 c3 c4 c5 c6 c7 : Value} (h : Blk w g t [c0, c1, c2, c3, c4, c5, c6, c7]) : w.cell? ⟨g, 0, none⟩ = some c0 ∧ w.cell? ⟨g, 1, none⟩ = some c1 ∧ w.cell? ⟨g, 2, none⟩ = some c2 ∧ w.cell? ⟨g, 3, none⟩ = some c3 ∧ w.cell? ⟨g, 4, none⟩ = some c4 ∧ w.cell? ⟨g, 5, none⟩ = some c5 ∧ w.cell? ⟨g, 6, none⟩ = some c6 ∧ w.cell? ⟨g, 7, none⟩ = some c7 :=
  ⟨h.cell 0, h.cell 1, h.cell 2, h.cell 3, h.cell 4, h.cell 5, h.cell 6, h.cell 7⟩
theorem Blk.frozen8 {w : World} {g : Nat} {t : TypeId} {cs : List Value} (h : Blk w g t cs) : w.frozen? ⟨g, 0, none⟩ = false ∧ w.frozen? ⟨g, 1, none⟩ = false ∧ w.frozen? ⟨g, 2, none⟩ = false ∧ w.frozen? ⟨g, 3, none⟩ = false ∧ w.frozen? ⟨g, 4, none⟩ = false ∧ w.frozen? ⟨g, 5, none⟩ = false ∧ w.frozen? ⟨g, 6, none⟩ = false ∧ w.frozen? ⟨g, 7, none⟩ = false :=
  ⟨h.frozen 0, h.frozen 1, h.frozen 2, h.frozen 3, h.frozen 4, h.frozen 5, h.frozen 6, h.frozen 7⟩
theorem gZ {α : Type} {a : α} {l : List α} : (a :: l)[0]? = some a := rfl
theorem gS {α : Type} {a : α} {l : List α} {i : Nat} : (a :: l)[i + 1]? = l[i]? := rfl
theorem Hd {p : Prop} (h : p) : Hid p := Lib.hid h

structure Enc (α : Type) where
 cells : α → List Value
 sz : Nat
 pos : 0 < sz
 len : ∀ x, (cells x).length = sz
 one : ∀ x u, u ∈ cells x → u.oneCell' = true
 ok : α → Prop
section
variable {α : Type} {E : Enc α}
def Enc.all (E : Enc α) (xs : List α) : List Value := xs.flatMap E.cells
theorem Enc.all_cons (E : Enc α) (x : α) (xs : List α) : E.all (x :: xs) = E.cells x ++ E.all xs := rfl
theorem Enc.all_len (E : Enc α) (xs : List α) : (E.all xs).length = xs.length * E.sz := by
 induction xs with
 | nil => simp [Enc.all]
 | cons x xs ih => rw [E.all_cons, List.length_append, E.len, ih, List.length_cons, Nat.succ_mul]; omega
theorem Enc.all_append (E : Enc α) (a b : List α) : E.all (a ++ b) = E.all a ++ E.all b := List.flatMap_append
theorem Enc.all_single (E : Enc α) (x : α) : E.all [x] = E.cells x := by simp [Enc.all]
theorem Enc.all_at {xs : List α} {k : Nat} {x : α} (h : xs[k]? = some x) {r : Nat} (hr : r < E.sz) : (E.all xs)[k * E.sz + r]? = (E.cells x)[r]? := by
 induction xs generalizing k with
 | nil => simp at h
 | cons y xs ih =>
  rw [E.all_cons]
  cases k with
  | zero =>
   simp at h; subst h;rw [Nat.zero_mul, Nat.zero_add, List.getElem?_append_left (by rw [E.len]; exact hr)]
  | succ k =>
   have h' : xs[k]? = some x := by simpa using h
   have e : (k + 1) * E.sz + r = E.sz + (k * E.sz + r) := by rw [Nat.succ_mul]; omega
   rw [e, List.getElem?_append_right (by rw [E.len]; omega), E.len, Nat.add_sub_cancel_left];exact ih h'
theorem Enc.all_one (E : Enc α) (xs : List α) : ∀ u ∈ E.all xs, u.oneCell' = true := by
 intro u hu;obtain ⟨x, _, h⟩ := List.mem_flatMap.1 hu;exact E.one x u h
def LAt (E : Enc α) (w : World) (A : Option Addr) (n : Nat) (xs : List α) : Prop :=
 xs.length = n ∧ (∀ x ∈ xs, E.ok x) ∧ (0 < n → ∃ b off, A = some ⟨b, off, none⟩ ∧ b < w.heap.size ∧ ∀ (j : Nat) (u : Value), (E.all xs)[j]? = some u → w.cell? ⟨b, off + j, none⟩ = some u)
variable {w w' : World} {A : Option Addr} {n : Nat} {xs : List α}
theorem LAt.len (h : LAt E w A n xs) : xs.length = n := h.1
theorem LAt.okAll (h : LAt E w A n xs) : ∀ x ∈ xs, E.ok x := h.2.1
theorem LAt.below (h : LAt E w A n xs) (hb : Below w.heap.size w w') : LAt E w' A n xs :=
 ⟨h.1, h.2.1, fun hn => by
  obtain ⟨b, off, e, hbl, hc⟩ := h.2.2 hn;exact ⟨b, off, e, Nat.lt_of_lt_of_le hbl hb.size, fun j u hu => (hb.cell (p := ⟨b, off + j, none⟩) hbl).trans (hc j u hu)⟩⟩
theorem LAt.nil (E : Enc α) (w : World) (A : Option Addr) : LAt E w A 0 [] := ⟨rfl, fun x h => (by cases h), fun h => absurd h (by omega)⟩
theorem LAt.at_ {k : Nat} (h : LAt E w A n xs) (hk : k < n) : ∃ b off x, A = some ⟨b, off, none⟩ ∧ b < w.heap.size ∧ xs[k]? = some x ∧ E.ok x ∧ ∀ (r : Nat) (u : Value), (E.cells x)[r]? = some u → w.cell? ⟨b, off + k * E.sz + r, none⟩ = some u := by
 obtain ⟨b, off, e, hb, hc⟩ := h.2.2 (by omega);have hl : k < xs.length := by rw [h.1]; exact hk
 have ho := List.getElem?_eq_getElem hl;refine ⟨b, off, xs[k], e, hb, ho, h.2.1 _ (List.getElem_mem hl), fun r u hu => ?_⟩;have hr : r < E.sz := by rw [← E.len xs[k]]; exact (List.getElem?_eq_some_iff.1 hu).1
 have := hc (k * E.sz + r) u (by rw [Enc.all_at ho hr]; exact hu)
 rwa [← Nat.add_assoc] at this
theorem LAt.of_own {base : Nat} {e : TypeId} {v : Value} (h : w.ownsRow base e E.sz v n (E.all xs)) (ho : ∀ x ∈ xs, E.ok x) (hl : xs.length = n) : ∃ A c, v = .slice A n c ∧ n ≤ c ∧ c ≤ 9223372036854775807 ∧ LAt E w A n xs := by
 rcases h.2 with ⟨rfl, rfl⟩ | ⟨g, cap, cur, rfl, hbg, hg, hnc, hcm, hcs, htake⟩
 ·have : xs = [] := List.eq_nil_of_length_eq_zero hl
  subst this;exact ⟨none, 0, rfl, Nat.le_refl _, by omega, LAt.nil _ _ _⟩
 ·refine ⟨_, _, rfl, hnc, by unfold maxLen at hcm; exact hcm, hl, ho, fun _ => ⟨g, 0, rfl, (Array.getElem?_eq_some_iff.1 hg).1, fun j u hu => ?_⟩⟩
  rw [Nat.zero_add, cell_of_row w g j cur e (0, 0) hg];have hj : j < n * E.sz := by
   have := (List.getElem?_eq_some_iff.1 hu).1;rw [E.all_len, hl] at this;exact this
  rw [← htake, List.getElem?_take_of_lt hj] at hu
  simpa using hu
theorem LAt.of_own' {base c : Nat} {e : TypeId} (h : w.ownsRow base e E.sz (.slice A n c) n (E.all xs)) (ho : ∀ x ∈ xs, E.ok x) (hl : xs.length = n) : LAt E w A n xs := by
 obtain ⟨A', c', hv, _, _, hr⟩ := LAt.of_own h ho hl;injection hv with h1;subst h1; exact hr
theorem LAt.of_blk {g : Nat} {t : TypeId} (h : Blk w g t (E.all xs)) (ho : ∀ x ∈ xs, E.ok x) (hn : xs.length = n) : LAt E w (some ⟨g, 0, none⟩) n xs :=
 ⟨hn, ho, fun _ => ⟨g, 0, rfl, h.lt, fun j u hu => by rw [Nat.zero_add, h.cell]; exact hu⟩⟩
theorem LAt.setBlk {g i : Nat} {t : TypeId} {cs : List Value} (h : LAt E w A n xs) (k : Blk w g t cs) (hne : ∀ x u v, u ∈ E.cells x → v ∈ cs → u ≠ v) (u : Value) : LAt E (w.setCell ⟨g, i, none⟩ u) A n xs :=
 ⟨h.1, h.2.1, fun hn => by
  obtain ⟨b, off, e, hb, hc⟩ := h.2.2 hn;have hbg : b ≠ g := by
   intro hbg;subst hbg;obtain ⟨x, r, hx⟩ : ∃ x r, xs = x :: r := by
    cases xs with
    | nil => have := h.1; simp at this; omega
    | cons x r => exact ⟨x, r, rfl⟩
   obtain ⟨y, s, hy⟩ : ∃ y s, E.cells x = y :: s := by
    have h1 := E.len x;have h2 := E.pos
    cases hcx : E.cells x with
    | nil => rw [hcx] at h1; simp at h1; omega
    | cons y s => exact ⟨y, s, rfl⟩
   have h0 := hc 0 y (by rw [hx, E.all_cons, hy]; rfl);rw [Nat.add_zero, k.cell] at h0;exact hne x y y (by rw [hy]; simp) (List.mem_of_getElem? h0) rfl
  exact ⟨b, off, e, by simpa using hb, fun j v hv => (World.cell?_of_block (Below.heap_setCell w ⟨g, i, none⟩ u b hbg)).trans (hc j v hv)⟩⟩
theorem run_append_L {P : Program} (w : World) (base : Nat) (t ty e : TypeId) (i : TypeInfo) (z : Value) (by_ : Nat) (ht : P.underlying t = some (.slice e)) (hi : P.info? e = some i) (hz : i.zero = some z)
  (hsize : i.size = E.sz) (hby : i.bytes = by_) (hzs : z.cells.size = E.sz) (v : Value) (n : Nat) (os : List α) (hown : w.ownsRow base e E.sz v n (E.all os))
  (A : Option Addr) (m c : Nat) (news : List α) (hr : LAt E w A m news) (hb : n + m ≤ maxLen) (hbytes : (n + m) * by_ ≤ 140737488355328) (hbase : base ≤ w.heap.size) :
  ∃ v' w', (Builtin.append_ #[t, t] ty #[v, .slice A m c]).run P w = .ok v' w' ∧ w'.ownsRow base e E.sz v' (n + m) (E.all (os ++ news)) ∧ Below base w w' ∧ w.grownBy w' v.ownBlock ∧ (v'.ownBlock = v.ownBlock ∨ v'.ownBlock = some w.heap.size) := by
 rcases A with _ | ad
 ·have hm : m = 0 := by
   rcases Nat.eq_zero_or_pos m with h0 | h0
   ·exact h0
   ·obtain ⟨_, _, hh, _⟩ := hr.2.2 h0
    cases hh
  subst hm;have hn : news = [] := List.eq_nil_of_length_eq_zero hr.1;subst hn;have hrun := run_append_nothing (P := P) (w := w) base t ty e i E.sz ht hi v n (E.all os) hown c;exact ⟨v, w, hrun, by simpa using hown, Below.refl _ _, World.grownBy.refl w _, .inl rfl⟩
 ·have hcells : ∀ j u, (E.all news)[j]? = some u → w.cell? (ad.add j) = some u := by
   intro j u hu;have hj : 0 < m := by
    rcases Nat.eq_zero_or_pos m with h0 | h0
    ·subst h0; rw [List.eq_nil_of_length_eq_zero hr.1] at hu; simp [Enc.all] at hu
    ·exact h0
   obtain ⟨b, off, hh, _, hc⟩ := hr.2.2 hj;injection hh with hh;subst hh;have he : (⟨b, off, none⟩ : Addr).add j = ⟨b, off + j, none⟩ := by unfold Addr.add; split <;> simp_all
   rw [he]; exact hc j u hu
  obtain ⟨v', w', hrun, h2, h3, _, h5⟩ := run_append_own_at (P := P) w base t ty e i z E.sz by_ ht hi hz hsize hby hzs E.pos v n (E.all os) hown ad m c (E.all news) (by rw [E.all_len, hr.1]) hcells (E.all_one news) hb hbytes hbase;rw [← E.all_append] at h2;exact ⟨v', w', hrun, h2, (Below.refl _ _).grown h3 hbase (oLb hown), h3, h5⟩
theorem wpAL {P : Program} {ops : Array Oper} {rest : List Oper} {o : Oper} {a : Act} {Q : Exit → Act → World → Prop} (hgd : o.guard = none) (s x : Operand) (t : TypeId)
  (ho : o.op = .call { callee := .builtin .append, args := #[s, x], argTypes := #[t, t] })
  (base : Nat) (e : TypeId) (i : TypeInfo) (z : Value) (by_ : Nat) (ht : P.underlying t = some (.slice e)) (hi : P.info? e = some i) (hz : i.zero = some z)
  (hsize : i.size = E.sz) (hby : i.bytes = by_) (hzs : z.cells.size = E.sz)
  (v : Value) (n : Nat) (os : List α) (hs : a.eval s = v) (hown : w.ownsRow base e E.sz v n (E.all os))
  (A : Option Addr) (m c : Nat) (news : List α) (hx : a.eval x = .slice A m c) (hr : LAt E w A m news)
  (hb : n + m ≤ maxLen) (hbytes : (n + m) * by_ ≤ 140737488355328) (hbase : base ≤ w.heap.size)
  (h : ∀ v' w', w'.ownsRow base e E.sz v' (n + m) (E.all (os ++ news)) → Below base w w' → w.grownBy w' v.ownBlock → (v'.ownBlock = v.ownBlock ∨ v'.ownBlock = some w.heap.size) → wpList P ops Q rest (a.put o.dst v') w') :
  wpList P ops Q (o :: rest) a w := by
 obtain ⟨v', w', hrun, h2, h3, h4, h5⟩ := run_append_L (P := P) w base t o.type e i z by_ ht hi hz hsize hby hzs v n os hown A m c news hr hb hbytes hbase;refine wpList_plain hgd fun K hK => ?_;unfold Oper.wp execOp;simp only [ho, resolve, invoke, builtin, Sem.run_bind, Sem.run_pure, Result.andThen_ok, List.map_toArray, List.map_cons, List.map_nil, hs, hx, hrun];exact hK _ _ (h v' w' h2 h3 h4 h5)
end
theorem LAt.lit1 {α : Type} {E : Enc α} (w : World) (t : TypeId) (x : α) (hx : E.ok x) : LAt E (w.alloc (.cells (E.cells x).toArray t)) (some ⟨w.heap.size, 0, none⟩) 1 [x] :=
 LAt.of_blk (t := t) (by have := Blk.new w t (E.all [x]); rw [E.all_single] at this ⊢; exact this) (fun y hy => by rw [List.mem_singleton.1 hy]; exact hx) rfl

/-! ### texts, numbers, items -/
def encS : Enc ByteArray := { cells := fun s => [.string s], sz := 1, pos := by decide, len := fun _ => rfl, one := fun x u h => by simp at h; subst h; rfl, ok := fun s => s.size ≤ 9223372036854775807 }
def encI : Enc Int := { cells := fun z => [.int .i64 z], sz := 1, pos := by decide, len := fun _ => rfl, one := fun x u h => by simp at h; subst h; rfl, ok := fun z => -9223372036854775808 ≤ z ∧ z < 9223372036854775808 }
structure It where
 se : Int
 pl : Int
 wr : Bool
 va : Int
 vl : Int
deriving DecidableEq
structure It.Ok (i : It) : Prop where
 s0 : -9223372036854775808 ≤ i.se
 s1 : i.se < 9223372036854775808
 p0 : -9223372036854775808 ≤ i.pl
 p1 : i.pl < 9223372036854775808
 v0 : -9223372036854775808 ≤ i.va
 v1 : i.va < 9223372036854775808
 x0 : -9223372036854775808 ≤ i.vl
 x1 : i.vl < 9223372036854775808
def encT : Enc It := { cells := fun i => [.int .i64 i.se, .int .i64 i.pl, .bool i.wr, .int .i64 i.va, .int .i64 i.vl], sz := 5, pos := by decide, len := fun _ => rfl, one := fun x u h => by simp only [List.mem_cons, List.not_mem_nil, or_false] at h; rcases h with rfl | rfl | rfl | rfl | rfl <;> rfl, ok := It.Ok }
theorem LAt.str {w : World} {A : Option Addr} {n k : Nat} {xs : List ByteArray} (h : LAt encS w A n xs) (hk : k < n) : ∃ b off s, A = some ⟨b, off, none⟩ ∧ b < w.heap.size ∧ xs[k]? = some s ∧ s.size ≤ 9223372036854775807 ∧ w.cell? ⟨b, off + k, none⟩ = some (.string s) := by
 obtain ⟨b, off, s, e, hb, hs, hok, hc⟩ := h.at_ hk;exact ⟨b, off, s, e, hb, hs, hok, by have := hc 0 _ rfl; simpa [encS] using this⟩
theorem LAt.int {w : World} {A : Option Addr} {n k : Nat} {xs : List Int} (h : LAt encI w A n xs) (hk : k < n) : ∃ b off z, A = some ⟨b, off, none⟩ ∧ b < w.heap.size ∧ xs[k]? = some z ∧ (-9223372036854775808 ≤ z ∧ z < 9223372036854775808) ∧ w.cell? ⟨b, off + k, none⟩ = some (.int .i64 z) := by
 obtain ⟨b, off, s, e, hb, hs, hok, hc⟩ := h.at_ hk;exact ⟨b, off, s, e, hb, hs, hok, by have := hc 0 _ rfl; simpa [encI] using this⟩
theorem LAt.item {w : World} {A : Option Addr} {n k : Nat} {xs : List It} (h : LAt encT w A n xs) (hk : k < n) : ∃ b off i, A = some ⟨b, off, none⟩ ∧ b < w.heap.size ∧ xs[k]? = some i ∧ It.Ok i ∧
  w.cell? ⟨b, off + k * 5, none⟩ = some (.int .i64 i.se) ∧ w.cell? ⟨b, off + k * 5 + 1, none⟩ = some (.int .i64 i.pl) ∧ w.cell? ⟨b, off + k * 5 + 2, none⟩ = some (.bool i.wr) ∧ w.cell? ⟨b, off + k * 5 + 3, none⟩ = some (.int .i64 i.va) ∧ w.cell? ⟨b, off + k * 5 + 4, none⟩ = some (.int .i64 i.vl) := by
 obtain ⟨b, off, i, e, hb, hi, hok, hc⟩ := h.at_ hk;exact ⟨b, off, i, e, hb, hi, hok, hc 0 _ rfl, hc 1 _ rfl, hc 2 _ rfl, hc 3 _ rfl, hc 4 _ rfl⟩
structure Fac where
 vars : List ByteArray
 items : List It
 frm : List Int
deriving DecidableEq
structure FV where
 A : Option Addr
 n : Nat
 c : Nat
 B : Option Addr
 m : Nat
 d : Nat
 C : Option Addr
 k : Nat
 e : Nat
structure FactsAt (w : World) (v : FV) (f : Fac) : Prop where
 vs : LAt encS w v.A v.n f.vars
 vc : v.n ≤ v.c
 vm : v.c ≤ 9223372036854775807
 is : LAt encT w v.B v.m f.items
 ic : v.m ≤ v.d
 im : v.d ≤ 9223372036854775807
 fs : LAt encI w v.C v.k f.frm
 fc : v.k ≤ v.e
 fm : v.e ≤ 9223372036854775807
theorem FactsAt.below {w w' : World} {v : FV} {f : Fac} (h : FactsAt w v f) (hb : Below w.heap.size w w') : FactsAt w' v f :=
 ⟨h.vs.below hb, h.vc, h.vm, h.is.below hb, h.ic, h.im, h.fs.below hb, h.fc, h.fm⟩
theorem FactsAt.setBlk {w : World} {v : FV} {f : Fac} {g i : Nat} {t : TypeId} {cs : List Value} (h : FactsAt w v f) (k : Blk w g t cs) (hcs : ∀ u ∈ cs, ∃ A n c, u = .slice A n c) (u : Value) : FactsAt (w.setCell ⟨g, i, none⟩ u) v f :=
 ⟨h.vs.setBlk k (fun x y z hy hz e => by
  obtain ⟨A, n, c, rfl⟩ := hcs z hz;simp only [encS, List.mem_cons, List.not_mem_nil, or_false] at hy;rw [hy] at e; cases e) u, h.vc, h.vm, h.is.setBlk k (fun x y z hy hz e => by
  obtain ⟨A, n, c, rfl⟩ := hcs z hz;simp only [encT, List.mem_cons, List.not_mem_nil, or_false] at hy;rw [e] at hy; rcases hy with h | h | h | h | h <;> cases h) u, h.ic, h.im, h.fs.setBlk k (fun x y z hy hz e => by
  obtain ⟨A, n, c, rfl⟩ := hcs z hz;simp only [encI, List.mem_cons, List.not_mem_nil, or_false] at hy;rw [hy] at e; cases e) u, h.fc, h.fm⟩
theorem FactsAt.put {w : World} {v : FV} {f : Fac} {g : Nat} {t : TypeId} {a b c : Value} (h : FactsAt w v f) (k : Blk w g t [a, b, c]) (hcs : ∀ u ∈ [a, b, c], ∃ A n c, u = .slice A n c) :
  FactsAt (((w.setCell ⟨g, 0, none⟩ (.slice v.A v.n v.c)).setCell ⟨g, 1, none⟩ (.slice v.B v.m v.d)).setCell ⟨g, 2, none⟩ (.slice v.C v.k v.e)) v f := by
 refine ((h.setBlk k hcs _).setBlk (k.set_ 0 _) (fun u hu => ?_) _).setBlk ((k.set_ 0 _).set_ 1 _) (fun u hu => ?_) _
 ·simp only [List.set_cons_zero, List.mem_cons, List.not_mem_nil, or_false] at hu
  rcases hu with rfl | rfl | rfl
  ·exact ⟨_, _, _, rfl⟩
  ·exact hcs _ (by simp)
  ·exact hcs _ (by simp)
 ·simp only [List.set_cons_zero, List.set_cons_succ, List.mem_cons, List.not_mem_nil, or_false] at hu
  rcases hu with rfl | rfl | rfl
  ·exact ⟨_, _, _, rfl⟩
  ·exact ⟨_, _, _, rfl⟩
  ·exact hcs _ (by simp)
def RetFacts (f : Fac) (w : World) (e : Ending) (w' : World) : Prop := ∃ v : FV, e = .returned (.agg #[.slice v.A v.n v.c, .slice v.B v.m v.d, .slice v.C v.k v.e]) ∧ FactsAt w' v f ∧ Below w.heap.size w w'

abbrev OpT := Bool × ByteArray × Int
def cellsO (os : List OpT) : List Value := os.flatMap fun o => [.bool o.1, .string o.2.1, .int .i64 o.2.2]
def OkO (os : List OpT) : Prop := ∀ o ∈ os, (-9223372036854775808 ≤ o.2.2 ∧ o.2.2 < 9223372036854775808) ∧ o.2.1.size ≤ 9223372036854775807
theorem cellsO_len (os : List OpT) : (cellsO os).length = os.length * 3 := by
 induction os with
 | nil => rfl
 | cons o os ih => show (_ :: _ :: _ :: cellsO os).length = _; simp only [List.length_cons, ih]; omega
theorem cellsO_append (a b : List OpT) : cellsO (a ++ b) = cellsO a ++ cellsO b := List.flatMap_append
theorem cellsO_at {os : List OpT} {k : Nat} {o : OpT} (h : os[k]? = some o) : (cellsO os)[k * 3]? = some (.bool o.1) ∧ (cellsO os)[k * 3 + 1]? = some (.string o.2.1) ∧ (cellsO os)[k * 3 + 2]? = some (.int .i64 o.2.2) := by
 induction os generalizing k with
 | nil => simp at h
 | cons p os ih =>
  have e : cellsO (p :: os) = .bool p.1 :: .string p.2.1 :: .int .i64 p.2.2 :: cellsO os := rfl
  cases k with
  | zero => simp at h; subst h; exact ⟨rfl, rfl, rfl⟩
  | succ k =>
   rw [e, show (k + 1) * 3 = k * 3 + 1 + 1 + 1 from by omega];exact ih (by simpa using h)
def OpsAt (w : World) (A : Option Addr) (n : Nat) (os : List OpT) : Prop :=
 os.length = n ∧ OkO os ∧ (0 < n → ∃ b off, A = some ⟨b, off, none⟩ ∧ b < w.heap.size ∧ ∀ (j : Nat) (u : Value), (cellsO os)[j]? = some u → w.cell? ⟨b, off + j, none⟩ = some u)
def SessV (w : World) (v : Value) (os : List OpT) : Prop := ∃ A n c, v = .slice A n c ∧ n ≤ c ∧ n ≤ 9223372036854775807 ∧ OpsAt w A n os
def HistAt (w : World) (A : Option Addr) (n : Nat) (hs : List (List OpT)) : Prop :=
 ∃ vs, Rd w A n vs ∧ vs.length = hs.length ∧ ∀ (i : Nat) (v : Value) (os : List OpT), vs[i]? = some v → hs[i]? = some os → SessV w v os
section
variable {w w' : World} {A : Option Addr} {n : Nat} {os : List OpT} {hs : List (List OpT)} {v : Value}
theorem OpsAt.len (h : OpsAt w A n os) : os.length = n := h.1
theorem OpsAt.below (h : OpsAt w A n os) (hb : Below w.heap.size w w') : OpsAt w' A n os :=
 ⟨h.1, h.2.1, fun hn => by
  obtain ⟨b, off, e, hbl, hc⟩ := h.2.2 hn;exact ⟨b, off, e, Nat.lt_of_lt_of_le hbl hb.size, fun j u hu => (hb.cell (p := ⟨b, off + j, none⟩) hbl).trans (hc j u hu)⟩⟩
theorem OpsAt.nil (w : World) (A : Option Addr) : OpsAt w A 0 [] := ⟨rfl, fun o h => (by cases h), fun h => absurd h (by omega)⟩
theorem OpsAt.at_ {k : Nat} (h : OpsAt w A n os) (hk : k < n) : ∃ b off o, A = some ⟨b, off, none⟩ ∧ b < w.heap.size ∧ os[k]? = some o ∧ ((-9223372036854775808 ≤ o.2.2 ∧ o.2.2 < 9223372036854775808) ∧ o.2.1.size ≤ 9223372036854775807) ∧
  w.cell? ⟨b, off + k * 3, none⟩ = some (.bool o.1) ∧ w.cell? ⟨b, off + k * 3 + 1, none⟩ = some (.string o.2.1) ∧ w.cell? ⟨b, off + k * 3 + 2, none⟩ = some (.int .i64 o.2.2) := by
 obtain ⟨b, off, e, hb, hc⟩ := h.2.2 (by omega);have hl : k < os.length := by rw [h.1]; exact hk
 have ho := List.getElem?_eq_getElem hl;obtain ⟨c0, c1, c2⟩ := cellsO_at ho;exact ⟨b, off, os[k], e, hb, ho, h.2.1 _ (List.getElem_mem hl), hc _ _ c0, hc _ _ c1, hc _ _ c2⟩
theorem OpsAt.of_own {base : Nat} {e : TypeId} (h : w.ownsRow base e 3 v n (cellsO os)) (ho : OkO os) (hl : os.length = n) : ∃ A c, v = .slice A n c ∧ OpsAt w A n os := by
 rcases h.2 with ⟨rfl, rfl⟩ | ⟨g, cap, cur, rfl, hbg, hg, hnc, hcm, hcs, htake⟩
 ·have : os = [] := List.eq_nil_of_length_eq_zero hl
  subst this;exact ⟨none, 0, rfl, OpsAt.nil _ _⟩
 ·refine ⟨_, _, rfl, hl, ho, fun _ => ⟨g, 0, rfl, (Array.getElem?_eq_some_iff.1 hg).1, fun j u hu => ?_⟩⟩
  rw [Nat.zero_add, cell_of_row w g j cur e (0, 0) hg];have hj : j < n * 3 := by
   have := (List.getElem?_eq_some_iff.1 hu).1;rw [cellsO_len, hl] at this;exact this
  rw [← htake, List.getElem?_take_of_lt hj] at hu
  simpa using hu
theorem SessV.below (h : SessV w v os) (hb : Below w.heap.size w w') : SessV w' v os := by
 obtain ⟨A, n, c, e, h1, h2, h3⟩ := h; exact ⟨A, n, c, e, h1, h2, h3.below hb⟩
theorem HistAt.len (h : HistAt w A n hs) : hs.length = n := by
 obtain ⟨vs, h1, h2, _⟩ := h; rw [← h2, h1.1]
theorem HistAt.below (h : HistAt w A n hs) (hb : Below w.heap.size w w') : HistAt w' A n hs := by
 obtain ⟨vs, h1, h2, h3⟩ := h; exact ⟨vs, h1.below hb, h2, fun i v os hv ho => (h3 i v os hv ho).below hb⟩
theorem HistAt.nil (w : World) (A : Option Addr) : HistAt w A 0 [] := ⟨[], Rd.nil _ _, rfl, fun i v os h => by simp at h⟩
theorem HistAt.at_ {k : Nat} (h : HistAt w A n hs) (hk : k < n) : ∃ b off B m c os, A = some ⟨b, off, none⟩ ∧ b < w.heap.size ∧ hs[k]? = some os ∧ w.cell? ⟨b, off + k, none⟩ = some (.slice B m c) ∧ m ≤ c ∧ m ≤ 9223372036854775807 ∧ OpsAt w B m os := by
 obtain ⟨vs, h1, h2, h3⟩ := h;obtain ⟨b, off, u, hA, hb, hu, hc⟩ := h1.at_ hk;have hl : k < hs.length := by rw [← h2, h1.1]; exact hk
 obtain ⟨B, m, c, e, h4, h5, h6⟩ := h3 k u hs[k] hu (List.getElem?_eq_getElem hl);subst e;exact ⟨b, off, B, m, c, hs[k], hA, hb, List.getElem?_eq_getElem hl, hc, h4, h5, h6⟩
end

/-! ### how many there are -/
theorem flat_take_succ {hs : List (List OpT)} {k : Nat} {os : List OpT} (h : hs[k]? = some os) : (hs.take (k + 1)).flatten = (hs.take k).flatten ++ os := by
 rw [List.take_succ_eq_append_getElem (List.getElem?_eq_some_iff.1 h).1, (List.getElem?_eq_some_iff.1 h).2, List.flatten_append]; simp
theorem flat_take_le (hs : List (List OpT)) (k : Nat) : (hs.take k).flatten.length ≤ hs.flatten.length := by
 have h : hs.flatten = (hs.take k).flatten ++ (hs.drop k).flatten := by rw [← List.flatten_append, List.take_append_drop]
 rw [h, List.length_append]; omega
theorem okO_append {a b : List OpT} (ha : OkO a) (hb : OkO b) : OkO (a ++ b) := fun o h => (List.mem_append.1 h).elim (ha o) (hb o)

theorem cellsO_one (os : List OpT) : ∀ u ∈ cellsO os, u.oneCell' = true := by
 intro u hu;unfold cellsO at hu;obtain ⟨o, _, h⟩ := List.mem_flatMap.1 hu;simp only [List.mem_cons, List.not_mem_nil, or_false] at h;rcases h with rfl | rfl | rfl <;> rfl
section
variable {P : Program} {w : World}
theorem wpList_append_ops {ops : Array Oper} {rest : List Oper} {o : Oper} {a : Act} {Q : Exit → Act → World → Prop} (hgd : o.guard = none) (s x : Operand) (t : TypeId)
  (ho : o.op = .call { callee := .builtin .append, args := #[s, x], argTypes := #[t, t] })
  (base : Nat) (e : TypeId) (i : TypeInfo) (z : Value) (ht : P.underlying t = some (.slice e)) (hi : P.info? e = some i) (hz : i.zero = some z)
  (hsize : i.size = 3) (hby : i.bytes = 32) (hzs : z.cells.size = 3)
  (v : Value) (n : Nat) (os : List OpT) (hs : a.eval s = v) (hown : w.ownsRow base e 3 v n (cellsO os))
  (A : Option Addr) (m c : Nat) (news : List OpT) (hx : a.eval x = .slice A m c) (hr : OpsAt w A m news)
  (hb : n + m ≤ 4398046511104) (hbase : base ≤ w.heap.size)
  (h : ∀ v' w', w'.ownsRow base e 3 v' (n + m) (cellsO (os ++ news)) → Below base w w' → wpList P ops Q rest (a.put o.dst v') w') :
  wpList P ops Q (o :: rest) a w := by
 rcases A with _ | ad
 ·have hm : m = 0 := by
   rcases Nat.eq_zero_or_pos m with h0 | h0
   ·exact h0
   ·obtain ⟨_, _, hh, _⟩ := hr.2.2 h0
    cases hh
  subst hm;have hn : news = [] := List.eq_nil_of_length_eq_zero hr.1;subst hn;refine wpList_plain hgd fun K hK => ?_;have hrun := run_append_nothing (P := P) (w := w) base t o.type e i 3 ht hi v n (cellsO os) hown c;unfold Oper.wp
  simp [execOp, ho, resolve, invoke, builtin, hs, hx, hrun, Result.andThen]
  exact hK _ _ (h v w (by simpa using hown) (Below.refl _ _))
 ·have hcells : ∀ j u, (cellsO news)[j]? = some u → w.cell? (ad.add j) = some u := by
   intro j u hu;have hj : 0 < m := by
    rcases Nat.eq_zero_or_pos m with h0 | h0
    ·subst h0; rw [List.eq_nil_of_length_eq_zero hr.1] at hu; simp [cellsO] at hu
    ·exact h0
   obtain ⟨b, off, hh, _, hc⟩ := hr.2.2 hj;injection hh with hh;subst hh;have he : (⟨b, off, none⟩ : Addr).add j = ⟨b, off + j, none⟩ := by unfold Addr.add; split <;> simp_all
   rw [he]; exact hc j u hu
  refine wpList_append_own_at w hgd s x t ho base e i z 3 32 ht hi hz hsize hby hzs (by omega) v n (cellsO os) hs hown ad m c (cellsO news) hx (by rw [cellsO_len, hr.1]) hcells (cellsO_one news) (by unfold maxLen; omega) (by omega) hbase ?_;intro v' w' hown' hg _ hat;rw [← cellsO_append] at hown';exact h v' w' hown' ((Below.refl _ _).grown hg hbase (oLb hown))
end
theorem OwnsRow.cap_le {w : World} {base n m c : Nat} {e : TypeId} {size : Nat} {A : Option Addr} {xs : List Value} (h : w.ownsRow base e size (.slice A m c) n xs) : m ≤ c := by
 rcases h.2 with ⟨hv, h0⟩ | ⟨g, cap, cur, hv, _, _, hnc, _⟩
 ·injection hv with _ h1 h2; omega
 ·injection hv with _ h1 h2; omega
def RetOps (t : TypeId) (os : List OpT) (w : World) (e : Ending) (w' : World) : Prop := ∃ A n c, e = .returned (.slice A n c) ∧ w'.ownsRow w.heap.size t 3 (.slice A n c) n (cellsO os) ∧ n = os.length ∧ OkO os ∧ OpsAt w' A n os ∧ n ≤ c ∧ Below w.heap.size w w'

/-! ### numbers and spots -/
def allO (hs : List (List OpT)) : List OpT := hs.flatten
theorem allO_cons (x : List OpT) (r : List (List OpT)) : allO (x :: r) = x ++ allO r := rfl
theorem allO_append (a b : List (List OpT)) : allO (a ++ b) = allO a ++ allO b := List.flatten_append
theorem allO_take_succ {hs : List (List OpT)} {k : Nat} {os : List OpT} (h : hs[k]? = some os) : allO (hs.take (k + 1)) = allO (hs.take k) ++ os := flat_take_succ h
theorem allO_take_le (hs : List (List OpT)) (k : Nat) : (allO (hs.take k)).length ≤ (allO hs).length := flat_take_le hs k
def spotN : List (List OpT) → Nat → Option (Nat × Nat)
 | [], _ => none
 | s :: r, i => if i < s.length then some (0, i) else (spotN r (i - s.length)).map fun x => (x.1 + 1, x.2)
theorem spotN_some : ∀ (hs : List (List OpT)) (i s p : Nat), spotN hs i = some (s, p) → s < hs.length ∧ p < (hs.getD s []).length ∧ (allO (hs.take s)).length + p = i ∧ (allO hs)[i]? = (hs.getD s [])[p]?
 | [], i, s, p, h => by simp [spotN] at h
 | x :: r, i, s, p, h => by
  unfold spotN at h;by_cases hi : i < x.length
  ·rw [if_pos hi] at h
   injection h with h;injection h with h1 h2;subst h1; subst h2;refine ⟨by simp, by simpa using hi, by simp [allO], ?_⟩;rw [allO_cons, List.getElem?_append_left hi]; rfl
  ·rw [if_neg hi] at h
   cases hr : spotN r (i - x.length) with
   | none => rw [hr] at h; simp at h
   | some y =>
    obtain ⟨s', p'⟩ := y;rw [hr] at h;simp at h;obtain ⟨rfl, rfl⟩ := h;obtain ⟨h1, h2, h3, h4⟩ := spotN_some r _ s' p' hr;refine ⟨by simpa using h1, by simpa using h2, ?_, ?_⟩
    ·rw [List.take_succ_cons, allO_cons, List.length_append]; omega
    ·rw [allO_cons, List.getElem?_append_right (by omega), h4]; rfl
def nameL (l : List UInt8) : Bool := l.all (fun c => decide (97 ≤ c.toNat) && decide (c.toNat ≤ 122)) && decide (1 ≤ l.length) && decide (l.length ≤ 8)
def rightL (hs : List (List OpT)) : Bool := (allO hs).all (fun o => nameL o.2.1.data.toList) && decide ((allO hs).length ≤ 4096)
def smallL (hs : List (List OpT)) (most : Int) : Bool := decide ((hs.length : Int) ≤ most) && decide (((allO hs).length : Int) ≤ most) && (allO hs).all (fun o => decide (o.2.1.size ≤ 20))
theorem smallL_says {hs : List (List OpT)} {most : Int} (h : smallL hs most = true) : (hs.length : Int) ≤ most ∧ ((allO hs).length : Int) ≤ most ∧ ∀ o ∈ allO hs, o.2.1.size ≤ 20 := by
 unfold smallL at h;simp only [Bool.and_eq_true, decide_eq_true_eq, List.all_eq_true] at h;exact ⟨h.1.1, h.1.2, h.2⟩

/-! ### histories of literals -/
theorem OpsAt.of_blk {w : World} {g : Nat} {t : TypeId} {os : List OpT} {n : Nat} (h : Blk w g t (cellsO os)) (ho : OkO os) (hn : os.length = n) : OpsAt w (some ⟨g, 0, none⟩) n os :=
 ⟨hn, ho, fun _ => ⟨g, 0, rfl, h.lt, fun j u hu => by rw [Nat.zero_add, h.cell]; exact hu⟩⟩
theorem HistAt.of_blk {w : World} {g : Nat} {t : TypeId} {vs : List Value} {hs : List (List OpT)} {n : Nat} (h : Blk w g t vs) (hn : vs.length = n) (hl : vs.length = hs.length) (hv : ∀ (i : Nat) (v : Value) (os : List OpT), vs[i]? = some v → hs[i]? = some os → SessV w v os) :
  HistAt w (some ⟨g, 0, none⟩) n hs :=
 ⟨vs, ⟨hn, fun _ => ⟨g, 0, rfl, h.lt, fun j u hu => by rw [Nat.zero_add, h.cell]; exact hu⟩⟩, hl, hv⟩
theorem HistAt.one {w : World} {g : Nat} {t : TypeId} {A : Option Addr} {n c : Nat} {os : List OpT} (h : Blk w g t [.slice A n c]) (hO : OpsAt w A n os) (hc : n ≤ c) (hn : n ≤ 9223372036854775807) : HistAt w (some ⟨g, 0, none⟩) 1 [os] :=
 HistAt.of_blk h rfl rfl (fun i v o hv ho => by
  match i with
  | 0 =>
   simp at hv ho;subst hv; subst ho;exact ⟨A, n, c, rfl, hc, hn, hO⟩
  | i + 1 => simp at hv)
def RetBool (b : Bool) (w : World) (e : Ending) (w' : World) : Prop := e = .returned (.bool b) ∧ Below w.heap.size w w'


def findZ : List ByteArray → ByteArray → Int
 | [], _ => -1
 | x :: r, s => if x = s then 0 else if findZ r s < 0 then -1 else findZ r s + 1
theorem findZ_range : ∀ (l : List ByteArray) (s : ByteArray), -1 ≤ findZ l s ∧ findZ l s < l.length
 | [], s => by simp [findZ]
 | x :: r, s => by
  have := findZ_range r s;unfold findZ;simp only [List.length_cons]
  split
  ·omega
  ·split <;> omega
theorem findZ_none {l : List ByteArray} {s : ByteArray} (h : ∀ i, i < l.length → l[i]? ≠ some s) : findZ l s = -1 := by
 induction l with
 | nil => rfl
 | cons x r ih =>
  have h0 := h 0 (by simp);have hr := ih (fun i hi e => h (i + 1) (by simp; omega) (by simpa using e));unfold findZ;rw [if_neg (fun e => h0 (by rw [e]; rfl)), hr, if_pos (by omega)]
theorem findZ_at {l : List ByteArray} {s : ByteArray} {k : Nat} (hk : l[k]? = some s) (h : ∀ i, i < k → l[i]? ≠ some s) : findZ l s = k := by
 induction l generalizing k with
 | nil => simp at hk
 | cons x r ih =>
  unfold findZ
  cases k with
  | zero => simp at hk; rw [if_pos hk]; rfl
  | succ k =>
   have h0 := h 0 (by omega);have hr := ih (k := k) (by simpa using hk) (fun i hi e => h (i + 1) (by omega) (by simpa using e));rw [if_neg (fun e => h0 (by rw [e]; rfl)), hr, if_neg (by omega)]; omega
theorem findZ_snoc {l : List ByteArray} {s : ByteArray} (h : findZ l s < 0) : findZ (l ++ [s]) s = l.length := by
 induction l with
 | nil => simp [findZ]
 | cons x l ih =>
  unfold findZ at h;rw [List.cons_append];unfold findZ;by_cases hx : x = s
  ·rw [if_pos hx] at h; omega
  ·rw [if_neg hx] at h ⊢
   have h0 : findZ l s < 0 := by
    rcases Int.lt_or_le (findZ l s) 0 with h' | h'
    ·exact h'
    ·rw [if_neg (by omega)] at h; omega
   rw [ih h0, if_neg (by omega), List.length_cons]; omega
theorem findZ_get {l : List ByteArray} {s : ByteArray} (h : 0 ≤ findZ l s) : l[(findZ l s).toNat]? = some s := by
 induction l with
 | nil => simp [findZ] at h
 | cons x l ih =>
  unfold findZ at h ⊢;by_cases hx : x = s
  ·rw [if_pos hx, hx]; rfl
  ·rw [if_neg hx] at h ⊢
   have h0 : ¬ findZ l s < 0 := by
    intro hlt; rw [if_pos hlt] at h; omega
   rw [if_neg h0, show (findZ l s + 1).toNat = (findZ l s).toNat + 1 from by omega, List.getElem?_cons_succ];exact ih (by omega)
theorem findZ_mem {l : List ByteArray} {s : ByteArray} : 0 ≤ findZ l s ↔ s ∈ l := by
 constructor
 ·intro h; exact List.mem_of_getElem? (findZ_get h)
 ·intro h
  induction l with
  | nil => cases h
  | cons x l ih =>
   unfold findZ;by_cases hx : x = s
   ·rw [if_pos hx]; omega
   ·rw [if_neg hx]
    have := ih ((List.mem_cons.1 h).resolve_left (fun e => hx e.symm));rw [if_neg (by omega)]; omega
def addV (vs : List ByteArray) (s : ByteArray) : List ByteArray := if findZ vs s < 0 then vs ++ [s] else vs
theorem addV_new {vs : List ByteArray} {s : ByteArray} (h : findZ vs s < 0) : addV vs s = vs ++ [s] := if_pos h
theorem addV_old {vs : List ByteArray} {s : ByteArray} (h : ¬ findZ vs s < 0) : addV vs s = vs := if_neg h
theorem addV_find (vs : List ByteArray) (s : ByteArray) : findZ (addV vs s) s = if findZ vs s < 0 then (vs.length : Int) else findZ vs s := by
 by_cases h : findZ vs s < 0
 ·rw [addV_new h, if_pos h, findZ_snoc h]
 ·rw [addV_old h, if_neg h]
theorem addV_mem (vs : List ByteArray) (s : ByteArray) : s ∈ addV vs s := by
 by_cases h : findZ vs s < 0
 ·rw [addV_new h]; simp
 ·rw [addV_old h]; exact findZ_mem.1 (by omega)
theorem addV_len (vs : List ByteArray) (s : ByteArray) : vs.length ≤ (addV vs s).length ∧ (addV vs s).length ≤ vs.length + 1 := by
 by_cases hf : findZ vs s < 0
 ·rw [addV_new hf]; simp
 ·rw [addV_old hf]; omega

theorem snoc_ind {α : Type} {p : List α → Prop} (h0 : p []) (h1 : ∀ l x, p l → p (l ++ [x])) : ∀ l, p l := by
 intro l;rw [← List.reverse_reverse l]
 induction l.reverse with
 | nil => exact h0
 | cons x r ih => rw [List.reverse_cons]; exact h1 _ _ ih
abbrev StF := List ByteArray × List It
def oneF (se : Nat) (st : StF) (x : OpT × Nat) : StF := (addV st.1 x.1.2.1, st.2 ++ [⟨se, x.2, x.1.1, findZ (addV st.1 x.1.2.1) x.1.2.1, x.1.2.2⟩])
def sesF (se : Nat) (os : List OpT) (st : StF) : StF := os.zipIdx.foldl (oneF se) st
def hisF (hs : List (List OpT)) : StF := hs.zipIdx.foldl (fun st x => sesF x.2 x.1 st) ([], [])
def facO (hs : List (List OpT)) : Fac := ⟨(hisF hs).1, (hisF hs).2, []⟩
theorem sesF_nil (se : Nat) (st : StF) : sesF se [] st = st := rfl
theorem sesF_snoc (se : Nat) (os : List OpT) (o : OpT) (st : StF) : sesF se (os ++ [o]) st = oneF se (sesF se os st) (o, os.length) := by
 unfold sesF; rw [List.zipIdx_append, List.foldl_append]; simp
theorem hisF_nil : hisF [] = ([], []) := rfl
theorem hisF_snoc (hs : List (List OpT)) (os : List OpT) : hisF (hs ++ [os]) = sesF hs.length os (hisF hs) := by
 unfold hisF; rw [List.zipIdx_append, List.foldl_append]; simp
theorem sesF_len (se : Nat) (os : List OpT) (st : StF) : (sesF se os st).2.length = st.2.length + os.length ∧ (sesF se os st).1.length ≤ st.1.length + os.length := by
 induction os using snoc_ind with
 | h0 => exact ⟨rfl, Nat.le_refl _⟩
 | h1 os o ih =>
  rw [sesF_snoc];have := (addV_len (sesF se os st).1 o.2.1).2;simp only [oneF, List.length_append, List.length_cons, List.length_nil]
  omega
theorem hisF_len (hs : List (List OpT)) : (hisF hs).2.length = (allO hs).length := by
 induction hs using snoc_ind with
 | h0 => rfl
 | h1 hs os ih =>
  rw [hisF_snoc, (sesF_len hs.length os (hisF hs)).1, ih, allO_append, List.length_append]
  simp [allO]


theorem sesF_front (se : Nat) (os : List OpT) (o : OpT) (st : StF) : ∃ r, (sesF se (os ++ [o]) st).1 = (sesF se os st).1 ++ r := by
 rw [sesF_snoc]
 show ∃ r, addV _ _ = _
 by_cases h : findZ (sesF se os st).1 o.2.1 < 0
 ·exact ⟨[o.2.1], addV_new h⟩
 ·exact ⟨[], by rw [addV_old h]; simp⟩
theorem sesF_first (se : Nat) (os : List OpT) (st : StF) : ∃ r, (sesF se os st).1 = st.1 ++ r := by
 induction os using snoc_ind with
 | h0 => exact ⟨[], by simp [sesF_nil]⟩
 | h1 os o ih =>
  obtain ⟨r, hr⟩ := ih;obtain ⟨q, hq⟩ := sesF_front se os o st;exact ⟨r ++ q, by rw [hq, hr, List.append_assoc]⟩

theorem spotN_front : ∀ (hs : List (List OpT)) (os : List OpT) (i : Nat), i < (allO hs).length → spotN (hs ++ [os]) i = spotN hs i
 | [], os, i, h => by simp [allO] at h
 | x :: r, os, i, h => by
  have h' : i < x.length + (allO r).length := by rw [← List.length_append, ← allO_cons]; exact h
  rw [List.cons_append];unfold spotN;by_cases hi : i < x.length
  ·rw [if_pos hi, if_pos hi]
  ·rw [if_neg hi, if_neg hi, spotN_front r os _ (by omega)]
theorem spotN_last : ∀ (hs : List (List OpT)) (os : List OpT) (i : Nat), i < os.length → spotN (hs ++ [os]) ((allO hs).length + i) = some (hs.length, i)
 | [], os, i, h => by
  show spotN [os] (0 + i) = _
  unfold spotN;rw [Nat.zero_add, if_pos h]; rfl
 | x :: r, os, i, h => by
  rw [List.cons_append];unfold spotN;have e : (allO (x :: r)).length = x.length + (allO r).length := by rw [allO_cons, List.length_append]
  rw [if_neg (by omega), show (allO (x :: r)).length + i - x.length = (allO r).length + i from by omega, spotN_last r os i h]
  simp
theorem sesF_items (se : Nat) (os : List OpT) (st : StF) : ∃ l, (sesF se os st).2 = st.2 ++ l ∧ l.length = os.length ∧
  ∀ (i : Nat) (o : OpT), os[i]? = some o → ∃ va : Int, l[i]? = some ⟨se, i, o.1, va, o.2.2⟩ ∧ 0 ≤ va ∧ (sesF se os st).1[va.toNat]? = some o.2.1 := by
 induction os using snoc_ind with
 | h0 => exact ⟨[], by simp [sesF_nil], rfl, fun i o h => by simp at h⟩
 | h1 os o ih =>
  obtain ⟨l, h1, h2, h3⟩ := ih;obtain ⟨q, hq⟩ := sesF_front se os o st;have e2 : (sesF se (os ++ [o]) st).2 = (sesF se os st).2 ++ [⟨se, os.length, o.1, findZ (addV (sesF se os st).1 o.2.1) o.2.1, o.2.2⟩] := by rw [sesF_snoc]; rfl
  have e1 : (sesF se (os ++ [o]) st).1 = addV (sesF se os st).1 o.2.1 := by rw [sesF_snoc]; rfl
  refine ⟨l ++ [⟨se, os.length, o.1, findZ (addV (sesF se os st).1 o.2.1) o.2.1, o.2.2⟩], by rw [e2, h1, List.append_assoc], by simp [h2], fun i x hx => ?_⟩;rcases Nat.lt_or_ge i os.length with hlt | hge
  ·rw [List.getElem?_append_left hlt] at hx
   obtain ⟨va, g1, g2, g3⟩ := h3 i x hx;refine ⟨va, by rw [List.getElem?_append_left (by omega)]; exact g1, g2, ?_⟩;rw [hq, List.getElem?_append_left (List.getElem?_eq_some_iff.1 g3).1]; exact g3
  ·have hi : i = os.length := by
    have := (List.getElem?_eq_some_iff.1 hx).1;simp at this; omega
   subst hi;simp at hx;subst hx;have hm := findZ_mem.2 (addV_mem (sesF se os st).1 o.2.1);refine ⟨findZ (addV (sesF se os st).1 o.2.1) o.2.1, by rw [← h2]; simp, hm, ?_⟩;rw [e1]; exact findZ_get hm
theorem hisF_item (hs : List (List OpT)) : ∀ (i : Nat) (o : OpT), (allO hs)[i]? = some o →
  ∃ (s p : Nat) (va : Int), spotN hs i = some (s, p) ∧ (hisF hs).2[i]? = some ⟨s, p, o.1, va, o.2.2⟩ ∧ 0 ≤ va ∧ (hisF hs).1[va.toNat]? = some o.2.1 := by
 induction hs using snoc_ind with
 | h0 => intro i o h; simp [allO] at h
 | h1 hs os ih =>
  intro i o h;rw [hisF_snoc];obtain ⟨l, h1, h2, h3⟩ := sesF_items hs.length os (hisF hs);obtain ⟨q, hq⟩ := sesF_first hs.length os (hisF hs);have hl := hisF_len hs;have ho : allO [os] = os := by simp [allO]
  rw [allO_append, ho] at h;rcases Nat.lt_or_ge i (allO hs).length with hlt | hge
  ·rw [List.getElem?_append_left hlt] at h
   obtain ⟨s, p, va, g1, g2, g3, g4⟩ := ih i o h;refine ⟨s, p, va, by rw [spotN_front hs os i hlt]; exact g1, by rw [h1, List.getElem?_append_left (by omega)]; exact g2, g3, ?_⟩;rw [hq, List.getElem?_append_left (List.getElem?_eq_some_iff.1 g4).1]; exact g4
  ·rw [List.getElem?_append_right hge] at h
   obtain ⟨k, rfl⟩ : ∃ k, i = (allO hs).length + k := ⟨i - (allO hs).length, by omega⟩;rw [Nat.add_sub_cancel_left] at h;obtain ⟨va, g1, g2, g3⟩ := h3 k o h;refine ⟨hs.length, k, va, spotN_last hs os k (List.getElem?_eq_some_iff.1 h).1, ?_, g2, g3⟩;rw [h1, List.getElem?_append_right (by omega), hl, Nat.add_sub_cancel_left]; exact g1

def pcF : Nat → Nat → Nat
 | 0, _ => 0
 | k + 1, x => x % 2 + pcF k (x / 2)
def ffF : Nat → Nat → Nat
 | 0, _ => 0
 | k + 1, x => if x % 2 = 1 then 0 else 1 + ffF k (x / 2)
def dsF (b : Nat) : Nat → Nat → Nat
 | 0, _ => 0
 | n + 1, x => x % b + dsF b n (x / b)
def bitZ (i : Int) : Int := if 0 ≤ i ∧ i < 64 then 2 ^ i.toNat else 0
def hasB (x : Nat) (i : Int) : Bool := decide (0 ≤ i) && x.testBit i.toNat

theorem pcF_zero (k : Nat) : pcF k 0 = 0 := by induction k with | zero => rfl | succ k ih => simp [pcF, ih]
theorem pcF_le (k x : Nat) : pcF k x ≤ k := by
 induction k generalizing x with
 | zero => simp [pcF]
 | succ k ih => simp only [pcF]; have := ih (x / 2); omega
theorem ffF_le (k x : Nat) : ffF k x ≤ k := by
 induction k generalizing x with
 | zero => simp [ffF]
 | succ k ih => simp only [ffF]; have := ih (x / 2); split <;> omega
theorem pcF_snoc (k x : Nat) : pcF (k + 1) x = pcF k x + (x.testBit k).toNat := by
 induction k generalizing x with
 | zero => simp [pcF, Nat.testBit_zero]; rcases Nat.mod_two_eq_zero_or_one x with h | h <;> simp [h]
 | succ k ih => rw [pcF, ih, pcF, Nat.testBit_succ]; omega
theorem ffF_bit (k x : Nat) (h : ffF k x < k) : x.testBit (ffF k x) = true := by
 induction k generalizing x with
 | zero => omega
 | succ k ih =>
  rw [ffF] at h ⊢
  split at h
  ·rename_i h1; rw [if_pos h1, Nat.testBit_zero]; simp [h1]
  ·rename_i h1; rw [if_neg h1, Nat.add_comm 1, Nat.testBit_succ]; exact ih _ (by omega)
theorem ffF_low (k x : Nat) : x % 2 ^ (ffF k x) = 0 := by
 induction k generalizing x with
 | zero => simp [ffF, Nat.mod_one]
 | succ k ih =>
  rw [ffF]
  split
  ·simp [Nat.mod_one]
  ·rename_i h1
   have e : x % 2 ^ (ffF k (x / 2) + 1) = x % 2 + 2 * (x / 2 % 2 ^ (ffF k (x / 2))) := by
    rw [Nat.pow_succ, Nat.mul_comm, Nat.mod_mul]
   rw [Nat.add_comm 1, e, ih]; omega
theorem ffF_before (k x j : Nat) (h : j < ffF k x) : x.testBit j = false := by
 have h0 := ffF_low k x;have e : (x % 2 ^ (ffF k x)).testBit j = (decide (j < ffF k x) && x.testBit j) := Nat.testBit_mod_two_pow _ _ _;rw [h0] at e; simpa [h] using e.symm

/-! ### 'and' by halves -/
theorem and_cut (k x y : Nat) : x &&& y = 2 ^ k * (x / 2 ^ k &&& y / 2 ^ k) + (x % 2 ^ k &&& y % 2 ^ k) := by
 have h1 : (x &&& y) / 2 ^ k = x / 2 ^ k &&& y / 2 ^ k := Nat.and_div_two_pow;have h2 : (x &&& y) % 2 ^ k = x % 2 ^ k &&& y % 2 ^ k := Nat.and_mod_two_pow;rw [← h1, ← h2]; exact (Nat.div_add_mod _ _).symm
theorem and_bits (a b c d : Nat) (hb : b < 2) (hd : d < 2) : (2 * a + b) &&& (2 * c + d) = 2 * (a &&& c) + (b &&& d) := by
 rw [and_cut 1]; simp only [Nat.pow_one];rw [show (2 * a + b) / 2 = a from by omega, show (2 * c + d) / 2 = c from by omega, show (2 * a + b) % 2 = b from by omega, show (2 * c + d) % 2 = d from by omega]

theorem and_comp (k v : Nat) (h : v < 2 ^ k) : v &&& (2 ^ k - 1 - v) = 0 := by
 apply Nat.eq_of_testBit_eq; intro i
 rw [Nat.testBit_and, show 2 ^ k - 1 - v = 2 ^ k - (v + 1) from by omega, Nat.testBit_two_pow_sub_succ h]
 cases v.testBit i <;> simp

theorem low_bits (k w : Nat) (h : w < 2 ^ k) : ((w + (2 ^ k - 1)) % 2 ^ k) &&& (2 ^ k - 1 - w) = 2 ^ (ffF k w) - 1 := by
 induction k generalizing w with
 | zero => simp [ffF]
 | succ k ih =>
  have hp : 2 ^ (k + 1) = 2 * 2 ^ k := by rw [Nat.pow_succ]; omega
  have hpos : 0 < 2 ^ k := Nat.two_pow_pos k;rw [ffF];by_cases h1 : w % 2 = 1
  ·rw [if_pos h1]
   obtain ⟨v, rfl⟩ : ∃ v, w = 2 * v + 1 := ⟨w / 2, by omega⟩;have hv : v < 2 ^ k := by omega
   have e1 : (2 * v + 1 + (2 ^ (k + 1) - 1)) % 2 ^ (k + 1) = 2 * v + 0 := by
    rw [show 2 * v + 1 + (2 ^ (k + 1) - 1) = 2 * v + 2 ^ (k + 1) from by omega, Nat.add_mod_right, Nat.mod_eq_of_lt (by omega)]; rfl
   have e2 : 2 ^ (k + 1) - 1 - (2 * v + 1) = 2 * (2 ^ k - 1 - v) + 0 := by omega
   rw [e1, e2, and_bits _ _ _ _ (by omega) (by omega), and_comp k v hv]; rfl
  ·rw [if_neg h1]
   obtain ⟨v, rfl⟩ : ∃ v, w = 2 * v := ⟨w / 2, by omega⟩;have hv : v < 2 ^ k := by omega
   have ev : 2 * v / 2 = v := by omega
   have e1 : (2 * v + (2 ^ (k + 1) - 1)) % 2 ^ (k + 1) = 2 * ((v + (2 ^ k - 1)) % 2 ^ k) + 1 := by
    by_cases hz : v = 0
    ·subst hz; rw [Nat.mod_eq_of_lt (by omega), Nat.mod_eq_of_lt (by omega)]; omega
    ·rw [show 2 * v + (2 ^ (k + 1) - 1) = (2 * v - 1) + 2 ^ (k + 1) from by omega, Nat.add_mod_right, Nat.mod_eq_of_lt (by omega),
      show v + (2 ^ k - 1) = (v - 1) + 2 ^ k from by omega, Nat.add_mod_right, Nat.mod_eq_of_lt (by omega)]; omega
   have e2 : 2 ^ (k + 1) - 1 - 2 * v = 2 * (2 ^ k - 1 - v) + 1 := by omega
   rw [e1, e2, and_bits _ _ _ _ (by omega) (by omega), ih v hv, ev, Nat.add_comm 1, Nat.pow_succ];have := Nat.two_pow_pos (ffF k v)
   simp; omega

theorem pcF_ones (k n : Nat) (h : n ≤ k) : pcF k (2 ^ n - 1) = n := by
  induction k generalizing n with
  | zero => obtain rfl : n = 0 := by omega
            rfl
  | succ k ih =>
    cases n with
    | zero => simp [pcF_zero]
    | succ n =>
      have := Nat.two_pow_pos n
      have e : 2 ^ (n + 1) = 2 * 2 ^ n := by rw [Nat.pow_succ]; omega
      rw [pcF, show (2 ^ (n + 1) - 1) / 2 = 2 ^ n - 1 from by omega, ih n (by omega), show (2 ^ (n + 1) - 1) % 2 = 1 from by omega]; omega

/-! ### sums of neighbouring fields -/
def maskF (m : Nat) : Nat → Nat
 | 0 => 0
 | n + 1 => 2 ^ (2 * m) * maskF m n + (2 ^ m - 1)
theorem mask_and (m n x : Nat) : x &&& maskF m (n + 1) = 2 ^ (2 * m) * (x / 2 ^ (2 * m) &&& maskF m n) + x % 2 ^ m := by
 have hm : 2 ^ m ≤ 2 ^ (2 * m) := Nat.pow_le_pow_right (by omega) (by omega);have hp := Nat.two_pow_pos m;rw [maskF, and_cut (2 * m)];have e1 : (2 ^ (2 * m) * maskF m n + (2 ^ m - 1)) / 2 ^ (2 * m) = maskF m n := by
  rw [Nat.mul_add_div (by omega), Nat.div_eq_of_lt (by omega)]; rfl
 have e2 : (2 ^ (2 * m) * maskF m n + (2 ^ m - 1)) % 2 ^ (2 * m) = 2 ^ m - 1 := by
  rw [Nat.mul_add_mod, Nat.mod_eq_of_lt (by omega)]
 rw [e1, e2, Nat.and_two_pow_sub_one_eq_mod, Nat.mod_mod_of_dvd _ (Nat.pow_dvd_pow 2 (by omega))]
def halvesF (m n x : Nat) : Nat := (x &&& maskF m n) + (x / 2 ^ m &&& maskF m n)
theorem halves_succ (m n x : Nat) : halvesF m (n + 1) x = 2 ^ (2 * m) * halvesF m n (x / 2 ^ (2 * m)) + (x % 2 ^ m + x / 2 ^ m % 2 ^ m) := by
 unfold halvesF;rw [mask_and, mask_and, Nat.div_div_eq_div_mul, Nat.div_div_eq_div_mul, Nat.mul_comm (2 ^ m) (2 ^ (2 * m)), Nat.mul_add]
 omega
theorem dsF_halves (m n x : Nat) (hm : 0 < m) : dsF (2 ^ (2 * m)) n (halvesF m n x) = dsF (2 ^ m) (2 * n) x := by
 induction n generalizing x with
 | zero => rfl
 | succ n ih =>
  have h2 : 2 ^ (2 * m) = 2 ^ m * 2 ^ m := by rw [← Nat.pow_add]; congr 1; omega
  have hlo : 2 * 2 ^ m ≤ 2 ^ m * 2 ^ m := Nat.mul_le_mul_right _ (by
   have := Nat.pow_le_pow_right (n := 2) (by omega) hm; simpa using this)
  have l1 := Nat.mod_lt x (Nat.two_pow_pos m);have l2 := Nat.mod_lt (x / 2 ^ m) (Nat.two_pow_pos m);have hs : x % 2 ^ m + x / 2 ^ m % 2 ^ m < 2 ^ (2 * m) := by omega
  have d1 : (2 ^ (2 * m) * halvesF m n (x / 2 ^ (2 * m)) + (x % 2 ^ m + x / 2 ^ m % 2 ^ m)) / 2 ^ (2 * m) = halvesF m n (x / 2 ^ (2 * m)) := by
   rw [Nat.mul_add_div (by omega), Nat.div_eq_of_lt hs]; rfl
  have d2 : (2 ^ (2 * m) * halvesF m n (x / 2 ^ (2 * m)) + (x % 2 ^ m + x / 2 ^ m % 2 ^ m)) % 2 ^ (2 * m) = x % 2 ^ m + x / 2 ^ m % 2 ^ m := by
   rw [Nat.mul_add_mod, Nat.mod_eq_of_lt hs]
  rw [halves_succ, dsF, d1, d2, ih, show 2 * (n + 1) = (2 * n + 1) + 1 from by omega, dsF, dsF, Nat.div_div_eq_div_mul, ← h2]
  omega
theorem halves_lt (m n x : Nat) (hm : 0 < m) : halvesF m n x < 2 ^ (2 * m * n) := by
 induction n generalizing x with
 | zero => simp [halvesF, maskF]
 | succ n ih =>
  have h2 : 2 ^ (2 * m) = 2 ^ m * 2 ^ m := by rw [← Nat.pow_add]; congr 1; omega
  have hlo : 2 * 2 ^ m ≤ 2 ^ m * 2 ^ m := Nat.mul_le_mul_right _ (by
   have := Nat.pow_le_pow_right (n := 2) (by omega) hm; simpa using this)
  have l1 := Nat.mod_lt x (Nat.two_pow_pos m);have l2 := Nat.mod_lt (x / 2 ^ m) (Nat.two_pow_pos m);rw [halves_succ, Nat.mul_succ, Nat.pow_add, Nat.mul_comm (2 ^ (2 * m * n))];have hq := ih (x / 2 ^ (2 * m));have : 2 ^ (2 * m) * halvesF m n (x / 2 ^ (2 * m)) + 2 ^ (2 * m) ≤ 2 ^ (2 * m) * 2 ^ (2 * m * n) := by
   have := Nat.mul_le_mul_left (2 ^ (2 * m)) (Nat.succ_le_of_lt hq)
   rwa [Nat.mul_succ] at this
  omega
theorem dsF_two (n x : Nat) : dsF 2 n x = pcF n x := by
 induction n generalizing x with
 | zero => rfl
 | succ n ih => rw [dsF, pcF, ih]

/-! ### of 64 bits -/
def pop (x : Nat) : Nat := pcF 64 x
def low0 (x : Nat) : Nat := ffF 64 x
theorem pop_def (x : Nat) : pop x = pcF 64 x := rfl
theorem low0_def (x : Nat) : low0 x = ffF 64 x := rfl
attribute [irreducible] pop low0
theorem pop_le (x : Nat) : pop x ≤ 64 := by rw [pop_def]; exact pcF_le 64 x
theorem low0_le (x : Nat) : low0 x ≤ 64 := by rw [low0_def]; exact ffF_le 64 x
theorem pop_ones (n : Nat) (h : n ≤ 64) : pop (2 ^ n - 1) = n := by rw [pop_def]; exact pcF_ones 64 n h
theorem low0_bit (x : Nat) (h : low0 x < 64) : x.testBit (low0 x) = true := by rw [low0_def] at h ⊢; exact ffF_bit 64 x h
theorem low0_before (x j : Nat) (h : j < low0 x) : x.testBit j = false := by rw [low0_def] at h; exact ffF_before 64 x j h


theorem ret_u64 {a b : Int} (h : a = b) : Ending.returned (.int .u64 a) = .returned (.int .u64 b) := by rw [h]
theorem ret_i64 {a b : Int} (h : a = b) : Ending.returned (.int .i64 a) = .returned (.int .i64 b) := by rw [h]
theorem ret_bool {a b : Bool} (h : a = b) : Ending.returned (.bool a) = .returned (.bool b) := by rw [h]

theorem shift_min (i : Int) (h1 : -9223372036854775808 ≤ i) (h2 : i < 9223372036854775808) :
  min (IntKind.u64.wrap i).toNat 64 = if 0 ≤ i then min i.toNat 64 else 64 := by
 rw [IntKind.wrap_u64]; split <;> omega
theorem wrap_pow (n : Nat) (h : n ≤ 64) : IntKind.u64.wrap (2 ^ n) = if n < 64 then 2 ^ n else 0 := by
 rw [IntKind.wrap_u64];by_cases hn : n < 64
 ·rw [if_pos hn]
  have : (2 : Nat) ^ n < 2 ^ 64 := Nat.pow_lt_pow_right (by omega) hn;have h2 : ((2 ^ n : Nat) : Int) = (2 : Int) ^ n := by simp
  rw [← h2]; generalize 2 ^ n = q at *; omega
 ·obtain rfl : n = 64 := by omega
  rfl
theorem bit_eq (i : Int) (h1 : -9223372036854775808 ≤ i) (h2 : i < 9223372036854775808) :
  IntKind.u64.wrap (2 ^ min (IntKind.u64.wrap i).toNat 64) = bitZ i := by
 rw [shift_min i h1 h2, wrap_pow _ (by split <;> omega)];unfold bitZ;by_cases h0 : 0 ≤ i
 ·rw [if_pos h0]
  by_cases h3 : i < 64
  ·rw [if_pos (by omega), if_pos ⟨h0, h3⟩, show min i.toNat 64 = i.toNat from by omega]
  ·rw [if_neg (by omega), if_neg (by omega)]
 ·rw [if_neg h0, if_neg (by omega), if_neg (by omega)]

theorem word_Bit (i : Int) (h1 : -9223372036854775808 ≤ i) (h2 : i < 9223372036854775808) (w : World) :
  Calls Tryz.prog 78 #[.int .i64 i] w fun e w' => e = .returned (.int .u64 (bitZ i)) ∧ w = w' := by
 go_enter Tryz.func78, Tryz.ntmps78
 go_wp2
 go_ret;exact ⟨ret_u64 (bit_eq i h1 h2), rfl⟩

theorem has_eq (x : Nat) (hx : x < 18446744073709551616) (i : Int) (h1 : -9223372036854775808 ≤ i) (h2 : i < 9223372036854775808) :
  (bits BinOp.and IntKind.u64 (↑x / 2 ^ min (IntKind.u64.wrap i).toNat 64) 1 == 1) = hasB x i := by
 rw [shift_min i h1 h2]
 generalize hn : (if 0 ≤ i then min i.toNat 64 else 64) = n
 have e : ((x : Int) / 2 ^ n) = ((x / 2 ^ n : Nat) : Int) := by simp
 rw [e, show (1 : Int) = ((1 : Nat) : Int) from rfl, u64_and_nat _ _ (Nat.lt_of_le_of_lt (Nat.div_le_self _ _) hx) (by omega), Nat.and_one_is_mod];unfold hasB;by_cases h0 : 0 ≤ i
 ·rw [if_pos h0] at hn
  have ht : x.testBit i.toNat = x.testBit n := by
   by_cases h3 : i.toNat < 64
   ·rw [← hn, show min i.toNat 64 = i.toNat from by omega]
   ·have hl : ∀ j, 64 ≤ j → x.testBit j = false := fun j hj =>
     Nat.testBit_lt_two_pow (Nat.lt_of_lt_of_le hx (by rw [show (18446744073709551616 : Nat) = 2 ^ 64 from rfl]; exact Nat.pow_le_pow_right (by omega) hj))
    rw [hl _ (by omega), hl n (by omega)]
  rw [ht, Nat.testBit_eq_decide_div_mod_eq];simp only [h0, decide_true, Bool.true_and];rw [Bool.eq_iff_iff]; simp; omega
 ·rw [if_neg h0] at hn
  subst hn;have : x / 2 ^ 64 = 0 := Nat.div_eq_of_lt hx
  simp [h0, this]

theorem word_Has (x : Nat) (hx : x < 18446744073709551616) (i : Int) (h1 : -9223372036854775808 ≤ i) (h2 : i < 9223372036854775808) (w : World) :
  Calls Tryz.prog 114 #[.int .u64 x, .int .i64 i] w fun e w' => e = .returned (.bool (hasB x i)) ∧ w = w' := by
 have H := Hd (has_eq x hx i h1 h2)
 go_enter Tryz.func114, Tryz.ntmps114
 go_wp2
 go_ret;exact ⟨ret_bool H.out, rfl⟩

theorem halves_eq (x : Nat) (hx : x < 18446744073709551616) (m n : Nat) (hm : 0 < m) (hn : 2 * m * n = 64) (c d : Int) (hc : c = ((maskF m n : Nat) : Int)) (hl : maskF m n < 18446744073709551616) (hd : d = ((2 ^ m : Nat) : Int)) :
  IntKind.u64.wrap (bits BinOp.and IntKind.u64 (↑x) c + bits BinOp.and IntKind.u64 (↑x / d) c) = ((halvesF m n x : Nat) : Int) := by
 subst hc; subst hd;rw [show ((x : Int) / ((2 ^ m : Nat) : Int)) = ((x / 2 ^ m : Nat) : Int) from (Int.natCast_ediv _ _).symm];rw [u64_and_nat _ _ hx hl, u64_and_nat _ _ (Nat.lt_of_le_of_lt (Nat.div_le_self _ _) hx) hl, ← Int.natCast_add];have := halves_lt m n x hm;rw [hn] at this;unfold halvesF at this ⊢;rw [IntKind.wrap_u64]; omega

def by8 (b0 b1 b2 b3 b4 b5 b6 b7 : Nat) : Nat := b0 + 256 * (b1 + 256 * (b2 + 256 * (b3 + 256 * (b4 + 256 * (b5 + 256 * (b6 + 256 * b7))))))
theorem bytes8 (x : Nat) (hx : x < 18446744073709551616) : ∃ b0 b1 b2 b3 b4 b5 b6 b7 : Nat, x = by8 b0 b1 b2 b3 b4 b5 b6 b7 ∧ dsF 256 8 x = b0 + b1 + b2 + b3 + b4 + b5 + b6 + b7 := by
 refine ⟨x % 256, x / 256 % 256, x / 256 / 256 % 256, x / 256 / 256 / 256 % 256, x / 256 / 256 / 256 / 256 % 256, x / 256 / 256 / 256 / 256 / 256 % 256, x / 256 / 256 / 256 / 256 / 256 / 256 % 256, x / 256 / 256 / 256 / 256 / 256 / 256 / 256 % 256, ?_, ?_⟩
 ·unfold by8; omega
 ·simp only [dsF]; omega
theorem wrap_of (n : Nat) (h : n < 18446744073709551616) : IntKind.u64.wrap (n : Int) = n := by rw [IntKind.wrap_u64]; omega
theorem by8_one (b0 b1 b2 b3 b4 b5 b6 b7 : Nat) (h : b0 + b1 + b2 + b3 + b4 + b5 + b6 + b7 ≤ 64) :
  by8 b0 b1 b2 b3 b4 b5 b6 b7 + by8 b0 b1 b2 b3 b4 b5 b6 b7 / 256 = by8 (b0 + b1) (b1 + b2) (b2 + b3) (b3 + b4) (b4 + b5) (b5 + b6) (b6 + b7) b7 := by unfold by8; omega
theorem by8_two (b0 b1 b2 b3 b4 b5 b6 b7 : Nat) (h0 : b0 < 256) (h1 : b1 < 256) :
  by8 b0 b1 b2 b3 b4 b5 b6 b7 + by8 b0 b1 b2 b3 b4 b5 b6 b7 / 65536 = by8 (b0 + b2) (b1 + b3) (b2 + b4) (b3 + b5) (b4 + b6) (b5 + b7) b6 b7 := by
 have e : by8 b0 b1 b2 b3 b4 b5 b6 b7 / 65536 = b2 + 256 * (b3 + 256 * (b4 + 256 * (b5 + 256 * (b6 + 256 * b7)))) := by unfold by8; omega
 rw [e]; unfold by8; omega
theorem by8_four (b0 b1 b2 b3 b4 b5 b6 b7 : Nat) (h0 : b0 < 256) (h1 : b1 < 256) (h2 : b2 < 256) (h3 : b3 < 256) :
  by8 b0 b1 b2 b3 b4 b5 b6 b7 + by8 b0 b1 b2 b3 b4 b5 b6 b7 / 4294967296 = by8 (b0 + b4) (b1 + b5) (b2 + b6) (b3 + b7) b4 b5 b6 b7 := by
 have e : by8 b0 b1 b2 b3 b4 b5 b6 b7 / 4294967296 = b4 + 256 * (b5 + 256 * (b6 + 256 * b7)) := by unfold by8; omega
 rw [e]; unfold by8; omega
theorem by8_lt (b0 b1 b2 b3 b4 b5 b6 b7 : Nat) (h0 : b0 < 256) (h1 : b1 < 256) (h2 : b2 < 256) (h3 : b3 < 256) (h4 : b4 < 256) (h5 : b5 < 256) (h6 : b6 < 256) (h7 : b7 < 256) :
  by8 b0 b1 b2 b3 b4 b5 b6 b7 < 18446744073709551616 := by unfold by8; omega
theorem sum_step (x y d : Nat) (h : x + x / d = y) (hy : y < 18446744073709551616) : IntKind.u64.wrap ((x : Int) + (x : Int) / (d : Int)) = (y : Int) := by
 rw [← Int.natCast_ediv, ← Int.natCast_add, h, wrap_of _ hy]
theorem count_end (x : Nat) (hx : x < 18446744073709551616) (hs : dsF 256 8 x ≤ 64) :
  wrap64 (bits BinOp.and IntKind.u64 (IntKind.u64.wrap (IntKind.u64.wrap (IntKind.u64.wrap (x + (x : Int) / 256) + IntKind.u64.wrap (x + (x : Int) / 256) / 65536) + IntKind.u64.wrap (IntKind.u64.wrap (x + (x : Int) / 256) + IntKind.u64.wrap (x + (x : Int) / 256) / 65536) / 4294967296)) 127) = ((dsF 256 8 x : Nat) : Int) := by
 obtain ⟨b0, b1, b2, b3, b4, b5, b6, b7, hb, hd⟩ := bytes8 x hx;rw [hd] at hs ⊢;clear hd;subst hb;have s1 := sum_step _ _ 256 (by8_one b0 b1 b2 b3 b4 b5 b6 b7 hs) (by8_lt _ _ _ _ _ _ _ _ (by omega) (by omega) (by omega) (by omega) (by omega) (by omega) (by omega) (by omega));have s2 := sum_step _ _ 65536 (by8_two (b0 + b1) (b1 + b2) (b2 + b3) (b3 + b4) (b4 + b5) (b5 + b6) (b6 + b7) b7 (by omega) (by omega)) (by8_lt _ _ _ _ _ _ _ _ (by omega) (by omega) (by omega) (by omega) (by omega) (by omega) (by omega) (by omega));have s3 := sum_step _ _ 4294967296 (by8_four (b0 + b1 + (b2 + b3)) (b1 + b2 + (b3 + b4)) (b2 + b3 + (b4 + b5)) (b3 + b4 + (b5 + b6)) (b4 + b5 + (b6 + b7)) (b5 + b6 + b7) (b6 + b7) b7 (by omega) (by omega) (by omega) (by omega)) (by8_lt _ _ _ _ _ _ _ _ (by omega) (by omega) (by omega) (by omega) (by omega) (by omega) (by omega) (by omega));simp only [Int.cast_ofNat_Int] at s1 s2 s3;rw [s1, s2, s3, show (127 : Int) = ((127 : Nat) : Int) from rfl, u64_and_nat _ _ (by8_lt _ _ _ _ _ _ _ _ (by omega) (by omega) (by omega) (by omega) (by omega) (by omega) (by omega) (by omega)) (by omega), show (127 : Nat) = 2 ^ 7 - 1 from rfl, Nat.and_two_pow_sub_one_eq_mod];have hm : ∀ a y : Nat, a ≤ 64 → (a + 256 * y) % 2 ^ 7 = a := by omega
 unfold by8;rw [hm _ _ (by omega)];rw [IntWalk.wrap64_in _ (by omega)]; omega

theorem count_all (x : Nat) : dsF 256 8 (halvesF 4 8 (halvesF 2 16 (halvesF 1 32 x))) = pcF 64 x := by
 have h1 := dsF_halves 1 32 x (by omega);have h2 := dsF_halves 2 16 (halvesF 1 32 x) (by omega);have h3 := dsF_halves 4 8 (halvesF 2 16 (halvesF 1 32 x)) (by omega);simp only [Nat.reduceMul, Nat.reducePow] at h1 h2 h3;rw [h3, h2, h1, dsF_two]

theorem word_Count (x : Nat) (hx : x < 18446744073709551616) (w : World) :
  Calls Tryz.prog 145 #[.int .u64 x] w fun e w' => e = .returned (.int .i64 (pop x : Nat)) ∧ w = w' := by
 have a1 := halves_lt 1 32 x (by omega);have a2 := halves_lt 2 16 (halvesF 1 32 x) (by omega);have a3 := halves_lt 4 8 (halvesF 2 16 (halvesF 1 32 x)) (by omega);have A1 := halves_eq x hx 1 32 (by omega) (by omega) 6148914691236517205 2 (by decide) (by decide) (by decide);have A2 := halves_eq (halvesF 1 32 x) (by omega) 2 16 (by omega) (by omega) 3689348814741910323 4 (by decide) (by decide) (by decide);have A3 := halves_eq (halvesF 2 16 (halvesF 1 32 x)) (by omega) 4 8 (by omega) (by omega) 1085102592571150095 16 (by decide) (by decide) (by decide);have hp := pcF_le 64 x;have A4 := count_end (halvesF 4 8 (halvesF 2 16 (halvesF 1 32 x))) (by omega) (by rw [count_all]; exact hp);rw [count_all, ← pop_def] at A4;replace A1 := Hd A1;replace A2 := Hd A2;replace A3 := Hd A3;replace A4 := Hd A4;clear a1 a2 a3 hp
 go_enter Tryz.func145, Tryz.ntmps145
 go_upto_region 1 with fail
 go_cut [0] (fun s wx => s = .int .u64 (halvesF 1 32 x : Nat) ∧ w = wx)
 case first =>
  go_wp2_with fail; go_meet;rw [A1.out]; exact ⟨rfl, rfl⟩
 obtain ⟨rfl, rfl⟩ := hcut
 go_upto_region 2 with fail
 go_cut [0] (fun s wx => s = .int .u64 (halvesF 2 16 (halvesF 1 32 x) : Nat) ∧ w = wx)
 case first =>
  go_wp2_with fail; go_meet;rw [A2.out]; exact ⟨rfl, rfl⟩
 obtain ⟨rfl, rfl⟩ := hcut
 go_upto_region 3 with fail
 go_cut [0] (fun s wx => s = .int .u64 (halvesF 4 8 (halvesF 2 16 (halvesF 1 32 x)) : Nat) ∧ w = wx)
 case first =>
  go_wp2_with fail; go_meet;rw [A3.out]; exact ⟨rfl, rfl⟩
 obtain ⟨rfl, rfl⟩ := hcut
 go_wp2
 go_ret;exact ⟨ret_i64 A4.out, rfl⟩

theorem first_eq (x : Nat) (hx : x < 18446744073709551616) :
  bits BinOp.andNot IntKind.u64 (IntKind.u64.wrap (x - 1)) x = ((2 ^ (low0 x) - 1 : Nat) : Int) := by
 have h := low_bits 64 x hx;rw [← low0_def] at h;rw [show IntKind.u64.wrap ((x : Int) - 1) = (((x + (2 ^ 64 - 1)) % 2 ^ 64 : Nat) : Int) from by rw [IntKind.wrap_u64]; omega];rw [u64_andNot_nat _ _ (by omega) hx];rw [show (18446744073709551615 - x) = 2 ^ 64 - 1 - x from rfl, h]

theorem word_First (x : Nat) (hx : x < 18446744073709551616) (w : World) :
  Calls Tryz.prog 132 #[.int .u64 x] w fun e w' => e = .returned (.int .i64 (low0 x : Nat)) ∧ w = w' := by
 have A := first_eq x hx;have hl : 2 ^ (low0 x) - 1 < 18446744073709551616 := by
  have : 2 ^ (low0 x) ≤ 2 ^ 64 := Nat.pow_le_pow_right (by omega) (low0_le x)
  omega
 have hp := pop_ones (low0 x) (low0_le x);replace A := Hd A;replace hp := Hd hp;have hl := Hd hl
 go_enter Tryz.func132, Tryz.ntmps132
 go_wp2_with fail;rw [A.out];refine (word_Count _ hl.out _).mono ?_;rintro e w' ⟨rfl, rfl⟩;rw [hp.out]
 go_wp2
 go_ret;exact ⟨rfl, rfl⟩


def p2 (k : Nat) : Nat := 2 ^ k
theorem p2_succ (k : Nat) : p2 (k + 1) = p2 k * 2 := by unfold p2; exact Nat.pow_succ 2 k
theorem p2_lt (k : Nat) (h : k < 64) : p2 k ≤ 9223372036854775808 := by
 have : 2 ^ k ≤ 2 ^ 63 := Nat.pow_le_pow_right (by omega) (by omega);exact this
theorem p2_lt63 (k : Nat) (h : k < 63) : p2 k ≤ 4611686018427387904 := by
 have : 2 ^ k ≤ 2 ^ 62 := Nat.pow_le_pow_right (by omega) (by omega);exact this
theorem p2_pos (k : Nat) : 0 < p2 k := Nat.two_pow_pos k
theorem bitZ_p2 (i : Int) (h0 : 0 ≤ i) (h1 : i < 64) : bitZ i = (p2 i.toNat : Nat) := by
 unfold bitZ p2; rw [if_pos ⟨h0, h1⟩]; simp
theorem bitZ_out (i : Int) (h : i < 0 ∨ 64 ≤ i) : bitZ i = 0 := by
 unfold bitZ; rw [if_neg (by omega)]

theorem ref_Bit (i : Int) (h1 : -9223372036854775808 ≤ i) (h2 : i < 9223372036854775808) (w : World) :
  Calls Tryz.prog 99 #[.int .i64 i] w fun e w' => e = .returned (.int .u64 (bitZ i)) ∧ w = w' := by
 by_cases h0 : i < 0
 ·have H := Hd (bitZ_out i (by omega))
  go_enter Tryz.func99, Tryz.ntmps99
  go_wp2
  go_ret;rw [H.out]; exact ⟨rfl, rfl⟩
 by_cases h3 : 63 < i
 ·have H := Hd (bitZ_out i (by omega))
  go_enter Tryz.func99, Tryz.ntmps99
  go_wp2
  go_ret;rw [H.out]; exact ⟨rfl, rfl⟩
 ·obtain ⟨m, rfl⟩ := Int.eq_ofNat_of_zero_le (show 0 ≤ i by omega)
  have hm : m ≤ 63 := by omega
  have H := Hd (bitZ_p2 m (by omega) (by omega));clear h1 h2
  go_enter Tryz.func99, Tryz.ntmps99
  go_wp2
  go_loop [0, 3] (fun i n => ∃ j k : Nat, j + k = m ∧ i = .int .i64 j ∧ n = .int .u64 (p2 k)) (fun i _ => (intOf i).toNat)
  case atStart => exact ⟨m, 0, rfl, rfl, rfl⟩
  case round =>
   obtain ⟨j, k, hjk, rfl, rfl⟩ := hrel;by_cases hj : 0 < j
   ·have hp := p2_lt63 k (by omega)
    have hjm : j ≤ 63 := by omega
    have hs := Hd (p2_succ k);have hjk' := Hd hjk;clear hjk
    go_wp2
    go_round
    case rel => exact ⟨j - 1, k + 1, by have := hjk'.out; omega, by rw [show ((j - 1 : Nat) : Int) = (j : Int) - 1 from by omega], by rw [hs.out]; go_num⟩
    case measure => simp [intOf]; omega
   ·obtain rfl : j = 0 := by omega
    have hk : k = m := by omega
    subst hk;clear hjk
    go_wp2
    go_ret;rw [H.out]; exact ⟨rfl, rfl⟩

theorem hasB_out (x : Nat) (i : Int) (hx : x < 18446744073709551616) (h : i < 0 ∨ 64 ≤ i) : hasB x i = false := by
 unfold hasB;rcases h with h | h
 ·simp; omega
 ·have : x.testBit i.toNat = false :=
   Nat.testBit_lt_two_pow (Nat.lt_of_lt_of_le hx (by rw [show (18446744073709551616 : Nat) = 2 ^ 64 from rfl]; exact Nat.pow_le_pow_right (by omega) (by omega)))
  simp [this]
theorem hasB_in (x k : Nat) : hasB x (k : Int) = ((((x / p2 k) % 2 : Nat) : Int) == 1) := by
 unfold hasB p2;have h0 : (0 : Int) ≤ k := by omega
 rw [Int.toNat_natCast, Nat.testBit_eq_decide_div_mod_eq, Bool.eq_iff_iff, beq_iff_eq];simp only [h0, decide_true, Bool.true_and, decide_eq_true_eq]
 generalize x / 2 ^ k % 2 = r
 omega

theorem ref_Has (x : Nat) (hx : x < 18446744073709551616) (i : Int) (h1 : -9223372036854775808 ≤ i) (h2 : i < 9223372036854775808) (w : World) :
  Calls Tryz.prog 125 #[.int .u64 x, .int .i64 i] w fun e w' => e = .returned (.bool (hasB x i)) ∧ w = w' := by
 by_cases h0 : 0 ≤ i ∧ i < 64
 ·obtain ⟨m, rfl⟩ := Int.eq_ofNat_of_zero_le h0.1
  have hb := Hd (bitZ_p2 m (by omega) (by omega));have H := Hd (hasB_in x m);have hp := p2_lt m (by omega);have hp0 := p2_pos m;have hn : ((p2 m : Nat) : Int) != 0 := by rw [bne_iff_ne]; omega
  have hq0 : 0 ≤ (x : Int) / (p2 m : Nat) := Int.ediv_nonneg (by omega) (by omega);have hq1 : (x : Int) / (p2 m : Nat) < 18446744073709551616 := Int.lt_of_le_of_lt (Int.ediv_le_self _ (by omega)) (by omega);have hd := Hd (Int.natCast_ediv x (p2 m))
  go_enter Tryz.func125, Tryz.ntmps125
  go_wp2_with fail;refine (ref_Bit _ h1 h2 _).mono ?_;rintro e w' ⟨rfl, rfl⟩;rw [hb.out, Int.toNat_natCast]
  go_wp2
  go_ret;rw [H.out, Int.natCast_emod, hd.out]; exact ⟨rfl, rfl⟩
 ·have hb := Hd (bitZ_out i (by omega))
  have H := Hd (hasB_out x i hx (by omega))
  go_enter Tryz.func125, Tryz.ntmps125
  go_wp2_with fail;refine (ref_Bit _ h1 h2 _).mono ?_;rintro e w' ⟨rfl, rfl⟩;rw [hb.out]
  go_wp2
  go_ret;rw [H.out]; exact ⟨rfl, rfl⟩

theorem hasB_nat (x k : Nat) : hasB x (k : Int) = x.testBit k := by
 have h0 : (0 : Int) ≤ k := by omega
 unfold hasB; rw [Int.toNat_natCast]; simp only [h0, decide_true, Bool.true_and]


def wordsZ (n : Int) : Int := if n < 0 then 0 else (n + 63) / 64
def inR (n : Nat) (i : Int) : Bool := decide (0 ≤ i) && decide (i < 64 * (n : Int))
def hasR (xs : List Nat) (i : Int) : Bool := decide (0 ≤ i) && (xs.getD (i.toNat / 64) 0).testBit (i.toNat % 64)
def setR (xs : List Nat) (i : Int) : List Nat := if inR xs.length i then xs.set (i.toNat / 64) (xs.getD (i.toNat / 64) 0 ||| 2 ^ (i.toNat % 64)) else xs
def orR (a b : List Nat) : List Nat := (List.range (max a.length b.length)).map fun j => a.getD j 0 ||| b.getD j 0
def subR (a b : List Nat) : Bool := (List.range a.length).all fun j => a.getD j 0 &&& b.getD j 0 == a.getD j 0
def countR (xs : List Nat) : Nat := (xs.map pop).sum
def listN (xs : List Nat) : List Nat := (List.range (64 * xs.length)).filter fun i : Nat => hasR xs (i : Int)
def listR (xs : List Nat) : List Int := (listN xs).map Int.ofNat

theorem ofInt_i64 (a : Nat) (ha : a < 9223372036854775808) : (BitVec.ofInt 64 (a : Int)).toNat = a := by
 rw [BitVec.ofInt_natCast, BitVec.toNat_ofNat]; exact Nat.mod_eq_of_lt (by omega)
theorem i64_and_nat (a b : Nat) (ha : a < 9223372036854775808) (hb : b < 9223372036854775808) : bits .and .i64 (a : Int) (b : Int) = ((a &&& b : Nat) : Int) := by
 have hx : a &&& b < 2 ^ 63 := Nat.and_lt_two_pow _ (by omega)
 show IntKind.i64.wrap ((BitVec.ofInt 64 (a : Int) &&& BitVec.ofInt 64 (b : Int)).toNat : Int) = _
 rw [BitVec.toNat_and, ofInt_i64 a ha, ofInt_i64 b hb, IntKind.wrap_i64]
 omega
theorem i64_and_63 (a : Nat) (ha : a < 9223372036854775808) : bits .and .i64 (a : Int) 63 = ((a % 64 : Nat) : Int) := by
 rw [show (63 : Int) = ((63 : Nat) : Int) from rfl, i64_and_nat a 63 ha (by omega), show (63 : Nat) = 2 ^ 6 - 1 from rfl, Nat.and_two_pow_sub_one_eq_mod]

theorem inR_out (n : Nat) (i : Int) (h : i < 0 ∨ 64 * (n : Int) ≤ i) : inR n i = false := by
 unfold inR; rcases h with h | h
 ·rw [decide_eq_false (by omega)]; rfl
 ·rw [decide_eq_false (p := i < _) (by omega), Bool.and_false]
theorem inR_in (n m : Nat) (h : m < 64 * n) : inR n (m : Int) = true := by
 unfold inR; rw [decide_eq_true (by omega), decide_eq_true (by omega)]; rfl
theorem hasR_out (xs : List Nat) (i : Int) (h : i < 0 ∨ 64 * (xs.length : Int) ≤ i) : hasR xs i = false := by
 unfold hasR;rcases h with h | h
 ·rw [decide_eq_false (by omega)]; rfl
 ·rw [List.getD_eq_getElem?_getD, List.getElem?_eq_none (by omega)]; simp
theorem hasR_in (xs : List Nat) (m x : Nat) (h : xs[m / 64]? = some x) : hasR xs (m : Int) = hasB x ((m % 64 : Nat) : Int) := by
 unfold hasR hasB;rw [Int.toNat_natCast, Int.toNat_natCast, Row.get h, decide_eq_true (by omega), decide_eq_true (by omega)]

/-! ### both together -/
theorem map_range_set {α : Type} (n k : Nat) (f : Nat → α) (v : α) : ((List.range n).map f).set k v = (List.range n).map fun j => if j = k then v else f j := by
 apply List.ext_getElem?; intro j
 rw [List.getElem?_set];simp only [List.getElem?_map, List.length_map, List.length_range];by_cases hj : j < n
 ·rw [List.getElem?_range hj]
  by_cases hk : k = j
  ·subst hk; simp [hj]
  ·rw [if_neg hk]; simp [Ne.symm hk]
 ·rw [List.getElem?_eq_none (by simpa using hj)]
  by_cases hk : k = j
  ·subst hk; simp [hj]
  ·rw [if_neg hk]; rfl
def orK (a b : List Nat) (k : Nat) : List Nat := (List.range a.length).map fun j => if j < k then a.getD j 0 ||| b.getD j 0 else a.getD j 0
theorem orK_zero (a b : List Nat) : orK a b 0 = a := by
 unfold orK; apply List.ext_getElem?; intro j;simp only [List.getElem?_map];by_cases hj : j < a.length
 ·rw [List.getElem?_range hj]; simp [List.getD_eq_getElem?_getD, List.getElem?_eq_getElem hj]
 ·rw [List.getElem?_eq_none (by simpa using hj), List.getElem?_eq_none (by omega)]; rfl
theorem orK_get (a b : List Nat) (k : Nat) (h : k < a.length) : (orK a b k)[k]? = some (a.getD k 0) := by
 unfold orK; rw [List.getElem?_map, List.getElem?_range h]; simp
theorem orK_set (a b : List Nat) (k : Nat) : (orK a b k).set k (a.getD k 0 ||| b.getD k 0) = orK a b (k + 1) := by
 unfold orK; rw [map_range_set]
 apply List.map_congr_left; intro j _
 by_cases hj : j = k
 ·subst hj; simp
 ·rw [if_neg hj]
  by_cases h2 : j < k
  ·rw [if_pos h2, if_pos (by omega)]
  ·rw [if_neg h2, if_neg (by omega)]
theorem orK_all (a b : List Nat) (h : b.length ≤ a.length) : orK a b b.length = orR a b := by
 unfold orK orR;rw [show max a.length b.length = a.length from by omega]
 apply List.map_congr_left; intro j _
 by_cases hj : j < b.length
 ·rw [if_pos hj]
 ·rw [if_neg hj, List.getD_eq_getElem?_getD (l := b), List.getElem?_eq_none (by omega)]; simp
theorem orR_comm (a b : List Nat) : orR a b = orR b a := by
 unfold orR; rw [Nat.max_comm]
 apply List.map_congr_left; intro j _; exact Nat.or_comm _ _
theorem orK_lt (a b : List Nat) (k : Nat) (ha : ∀ x ∈ a, x < 18446744073709551616) (hb : ∀ x ∈ b, x < 18446744073709551616) : ∀ x ∈ orK a b k, x < 18446744073709551616 := by
 have hd : ∀ (l : List Nat), (∀ x ∈ l, x < 18446744073709551616) → ∀ j, l.getD j 0 < 18446744073709551616 := fun l hl j => by
  rw [List.getD_eq_getElem?_getD]
  cases hx : l[j]? with
  | none => simp
  | some x => simpa using hl x (List.mem_of_getElem? hx)
 intro x hx;unfold orK at hx;obtain ⟨j, _, rfl⟩ := List.mem_map.1 hx
 split
 ·exact Nat.or_lt_two_pow (n := 64) (hd a ha j) (hd b hb j)
 ·exact hd a ha j

/-! ### a part -/
theorem subR_no (a b : List Nat) (k : Nat) (hk : k < a.length) (h : (a.getD k 0 &&& b.getD k 0 == a.getD k 0) = false) : subR a b = false := by
 unfold subR; rw [List.all_eq_false]; exact ⟨k, List.mem_range.2 hk, by rw [h]; simp⟩
theorem subR_yes (a b : List Nat) (h : ∀ k, k < a.length → (a.getD k 0 &&& b.getD k 0 == a.getD k 0) = true) : subR a b = true := by
 unfold subR; rw [List.all_eq_true]; intro k hk; exact h k (List.mem_range.1 hk)
theorem and_not_zero (x y : Nat) (hx : x < 18446744073709551616) (hy : y < 18446744073709551616) : (x &&& (18446744073709551615 - y) == 0) = (x &&& y == x) := by
 have hb : ∀ j, (18446744073709551615 - y).testBit j = (decide (j < 64) && !y.testBit j) := fun j => by
  rw [show 18446744073709551615 - y = 2 ^ 64 - (y + 1) from by omega]; exact Nat.testBit_two_pow_sub_succ hy j
 have hout : ∀ j, 64 ≤ j → x.testBit j = false := fun j hj => Nat.testBit_lt_two_pow (Nat.lt_of_lt_of_le hx (by rw [show (18446744073709551616 : Nat) = 2 ^ 64 from rfl]; exact Nat.pow_le_pow_right (by omega) hj));rw [Bool.eq_iff_iff, beq_iff_eq, beq_iff_eq]
 constructor
 ·intro h
  apply Nat.eq_of_testBit_eq; intro j
  have hj : (x &&& (18446744073709551615 - y)).testBit j = false := by rw [h, Nat.zero_testBit]
  rw [Nat.testBit_and, hb] at hj;rw [Nat.testBit_and];by_cases h64 : j < 64
  ·rw [decide_eq_true h64, Bool.true_and] at hj
   cases hxj : x.testBit j <;> cases hyj : y.testBit j <;> simp_all
  ·rw [hout j (by omega)]; rfl
 ·intro h
  apply Nat.eq_of_testBit_eq; intro j
  rw [Nat.testBit_and, hb, Nat.zero_testBit];have hj : (x &&& y).testBit j = x.testBit j := by rw [h]
  rw [Nat.testBit_and] at hj
  cases hxj : x.testBit j <;> cases hyj : y.testBit j <;> simp_all
theorem getD_out (b : List Nat) (k : Nat) (h : b.length ≤ k) : b.getD k 0 = 0 := by
 rw [List.getD_eq_getElem?_getD, List.getElem?_eq_none h]; rfl

/-! ### counts, sameness -/
theorem countR_le (xs : List Nat) : countR xs ≤ 64 * xs.length := by
 unfold countR
 induction xs with
 | nil => simp
 | cons x xs ih => simp only [List.map_cons, List.sum_cons, List.length_cons]; have := pop_le x; omega
theorem countR_take (xs : List Nat) (k x : Nat) (h : xs[k]? = some x) : countR (xs.take (k + 1)) = countR (xs.take k) + pop x := by
 have hk : k < xs.length := (List.getElem?_eq_some_iff.1 h).1;rw [List.take_succ_eq_append_getElem hk];have : xs[k] = x := (List.getElem?_eq_some_iff.1 h).2;unfold countR; simp [this]

/-! ### the list of the bits -/
theorem filter_first (n l : Nat) (p q : Nat → Bool) (hl : l < n) (hp : p l = true) (hlow : ∀ j, j < l → p j = false) (hq : ∀ j, j < n → q j = (p j && decide (j ≠ l))) :
  (List.range n).filter p = l :: (List.range n).filter q := by
 induction n with
 | zero => omega
 | succ n ih =>
  rw [List.range_succ, List.filter_append, List.filter_append];by_cases h : l < n
  ·rw [ih h (fun j hj => hq j (by omega))]
   have : q n = p n := by rw [hq n (by omega), decide_eq_true (by omega), Bool.and_true]
   simp [List.filter_cons, this]
  ·obtain rfl : l = n := by omega
   have h1 : (List.range l).filter p = [] := by
    rw [List.filter_eq_nil_iff]; intro j hj; rw [hlow j (List.mem_range.1 hj)]; simp
   have h2 : (List.range l).filter q = [] := by
    rw [List.filter_eq_nil_iff]; intro j hj;have hj' := List.mem_range.1 hj;rw [hq j (by omega), hlow j hj']; simp
   have h3 : q l = false := by rw [hq l (by omega)]; simp
   simp [h1, h2, h3, hp]
def bitsOf (x : Nat) : List Nat := (List.range 64).filter fun j => x.testBit j
theorem bitsOf_zero : bitsOf 0 = [] := by
 unfold bitsOf; rw [List.filter_eq_nil_iff]; intro j _; simp
theorem low0_lt (x : Nat) (hx : x < 18446744073709551616) (h0 : x ≠ 0) : low0 x < 64 := by
 rcases Nat.lt_or_ge (low0 x) 64 with h | h
 ·exact h
 ·exfalso
  have hn := low0_le x;refine h0 (Nat.eq_of_testBit_eq fun j => ?_);rw [Nat.zero_testBit];rcases Nat.lt_or_ge j 64 with h' | h'
  ·exact low0_before x j (by omega)
  ·exact Nat.testBit_lt_two_pow (Nat.lt_of_lt_of_le hx (by rw [show (18446744073709551616 : Nat) = 2 ^ 64 from rfl]; exact Nat.pow_le_pow_right (by omega) h'))
def offN (x i : Nat) : Nat := x &&& (18446744073709551615 - p2 i)
theorem offN_lt (x i : Nat) (hx : x < 18446744073709551616) : offN x i < 18446744073709551616 := Nat.lt_of_le_of_lt Nat.and_le_left hx
theorem offN_bit (x i j : Nat) (hi : i < 64) (hj : j < 64) : (offN x i).testBit j = (x.testBit j && decide (j ≠ i)) := by
 unfold offN;have hp := p2_lt i hi;rw [Nat.testBit_and, show 18446744073709551615 - p2 i = 2 ^ 64 - (p2 i + 1) from by omega, Nat.testBit_two_pow_sub_succ (by omega)];unfold p2;rw [Nat.testBit_two_pow, decide_eq_true hj, Bool.true_and]
 congr 1
 by_cases h : i = j
 ·subst h; simp
 ·simp [h, Ne.symm h]
theorem bitsOf_step (x : Nat) (hx : x < 18446744073709551616) (h0 : x ≠ 0) : bitsOf x = low0 x :: bitsOf (offN x (low0 x)) := by
 have hl := low0_lt x hx h0;exact filter_first 64 (low0 x) _ _ hl (low0_bit x hl) (low0_before x) (fun j hj => offN_bit x (low0 x) j hl hj)
theorem pop_bits (x : Nat) : pop x = (bitsOf x).length := by
 rw [pop_def]; unfold bitsOf;have : ∀ k, pcF k x = ((List.range k).filter fun j => x.testBit j).length := by
  intro k
  induction k with
  | zero => rfl
  | succ k ih =>
   rw [pcF_snoc, ih, List.range_succ, List.filter_append, List.length_append]
   cases h : x.testBit k <;> simp [h]
 exact this 64
def listK (xs : List Nat) (k : Nat) : List Nat := (List.range (64 * k)).filter fun i : Nat => hasR xs (i : Int)
theorem hasR_nat (xs : List Nat) (i : Nat) : hasR xs (i : Int) = (xs.getD (i / 64) 0).testBit (i % 64) := by
 unfold hasR; rw [Int.toNat_natCast, decide_eq_true (by omega), Bool.true_and]
theorem listK_succ (xs : List Nat) (k x : Nat) (h : xs[k]? = some x) : listK xs (k + 1) = listK xs k ++ (bitsOf x).map (64 * k + ·) := by
 unfold listK bitsOf;rw [show 64 * (k + 1) = 64 * k + 64 from by omega, List.range_add, List.filter_append, List.filter_map]
 congr 2
 apply List.filter_congr
 intro j hj;have := List.mem_range.1 hj
 show hasR xs ((64 * k + j : Nat) : Int) = _
 rw [hasR_nat, show (64 * k + j) / 64 = k from by omega, show (64 * k + j) % 64 = j from by omega, Row.get h]
theorem listK_all (xs : List Nat) : listK xs xs.length = listN xs := rfl
theorem listK_len (xs : List Nat) (k : Nat) : (listK xs k).length ≤ 64 * k := by
 have := List.length_filter_le (fun i : Nat => hasR xs (i : Int)) (List.range (64 * k))
 rwa [List.length_range] at this
theorem listK_lt (xs : List Nat) (k : Nat) : ∀ i ∈ listK xs k, i < 64 * k := fun i hi => by
 have := List.mem_filter.1 hi;exact List.mem_range.1 this.1
theorem countR_list (xs : List Nat) : countR xs = (listN xs).length := by
 have : ∀ k, k ≤ xs.length → countR (xs.take k) = (listK xs k).length := by
  intro k hk
  induction k with
  | zero => simp [countR, listK]
  | succ k ih =>
   have hx : xs[k]? = some xs[k] := List.getElem?_eq_getElem (by omega);rw [countR_take xs k _ hx, listK_succ xs k _ hx, ih (by omega), List.length_append, List.length_map, pop_bits]
 have h := this xs.length (Nat.le_refl _)
 rwa [List.take_length] at h

/-! ### what the plain answers go through -/
def listP (xs : List Nat) (p : Nat) : List Nat := (List.range p).filter fun i : Nat => hasR xs (i : Int)
theorem listP_yes (xs : List Nat) (p : Nat) (h : hasR xs (p : Int) = true) : listP xs (p + 1) = listP xs p ++ [p] := by
 unfold listP; rw [List.range_succ, List.filter_append]; simp [h]
theorem listP_no (xs : List Nat) (p : Nat) (h : hasR xs (p : Int) = false) : listP xs (p + 1) = listP xs p := by
 unfold listP; rw [List.range_succ, List.filter_append]; simp [h]
theorem listP_len (xs : List Nat) (p : Nat) : (listP xs p).length ≤ p := by
 have := List.length_filter_le (fun i : Nat => hasR xs (i : Int)) (List.range p)
 rwa [List.length_range] at this
theorem listN_mem (xs : List Nat) (i : Nat) : i ∈ listN xs ↔ i < 64 * xs.length ∧ hasR xs (i : Int) = true := by
 unfold listN; rw [List.mem_filter, List.mem_range]
theorem listR_len (xs : List Nat) : (listR xs).length = countR xs := by rw [countR_list]; unfold listR; exact List.length_map _
theorem subR_iff (a b : List Nat) (ha : ∀ x ∈ a, x < 18446744073709551616) : subR a b = true ↔ ∀ i : Nat, hasR a (i : Int) = true → hasR b (i : Int) = true := by
 have hd : ∀ j, a.getD j 0 < 18446744073709551616 := fun j => by
  rw [List.getD_eq_getElem?_getD]
  cases hx : a[j]? with
  | none => simp
  | some x => simpa using ha x (List.mem_of_getElem? hx)
 have hout : ∀ j r, 64 ≤ r → (a.getD j 0).testBit r = false := fun j r hr => Nat.testBit_lt_two_pow (Nat.lt_of_lt_of_le (hd j) (by rw [show (18446744073709551616 : Nat) = 2 ^ 64 from rfl]; exact Nat.pow_le_pow_right (by omega) hr));unfold subR;rw [List.all_eq_true]
 constructor
 ·intro h i hi
  rw [hasR_nat] at hi ⊢;by_cases hk : i / 64 < a.length
  ·have := h (i / 64) (List.mem_range.2 hk)
   rw [beq_iff_eq] at this;rw [← this, Nat.testBit_and] at hi;simp only [Bool.and_eq_true] at hi; exact hi.2
  ·rw [getD_out a _ (by omega), Nat.zero_testBit] at hi; cases hi
 ·intro h k _
  rw [beq_iff_eq]
  apply Nat.eq_of_testBit_eq; intro r
  rw [Nat.testBit_and];by_cases hr : r < 64
  ·have := h (64 * k + r)
   rw [hasR_nat, hasR_nat, show (64 * k + r) / 64 = k from by omega, show (64 * k + r) % 64 = r from by omega] at this
   cases h1 : (a.getD k 0).testBit r with
   | false => rfl
   | true => rw [this h1]; rfl
  ·rw [hout k r (by omega)]; rfl
theorem mod_snoc (x k : Nat) : x % 2 ^ (k + 1) = x % 2 ^ k + 2 ^ k * (x.testBit k).toNat := by
 rw [Nat.pow_succ, Nat.mod_mul, Nat.testBit_eq_decide_div_mod_eq];rcases Nat.mod_two_eq_zero_or_one (x / 2 ^ k) with h | h <;> simp [h]
theorem add_or (x r : Nat) (h : x.testBit r = false) : x + p2 r = x ||| p2 r := by
 have hm := mod_snoc x r;rw [h] at hm;have hlt := Nat.mod_lt x (Nat.two_pow_pos r);have hd := Nat.div_add_mod x (2 ^ (r + 1));have hdiv : (2 ^ r + x) / 2 ^ (r + 1) = x / 2 ^ (r + 1) := by
  have hp : 2 ^ (r + 1) = 2 * 2 ^ r := by rw [Nat.pow_succ]; omega
  have e : 2 ^ r + x = 2 ^ (r + 1) * (x / 2 ^ (r + 1)) + (2 ^ r + x % 2 ^ (r + 1)) := by omega
  rw [e, Nat.mul_add_div (Nat.two_pow_pos _), Nat.div_eq_of_lt (a := 2 ^ r + x % 2 ^ (r + 1)) (by simp at hm; omega)]; rfl
 unfold p2
 apply Nat.eq_of_testBit_eq; intro j
 rw [Nat.testBit_or, Nat.testBit_two_pow, Nat.add_comm];rcases Nat.lt_trichotomy j r with hj | hj | hj
 ·rw [Nat.testBit_two_pow_add_gt hj, decide_eq_false (by omega), Bool.or_false]
 ·subst hj; rw [Nat.testBit_two_pow_add_eq, h]; simp
 ·obtain ⟨d, rfl⟩ : ∃ d, j = d + (r + 1) := ⟨j - (r + 1), by omega⟩
  rw [← Nat.testBit_div_two_pow, hdiv, Nat.testBit_div_two_pow, decide_eq_false (by omega), Bool.or_false]
theorem or_same (x r : Nat) (h : x.testBit r = true) : x ||| p2 r = x := by
 apply Nat.eq_of_testBit_eq; intro j
 rw [Nat.testBit_or]; unfold p2; rw [Nat.testBit_two_pow];by_cases hj : r = j
 ·subst hj; rw [h]; rfl
 ·simp [hj]
def orP (N k : Nat) (a b : List Nat) : List Nat := (List.range N).map fun j => if j < k then a.getD j 0 ||| b.getD j 0 else 0
theorem orP_zero (N : Nat) (a b : List Nat) : orP N 0 a b = List.replicate N 0 := by
 unfold orP; apply List.ext_getElem (by simp); intro i _ _; simp
theorem orP_set (N k : Nat) (a b : List Nat) : (orP N k a b).set k (a.getD k 0 ||| b.getD k 0) = orP N (k + 1) a b := by
 unfold orP; rw [map_range_set]
 apply List.map_congr_left; intro j _
 by_cases hj : j = k
 ·subst hj; simp
 ·rw [if_neg hj]
  by_cases h2 : j < k
  ·rw [if_pos h2, if_pos (by omega)]
  ·rw [if_neg h2, if_neg (by omega)]
theorem orP_all (N : Nat) (a b : List Nat) (h : N = max a.length b.length) : orP N N a b = orR a b := by
 subst h; unfold orP orR
 apply List.map_congr_left; intro j hj
 rw [if_pos (List.mem_range.1 hj)]


theorem info_u64 : (Tryz.prog.info? 89).map (fun i => (i.zero, i.size, i.bytes)) = some (some (.int .u64 0), 1, 8) := by kernel_rfl
theorem info_int : (Tryz.prog.info? 3).map (fun i => (i.zero, i.size, i.bytes)) = some (some (.int .i64 0), 1, 8) := by kernel_rfl
theorem mk_u64 (kl kc : IntKind) (n c : Nat) (hnc : n ≤ c) (hc : c ≤ 35184372088832) (W : World) :
  (Instr.makeSlice 88 (.int kl (n : Int)) (.int kc (c : Int))).run Tryz.prog W = .ok (.slice (some ⟨W.heap.size, 0, none⟩) n c) (W.alloc (.cells (zeros c (.int .u64 0)) 89)) := by
 obtain ⟨i, hi, hz0, hz1, hz2⟩ := info_parts info_u64;exact run_make_one _ _ i _ Tryz.underlying88 hi hz0 hz1 rfl kl kc n c hnc (by rw [hz2]; omega) (by omega) W
theorem mk_int (kl kc : IntKind) (n c : Nat) (hnc : n ≤ c) (hc : c ≤ 35184372088832) (W : World) :
  (Instr.makeSlice 27 (.int kl (n : Int)) (.int kc (c : Int))).run Tryz.prog W = .ok (.slice (some ⟨W.heap.size, 0, none⟩) n c) (W.alloc (.cells (zeros c (.int .i64 0)) 3)) := by
 obtain ⟨i, hi, hz0, hz1, hz2⟩ := info_parts info_int;exact run_make_one _ _ i _ Tryz.underlying27 hi hz0 hz1 rfl kl kc n c hnc (by rw [hz2]; omega) (by omega) W

theorem within_eq (n : Nat) (i : Int) (hn : n ≤ 140737488355328) (h1 : -9223372036854775808 ≤ i) (h2 : i < 9223372036854775808) : decide (IntKind.u64.wrap i / 64 < (n : Int)) = inR n i := by
 unfold inR;rw [IntKind.wrap_u64, Bool.eq_iff_iff];simp only [decide_eq_true_eq, Bool.and_eq_true]
 omega
theorem row_within (A : Option Addr) (n c : Nat) (i : Int) (hn : n ≤ 140737488355328) (h1 : -9223372036854775808 ≤ i) (h2 : i < 9223372036854775808) (w : World) :
  Calls Tryz.prog 113 #[.slice A n c, .int .i64 i] w fun e w' => e = .returned (.bool (inR n i)) ∧ w = w' := by
 have H := Hd (within_eq n i hn h1 h2)
 go_enter Tryz.func113, Tryz.ntmps113
 go_wp2
 go_ret;exact ⟨ret_bool H.out, rfl⟩
theorem row_Has (A : Option Addr) (n c : Nat) (xs : List Nat) (i : Int) (w : World) (hr : Row w A n xs) (hn : n ≤ 140737488355328) (h1 : -9223372036854775808 ≤ i) (h2 : i < 9223372036854775808) :
  Calls Tryz.prog 85 #[.slice A n c, .int .i64 i] w fun e w' => e = .returned (.bool (hasR xs i)) ∧ w = w' := by
 have hl := hr.len;by_cases h : 0 ≤ i ∧ i < 64 * (n : Int)
 ·obtain ⟨m, rfl⟩ := Int.eq_ofNat_of_zero_le h.1
  have hm : m < 64 * n := by omega
  obtain ⟨b, off, x, rfl, hb, hx, hx64, hc⟩ := hr.at_ (k := m / 64) (by omega);have H := Hd (hasR_in xs m x hx);have hI := Hd (inR_in n m hm);have hA := Hd (i64_and_63 m (by omega));clear h hx hr hl
  go_enter Tryz.func85, Tryz.ntmps85
  go_wp2_with fail;refine (row_within _ n _ m (by omega) (by omega) (by omega) _).mono ?_; rintro e w' ⟨rfl, rfl⟩;rw [hI.out];go_wp2_with fail;rw [hA.out];refine (word_Has x hx64 _ (by omega) (by omega) _).mono ?_; rintro e w' ⟨rfl, rfl⟩
  go_wp2
  go_ret;rw [H.out]; exact ⟨rfl, rfl⟩
 ·have H := Hd (hasR_out xs i (by omega))
  have hI := Hd (inR_out n i (by omega));clear h hl hr
  go_enter Tryz.func85, Tryz.ntmps85
  go_wp2_with fail;refine (row_within _ n _ i (by omega) (by omega) (by omega) _).mono ?_; rintro e w' ⟨rfl, rfl⟩;rw [hI.out]
  go_wp2
  go_ret;rw [H.out]; exact ⟨rfl, rfl⟩

theorem wordsZ_nat (n : Int) (h0 : 0 ≤ n) : wordsZ n = (n + 63) / 64 := if_neg (by omega)
theorem row_Words (n : Int) (h1 : -9223372036854775808 ≤ n) (h2 : n < 9223372036854775808) (w : World) :
  Calls Tryz.prog 130 #[.int .i64 n] w fun e w' => e = .returned (.int .i64 (wordsZ n)) ∧ w = w' := by
 by_cases h : n < 0
 ·have H := Hd (show wordsZ n = 0 from if_pos h)
  go_enter Tryz.func130, Tryz.ntmps130
  go_wp2
  go_ret;rw [H.out]; exact ⟨rfl, rfl⟩
 ·have H := Hd (wordsZ_nat n (by omega))
  go_enter Tryz.func130, Tryz.ntmps130
  go_wp2
  go_ret;rw [H.out]; exact ⟨rfl, rfl⟩

def wordsN (n : Int) : Nat := (wordsZ n).toNat
theorem wordsZ_N (n : Int) : wordsZ n = (wordsN n : Nat) := by unfold wordsN wordsZ; split <;> omega
theorem wordsN_le (n : Int) (h : n ≤ 1099511627776) : wordsN n ≤ 17179869184 := by unfold wordsN wordsZ; split <;> omega
theorem row_NewO (n : Int) (h1 : -9223372036854775808 ≤ n) (h2 : n ≤ 1099511627776) (w : World) :
  Calls Tryz.prog 107 #[.int .i64 n] w (RetRowO 89 (List.replicate (wordsN n) 0) w) := by
 have hw := Hd (wordsZ_N n);have hle := wordsN_le n h2;have hmk := mk_u64 .i64 .i64 (wordsN n) (wordsN n) (Nat.le_refl _) (by omega)
 go_enter Tryz.func107, Tryz.ntmps107
 go_wp2_with fail;refine (row_Words _ (by omega) (by omega) _).mono ?_; rintro e w' ⟨rfl, rfl⟩;rw [hw.out]
 go_wp2
 go_ret;refine own_ret (by simpa [u64v] using own_zeros w (wordsN n) (.int .u64 0) 89 (by unfold maxLen; omega)) (by simp) ((Below.refl _ _).alloc (Nat.le_refl _) _)

end Go.Proofs.YtjhjojklfdjmdaaGreat
