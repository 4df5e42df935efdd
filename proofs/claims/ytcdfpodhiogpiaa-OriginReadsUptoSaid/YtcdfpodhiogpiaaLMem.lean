/- Words for memory: slices of anything that takes a fixed number of cells (an encoding 'Enc'). No function of the program is named here. -/
import Derived.Test.YtcdfpodhiogpiaaMem
namespace Go.Proofs.Ytcdfpodhiogpiaa
open Go.RowKit
set_option linter.unusedVariables false

/-- how something lies in memory -/
structure Enc (α : Type) where
  cells : α → List Value
  sz : Nat
  pos : 0 < sz
  len : ∀ x, (cells x).length = sz
  one : ∀ x u, u ∈ cells x → u.oneCell' = true
  ok : α → Prop
section
variable {α : Type} {E : Enc α}
def Enc.all (E : Enc α) (xs : List α) : List Value := xs.flatMap E.cells
theorem Enc.all_nil (E : Enc α) : E.all [] = [] := rfl
theorem Enc.all_cons (E : Enc α) (x : α) (xs : List α) : E.all (x :: xs) = E.cells x ++ E.all xs := rfl
theorem Enc.all_len (E : Enc α) (xs : List α) : (E.all xs).length = xs.length * E.sz := by
  induction xs with
  | nil => simp [Enc.all]
  | cons x xs ih => rw [E.all_cons, List.length_append, E.len, ih, List.length_cons, Nat.succ_mul]; omega
theorem Enc.all_append (E : Enc α) (a b : List α) : E.all (a ++ b) = E.all a ++ E.all b := List.flatMap_append
theorem Enc.all_single (E : Enc α) (x : α) : E.all [x] = E.cells x := by simp [Enc.all]
theorem Enc.all_at {xs : List α} {k : Nat} {x : α} (h : xs[k]? = some x) {r : Nat} (hr : r < E.sz) : (E.all xs)[k * E.sz + r]? = (E.cells x)[r]? := by
  induction xs generalizing k with
  | nil => simp at h
  | cons y xs ih =>
    rw [E.all_cons]
    cases k with
    | zero =>
      simp at h; subst h
      rw [Nat.zero_mul, Nat.zero_add, List.getElem?_append_left (by rw [E.len]; exact hr)]
    | succ k =>
      have h' : xs[k]? = some x := by simpa using h
      have e : (k + 1) * E.sz + r = E.sz + (k * E.sz + r) := by rw [Nat.succ_mul]; omega
      rw [e, List.getElem?_append_right (by rw [E.len]; omega), E.len, Nat.add_sub_cancel_left]
      exact ih h'
theorem Enc.all_one (E : Enc α) (xs : List α) : ∀ u ∈ E.all xs, u.oneCell' = true := by
  intro u hu
  obtain ⟨x, _, h⟩ := List.mem_flatMap.1 hu
  exact E.one x u h
/-- the slice '.slice A n c' reads as xs -/
def LAt (E : Enc α) (w : World) (A : Option Addr) (n : Nat) (xs : List α) : Prop :=
  xs.length = n ∧ (∀ x ∈ xs, E.ok x) ∧ (0 < n → ∃ b off, A = some ⟨b, off, none⟩ ∧ b < w.heap.size ∧ ∀ (j : Nat) (u : Value), (E.all xs)[j]? = some u → w.cell? ⟨b, off + j, none⟩ = some u)
variable {w w' : World} {A : Option Addr} {n : Nat} {xs : List α}
theorem LAt.len (h : LAt E w A n xs) : xs.length = n := h.1
theorem LAt.okAll (h : LAt E w A n xs) : ∀ x ∈ xs, E.ok x := h.2.1
theorem LAt.below (h : LAt E w A n xs) (hb : Below w.heap.size w w') : LAt E w' A n xs :=
  ⟨h.1, h.2.1, fun hn => by
    obtain ⟨b, off, e, hbl, hc⟩ := h.2.2 hn
    exact ⟨b, off, e, Nat.lt_of_lt_of_le hbl hb.size, fun j u hu => (hb.cell (p := ⟨b, off + j, none⟩) hbl).trans (hc j u hu)⟩⟩
theorem LAt.nil (E : Enc α) (w : World) (A : Option Addr) : LAt E w A 0 [] := ⟨rfl, fun x h => (by cases h), fun h => absurd h (by omega)⟩
theorem LAt.at_ {k : Nat} (h : LAt E w A n xs) (hk : k < n) : ∃ b off x, A = some ⟨b, off, none⟩ ∧ b < w.heap.size ∧ xs[k]? = some x ∧ E.ok x ∧ ∀ (r : Nat) (u : Value), (E.cells x)[r]? = some u → w.cell? ⟨b, off + k * E.sz + r, none⟩ = some u := by
  obtain ⟨b, off, e, hb, hc⟩ := h.2.2 (by omega)
  have hl : k < xs.length := by rw [h.1]; exact hk
  have ho := List.getElem?_eq_getElem hl
  refine ⟨b, off, xs[k], e, hb, ho, h.2.1 _ (List.getElem_mem hl), fun r u hu => ?_⟩
  have hr : r < E.sz := by rw [← E.len xs[k]]; exact (List.getElem?_eq_some_iff.1 hu).1
  have := hc (k * E.sz + r) u (by rw [Enc.all_at ho hr]; exact hu)
  rwa [← Nat.add_assoc] at this
theorem LAt.of_own {base : Nat} {e : TypeId} {v : Value} (h : w.ownsRow base e E.sz v n (E.all xs)) (ho : ∀ x ∈ xs, E.ok x) (hl : xs.length = n) : ∃ A c, v = .slice A n c ∧ n ≤ c ∧ c ≤ 9223372036854775807 ∧ LAt E w A n xs := by
  rcases h.2 with ⟨rfl, rfl⟩ | ⟨g, cap, cur, rfl, hbg, hg, hnc, hcm, hcs, htake⟩
  · have : xs = [] := List.eq_nil_of_length_eq_zero hl
    subst this
    exact ⟨none, 0, rfl, Nat.le_refl _, by omega, LAt.nil _ _ _⟩
  · refine ⟨_, _, rfl, hnc, by unfold maxLen at hcm; exact hcm, hl, ho, fun _ => ⟨g, 0, rfl, (Array.getElem?_eq_some_iff.1 hg).1, fun j u hu => ?_⟩⟩
    rw [Nat.zero_add, cell_of_row w g j cur e (0, 0) hg]
    have hj : j < n * E.sz := by
      have := (List.getElem?_eq_some_iff.1 hu).1
      rw [E.all_len, hl] at this
      exact this
    rw [← htake, List.getElem?_take_of_lt hj] at hu
    simpa using hu
theorem LAt.of_own' {base c : Nat} {e : TypeId} (h : w.ownsRow base e E.sz (.slice A n c) n (E.all xs)) (ho : ∀ x ∈ xs, E.ok x) (hl : xs.length = n) : LAt E w A n xs := by
  obtain ⟨A', c', hv, _, _, hr⟩ := LAt.of_own h ho hl
  injection hv with h1
  subst h1; exact hr
theorem LAt.of_blk {g : Nat} {t : TypeId} (h : Blk w g t (E.all xs)) (ho : ∀ x ∈ xs, E.ok x) (hn : xs.length = n) : LAt E w (some ⟨g, 0, none⟩) n xs :=
  ⟨hn, ho, fun _ => ⟨g, 0, rfl, h.lt, fun j u hu => by rw [Nat.zero_add, h.cell]; exact hu⟩⟩
/-- a store into a block of other values -/
theorem LAt.setBlk {g i : Nat} {t : TypeId} {cs : List Value} (h : LAt E w A n xs) (k : Blk w g t cs) (hne : ∀ x u v, u ∈ E.cells x → v ∈ cs → u ≠ v) (u : Value) : LAt E (w.setCell ⟨g, i, none⟩ u) A n xs :=
  ⟨h.1, h.2.1, fun hn => by
    obtain ⟨b, off, e, hb, hc⟩ := h.2.2 hn
    have hbg : b ≠ g := by
      intro hbg
      subst hbg
      obtain ⟨x, r, hx⟩ : ∃ x r, xs = x :: r := by
        cases xs with
        | nil => have := h.1; simp at this; omega
        | cons x r => exact ⟨x, r, rfl⟩
      obtain ⟨y, s, hy⟩ : ∃ y s, E.cells x = y :: s := by
        have h1 := E.len x
        have h2 := E.pos
        cases hcx : E.cells x with
        | nil => rw [hcx] at h1; simp at h1; omega
        | cons y s => exact ⟨y, s, rfl⟩
      have h0 := hc 0 y (by rw [hx, E.all_cons, hy]; rfl)
      rw [Nat.add_zero, k.cell] at h0
      exact hne x y y (by rw [hy]; simp) (List.mem_of_getElem? h0) rfl
    exact ⟨b, off, e, by simpa using hb, fun j v hv => (World.cell?_of_block (Below.heap_setCell w ⟨g, i, none⟩ u b hbg)).trans (hc j v hv)⟩⟩
/-- the first k -/
theorem LAt.take (h : LAt E w A n xs) {k : Nat} (hk : k ≤ n) : LAt E w A k (xs.take k) :=
  ⟨by rw [List.length_take, h.1]; omega, fun x hx => h.2.1 x (List.mem_of_mem_take hx), fun h0 => by
    obtain ⟨b, off, e, hb, hc⟩ := h.2.2 (by omega)
    refine ⟨b, off, e, hb, fun j u hu => hc j u ?_⟩
    have hx : xs = xs.take k ++ xs.drop k := (List.take_append_drop k xs).symm
    rw [hx, E.all_append, List.getElem?_append_left (List.getElem?_eq_some_iff.1 hu).1]; exact hu⟩
/-- 'append(s, xs...)': s the call's own, xs whatever reads -/
theorem run_append_L {P : Program} (w : World) (base : Nat) (t ty e : TypeId) (i : TypeInfo) (z : Value) (by_ : Nat) (ht : P.underlying t = some (.slice e)) (hi : P.info? e = some i) (hz : i.zero = some z)
    (hsize : i.size = E.sz) (hby : i.bytes = by_) (hzs : z.cells.size = E.sz) (v : Value) (n : Nat) (os : List α) (hown : w.ownsRow base e E.sz v n (E.all os))
    (A : Option Addr) (m c : Nat) (news : List α) (hr : LAt E w A m news) (hb : n + m ≤ maxLen) (hbytes : (n + m) * by_ ≤ 140737488355328) (hbase : base ≤ w.heap.size) :
    ∃ v' w', (Builtin.append_ #[t, t] ty #[v, .slice A m c]).run P w = .ok v' w' ∧ w'.ownsRow base e E.sz v' (n + m) (E.all (os ++ news)) ∧ Below base w w' ∧ w.grownBy w' v.ownBlock ∧ (v'.ownBlock = v.ownBlock ∨ v'.ownBlock = some w.heap.size) := by
  rcases A with _ | ad
  · have hm : m = 0 := by
      rcases Nat.eq_zero_or_pos m with h0 | h0
      · exact h0
      · obtain ⟨_, _, hh, _⟩ := hr.2.2 h0
        cases hh
    subst hm
    have hn : news = [] := List.eq_nil_of_length_eq_zero hr.1
    subst hn
    have hrun := run_append_nothing (P := P) (w := w) base t ty e i E.sz ht hi v n (E.all os) hown c
    exact ⟨v, w, hrun, by simpa using hown, Below.refl _ _, World.grownBy.refl w _, .inl rfl⟩
  · have hcells : ∀ j u, (E.all news)[j]? = some u → w.cell? (ad.add j) = some u := by
      intro j u hu
      have hj : 0 < m := by
        rcases Nat.eq_zero_or_pos m with h0 | h0
        · subst h0; rw [List.eq_nil_of_length_eq_zero hr.1] at hu; simp [Enc.all] at hu
        · exact h0
      obtain ⟨b, off, hh, _, hc⟩ := hr.2.2 hj
      injection hh with hh
      subst hh
      have he : (⟨b, off, none⟩ : Addr).add j = ⟨b, off + j, none⟩ := by unfold Addr.add; split <;> simp_all
      rw [he]; exact hc j u hu
    obtain ⟨v', w', hrun, h2, h3, _, h5⟩ := run_append_own_at (P := P) w base t ty e i z E.sz by_ ht hi hz hsize hby hzs E.pos v n (E.all os) hown ad m c (E.all news) (by rw [E.all_len, hr.1]) hcells (E.all_one news) hb hbytes hbase
    rw [← E.all_append] at h2
    exact ⟨v', w', hrun, h2, (Below.refl _ _).grown h3 hbase (own_lt_block hown), h3, h5⟩
theorem wpList_append_L {P : Program} {ops : Array Oper} {rest : List Oper} {o : Oper} {a : Act} {Q : Exit → Act → World → Prop} (hgd : o.guard = none) (s x : Operand) (t : TypeId)
    (ho : o.op = .call { callee := .builtin .append, args := #[s, x], argTypes := #[t, t] })
    (base : Nat) (e : TypeId) (i : TypeInfo) (z : Value) (by_ : Nat) (ht : P.underlying t = some (.slice e)) (hi : P.info? e = some i) (hz : i.zero = some z)
    (hsize : i.size = E.sz) (hby : i.bytes = by_) (hzs : z.cells.size = E.sz)
    (v : Value) (n : Nat) (os : List α) (hs : a.eval s = v) (hown : w.ownsRow base e E.sz v n (E.all os))
    (A : Option Addr) (m c : Nat) (news : List α) (hx : a.eval x = .slice A m c) (hr : LAt E w A m news)
    (hb : n + m ≤ maxLen) (hbytes : (n + m) * by_ ≤ 140737488355328) (hbase : base ≤ w.heap.size)
    (h : ∀ v' w', w'.ownsRow base e E.sz v' (n + m) (E.all (os ++ news)) → Below base w w' → w.grownBy w' v.ownBlock → (v'.ownBlock = v.ownBlock ∨ v'.ownBlock = some w.heap.size) → wpList P ops Q rest (a.put o.dst v') w') :
    wpList P ops Q (o :: rest) a w := by
  obtain ⟨v', w', hrun, h2, h3, h4, h5⟩ := run_append_L (P := P) w base t o.type e i z by_ ht hi hz hsize hby hzs v n os hown A m c news hr hb hbytes hbase
  refine wpList_plain hgd fun K hK => ?_
  unfold Oper.wp execOp
  simp only [ho, resolve, invoke, builtin, Sem.run_bind, Sem.run_pure, Result.andThen_ok, List.map_toArray, List.map_cons, List.map_nil, hs, hx, hrun]
  exact hK _ _ (h v' w' h2 h3 h4 h5)
end
/-- a literal of one element, behind which it is appended -/
theorem LAt.lit1 {α : Type} {E : Enc α} (w : World) (t : TypeId) (x : α) (hx : E.ok x) : LAt E (w.alloc (.cells (E.cells x).toArray t)) (some ⟨w.heap.size, 0, none⟩) 1 [x] :=
  LAt.of_blk (t := t) (by have := Blk.new w t (E.all [x]); rw [E.all_single] at this ⊢; exact this) (fun y hy => by rw [List.mem_singleton.1 hy]; exact hx) rfl

/-! ### texts, numbers, items -/
def encS : Enc ByteArray := { cells := fun s => [.string s], sz := 1, pos := by decide, len := fun _ => rfl, one := fun x u h => by simp at h; subst h; rfl, ok := fun s => s.size ≤ 9223372036854775807 }
def encI : Enc Int := { cells := fun z => [.int .i64 z], sz := 1, pos := by decide, len := fun _ => rfl, one := fun x u h => by simp at h; subst h; rfl, ok := fun z => -9223372036854775808 ≤ z ∧ z < 9223372036854775808 }
/-- an item: its session, its place in it, whether it writes, its variable's number, its value -/
structure It where
  se : Int
  pl : Int
  wr : Bool
  va : Int
  vl : Int
deriving DecidableEq
structure It.Ok (i : It) : Prop where
  s0 : -9223372036854775808 ≤ i.se
  s1 : i.se < 9223372036854775808
  p0 : -9223372036854775808 ≤ i.pl
  p1 : i.pl < 9223372036854775808
  v0 : -9223372036854775808 ≤ i.va
  v1 : i.va < 9223372036854775808
  x0 : -9223372036854775808 ≤ i.vl
  x1 : i.vl < 9223372036854775808
def encT : Enc It := { cells := fun i => [.int .i64 i.se, .int .i64 i.pl, .bool i.wr, .int .i64 i.va, .int .i64 i.vl], sz := 5, pos := by decide, len := fun _ => rfl, one := fun x u h => by simp only [List.mem_cons, List.not_mem_nil, or_false] at h; rcases h with rfl | rfl | rfl | rfl | rfl <;> rfl, ok := It.Ok }
theorem LAt.str {w : World} {A : Option Addr} {n k : Nat} {xs : List ByteArray} (h : LAt encS w A n xs) (hk : k < n) : ∃ b off s, A = some ⟨b, off, none⟩ ∧ b < w.heap.size ∧ xs[k]? = some s ∧ s.size ≤ 9223372036854775807 ∧ w.cell? ⟨b, off + k, none⟩ = some (.string s) := by
  obtain ⟨b, off, s, e, hb, hs, hok, hc⟩ := h.at_ hk
  exact ⟨b, off, s, e, hb, hs, hok, by have := hc 0 _ rfl; simpa [encS] using this⟩
theorem LAt.int {w : World} {A : Option Addr} {n k : Nat} {xs : List Int} (h : LAt encI w A n xs) (hk : k < n) : ∃ b off z, A = some ⟨b, off, none⟩ ∧ b < w.heap.size ∧ xs[k]? = some z ∧ (-9223372036854775808 ≤ z ∧ z < 9223372036854775808) ∧ w.cell? ⟨b, off + k, none⟩ = some (.int .i64 z) := by
  obtain ⟨b, off, s, e, hb, hs, hok, hc⟩ := h.at_ hk
  exact ⟨b, off, s, e, hb, hs, hok, by have := hc 0 _ rfl; simpa [encI] using this⟩
theorem LAt.item {w : World} {A : Option Addr} {n k : Nat} {xs : List It} (h : LAt encT w A n xs) (hk : k < n) : ∃ b off i, A = some ⟨b, off, none⟩ ∧ b < w.heap.size ∧ xs[k]? = some i ∧ It.Ok i ∧
    w.cell? ⟨b, off + k * 5, none⟩ = some (.int .i64 i.se) ∧ w.cell? ⟨b, off + k * 5 + 1, none⟩ = some (.int .i64 i.pl) ∧ w.cell? ⟨b, off + k * 5 + 2, none⟩ = some (.bool i.wr) ∧ w.cell? ⟨b, off + k * 5 + 3, none⟩ = some (.int .i64 i.va) ∧ w.cell? ⟨b, off + k * 5 + 4, none⟩ = some (.int .i64 i.vl) := by
  obtain ⟨b, off, i, e, hb, hi, hok, hc⟩ := h.at_ hk
  exact ⟨b, off, i, e, hb, hi, hok, hc 0 _ rfl, hc 1 _ rfl, hc 2 _ rfl, hc 3 _ rfl, hc 4 _ rfl⟩
/-- the facts of a history -/
structure Fac where
  vars : List ByteArray
  items : List It
  frm : List Int
deriving DecidableEq
/-- where facts lie: three slices -/
structure FV where
  A : Option Addr
  n : Nat
  c : Nat
  B : Option Addr
  m : Nat
  d : Nat
  C : Option Addr
  k : Nat
  e : Nat
def FV.cells (v : FV) : List Value := [.slice v.A v.n v.c, .slice v.B v.m v.d, .slice v.C v.k v.e]
structure FactsAt (w : World) (v : FV) (f : Fac) : Prop where
  vs : LAt encS w v.A v.n f.vars
  vc : v.n ≤ v.c
  vm : v.c ≤ 9223372036854775807
  is : LAt encT w v.B v.m f.items
  ic : v.m ≤ v.d
  im : v.d ≤ 9223372036854775807
  fs : LAt encI w v.C v.k f.frm
  fc : v.k ≤ v.e
  fm : v.e ≤ 9223372036854775807
theorem FactsAt.below {w w' : World} {v : FV} {f : Fac} (h : FactsAt w v f) (hb : Below w.heap.size w w') : FactsAt w' v f :=
  ⟨h.vs.below hb, h.vc, h.vm, h.is.below hb, h.ic, h.im, h.fs.below hb, h.fc, h.fm⟩
theorem FactsAt.setBlk {w : World} {v : FV} {f : Fac} {g i : Nat} {t : TypeId} {cs : List Value} (h : FactsAt w v f) (k : Blk w g t cs) (hcs : ∀ u ∈ cs, ∃ A n c, u = .slice A n c) (u : Value) : FactsAt (w.setCell ⟨g, i, none⟩ u) v f :=
  ⟨h.vs.setBlk k (fun x y z hy hz e => by
    obtain ⟨A, n, c, rfl⟩ := hcs z hz
    simp only [encS, List.mem_cons, List.not_mem_nil, or_false] at hy
    rw [hy] at e; cases e) u, h.vc, h.vm, h.is.setBlk k (fun x y z hy hz e => by
    obtain ⟨A, n, c, rfl⟩ := hcs z hz
    simp only [encT, List.mem_cons, List.not_mem_nil, or_false] at hy
    rw [e] at hy; rcases hy with h | h | h | h | h <;> cases h) u, h.ic, h.im, h.fs.setBlk k (fun x y z hy hz e => by
    obtain ⟨A, n, c, rfl⟩ := hcs z hz
    simp only [encI, List.mem_cons, List.not_mem_nil, or_false] at hy
    rw [hy] at e; cases e) u, h.fc, h.fm⟩
/-- facts put into a variable of facts, part by part -/
theorem FactsAt.put {w : World} {v : FV} {f : Fac} {g : Nat} {t : TypeId} {a b c : Value} (h : FactsAt w v f) (k : Blk w g t [a, b, c]) (hcs : ∀ u ∈ [a, b, c], ∃ A n c, u = .slice A n c) :
    FactsAt (((w.setCell ⟨g, 0, none⟩ (.slice v.A v.n v.c)).setCell ⟨g, 1, none⟩ (.slice v.B v.m v.d)).setCell ⟨g, 2, none⟩ (.slice v.C v.k v.e)) v f := by
  refine ((h.setBlk k hcs _).setBlk (k.set_ 0 _) (fun u hu => ?_) _).setBlk ((k.set_ 0 _).set_ 1 _) (fun u hu => ?_) _
  · simp only [List.set_cons_zero, List.mem_cons, List.not_mem_nil, or_false] at hu
    rcases hu with rfl | rfl | rfl
    · exact ⟨_, _, _, rfl⟩
    · exact hcs _ (by simp)
    · exact hcs _ (by simp)
  · simp only [List.set_cons_zero, List.set_cons_succ, List.mem_cons, List.not_mem_nil, or_false] at hu
    rcases hu with rfl | rfl | rfl
    · exact ⟨_, _, _, rfl⟩
    · exact ⟨_, _, _, rfl⟩
    · exact hcs _ (by simp)
/-- a call's answer: facts -/
def RetFacts (f : Fac) (w : World) (e : Ending) (w' : World) : Prop := ∃ v : FV, e = .returned (.agg #[.slice v.A v.n v.c, .slice v.B v.m v.d, .slice v.C v.k v.e]) ∧ FactsAt w' v f ∧ Below w.heap.size w w'
end Go.Proofs.Ytcdfpodhiogpiaa
