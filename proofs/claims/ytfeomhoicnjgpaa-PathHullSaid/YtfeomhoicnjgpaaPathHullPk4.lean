/- Plain mathematics of a search breadth first: why the path by which a number is met first is the first path. Nothing of the program is named. A queue of numbers of a call's own: 'q = q[1:]', 'q = append(q, x)'. No function of the program is named here. And the search over a matrix's pairs, as plain mathematics. A search breadth first over a matrix, its memory: who isn't met as a row of bits, from whom as numbers, the queue. No function of the program is named. -/
import Derived.Test.YtfeomhoicnjgpaaPathHullPk3
import Derived.Test.YtfeomhoicnjgpaaPathHullPk2
import Derived.ArgAppend
import Derived.Test.YtfeomhoicnjgpaaPathHullPk1
namespace Go.Proofs.Ytfeomhoicnjgpaa
set_option linter.unusedVariables false

/-- a list is no later than another one: it is shorter, or of one length and no greater number by number -/
def leP (l l' : List Nat) : Prop := l.length < l'.length ∨ (l.length = l'.length ∧ (l = l' ∨ l < l'))
theorem leP.refl (l : List Nat) : leP l l := .inr ⟨rfl, .inl rfl⟩
theorem leP.nil (l : List Nat) : leP [] l := by
  cases l with
  | nil => exact leP.refl _
  | cons x l => exact .inl (by simp)
theorem leP.trans {a b c : List Nat} (h : leP a b) (k : leP b c) : leP a c := by
  rcases h with h | ⟨h, h2⟩ <;> rcases k with k | ⟨k, k2⟩
  · exact .inl (by omega)
  · exact .inl (by omega)
  · exact .inl (by omega)
  · refine .inr ⟨by omega, ?_⟩
    rcases h2 with rfl | h2
    · exact k2
    · rcases k2 with rfl | k2
      · exact .inr h2
      · exact .inr (List.lt_trans h2 k2)
theorem lt_app : ∀ {l l' : List Nat}, l.length = l'.length → l < l' → ∀ x y : List Nat, l ++ x < l' ++ y
  | [], [], _, h, x, y => absurd h (by simp)
  | a :: l, b :: l', hl, h, x, y => by
    rw [List.cons_append, List.cons_append]
    rcases List.cons_lt_cons_iff.1 h with h1 | ⟨h1, h2⟩
    · exact List.cons_lt_cons_iff.2 (.inl h1)
    · exact List.cons_lt_cons_iff.2 (.inr ⟨h1, lt_app (by simpa using hl) h2 x y⟩)
theorem app_lt : ∀ (l : List Nat) {x y : List Nat}, x < y → l ++ x < l ++ y
  | [], _, _, h => h
  | a :: l, _, _, h => List.cons_lt_cons_iff.2 (.inr ⟨rfl, app_lt l h⟩)
theorem leP.snoc {l l' : List Nat} (h : leP l l') (y : Nat) : leP (l ++ [y]) (l' ++ [y]) := by
  rcases h with h | ⟨h, h2⟩
  · exact .inl (by simp; omega)
  · refine .inr ⟨by simp; omega, ?_⟩
    rcases h2 with rfl | h2
    · exact .inl rfl
    · exact .inr (lt_app h h2 _ _)
theorem leP.step {l l' : List Nat} (h : leP l l') (hne : l ≠ l') (y z : Nat) : leP (l ++ [y]) (l' ++ [z]) := by
  rcases h with h | ⟨h, h2⟩
  · exact .inl (by simp; omega)
  · refine .inr ⟨by simp; omega, ?_⟩
    rcases h2 with rfl | h2
    · exact absurd rfl hne
    · exact .inr (lt_app h h2 _ _)
theorem leP.last (l : List Nat) {y z : Nat} (h : y ≤ z) : leP (l ++ [y]) (l ++ [z]) := by
  refine .inr ⟨by simp, ?_⟩
  rcases Nat.lt_or_ge y z with h1 | h1
  · exact .inr (app_lt l (List.cons_lt_cons_iff.2 (.inl h1)))
  · exact .inl (by rw [show y = z by omega])
theorem leP.pre (l l' : List Nat) : leP l (l ++ l') := by
  cases l' with
  | nil => rw [List.append_nil]; exact leP.refl _
  | cons x l' => exact .inl (by simp)
theorem First.of_le {r : Nat → Nat → Prop} {i j : Nat} {l : List Nat} (hw : Way r i j l) (hne : l ≠ []) (h : ∀ l', Way r i j l' → l' ≠ [] → leP l l') : First r i j l := ⟨hw, hne, h⟩
theorem Way.snoc {r : Nat → Nat → Prop} {i k j : Nat} {l : List Nat} (h : Way r i k l) (h2 : r k j) : Way r i j (l ++ [j]) := h.append ⟨h2, rfl⟩
theorem Way.snoc_inv {r : Nat → Nat → Prop} {i j : Nat} {l : List Nat} (h : Way r i j l) (hne : l ≠ []) : ∃ k l', l = l' ++ [j] ∧ Way r i k l' ∧ r k j := by
  obtain ⟨l', x, rfl⟩ : ∃ l' x, l = l' ++ [x] := ⟨l.dropLast, l.getLast hne, (List.dropLast_concat_getLast hne).symm⟩
  obtain ⟨k, h1, h2⟩ := Way.split h
  have h3 : x = j := h2.2
  subst h3
  exact ⟨k, l', rfl, h1, h2.1⟩
/-- a way out of a set crosses its border -/
theorem Way.leave {r : Nat → Nat → Prop} {D : Nat → Prop} : ∀ {i j : Nat} {l : List Nat}, Way r i j l → D i → ¬ D j → ∃ l1 u l2 v, l = l1 ++ u :: l2 ∧ Way r i v l1 ∧ D v ∧ r v u ∧ ¬ D u
  | i, j, [], h, hi, hj => by
    have h : i = j := h
    subst h; exact absurd hi hj
  | i, j, k :: l, h, hi, hj => by
    by_cases hk : D k
    · obtain ⟨l1, u, l2, v, e, h1, h2, h3, h4⟩ := Way.leave h.2 hk hj
      exact ⟨k :: l1, u, l2, v, by rw [e]; rfl, ⟨h.1, h1⟩, h2, h3, h4⟩
    · exact ⟨[], k, l, i, rfl, rfl, hi, h.1, hk⟩

section
variable {r : Nat → Nat → Prop} {n x : Nat} {T D : Nat → Prop} {p : Nat → List Nat} {q : List (Nat × List Nat)}
/-- how two items of the queue stand to one another -/
def QRel (b : Nat) (a c : Nat × List Nat) : Prop := leP a.2 c.2 ∧ a.2 ≠ c.2 ∧ ∀ y, b ≤ y → leP c.2 (a.2 ++ [y])
/-- between two steps: T are met (by the paths p), D were taken off the queue, q is it -/
structure BfsQ (r : Nat → Nat → Prop) (n x : Nat) (T D : Nat → Prop) (p : Nat → List Nat) (q : List (Nat × List Nat)) : Prop where
  met : ∀ y, T y → y < n ∧ First r x y (p y)
  done : ∀ z y, D z → r z y → T y
  all : ∀ u, T u → D u ∨ (u, p u) ∈ q
  start : D x ∨ q = [(x, [])]
  inq : ∀ a ∈ q, a.1 < n ∧ ((T a.1 ∧ a.2 = p a.1) ∨ (a = (x, []) ∧ ¬ D x ∧ q = [(x, [])]))
  sorted : q.Pairwise (QRel 0)
/-- within a step: (z, l) was taken off, its pairs below b were followed -/
structure BfsS (r : Nat → Nat → Prop) (n x : Nat) (T D : Nat → Prop) (p : Nat → List Nat) (q : List (Nat × List Nat)) (z : Nat) (l : List Nat) (b : Nat) : Prop where
  met : ∀ y, T y → y < n ∧ First r x y (p y)
  done : ∀ z y, D z → r z y → T y
  all : ∀ u, T u → D u ∨ (u = z ∧ l = p u) ∨ (u, p u) ∈ q
  start : D x ∨ (z = x ∧ l = [])
  inq : ∀ a ∈ q, a.1 < n ∧ T a.1 ∧ a.2 = p a.1
  sorted : q.Pairwise (QRel 0)
  scanned : ∀ y, y < b → r z y → T y
  lt : z < n
  item : (T z ∧ l = p z) ∨ (z = x ∧ l = [])
  way : Way r x z l
  ord : ∀ a ∈ q, QRel b (z, l) a
theorem BfsQ.begin (hx : x < n) : BfsQ r n x (fun _ => False) (fun _ => False) p [(x, [])] :=
  ⟨fun y h => h.elim, fun z y h => h.elim, fun u h => h.elim, .inr rfl, fun a ha => by
    rw [List.mem_singleton.1 ha]; exact ⟨hx, .inr ⟨rfl, id, rfl⟩⟩, List.pairwise_singleton _ _⟩
theorem BfsQ.pop {z : Nat} {l : List Nat} (h : BfsQ r n x T D p ((z, l) :: q)) : BfsS r n x T D p q z l 0 := by
  have h0 := h.inq (z, l) (List.mem_cons_self ..)
  have hs := List.pairwise_cons.1 h.sorted
  refine ⟨h.met, h.done, fun u hu => ?_, ?_, fun a ha => ?_, hs.2, fun y hy => by omega, h0.1, ?_, ?_, hs.1⟩
  · rcases h.all u hu with h1 | h1
    · exact .inl h1
    · rcases List.mem_cons.1 h1 with h2 | h2
      · injection h2 with h3 h4
        exact .inr (.inl ⟨h3, h4.symm⟩)
      · exact .inr (.inr h2)
  · rcases h.start with h1 | h1
    · exact .inl h1
    · injection h1 with h2 _
      injection h2 with h3 h4
      exact .inr ⟨h3, h4⟩
  · have h1 := h.inq a (List.mem_cons_of_mem _ ha)
    refine ⟨h1.1, ?_⟩
    rcases h1.2 with h2 | ⟨_, _, h4⟩
    · exact h2
    · injection h4 with _ h5
      rw [h5] at ha; cases ha
  · rcases h0.2 with h1 | ⟨h1, _⟩
    · exact .inl h1
    · injection h1 with h2 h3
      exact .inr ⟨h2, h3⟩
  · rcases h0.2 with ⟨h1, h2⟩ | ⟨h1, _⟩
    · have h2 : l = p z := h2
      rw [h2]; exact (h.met z h1).2.way
    · injection h1 with h2 h3
      subst h2; subst h3; exact rfl
theorem BfsS.weaken {z b b' : Nat} {l : List Nat} (h : BfsS r n x T D p q z l b) (hb : b ≤ b') (hs : ∀ y, y < b' → r z y → T y) : BfsS r n x T D p q z l b' :=
  ⟨h.met, h.done, h.all, h.start, h.inq, h.sorted, hs, h.lt, h.item, h.way, fun a ha => ⟨(h.ord a ha).1, (h.ord a ha).2.1, fun y hy => (h.ord a ha).2.2 y (by omega)⟩⟩
/-- the item is no later than any way to a number from which one that isn't met is reached in one step -/
theorem BfsS.key {z b v y : Nat} {l l' : List Nat} (h : BfsS r n x T D p q z l b) (hv : r v y) (hy : ¬ T y) (hw : Way r x v l') : leP l l' := by
  rcases h.start with hx | ⟨_, rfl⟩
  · have hvD : ¬ D v := fun hd => hy (h.done v y hd hv)
    obtain ⟨l1, u, l2, v', rfl, h1, h2, h3, h4⟩ := Way.leave hw hx hvD
    have huT := h.done v' u h2 h3
    have hle : leP (p u) (l1 ++ [u]) := (h.met u huT).2.least _ (h1.snoc h3) (by simp)
    have hlu : leP l (p u) := by
      rcases h.all u huT with h5 | ⟨_, h5⟩ | h5
      · exact absurd h5 h4
      · rw [h5]; exact leP.refl _
      · exact (h.ord _ h5).1
    have e : l1 ++ u :: l2 = (l1 ++ [u]) ++ l2 := by simp
    rw [e]
    exact (hlu.trans hle).trans (leP.pre _ _)
  · exact leP.nil _
theorem BfsS.first {z b y : Nat} {l : List Nat} (h : BfsS r n x T D p q z l b) (hzy : r z y) (hy : ¬ T y) : First r x y (l ++ [y]) :=
  First.of_le (h.way.snoc hzy) (by simp) (fun l' hw hne => by
    obtain ⟨k, l'', rfl, h1, h2⟩ := hw.snoc_inv hne
    exact (h.key h2 hy h1).snoc y)
def putP (p : Nat → List Nat) (y : Nat) (m : List Nat) : Nat → List Nat := fun u => if u = y then m else p u
theorem putP_at (p : Nat → List Nat) (y : Nat) (m : List Nat) : putP p y m y = m := if_pos rfl
theorem putP_ne {p : Nat → List Nat} {y u : Nat} {m : List Nat} (h : u ≠ y) : putP p y m u = p u := if_neg h
theorem BfsS.push {z b y : Nat} {l : List Nat} (h : BfsS r n x T D p q z l b) (hby : b ≤ y) (hs : ∀ y', y' < y → r z y' → T y') (hzy : r z y) (hy : ¬ T y) (hyn : y < n) :
    BfsS r n x (fun u => T u ∨ u = y) D (putP p y (l ++ [y])) (q ++ [(y, l ++ [y])]) z l (y + 1) := by
  have hne : ∀ u, T u → u ≠ y := fun u hu e => hy (e ▸ hu)
  have hF := h.first hzy hy
  have hzl : T z → l = p z → l ≠ l ++ [y] := fun _ _ e => by simp at e
  have hmy : ∀ a ∈ q, a.2 ≠ l ++ [y] := fun a ha e => by
    obtain ⟨h1, h2, h3⟩ := h.inq a ha
    have h4 := (h.met a.1 h2).2
    have h5 := h4.way.last h4.ne
    have h6 := (h.way.snoc hzy).last (by simp)
    rw [h3] at e
    have : a.1 = y := by rw [← h5, ← h6]; congr 1
    exact hne _ h2 this
  refine ⟨?_, ?_, ?_, h.start, ?_, ?_, ?_, h.lt, ?_, h.way, ?_⟩
  · intro u hu
    rcases hu with hu | rfl
    · rw [putP_ne (hne u hu)]; exact h.met u hu
    · rw [putP_at]; exact ⟨hyn, hF⟩
  · intro z' y' h1 h2; exact .inl (h.done z' y' h1 h2)
  · intro u hu
    rcases hu with hu | rfl
    · rw [putP_ne (hne u hu)]
      rcases h.all u hu with h1 | h1 | h1
      · exact .inl h1
      · exact .inr (.inl h1)
      · exact .inr (.inr (List.mem_append.2 (.inl h1)))
    · rw [putP_at]; exact .inr (.inr (List.mem_append.2 (.inr (List.mem_singleton.2 rfl))))
  · intro a ha
    rcases List.mem_append.1 ha with ha | ha
    · obtain ⟨h1, h2, h3⟩ := h.inq a ha
      exact ⟨h1, .inl h2, by rw [putP_ne (hne _ h2)]; exact h3⟩
    · rw [List.mem_singleton.1 ha]; exact ⟨hyn, .inr rfl, (putP_at _ _ _).symm⟩
  · rw [List.pairwise_append]
    refine ⟨h.sorted, List.pairwise_singleton _ _, fun a ha c hc => ?_⟩
    rw [List.mem_singleton.1 hc]
    obtain ⟨h1, h2, h3⟩ := h.ord a ha
    exact ⟨h3 y hby, hmy a ha, fun y' _ => h1.step h2 y y'⟩
  · intro y' hy' h1
    rcases Nat.lt_or_ge y' y with h2 | h2
    · exact .inl (hs y' h2 h1)
    · exact .inr (by omega)
  · rcases h.item with ⟨h1, h2⟩ | h1
    · exact .inl ⟨.inl h1, by rw [putP_ne (hne _ h1)]; exact h2⟩
    · exact .inr h1
  · intro a ha
    rcases List.mem_append.1 ha with ha | ha
    · obtain ⟨h1, h2, h3⟩ := h.ord a ha
      exact ⟨h1, h2, fun y' hy' => h3 y' (by omega)⟩
    · rw [List.mem_singleton.1 ha]
      exact ⟨leP.pre _ _, fun e => by simp at e, fun y' hy' => leP.last l (by omega)⟩
theorem BfsS.next {z b : Nat} {l : List Nat} (hr : ∀ i j, r i j → i < n ∧ j < n) (hb : n ≤ b) (h : BfsS r n x T D p q z l b) : BfsQ r n x T (fun u => D u ∨ u = z) p q := by
  refine ⟨h.met, fun z' y h1 h2 => ?_, fun u hu => ?_, ?_, fun a ha => ?_, h.sorted⟩
  · rcases h1 with h1 | rfl
    · exact h.done z' y h1 h2
    · exact h.scanned y (by have := (hr _ _ h2).2; omega) h2
  · rcases h.all u hu with h1 | ⟨h1, _⟩ | h1
    · exact .inl (.inl h1)
    · exact .inl (.inr h1)
    · exact .inr h1
  · rcases h.start with h1 | ⟨h1, _⟩
    · exact .inl (.inl h1)
    · exact .inl (.inr h1.symm)
  · have h1 := h.inq a ha
    exact ⟨h1.1, .inl h1.2⟩
/-- nothing is left in the queue: what isn't met isn't reached -/
theorem BfsQ.none (h : BfsQ r n x T D p []) {j : Nat} (hj : ¬ T j) : ¬ Conn r x j := fun hc => by
  have hx : D x := by
    rcases h.start with h1 | h1
    · exact h1
    · cases h1
  have hall : ∀ y, Conn r x y → T y := fun y hy => by
    induction hy with
    | one h1 => exact h.done _ _ hx h1
    | step _ h1 ih =>
      rcases h.all _ ih with h2 | h2
      · exact h.done _ _ h2 h1
      · cases h2
  exact hj (hall j hc)

/-- fm tells from which number each one was met -/
def FromOk (x : Nat) (T : Nat → Prop) (fm : Nat → Nat) (p : Nat → List Nat) : Prop :=
  ∀ y, T y → (fm y = x ∧ p y = [y]) ∨ (T (fm y) ∧ fm y ≠ x ∧ p y = p (fm y) ++ [y])
theorem FromOk.push {fm fm' : Nat → Nat} {z b y : Nat} {l : List Nat} (hf : FromOk x T fm p) (h : BfsS r n x T D p q z l b) (hzy : r z y) (hy : ¬ T y) (h1 : fm' y = z) (h2 : ∀ u, u ≠ y → fm' u = fm u) :
    FromOk x (fun u => T u ∨ u = y) fm' (putP p y (l ++ [y])) := by
  have hne : ∀ u, T u → u ≠ y := fun u hu e => hy (e ▸ hu)
  intro u hu
  by_cases e : u = y
  · subst e
    rw [h1, putP_at]
    rcases h.item with ⟨h3, h4⟩ | ⟨h3, h4⟩
    · by_cases hzx : z = x
      · rcases h.start with h5 | ⟨_, h5⟩
        · exact absurd (h.done x u h5 (hzx ▸ hzy)) hy
        · exact .inl ⟨hzx, by rw [h5]; rfl⟩
      · exact .inr ⟨.inl h3, hzx, by rw [putP_ne (hne _ h3), ← h4]⟩
    · exact .inl ⟨h3, by rw [h4]; rfl⟩
  · have hu' : T u := by
      rcases hu with hu | hu
      · exact hu
      · exact absurd hu e
    rw [h2 u e, putP_ne e]
    rcases hf u hu' with h3 | ⟨h3, h4, h5⟩
    · exact .inl h3
    · exact .inr ⟨.inl h3, h4, by rw [putP_ne (hne _ h3)]; exact h5⟩
/-- going back from number to number -/
theorem FromOk.back {fm : Nat → Nat} (hf : FromOk x T fm p) : ∀ (m : Nat) (y : Nat), (p y).length ≤ m → T y → ∀ k, k < (p y).length → T ((p y).getD k 0) ∧ fm ((p y).getD k 0) = (x :: p y).getD k 0
  | 0, y, hm, hy, k, hk => by omega
  | m + 1, y, hm, hy, k, hk => by
    rcases hf y hy with ⟨h1, h2⟩ | ⟨h1, h2, h3⟩
    · rw [h2] at hk ⊢
      have : k = 0 := by simpa using hk
      subst this
      exact ⟨by simpa using hy, by simpa using h1⟩
    · rw [h3] at hk hm ⊢
      simp only [List.length_append, List.length_cons, List.length_nil] at hk hm
      rcases Nat.lt_or_ge k (p (fm y)).length with h4 | h4
      · have ih := FromOk.back hf m (fm y) (by omega) h1 k h4
        have e1 : (p (fm y) ++ [y]).getD k 0 = (p (fm y)).getD k 0 := by
          rw [List.getD_eq_getElem?_getD, List.getElem?_append_left h4, ← List.getD_eq_getElem?_getD]
        have e2 : (x :: (p (fm y) ++ [y])).getD k 0 = (x :: p (fm y)).getD k 0 := by
          rw [← List.cons_append, List.getD_eq_getElem?_getD, List.getElem?_append_left (by simp; omega), ← List.getD_eq_getElem?_getD]
        rw [e1, e2]; exact ih
      · have hk' : k = (p (fm y)).length := by omega
        have e1 : (p (fm y) ++ [y]).getD k 0 = y := by
          rw [List.getD_eq_getElem?_getD, List.getElem?_append_right h4, hk']; simp
        refine ⟨by rw [e1]; exact hy, ?_⟩
        rw [e1, ← List.cons_append, List.getD_eq_getElem?_getD, List.getElem?_append_left (by simp; omega), ← List.getD_eq_getElem?_getD]
        -- the last number of the path to fm y
        have hlast : ∀ y', T y' → (x :: p y').getD (p y').length 0 = y' := fun y' hy' => by
          rcases hf y' hy' with ⟨_, h5⟩ | ⟨_, _, h5⟩ <;> rw [h5] <;> simp
        rw [hk', hlast _ h1]
theorem FromOk.last {fm : Nat → Nat} (hf : FromOk x T fm p) {y : Nat} (hy : T y) : p y ≠ [] ∧ (x :: p y).getD (p y).length 0 = y := by
  rcases hf y hy with ⟨_, h5⟩ | ⟨_, _, h5⟩ <;> rw [h5] <;> simp
end
end Go.Proofs.Ytfeomhoicnjgpaa

namespace Go.Proofs.Ytfeomhoicnjgpaa
open Go.RowKit
set_option linter.unusedVariables false

/-- a slice somewhere in a block of the call's own, that reads as the numbers zs -/
def QN (w : World) (base : Nat) (t : TypeId) (v : Value) (zs : List Nat) : Prop :=
  ∃ g off cap cs, v = .slice (some ⟨g, off, none⟩) zs.length cap ∧ base ≤ g ∧ w.heap[g]? = some (.cells cs t (0, 0)) ∧ zs.length ≤ cap ∧ cap ≤ maxLen ∧ off + cap ≤ cs.size ∧ ∀ (j z : Nat), zs[j]? = some z → cs[off + j]? = some (.int .i64 (z : Int))
def qlen : Value → Nat
  | .slice _ n _ => n
  | _ => 0
section
variable {w w' : World} {base : Nat} {t : TypeId} {v : Value} {zs : List Nat}
theorem cell_cells {w : World} {g : Nat} {cs : Array Value} {t : TypeId} {fr : Nat × Nat} (h : w.heap[g]? = some (.cells cs t fr)) (i : Nat) : w.cell? ⟨g, i, none⟩ = cs[i]? := cell_of_row w g i cs t fr h
theorem frozen_cells {w : World} {g : Nat} {cs : Array Value} {t : TypeId} (h : w.heap[g]? = some (.cells cs t (0, 0))) (i : Nat) : w.frozen? ⟨g, i, none⟩ = false := by simp [World.frozen?, h]
theorem QN.qlen_ (h : QN w base t v zs) : qlen v = zs.length := by obtain ⟨g, off, cap, cs, rfl, _⟩ := h; rfl
theorem QN.of_own {n : Nat} (h : w.ownsRow base t 1 v n (zs.map natv)) (h0 : 0 < n) : QN w base t v zs := by
  have hl : zs.length = n := by have := h.1; simpa using this
  rcases h.2 with ⟨h1, h2⟩ | ⟨g, cap, cur, rfl, hbg, hg, hnc, hcm, hcs, htake⟩
  · omega
  · refine ⟨g, 0, cap, cur, by rw [hl], hbg, hg, by omega, hcm, by omega, fun j z hj => ?_⟩
    have hjl := (List.getElem?_eq_some_iff.1 hj).1
    have : (zs.map natv)[j]? = some (natv z) := by rw [List.getElem?_map, hj]; rfl
    rw [← htake, List.getElem?_take_of_lt (by omega)] at this
    rw [Nat.zero_add]
    simpa [natv] using this
theorem QN.lt (h : QN w base t v zs) : ∀ g, v.ownBlock = some g → base ≤ g ∧ g < w.heap.size := by
  obtain ⟨g, off, cap, cs, rfl, hb, hg, _⟩ := h
  intro k hk
  have : g = k := by simpa [Value.ownBlock] using hk
  subst this
  exact ⟨hb, (Array.getElem?_eq_some_iff.1 hg).1⟩
theorem QN.below (h : QN w base t v zs) (hb : Below w.heap.size w w') : QN w' base t v zs := by
  obtain ⟨g, off, cap, cs, hv, h1, hg, r⟩ := h
  exact ⟨g, off, cap, cs, hv, h1, (hb.block g (Array.getElem?_eq_some_iff.1 hg).1).trans hg, r⟩
theorem QN.far (h : QN w base t v zs) {p : Addr} (hp : v.ownBlock ≠ some p.block) (u : Value) : QN (w.setCell p u) base t v zs := by
  obtain ⟨g, off, cap, cs, rfl, h1, hg, r⟩ := h
  refine ⟨g, off, cap, cs, rfl, h1, ?_, r⟩
  rw [Below.heap_setCell w p u g (fun e => hp (by rw [← e]; rfl))]; exact hg
/-- 'q[0]', 'q[1:]' -/
theorem QN.pop {z : Nat} (h : QN w base t v (z :: zs)) : ∃ g off cap, v = .slice (some ⟨g, off, none⟩) (zs.length + 1) cap ∧ w.cell? ⟨g, off, none⟩ = some (.int .i64 (z : Int)) ∧ zs.length + 1 ≤ cap ∧
    (cap = 1 → QN w base t (.slice (some ⟨g, off, none⟩) zs.length 0) zs) ∧ (cap ≠ 1 → QN w base t (.slice (some ⟨g, off + 1, none⟩) zs.length (cap - 1)) zs) := by
  obtain ⟨g, off, cap, cs, hv, h1, hg, hl, hm, hs, hc⟩ := h
  have hl' : zs.length + 1 ≤ cap := by simpa using hl
  refine ⟨g, off, cap, by rw [hv]; simp, ?_, hl', fun hc1 => ?_, fun hc1 => ?_⟩
  · rw [cell_cells hg]
    have := hc 0 z rfl
    simpa using this
  · have : zs = [] := List.eq_nil_of_length_eq_zero (by omega)
    subst this
    exact ⟨g, off, 0, cs, rfl, h1, hg, Nat.le_refl _, by omega, by omega, fun j z h => by simp at h⟩
  · refine ⟨g, off + 1, cap - 1, cs, rfl, h1, hg, by omega, by omega, by omega, fun j z' hj => ?_⟩
    have := hc (j + 1) z' (by simpa using hj)
    rw [show off + 1 + j = off + (j + 1) by omega]; exact this
theorem QN.nil (h : QN w base t v []) : ∃ g off cap, v = .slice (some ⟨g, off, none⟩) 0 cap := by
  obtain ⟨g, off, cap, cs, hv, _⟩ := h
  exact ⟨g, off, cap, by simpa using hv⟩
end
section
variable {P : Program}
/-- 'q = append(q, x)' -/
theorem run_append_q (w : World) (base : Nat) (t ty e : TypeId) (i : TypeInfo) (z : Value) (ht : P.underlying t = some (.slice e)) (hi : P.info? e = some i) (hz : i.zero = some z) (hsize : i.size = 1) (hby : i.bytes = 8) (hzs : z.cells.size = 1)
    {v : Value} {zs : List Nat} (hq : QN w base e v zs) (ad : Addr) (c x : Nat) (hx : w.cell? ad = some (.int .i64 (x : Int))) (hn : zs.length ≤ 1073741824) (hbase : base ≤ w.heap.size) :
    ∃ v' w', (Builtin.append_ #[t, t] ty #[v, .slice (some ad) 1 c]).run P w = .ok v' w' ∧ QN w' base e v' (zs ++ [x]) ∧ w.grownBy w' v.ownBlock := by
  obtain ⟨g, off, cap, cs, rfl, hb, hg, hl, hm, hs, hc⟩ := hq
  have hnews : ∀ j u, [Value.int .i64 (x : Int)][j]? = some u → w.cell? (ad.add j) = some u := fun j u hj => by
    match j, hj with
    | 0, hj =>
      have ha : ad.add 0 = ad := by obtain ⟨b, o, s⟩ := ad; unfold Addr.add; split <;> simp_all
      rw [ha, hx]
      simpa using hj
    | j + 1, hj => simp at hj
  by_cases hr : zs.length + 1 ≤ cap
  · have hcell : (w.cell? ⟨g, off + zs.length, none⟩).isSome = true := by
      rw [cell_cells hg, Array.getElem?_eq_getElem (by omega)]; rfl
    have hrun := run_append_room_cells (P := P) w t ty e i ht hi g off zs.length cap ad 1 c [.int .i64 (x : Int)] (by rw [hsize]; rfl) hnews (by simp [Value.oneCell']) hr
      (fun j hj => by
        have : j = 0 := by simpa using hj
        subst this
        rw [hsize]; simpa using hcell)
      (fun j hj => frozen_cells hg _)
    rw [hsize, Nat.mul_one] at hrun
    have hset : w.setCells g (off + zs.length) [.int .i64 (x : Int)] = w.setCell ⟨g, off + zs.length, none⟩ (.int .i64 (x : Int)) := rfl
    rw [hset] at hrun
    refine ⟨_, _, hrun, ⟨g, off, cap, cs.set! (off + zs.length) (.int .i64 (x : Int)), by simp, hb, ?_, by simpa using hr, hm, by simpa using hs, fun j z' hj => ?_⟩, ?_⟩
    · simp [World.setCell, Array.getElem?_modify, hg]
    · simp only [Array.set!_eq_setIfInBounds, Array.getElem?_setIfInBounds]
      rcases Nat.lt_or_ge j zs.length with hj' | hj'
      · rw [List.getElem?_append_left hj'] at hj
        rw [if_neg (by omega)]
        exact hc j z' hj
      · rw [List.getElem?_append_right hj'] at hj
        have hj0 : j - zs.length = 0 := by
          have := (List.getElem?_eq_some_iff.1 hj).1
          simpa using this
        rw [hj0] at hj
        simp at hj
        rw [if_pos (by omega), if_pos (by omega), hj]
    · exact ⟨rfl, rfl, rfl, by simp, fun k hk hne => Below.heap_setCell w _ _ k (by
        intro e'
        apply hne
        have e2 : k = g := e'
        rw [e2]; rfl)⟩
  · obtain ⟨v', w', hrun, hown, hgrow⟩ := run_append_arg_grows (P := P) w t ty e i z 1 8 ht hi hz hsize hby hzs (by omega) ⟨g, off, none⟩ zs.length cap (zs.map natv) (by simp)
      (fun j u hj => by
        rw [List.getElem?_map] at hj
        cases hh : zs[j]? with
        | none => rw [hh] at hj; cases hj
        | some y =>
          rw [hh] at hj
          have ha : (⟨g, off, none⟩ : Addr).add j = ⟨g, off + j, none⟩ := by unfold Addr.add; split <;> simp_all
          rw [ha, cell_cells hg, hc j y hh]
          simpa [natv] using hj)
      ad 1 c [.int .i64 (x : Int)] rfl hnews (by omega) (by unfold maxLen; omega) (by omega)
    refine ⟨v', w', hrun, ?_, ⟨hgrow.os, hgrow.tape, hgrow.output, hgrow.size, fun k hk _ => hgrow.block k hk (by simp)⟩⟩
    have h2 : w'.ownsRow base e 1 v' (zs.length + 1) ((zs ++ [x]).map natv) := by
      rw [List.map_append]
      exact own_base hown hbase
    exact QN.of_own h2 (by omega)
theorem wpList_append_q (w : World) {ops : Array Oper} {rest : List Oper} {o : Oper} {a : Act} {Q : Exit → Act → World → Prop} (hgd : o.guard = none) (s x : Operand) (t : TypeId)
    (ho : o.op = .call { callee := .builtin .append, args := #[s, x], argTypes := #[t, t] })
    (base : Nat) (e : TypeId) (i : TypeInfo) (z : Value) (ht : P.underlying t = some (.slice e)) (hi : P.info? e = some i) (hz : i.zero = some z) (hsize : i.size = 1) (hby : i.bytes = 8) (hzs : z.cells.size = 1)
    {v : Value} {zs : List Nat} (hs : a.eval s = v) (hq : QN w base e v zs) (ad : Addr) (c y : Nat) (hx : a.eval x = .slice (some ad) 1 c) (hy : w.cell? ad = some (.int .i64 (y : Int))) (hn : zs.length ≤ 1073741824) (hbase : base ≤ w.heap.size)
    (hK : ∀ v' w', QN w' base e v' (zs ++ [y]) → w.grownBy w' v.ownBlock → wpList P ops Q rest (a.put o.dst v') w') : wpList P ops Q (o :: rest) a w := by
  refine wpList_plain hgd fun K hK' => ?_
  obtain ⟨v', w', hrun, h1, h2⟩ := run_append_q (P := P) w base t o.type e i z ht hi hz hsize hby hzs hq ad c y hy hn hbase
  unfold Oper.wp
  simp [execOp, ho, resolve, invoke, builtin, hs, hx, hrun, Result.andThen]
  exact hK' _ _ (hK v' w' h1 h2)
end

/-! ### how many are not seen yet -/
def zeroOf : Bool → Nat
  | true => 0
  | false => 1
def unseen (bs : List Bool) : Nat := (bs.map zeroOf).sum
theorem unseen_set {bs : List Bool} {j : Nat} (h : bs[j]? = some false) : unseen (bs.set j true) + 1 = unseen bs := by
  unfold unseen
  rw [List.map_set]
  have := sum_set (bs.map zeroOf) j (zeroOf true) (zeroOf false) (by rw [List.getElem?_map, h]; rfl)
  simpa [zeroOf] using this
theorem unseen_all (n : Nat) : unseen (List.replicate n false) = n := by
  unfold unseen
  induction n with
  | zero => rfl
  | succ n ih => rw [List.replicate_succ, List.map_cons, List.sum_cons, ih]; simp [zeroOf]; omega
def zeroV : Value → Nat
  | .bool false => 1
  | _ => 0
/-- .. as memory has it -/
def unseenW (w : World) (g : Nat) : Nat := match w.heap[g]? with
  | some (.cells cs _ _) => (cs.toList.map zeroV).sum
  | _ => 0
theorem unseenW_blk {w : World} {g : Nat} {t : TypeId} {bs : List Bool} (h : Blk w g t (bs.map .bool)) : unseenW w g = unseen bs := by
  unfold Blk at h
  unfold unseenW unseen
  rw [h]
  simp only [List.map_map]
  congr 1
  apply List.map_congr_left
  intro b _
  cases b <;> rfl

/-! ### the search -/
structure ReachI (n : Nat) (a : List (List Nat)) (i : Nat) (E : Nat → Nat → Prop) (bs : List Bool) (zs : List Nat) : Prop where
  len : bs.length = n
  seen : ∀ x : Nat, bs[x]? = some true → Conn (Rel a) i x
  todo : ∀ z ∈ zs, z < n ∧ (z = i ∨ Conn (Rel a) i z)
  done : ∀ x y : Nat, (x = i ∨ bs[x]? = some true) → Rel a x y → bs[y]? = some true ∨ x ∈ zs ∨ E x y
section
variable {n : Nat} {a : List (List Nat)} {i : Nat} {bs : List Bool} {zs : List Nat}
theorem ReachI.start (hi : i < n) : ReachI n a i (fun _ _ => False) (List.replicate n false) [i] :=
  ⟨by simp, fun x h => by rw [List.getElem?_replicate] at h; split at h <;> simp at h, fun z hz => by rw [List.mem_singleton.1 hz]; exact ⟨hi, .inl rfl⟩, fun x y h _ => by
    rcases h with rfl | h
    · exact .inr (.inl (List.mem_singleton.2 rfl))
    · rw [List.getElem?_replicate] at h; split at h <;> simp at h⟩
theorem ReachI.pop {z : Nat} (h : ReachI n a i (fun _ _ => False) bs (z :: zs)) : ReachI n a i (fun x y => x = z ∧ 0 ≤ y) bs zs :=
  ⟨h.len, h.seen, fun y hy => h.todo y (List.mem_cons_of_mem _ hy), fun x y h1 h2 => by
    rcases h.done x y h1 h2 with h3 | h3 | h3
    · exact .inl h3
    · rcases List.mem_cons.1 h3 with rfl | h4
      · exact .inr (.inr ⟨rfl, Nat.zero_le _⟩)
      · exact .inr (.inl h4)
    · exact h3.elim⟩
theorem ReachI.skip {z j : Nat} (h : ReachI n a i (fun x y => x = z ∧ j ≤ y) bs zs) (hj : ¬ Rel a z j ∨ bs[j]? = some true) : ReachI n a i (fun x y => x = z ∧ j + 1 ≤ y) bs zs :=
  ⟨h.len, h.seen, h.todo, fun x y h1 h2 => by
    rcases h.done x y h1 h2 with h3 | h3 | ⟨rfl, h4⟩
    · exact .inl h3
    · exact .inr (.inl h3)
    · rcases Nat.lt_or_ge j y with h5 | h5
      · exact .inr (.inr ⟨rfl, h5⟩)
      · obtain rfl : j = y := by omega
        rcases hj with hj | hj
        · exact absurd h2 hj
        · exact .inl hj⟩
theorem ReachI.push {z j : Nat} (h : ReachI n a i (fun x y => x = z ∧ j ≤ y) bs zs) (hz : z = i ∨ Conn (Rel a) i z) (hj : Rel a z j) (hjn : j < n) : ReachI n a i (fun x y => x = z ∧ j + 1 ≤ y) (bs.set j true) (zs ++ [j]) := by
  have hc : Conn (Rel a) i j := by
    rcases hz with rfl | hz
    · exact .one hj
    · exact .step hz hj
  have hjs : (bs.set j true)[j]? = some true := by rw [List.getElem?_set, if_pos rfl, if_pos (by rw [h.len]; exact hjn)]
  have old : ∀ x : Nat, (bs.set j true)[x]? = some true → x = j ∨ bs[x]? = some true := fun x hx => by
    rw [List.getElem?_set] at hx
    by_cases e : j = x
    · exact .inl e.symm
    · rw [if_neg e] at hx; exact .inr hx
  have new : ∀ x : Nat, bs[x]? = some true → (bs.set j true)[x]? = some true := fun x hx => by
    by_cases e : j = x
    · subst e; exact hjs
    · rw [List.getElem?_set, if_neg e]; exact hx
  refine ⟨by rw [List.length_set]; exact h.len, fun x hx => ?_, fun y hy => ?_, fun x y h1 h2 => ?_⟩
  · rcases old x hx with rfl | hx
    · exact hc
    · exact h.seen x hx
  · rcases List.mem_append.1 hy with hy | hy
    · exact h.todo y hy
    · rw [List.mem_singleton.1 hy]; exact ⟨hjn, .inr hc⟩
  · have h1' : x = j ∨ (x = i ∨ bs[x]? = some true) := by
      rcases h1 with h1 | h1
      · exact .inr (.inl h1)
      · rcases old x h1 with h3 | h3
        · exact .inl h3
        · exact .inr (.inr h3)
    rcases h1' with rfl | h1'
    · exact .inr (.inl (List.mem_append.2 (.inr (List.mem_singleton.2 rfl))))
    · rcases h.done x y h1' h2 with h3 | h3 | ⟨rfl, h4⟩
      · exact .inl (new y h3)
      · exact .inr (.inl (List.mem_append.2 (.inl h3)))
      · rcases Nat.lt_or_ge j y with h5 | h5
        · exact .inr (.inr ⟨rfl, h5⟩)
        · obtain rfl : j = y := by omega
          exact .inl hjs
theorem ReachI.next {z : Nat} (hG : Good n a) (h : ReachI n a i (fun x y => x = z ∧ n ≤ y) bs zs) : ReachI n a i (fun _ _ => False) bs zs :=
  ⟨h.len, h.seen, h.todo, fun x y h1 h2 => by
    rcases h.done x y h1 h2 with h3 | h3 | ⟨rfl, h4⟩
    · exact .inl h3
    · exact .inr (.inl h3)
    · exact absurd (hG.has_lt h2).2 (by omega)⟩
theorem ReachI.all (h : ReachI n a i (fun _ _ => False) bs []) (x : Nat) : bs[x]? = some true ↔ Conn (Rel a) i x := by
  refine ⟨h.seen x, fun hc => ?_⟩
  induction hc with
  | one h1 =>
    rcases h.done i _ (.inl rfl) h1 with h2 | h2 | h2
    · exact h2
    · cases h2
    · exact h2.elim
  | step _ h1 ih =>
    rcases h.done _ _ (.inr ih) h1 with h2 | h2 | h2
    · exact h2
    · cases h2
    · exact h2.elim
end

end Go.Proofs.Ytfeomhoicnjgpaa

namespace Go.Proofs.Ytfeomhoicnjgpaa
open Go.RowKit
set_option linter.unusedVariables false

/-! ### rows of bits -/
theorem pop_off (x i : Nat) (hi : i < 64) (hx : x.testBit i = true) : pop (offN x i) + 1 = pop x := by
  rw [pop_bits, pop_bits]
  have hnd : (bitsOf x).Nodup := List.Nodup.sublist List.filter_sublist List.nodup_range
  have hm : i ∈ bitsOf x := List.mem_filter.2 ⟨List.mem_range.2 hi, hx⟩
  have he : bitsOf (offN x i) = (bitsOf x).erase i := by
    rw [List.Nodup.erase_eq_filter hnd]
    unfold bitsOf
    rw [List.filter_filter]
    apply List.filter_congr
    intro j hj
    rw [offN_bit x i j hi (List.mem_range.1 hj), Bool.and_comm]
    congr 1
    by_cases h : j = i
    · subst h; simp
    · simp [h]
  rw [he, List.length_erase_of_mem hm]
  have : 0 < (bitsOf x).length := List.length_pos_of_mem hm
  omega
theorem countR_off {ls : List Nat} {k L i : Nat} (h : ls[k]? = some L) (hi : i < 64) (hL : L.testBit i = true) : countR (ls.set k (offN L i)) + 1 = countR ls := by
  unfold countR
  rw [List.map_set]
  have h1 := sum_set (ls.map pop) k (pop (offN L i)) (pop L) (by rw [List.getElem?_map, h]; rfl)
  have h2 := pop_off L i hi hL
  omega
theorem hasR_off {ls : List Nat} {k L i : Nat} (h : ls[k]? = some L) (hi : i < 64) (u : Nat) : hasR (ls.set k (offN L i)) (u : Int) = (hasR ls (u : Int) && decide (u ≠ 64 * k + i)) := by
  have hk : k < ls.length := (List.getElem?_eq_some_iff.1 h).1
  rw [hasR_nat, hasR_nat]
  by_cases e : u / 64 = k
  · have e1 : (ls.set k (offN L i)).getD (u / 64) 0 = offN L i := by
      rw [List.getD_eq_getElem?_getD, e, List.getElem?_set, if_pos rfl, if_pos hk]; rfl
    have e2 : ls.getD (u / 64) 0 = L := by rw [e]; exact Row.get h
    rw [e1, e2, offN_bit L i (u % 64) hi (by omega)]
    congr 1
    rw [decide_eq_decide]; omega
  · have e1 : (ls.set k (offN L i)).getD (u / 64) 0 = ls.getD (u / 64) 0 := by
      rw [List.getD_eq_getElem?_getD, List.getElem?_set, if_neg (by omega), ← List.getD_eq_getElem?_getD]
    rw [e1, decide_eq_true (show u ≠ 64 * k + i by omega), Bool.and_true]
/-- the first k words' lowest bits, of n in all, nothing behind -/
def leftK (n N k : Nat) : List Nat := (List.range N).map fun j => if j < k then 2 ^ (min (n - 64 * j) 64) - 1 else 0
theorem leftK_zero (n N : Nat) : leftK n N 0 = List.replicate N 0 := by
  unfold leftK; apply List.ext_getElem (by simp); intro i _ _; simp
theorem leftK_set (n N k : Nat) : (leftK n N k).set k (2 ^ (min (n - 64 * k) 64) - 1) = leftK n N (k + 1) := by
  unfold leftK; rw [map_range_set]
  apply List.map_congr_left; intro j _
  by_cases hj : j = k
  · subst hj; simp
  · rw [if_neg hj]
    by_cases h2 : j < k
    · rw [if_pos h2, if_pos (by omega)]
    · rw [if_neg h2, if_neg (by omega)]
theorem leftK_len (n N k : Nat) : (leftK n N k).length = N := by simp [leftK]
theorem leftK_lt (n N k : Nat) : W64 (leftK n N k) := fun x hx => by
  unfold leftK at hx
  obtain ⟨j, _, rfl⟩ := List.mem_map.1 hx
  split
  · have : 2 ^ (min (n - 64 * j) 64) ≤ 2 ^ 64 := Nat.pow_le_pow_right (by omega) (by omega)
    have := Nat.two_pow_pos (min (n - 64 * j) 64)
    omega
  · omega
theorem leftK_has (n N : Nat) (hN : n ≤ 64 * N) (u : Nat) : hasR (leftK n N N) (u : Int) = decide (u < n) := by
  rw [hasR_nat]
  by_cases h : u / 64 < N
  · have e : (leftK n N N).getD (u / 64) 0 = 2 ^ (min (n - 64 * (u / 64)) 64) - 1 := by
      unfold leftK
      rw [List.getD_eq_getElem?_getD, List.getElem?_map, List.getElem?_range h]
      simp [h]
    rw [e, Nat.testBit_two_pow_sub_one, decide_eq_decide]; omega
  · rw [getD_out _ _ (by rw [leftK_len]; omega), Nat.zero_testBit, eq_comm, decide_eq_false_iff_not]; omega
theorem leftK_count (n N : Nat) (hN : n ≤ 64 * N) : countR (leftK n N N) = n := by
  rw [countR_list]
  unfold listN
  rw [leftK_len]
  have h1 : (List.range (64 * N)).filter (fun i : Nat => hasR (leftK n N N) (i : Int)) = List.range n := by
    have e : (List.range (64 * N)).filter (fun i : Nat => hasR (leftK n N N) (i : Int)) = (List.range (64 * N)).filter fun i => decide (i < n) := List.filter_congr (fun i _ => leftK_has n N hN i)
    rw [e]
    obtain ⟨d, hd⟩ : ∃ d, 64 * N = n + d := ⟨64 * N - n, by omega⟩
    rw [hd, List.range_add, List.filter_append]
    rw [List.filter_eq_self.2 (fun a ha => by simpa using List.mem_range.1 ha), List.filter_eq_nil_iff.2 (fun a ha => by
      obtain ⟨j, _, rfl⟩ := List.mem_map.1 ha
      simp), List.append_nil]
  rw [h1, List.length_range]

/-! ### the search -/
/-- a number that was met -/
def metL (n : Nat) (ls : List Nat) (u : Nat) : Prop := u < n ∧ hasR ls (u : Int) = false
structure SzB (n N : Nat) (ls fs zs : List Nat) : Prop where
  ll : ls.length = (wordsZ (n : Int)).toNat
  lw : W64 ls
  lb : ∀ u : Nat, hasR ls (u : Int) = true → u < n
  fl : fs.length = n
  fb : ∀ y ∈ fs, y < n
  cnt : countR ls + zs.length = N
  le : N ≤ n + 1
structure BfsM (n : Nat) (a : List (List Nat)) (x N : Nat) (ls fs zs : List Nat) : Prop where
  ex : ∃ D p q, BfsQ (Rel a) n x (metL n ls) D p q ∧ FromOk x (metL n ls) (fun y => fs.getD y 0) p ∧ q.map (·.1) = zs
  sz : SzB n N ls fs zs
structure BfsN (n : Nat) (a : List (List Nat)) (x N z b : Nat) (ls fs zs : List Nat) : Prop where
  ex : ∃ D p q l, BfsS (Rel a) n x (metL n ls) D p q z l b ∧ FromOk x (metL n ls) (fun y => fs.getD y 0) p ∧ q.map (·.1) = zs
  sz : SzB n N ls fs zs
section
variable {n : Nat} {a : List (List Nat)} {x N z b : Nat} {ls fs zs : List Nat}
theorem words_le64 (n : Nat) : n ≤ 64 * (wordsZ (n : Int)).toNat := by unfold wordsZ; split <;> omega
theorem BfsM.start (hx : x < n) : BfsM n a x (n + 1) (leftK n (wordsZ (n : Int)).toNat (wordsZ (n : Int)).toNat) (List.replicate n 0) [x] := by
  have hm : metL n (leftK n (wordsZ (n : Int)).toNat (wordsZ (n : Int)).toNat) = fun _ => False := funext fun u => propext ⟨fun h => by
    have h2 := h.2
    rw [leftK_has n _ (words_le64 n), decide_eq_false_iff_not] at h2
    exact h2 h.1, fun h => h.elim⟩
  refine ⟨⟨fun _ => False, fun _ => [], [(x, [])], ?_, ?_, rfl⟩, leftK_len _ _ _, leftK_lt _ _ _, fun u hu => ?_, by simp, fun y hy => by rw [(List.mem_replicate.1 hy).2]; omega, by rw [leftK_count n _ (words_le64 n)]; rfl, Nat.le_refl _⟩
  · rw [hm]; exact BfsQ.begin hx
  · rw [hm]; exact fun y h => h.elim
  · rw [leftK_has n _ (words_le64 n)] at hu
    exact of_decide_eq_true hu
theorem BfsM.pop (h : BfsM n a x N ls fs (z :: zs)) : z < n ∧ ∃ N', N = N' + 1 ∧ BfsN n a x N' z 0 ls fs zs := by
  obtain ⟨D, p, q, hq, hf, hz⟩ := h.ex
  cases q with
  | nil => cases hz
  | cons e q =>
    obtain ⟨z', l⟩ := e
    simp only [List.map_cons] at hz
    injection hz with h1 h2
    subst h1
    have hp := hq.pop
    have hc := h.sz.cnt
    simp only [List.length_cons] at hc
    exact ⟨hp.lt, countR ls + zs.length, by omega, ⟨D, p, q, l, hp, hf, h2⟩, h.sz.ll, h.sz.lw, h.sz.lb, h.sz.fl, h.sz.fb, rfl, by have := h.sz.le; omega⟩
theorem BfsN.weaken {b' : Nat} (h : BfsN n a x N z b ls fs zs) (hb : b ≤ b') (hs : ∀ y, y < b' → Rel a z y → metL n ls y) : BfsN n a x N z b' ls fs zs := by
  obtain ⟨D, p, q, l, hq, hf, hz⟩ := h.ex
  exact ⟨⟨D, p, q, l, hq.weaken hb hs, hf, hz⟩, h.sz⟩
theorem BfsN.scanned (h : BfsN n a x N z b ls fs zs) : ∀ y, y < b → Rel a z y → metL n ls y := by
  obtain ⟨D, p, q, l, hq, hf, hz⟩ := h.ex
  exact hq.scanned
theorem BfsN.push (h : BfsN n a x N z b ls fs zs) {k L i : Nat} (hk : ls[k]? = some L) (hi : i < 64) (hL : L.testBit i = true) (hzy : Rel a z (64 * k + i)) (hs : ∀ y, y < 64 * k + i → Rel a z y → metL n ls y) :
    BfsN n a x N z (64 * k + i + 1) (ls.set k (offN L i)) (fs.set (64 * k + i) z) (zs ++ [64 * k + i]) := by
  obtain ⟨D, p, q, l, hq, hf, hz⟩ := h.ex
  have hset : hasR ls ((64 * k + i : Nat) : Int) = true := by
    rw [hasR_nat, show (64 * k + i) / 64 = k by omega, show (64 * k + i) % 64 = i by omega, Row.get hk]; exact hL
  have hyn := h.sz.lb _ hset
  have hy : ¬ metL n ls (64 * k + i) := fun hm => by rw [hm.2] at hset; cases hset
  have hby : b ≤ 64 * k + i := by
    rcases Nat.lt_or_ge (64 * k + i) b with h1 | h1
    · exact absurd (hq.scanned _ h1 hzy) hy
    · exact h1
  have hT : metL n (ls.set k (offN L i)) = fun u => metL n ls u ∨ u = 64 * k + i := funext fun u => propext (by
    unfold metL
    rw [hasR_off hk hi, Bool.and_eq_false_iff, decide_eq_false_iff_not]
    constructor
    · rintro ⟨h1, h2 | h2⟩
      · exact .inl ⟨h1, h2⟩
      · exact .inr (by omega)
    · rintro (⟨h1, h2⟩ | h2)
      · exact ⟨h1, .inl h2⟩
      · exact ⟨by omega, .inr (by omega)⟩)
  refine ⟨⟨D, putP p (64 * k + i) (l ++ [64 * k + i]), q ++ [(64 * k + i, l ++ [64 * k + i])], l, ?_, ?_, by simp [hz]⟩, by rw [List.length_set]; exact h.sz.ll, fun y hy => ?_, fun u hu => ?_, by rw [List.length_set]; exact h.sz.fl, fun y hy => ?_, ?_, h.sz.le⟩
  · rw [hT]; exact hq.push hby hs hzy hy hyn
  · rw [hT]
    refine hf.push hq hzy hy ?_ (fun u hu => ?_)
    · show (fs.set (64 * k + i) z).getD (64 * k + i) 0 = z
      rw [List.getD_eq_getElem?_getD, List.getElem?_set, if_pos rfl, if_pos (by rw [h.sz.fl]; exact hyn)]; rfl
    · show (fs.set (64 * k + i) z).getD u 0 = fs.getD u 0
      rw [List.getD_eq_getElem?_getD, List.getElem?_set, if_neg (fun e => hu e.symm), ← List.getD_eq_getElem?_getD]
  · rcases List.mem_or_eq_of_mem_set hy with h1 | rfl
    · exact h.sz.lw y h1
    · exact offN_lt L i (h.sz.lw L (List.mem_of_getElem? hk))
  · rw [hasR_off hk hi, Bool.and_eq_true] at hu
    exact h.sz.lb u hu.1
  · rcases List.mem_or_eq_of_mem_set hy with h1 | rfl
    · exact h.sz.fb y h1
    · exact hq.lt
  · have h1 := countR_off hk hi hL
    have h2 := h.sz.cnt
    rw [List.length_append, List.length_cons, List.length_nil]; omega
theorem BfsN.next (hG : Good n a) (hb : n ≤ b) (h : BfsN n a x N z b ls fs zs) : BfsM n a x N ls fs zs := by
  obtain ⟨D, p, q, l, hq, hf, hz⟩ := h.ex
  exact ⟨⟨_, p, q, BfsS.next hG.rel_lt hb hq, hf, hz⟩, h.sz⟩
theorem BfsM.none (h : BfsM n a x N ls fs []) {j : Nat} (hj : j < n) (hh : hasR ls (j : Int) = true) : ¬ Conn (Rel a) x j := by
  obtain ⟨D, p, q, hq, hf, hz⟩ := h.ex
  have : q = [] := List.map_eq_nil_iff.1 hz
  subst this
  exact hq.none (fun hm => by rw [hm.2] at hh; cases hh)
/-- what is known behind the search of the numbers that were met -/
structure WayOk (n x : Nat) (T : Nat → Prop) (fs : List Nat) (p : Nat → List Nat) : Prop where
  from_ : FromOk x T (fun y => fs.getD y 0) p
  lt : ∀ y, T y → y < n
  fl : fs.length = n
  fb : ∀ y ∈ fs, y < n
  len : ∀ y, T y → (p y).length ≤ n
theorem BfsM.found (hG : Good n a) (h : BfsM n a x N ls fs zs) {j : Nat} (hj : j < n) (hh : hasR ls (j : Int) = false) : ∃ (T : Nat → Prop) (p : Nat → List Nat), WayOk n x T fs p ∧ T j ∧ First (Rel a) x j (p j) := by
  obtain ⟨D, p, q, hq, hf, hz⟩ := h.ex
  exact ⟨metL n ls, p, ⟨hf, fun y hy => hy.1, h.sz.fl, h.sz.fb, fun y hy => (hq.met y hy).2.len hG.rel_lt⟩, ⟨hj, hh⟩, (hq.met j ⟨hj, hh⟩).2⟩
/-- an earlier number that is in the row and still there isn't met -/
theorem metL_of {k L W j : Nat} (hk : ls[k]? = some L) (hj : j < 64) (hn : 64 * k + j < n) (h : (W &&& L).testBit j = false) (hW : W.testBit j = true) : metL n ls (64 * k + j) := by
  refine ⟨hn, ?_⟩
  rw [hasR_nat, show (64 * k + j) / 64 = k by omega, show (64 * k + j) % 64 = j by omega, Row.get hk]
  rw [Nat.testBit_and, hW, Bool.true_and] at h
  exact h
end

/-! ### memory -/
/-- 'q = append(q, x)': the queue's block is the old one or new -/
theorem run_append_q2 {P : Program} (w : World) (base : Nat) (t ty e : TypeId) (i : TypeInfo) (z : Value) (ht : P.underlying t = some (.slice e)) (hi : P.info? e = some i) (hz : i.zero = some z) (hsize : i.size = 1) (hby : i.bytes = 8) (hzs : z.cells.size = 1)
    {v : Value} {zs : List Nat} (hq : QN w base e v zs) (ad : Addr) (c x : Nat) (hx : w.cell? ad = some (.int .i64 (x : Int))) (hn : zs.length ≤ 1073741824) (hbase : base ≤ w.heap.size) :
    ∃ v' w', (Builtin.append_ #[t, t] ty #[v, .slice (some ad) 1 c]).run P w = .ok v' w' ∧ QN w' base e v' (zs ++ [x]) ∧ w.grownBy w' v.ownBlock ∧ (v'.ownBlock = v.ownBlock ∨ ∃ k, v'.ownBlock = some k ∧ w.heap.size ≤ k) := by
  obtain ⟨g, off, cap, cs, rfl, hb, hg, hl, hm, hs, hc⟩ := hq
  have hnews : ∀ j u, [Value.int .i64 (x : Int)][j]? = some u → w.cell? (ad.add j) = some u := fun j u hj => by
    match j, hj with
    | 0, hj =>
      have ha : ad.add 0 = ad := by obtain ⟨b, o, s⟩ := ad; unfold Addr.add; split <;> simp_all
      rw [ha, hx]
      simpa using hj
    | j + 1, hj => simp at hj
  by_cases hr : zs.length + 1 ≤ cap
  · have hcell : (w.cell? ⟨g, off + zs.length, none⟩).isSome = true := by
      rw [cell_cells hg, Array.getElem?_eq_getElem (by omega)]; rfl
    have hrun := run_append_room_cells (P := P) w t ty e i ht hi g off zs.length cap ad 1 c [.int .i64 (x : Int)] (by rw [hsize]; rfl) hnews (by simp [Value.oneCell']) hr
      (fun j hj => by
        have : j = 0 := by simpa using hj
        subst this
        rw [hsize]; simpa using hcell)
      (fun j hj => frozen_cells hg _)
    rw [hsize, Nat.mul_one] at hrun
    have hset : w.setCells g (off + zs.length) [.int .i64 (x : Int)] = w.setCell ⟨g, off + zs.length, none⟩ (.int .i64 (x : Int)) := rfl
    rw [hset] at hrun
    refine ⟨_, _, hrun, ⟨g, off, cap, cs.set! (off + zs.length) (.int .i64 (x : Int)), by simp, hb, ?_, by simpa using hr, hm, by simpa using hs, fun j z' hj => ?_⟩, ?_, .inl rfl⟩
    · simp [World.setCell, Array.getElem?_modify, hg]
    · simp only [Array.set!_eq_setIfInBounds, Array.getElem?_setIfInBounds]
      rcases Nat.lt_or_ge j zs.length with hj' | hj'
      · rw [List.getElem?_append_left hj'] at hj
        rw [if_neg (by omega)]
        exact hc j z' hj
      · rw [List.getElem?_append_right hj'] at hj
        have hj0 : j - zs.length = 0 := by
          have := (List.getElem?_eq_some_iff.1 hj).1
          simpa using this
        rw [hj0] at hj
        simp at hj
        rw [if_pos (by omega), if_pos (by omega), hj]
    · exact ⟨rfl, rfl, rfl, by simp, fun k hk hne => Below.heap_setCell w _ _ k (by
        intro e'
        apply hne
        have e2 : k = g := e'
        rw [e2]; rfl)⟩
  · obtain ⟨v', w', hrun, hown, hgrow⟩ := run_append_arg_grows (P := P) w t ty e i z 1 8 ht hi hz hsize hby hzs (by omega) ⟨g, off, none⟩ zs.length cap (zs.map natv) (by simp)
      (fun j u hj => by
        rw [List.getElem?_map] at hj
        cases hh : zs[j]? with
        | none => rw [hh] at hj; cases hj
        | some y =>
          rw [hh] at hj
          have ha : (⟨g, off, none⟩ : Addr).add j = ⟨g, off + j, none⟩ := by unfold Addr.add; split <;> simp_all
          rw [ha, cell_cells hg, hc j y hh]
          simpa [natv] using hj)
      ad 1 c [.int .i64 (x : Int)] rfl hnews (by omega) (by unfold maxLen; omega) (by omega)
    have hnew : ∃ k, v'.ownBlock = some k ∧ w.heap.size ≤ k := by
      rcases hown.2 with ⟨h1, h2⟩ | ⟨k, cap', cur, hv, hk, _⟩
      · omega
      · exact ⟨k, by rw [hv]; rfl, hk⟩
    refine ⟨v', w', hrun, ?_, ⟨hgrow.os, hgrow.tape, hgrow.output, hgrow.size, fun k hk _ => hgrow.block k hk (by simp)⟩, .inr hnew⟩
    have h2 : w'.ownsRow base e 1 v' (zs.length + 1) ((zs ++ [x]).map natv) := by
      rw [List.map_append]
      exact own_base hown hbase
    exact QN.of_own h2 (by omega)
theorem wpList_append_q2 {P : Program} (w : World) {ops : Array Oper} {rest : List Oper} {o : Oper} {a : Act} {Q : Exit → Act → World → Prop} (hgd : o.guard = none) (s x : Operand) (t : TypeId)
    (ho : o.op = .call { callee := .builtin .append, args := #[s, x], argTypes := #[t, t] })
    (base : Nat) (e : TypeId) (i : TypeInfo) (z : Value) (ht : P.underlying t = some (.slice e)) (hi : P.info? e = some i) (hz : i.zero = some z) (hsize : i.size = 1) (hby : i.bytes = 8) (hzs : z.cells.size = 1)
    {v : Value} {zs : List Nat} (hs : a.eval s = v) (hq : QN w base e v zs) (ad : Addr) (c y : Nat) (hx : a.eval x = .slice (some ad) 1 c) (hy : w.cell? ad = some (.int .i64 (y : Int))) (hn : zs.length ≤ 1073741824) (hbase : base ≤ w.heap.size)
    (hK : ∀ v' w', QN w' base e v' (zs ++ [y]) → w.grownBy w' v.ownBlock → (v'.ownBlock = v.ownBlock ∨ ∃ k, v'.ownBlock = some k ∧ w.heap.size ≤ k) → wpList P ops Q rest (a.put o.dst v') w') : wpList P ops Q (o :: rest) a w := by
  refine wpList_plain hgd fun K hK' => ?_
  obtain ⟨v', w', hrun, h1, h2, h3⟩ := run_append_q2 (P := P) w base t o.type e i z ht hi hz hsize hby hzs hq ad c y hy hn hbase
  unfold Oper.wp
  simp [execOp, ho, resolve, invoke, builtin, hs, hx, hrun, Result.andThen]
  exact hK' _ _ (hK v' w' h1 h2 h3)
theorem Blk.type_ne {w : World} {g k : Nat} {t t' : TypeId} {cs cs' : List Value} (h : Blk w g t cs) (h' : Blk w k t' cs') (ht : t ≠ t') : g ≠ k := fun e => by
  subst e
  unfold Blk at h h'
  rw [h] at h'
  injection h' with h'
  injection h' with _ h2
  exact ht h2
theorem QN.type_ne {w : World} {base k : Nat} {t t' : TypeId} {v : Value} {zs : List Nat} {cs' : List Value} (h : QN w base t v zs) (h' : Blk w k t' cs') (ht : t ≠ t') : v.ownBlock ≠ some k := by
  obtain ⟨g, off, cap, cs, rfl, hb, hg, _⟩ := h
  intro e
  have e2 : g = k := by simpa [Value.ownBlock] using e
  subst e2
  unfold Blk at h'
  rw [hg] at h'
  injection h' with h'
  injection h' with _ h2
  exact ht h2
end Go.Proofs.Ytfeomhoicnjgpaa
