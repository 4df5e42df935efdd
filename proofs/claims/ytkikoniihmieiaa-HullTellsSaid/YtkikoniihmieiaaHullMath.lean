/- Plain mathematics of what follows from pairs: hulls, as the least closed ones. Nothing of the program is named. -/
import Derived.Test.YtkikoniihmieiaaMatMore
namespace Go.Proofs.Ytkikoniihmieiaa
open Go.RowKit
set_option linter.unusedVariables false

/-- what follows from r -/
inductive Conn (r : Nat → Nat → Prop) : Nat → Nat → Prop where
  | one {i j : Nat} (h : r i j) : Conn r i j
  | step {i j k : Nat} (h : Conn r i j) (h2 : r j k) : Conn r i k
def Trans2 (s : Nat → Nat → Prop) : Prop := ∀ i j k, s i j → s j k → s i k
theorem Conn.trans {r : Nat → Nat → Prop} {i j k : Nat} (h1 : Conn r i j) (h2 : Conn r j k) : Conn r i k := by
  induction h2 with
  | one h => exact .step h1 h
  | step _ h ih => exact .step ih h
theorem Conn.least {r s : Nat → Nat → Prop} (hs : Trans2 s) (h : ∀ i j, r i j → s i j) {i j : Nat} (hc : Conn r i j) : s i j := by
  induction hc with
  | one h1 => exact h _ _ h1
  | step _ h2 ih => exact hs _ _ _ ih (h _ _ h2)
theorem Conn.mono {r s : Nat → Nat → Prop} (h : ∀ i j, r i j → s i j) {i j : Nat} (hc : Conn r i j) : Conn s i j :=
  Conn.least (s := Conn s) (fun a b c h1 h2 => Conn.trans h1 h2) (fun a b h1 => .one (h a b h1)) hc
theorem Conn.same {r s : Nat → Nat → Prop} (h : ∀ i j, r i j ↔ s i j) (i j : Nat) : Conn r i j ↔ Conn s i j := ⟨Conn.mono fun _ _ h1 => (h _ _).1 h1, Conn.mono fun _ _ h1 => (h _ _).2 h1⟩
theorem Conn.of_trans {r : Nat → Nat → Prop} (hr : Trans2 r) {i j : Nat} : Conn r i j ↔ r i j := ⟨Conn.least hr fun _ _ h => h, .one⟩
theorem Conn.swap {r : Nat → Nat → Prop} {i j : Nat} (h : Conn r i j) : Conn (fun x y => r y x) j i := by
  induction h with
  | one h => exact .one h
  | step _ h ih => exact Conn.trans (.one h) ih
theorem Conn.swap_iff {r : Nat → Nat → Prop} {i j : Nat} : Conn (fun x y => r y x) i j ↔ Conn r j i := ⟨fun h => h.swap, fun h => h.swap⟩

/-- Warshall: what follows over numbers below k -/
def Wk (r : Nat → Nat → Prop) : Nat → Nat → Nat → Prop
  | 0, i, j => r i j
  | k + 1, i, j => Wk r k i j ∨ (Wk r k i k ∧ Wk r k k j)
theorem Wk.conn {r : Nat → Nat → Prop} : ∀ (k i j : Nat), Wk r k i j → Conn r i j
  | 0, _, _, h => .one h
  | k + 1, i, j, .inl h => Wk.conn k i j h
  | k + 1, i, j, .inr h => (Wk.conn k i k h.1).trans (Wk.conn k k j h.2)
theorem Wk.mono {r : Nat → Nat → Prop} {i j : Nat} (h : r i j) : ∀ k, Wk r k i j
  | 0 => h
  | k + 1 => .inl (Wk.mono h k)
theorem Wk.join {r : Nat → Nat → Prop} : ∀ (k m i j : Nat), m < k → Wk r k i m → Wk r k m j → Wk r k i j
  | 0, m, _, _, hm, _, _ => absurd hm (by omega)
  | k + 1, m, i, j, hm, h1, h2 => by
    have e1 : Wk r k i m ∨ (Wk r k i k ∧ Wk r k k m) := h1
    have e2 : Wk r k m j ∨ (Wk r k m k ∧ Wk r k k j) := h2
    show Wk r k i j ∨ (Wk r k i k ∧ Wk r k k j)
    rcases Nat.lt_succ_iff_lt_or_eq.1 hm with hlt | rfl
    · rcases e1 with a | ⟨a, b⟩ <;> rcases e2 with c | ⟨c, d⟩
      · exact .inl (Wk.join k m i j hlt a c)
      · exact .inr ⟨Wk.join k m i k hlt a c, d⟩
      · exact .inr ⟨a, Wk.join k m k j hlt b c⟩
      · exact .inr ⟨a, d⟩
    · have a : Wk r m i m := e1.elim (fun h => h) (fun h => h.1)
      have b : Wk r m m j := e2.elim (fun h => h) (fun h => h.2)
      exact .inr ⟨a, b⟩
theorem Wk.all {r : Nat → Nat → Prop} {n : Nat} (hr : ∀ i j, r i j → i < n ∧ j < n) (i j : Nat) : Wk r n i j ↔ Conn r i j := by
  refine ⟨Wk.conn n i j, fun h => ?_⟩
  induction h with
  | one h => exact Wk.mono h n
  | step h1 h2 ih => exact Wk.join n _ _ _ (hr _ _ h2).1 ih (Wk.mono h2 n)

/-- the relation of a matrix -/
def Rel (a : List (List Nat)) (i j : Nat) : Prop := hasM a (i : Int) (j : Int) = true
theorem Good.rel_lt {n : Nat} {a : List (List Nat)} (h : Good n a) : ∀ i j, Rel a i j → i < n ∧ j < n := fun _ _ h1 => h.has_lt h1
/-- h is the hull of r among n numbers -/
def IsHull (n : Nat) (r : Nat → Nat → Prop) (h : List (List Nat)) : Prop := Good n h ∧ ∀ i j : Nat, Rel h i j ↔ Conn r i j
def ClosedM (a : List (List Nat)) : Prop := Trans2 (Rel a)
theorem rel_ext {n : Nat} {a b : List (List Nat)} (ha : Good n a) (hb : Good n b) (h : ∀ i j : Nat, Rel a i j ↔ Rel b i j) : a = b :=
  good_ext ha hb fun i j _ _ => by
    have := h i j
    unfold Rel at this
    cases h1 : hasM a (i : Int) (j : Int) with
    | true => rw [this.1 h1]
    | false =>
      cases h2 : hasM b (i : Int) (j : Int) with
      | true => rw [this.2 h2] at h1; cases h1
      | false => rfl
theorem IsHull.unique {n : Nat} {r s : Nat → Nat → Prop} {h k : List (List Nat)} (h1 : IsHull n r h) (h2 : IsHull n s k) (he : ∀ i j, Conn r i j ↔ Conn s i j) : h = k :=
  rel_ext h1.1 h2.1 fun i j => by rw [h1.2, h2.2, he]
theorem IsHull.closed {n : Nat} {r : Nat → Nat → Prop} {h : List (List Nat)} (h1 : IsHull n r h) : ClosedM h := fun i j k a b => by
  rw [h1.2] at a b ⊢
  exact a.trans b
theorem IsHull.self {n : Nat} {h : List (List Nat)} (hG : Good n h) (hc : ClosedM h) : IsHull n (Rel h) h := ⟨hG, fun i j => (Conn.of_trans hc).symm⟩
theorem sub_rel {n : Nat} {a b : List (List Nat)} (ha : Good n a) (hb : Good n b) : subM a b = true ↔ ∀ i j, Rel a i j → Rel b i j := subM_iff ha hb
theorem IsHull.sub {n : Nat} {a h : List (List Nat)} (ha : Good n a) (h1 : IsHull n (Rel a) h) : subM a h = true := (sub_rel ha h1.1).2 fun i j hh => (h1.2 i j).2 (.one hh)
theorem IsHull.least {n : Nat} {a h b : List (List Nat)} (ha : Good n a) (h1 : IsHull n (Rel a) h) (hb : Good n b) (hc : ClosedM b) (hs : subM a b = true) : subM h b = true :=
  (sub_rel h1.1 hb).2 fun i j hh => Conn.least hc ((sub_rel ha hb).1 hs) ((h1.2 i j).1 hh)
theorem rel_set {n : Nat} {a : List (List Nat)} (ha : Good n a) {i j : Nat} (hi : i < n) (hj : j < n) (x y : Nat) : Rel (setM a (i : Int) (j : Int)) x y ↔ Rel a x y ∨ (x = i ∧ y = j) := by
  unfold Rel
  rw [hasM_setM ha hi hj]
  simp
theorem rel_turn {n : Nat} {a : List (List Nat)} (ha : Good n a) (hn : n < 64) (x y : Nat) : Rel (turnM a) x y ↔ Rel a y x := by
  unfold Rel; rw [turnM_has ha hn]
theorem IsHull.turn {n : Nat} {a h : List (List Nat)} (ha : Good n a) (hn : n < 64) (h1 : IsHull n (Rel a) h) : IsHull n (Rel (turnM a)) (turnM h) :=
  ⟨h1.1.turn hn, fun i j => by
    rw [rel_turn h1.1 hn, h1.2, Conn.same (fun x y => rel_turn ha hn x y), Conn.swap_iff]⟩
/-- what one pair more makes of a closed one -/
def AddR (r : Nat → Nat → Prop) (i j : Nat) (x y : Nat) : Prop := r x y ∨ ((x = i ∨ r x i) ∧ (y = j ∨ r j y))
theorem AddR.conn {r : Nat → Nat → Prop} (hr : Trans2 r) (i j x y : Nat) : AddR r i j x y ↔ Conn (fun a b => r a b ∨ (a = i ∧ b = j)) x y := by
  constructor
  · rintro (h | ⟨h1, h2⟩)
    · exact .one (.inl h)
    · have hm : Conn (fun a b => r a b ∨ (a = i ∧ b = j)) i j := .one (.inr ⟨rfl, rfl⟩)
      have ha : Conn (fun a b => r a b ∨ (a = i ∧ b = j)) x j := by
        rcases h1 with rfl | h1
        · exact hm
        · exact Conn.trans (.one (.inl h1)) hm
      rcases h2 with rfl | h2
      · exact ha
      · exact .step ha (.inl h2)
  · refine Conn.least (fun a b c h1 h2 => ?_) (fun a b h => ?_)
    · rcases h1 with h1 | ⟨p1, p2⟩ <;> rcases h2 with h2 | ⟨q1, q2⟩
      · exact .inl (hr _ _ _ h1 h2)
      · refine .inr ⟨.inr ?_, q2⟩
        rcases q1 with rfl | q1
        · exact h1
        · exact hr _ _ _ h1 q1
      · refine .inr ⟨p1, .inr ?_⟩
        rcases p2 with rfl | p2
        · exact h2
        · exact hr _ _ _ p2 h2
      · exact .inr ⟨p1, q2⟩
    · rcases h with h | ⟨rfl, rfl⟩
      · exact .inl h
      · exact .inr ⟨.inl rfl, .inl rfl⟩
/-- the hull of a hull and a pair is that of all -/
theorem conn_add {r : Nat → Nat → Prop} (i j x y : Nat) : Conn (fun a b => Conn r a b ∨ (a = i ∧ b = j)) x y ↔ Conn (fun a b => r a b ∨ (a = i ∧ b = j)) x y :=
  ⟨fun hc => Conn.least (s := Conn (fun a b => r a b ∨ (a = i ∧ b = j))) (fun a b c h1 h2 => Conn.trans h1 h2) (fun a b h => by
    rcases h with h | h
    · exact h.mono fun _ _ h1 => .inl h1
    · exact .one (.inr h)) hc, fun hc => hc.mono fun a b h => h.imp .one id⟩

/-- is it closed? as the program looks: row by row -/
def closedB (a : List (List Nat)) : Bool := (List.range a.length).all fun i => (listN (a.getD i [])).all fun j => subR (a.getD j []) (a.getD i [])
theorem closedB_iff {n : Nat} {a : List (List Nat)} (ha : Good n a) : closedB a = true ↔ ClosedM a := by
  unfold closedB
  rw [List.all_eq_true]
  constructor
  · intro h i j k h1 h2
    obtain ⟨hi, hj⟩ := ha.has_lt h1
    have hk := (ha.has_lt h2).2
    obtain ⟨r, hr, hw, hl⟩ := ha.at_ hi
    obtain ⟨s, hs, hws, _⟩ := ha.at_ hj
    have h3 := h i (List.mem_range.2 (by rw [ha.len]; exact hi))
    rw [getD_at hr, List.all_eq_true] at h3
    unfold Rel at h1 h2 ⊢
    rw [hasM_in hr] at h1
    rw [hasM_in hs] at h2
    have h4 := h3 j ((listN_mem _ _).2 ⟨by omega, h1⟩)
    rw [getD_at hs] at h4
    rw [hasM_in hr]
    exact (subR_iff s r hws).1 h4 k h2
  · intro h i hi
    have hi' : i < n := by rw [← ha.len]; exact List.mem_range.1 hi
    obtain ⟨r, hr, hw, hl⟩ := ha.at_ hi'
    rw [getD_at hr, List.all_eq_true]
    intro j hj
    have h1 := ((listN_mem _ _).1 hj).2
    have h1' : Rel a i j := by unfold Rel; rw [hasM_in hr]; exact h1
    have hjn := (ha.has_lt h1').2
    obtain ⟨s, hs, hws, _⟩ := ha.at_ hjn
    rw [getD_at hs]
    refine (subR_iff s r hws).2 fun k hk => ?_
    have := h i j k h1' (by unfold Rel; rw [hasM_in hs]; exact hk)
    unfold Rel at this
    rwa [hasM_in hr] at this
theorem closedB_no {a : List (List Nat)} {i j : Nat} {r s : List Nat} (hr : a[i]? = some r) (hs : a[j]? = some s) (hj : j ∈ listN r) (h : subR s r = false) : closedB a = false := by
  cases hc : closedB a with
  | false => rfl
  | true =>
    unfold closedB at hc
    rw [List.all_eq_true] at hc
    have h1 := hc i (List.mem_range.2 (List.getElem?_eq_some_iff.1 hr).1)
    rw [getD_at hr, List.all_eq_true] at h1
    have h2 := h1 j hj
    rw [getD_at hs, h] at h2
    cases h2
theorem closedB_yes {a : List (List Nat)} (h : ∀ (i : Nat) (r : List Nat), a[i]? = some r → ∀ j, j ∈ listN r → ∀ s, a[j]? = some s → subR s r = true) (hl : ∀ (i : Nat) (r : List Nat), a[i]? = some r → ∀ j, j ∈ listN r → j < a.length) : closedB a = true := by
  unfold closedB
  rw [List.all_eq_true]
  intro i hi
  have hi' := List.mem_range.1 hi
  have hx : a[i]? = some a[i] := List.getElem?_eq_getElem hi'
  rw [getD_at hx, List.all_eq_true]
  intro j hj
  have hj' := hl i _ hx j hj
  have hy : a[j]? = some a[j] := List.getElem?_eq_getElem hj'
  rw [getD_at hy]
  exact h i _ hx j hj _ hy
/-- the row i of step k: joined with row k, if it has k -/
def stepR (a : List (List Nat)) (k : Nat) (r : List Nat) : List Nat := if hasR r (k : Int) = true then orR r (a.getD k []) else r
def stepM (a : List (List Nat)) (k q : Nat) : List (List Nat) := (List.range a.length).map fun i => if i < q then stepR a k (a.getD i []) else a.getD i []
theorem stepM_len (a : List (List Nat)) (k q : Nat) : (stepM a k q).length = a.length := by simp [stepM]
theorem stepM_get {a : List (List Nat)} {k q i : Nat} {r : List Nat} (h : a[i]? = some r) : (stepM a k q)[i]? = some (if i < q then stepR a k r else r) := by
  unfold stepM
  have hi := (List.getElem?_eq_some_iff.1 h).1
  rw [List.getElem?_map, List.getElem?_range hi, Option.map_some, getD_at h]
theorem stepM_zero (a : List (List Nat)) (k : Nat) : stepM a k 0 = a := by
  unfold stepM
  simp only [Nat.not_lt_zero, if_false]
  rw [map_range_getD a [] (fun x => x)]; simp
theorem stepM_succ {a : List (List Nat)} {k q : Nat} {r : List Nat} (h : a[q]? = some r) : stepM a k (q + 1) = (stepM a k q).set q (stepR a k r) := by
  apply List.ext_getElem?
  intro i
  rw [List.getElem?_set]
  by_cases hi : i < a.length
  · have hx : a[i]? = some a[i] := List.getElem?_eq_getElem hi
    rw [stepM_get hx, stepM_len]
    by_cases hq : q = i
    · subst hq
      rw [h] at hx
      injection hx with hx
      rw [if_pos (by omega), if_pos rfl, if_pos hi, hx]
    · rw [if_neg hq, stepM_get hx]
      by_cases h1 : i < q
      · rw [if_pos h1, if_pos (by omega)]
      · rw [if_neg h1, if_neg (by omega)]
  · rw [List.getElem?_eq_none (by rw [stepM_len]; omega)]
    split
    · rename_i h1
      subst h1
      exact absurd (List.getElem?_eq_some_iff.1 h).1 hi
    · rw [List.getElem?_eq_none (by rw [stepM_len]; omega)]
theorem stepR_self {a : List (List Nat)} {k : Nat} {r : List Nat} (h : a[k]? = some r) : stepR a k r = r := by
  unfold stepR
  split
  · rw [getD_at h]
    unfold orR
    apply List.ext_getElem?
    intro j
    rw [Nat.max_self, List.getElem?_map]
    by_cases hj : j < r.length
    · rw [List.getElem?_range hj, Option.map_some, Nat.or_self, List.getD_eq_getElem?_getD, List.getElem?_eq_getElem hj]; rfl
    · rw [List.getElem?_eq_none (by simpa using hj), List.getElem?_eq_none (by omega)]; rfl
  · rfl
theorem stepM_through {a : List (List Nat)} {k q : Nat} {r : List Nat} (h : a[k]? = some r) : (stepM a k q)[k]? = some r := by
  rw [stepM_get h, stepR_self h]; simp
theorem stepR_good {n : Nat} {a : List (List Nat)} (ha : Good n a) {k : Nat} (hk : k < n) {r : List Nat} (hr : r ∈ a) : W64 (stepR a k r) ∧ (stepR a k r).length = r.length ∧ ∀ j : Nat, hasR (stepR a k r) (j : Int) = (hasR r (j : Int) || (hasR r (k : Int) && hasM a (k : Int) (j : Int))) := by
  obtain ⟨s, hs, hws, _⟩ := ha.at_ hk
  have h1 := ha.row r hr
  have h2 := ha.row s (List.mem_of_getElem? hs)
  unfold stepR
  rw [getD_at hs]
  by_cases h : hasR r (k : Int) = true
  · rw [if_pos h]
    refine ⟨orR_w64 h1.1 hws, by rw [orR_len, h1.2.2.1, h2.2.2.1, Nat.max_self], fun j => ?_⟩
    rw [hasR_orR, h, hasM_in hs, Bool.true_and]
  · rw [if_neg h]
    refine ⟨h1.1, rfl, fun j => ?_⟩
    rw [Bool.not_eq_true] at h
    rw [h, Bool.false_and, Bool.or_false]
theorem stepM_good {n : Nat} {a : List (List Nat)} (ha : Good n a) {k : Nat} (hk : k < n) (q : Nat) : Good n (stepM a k q) := by
  refine ⟨ha.le, by rw [stepM_len, ha.len], fun r hr => ?_⟩
  obtain ⟨i, hi⟩ := List.getElem?_of_mem hr
  have hil : i < a.length := by
    have := (List.getElem?_eq_some_iff.1 hi).1
    rwa [stepM_len] at this
  have hx : a[i]? = some a[i] := List.getElem?_eq_getElem hil
  rw [stepM_get hx] at hi
  injection hi with hi
  have h0 := ha.row _ (List.mem_of_getElem? hx)
  by_cases hq : i < q
  · rw [if_pos hq] at hi
    obtain ⟨h1, h2, h3⟩ := stepR_good ha hk (List.mem_of_getElem? hx)
    subst hi
    refine ⟨h1, by rw [h2]; exact h0.2.1, by rw [h2]; exact h0.2.2.1, fun j hj => ?_⟩
    rw [h3 j, h0.2.2.2 j hj]
    cases hh : hasM a (k : Int) (j : Int) with
    | false => simp
    | true => exact absurd (ha.has_lt hh).2 (by omega)
  · rw [if_neg hq] at hi
    subst hi
    exact h0
theorem stepM_rel {n : Nat} {a : List (List Nat)} (ha : Good n a) {k : Nat} (hk : k < n) (i j : Nat) : Rel (stepM a k n) i j ↔ Rel a i j ∨ (Rel a i k ∧ Rel a k j) := by
  unfold Rel
  by_cases hi : i < n
  · obtain ⟨r, hr, _, _⟩ := ha.at_ hi
    have h1 := stepM_get (k := k) (q := n) hr
    rw [if_pos hi] at h1
    obtain ⟨_, _, h3⟩ := stepR_good ha hk (List.mem_of_getElem? hr)
    rw [hasM_in h1, h3 j, hasM_in hr, hasM_in hr, Bool.or_eq_true, Bool.and_eq_true]
  · rw [hasM_out (xss := stepM a k n) (.inr (by rw [stepM_len, ha.len]; omega)), hasM_out (xss := a) (i := (i : Int)) (.inr (by rw [ha.len]; omega)), hasM_out (xss := a) (i := (i : Int)) (.inr (by rw [ha.len]; omega))]
    simp
/-- the hull, step by step -/
def closeK (a : List (List Nat)) : Nat → List (List Nat)
  | 0 => a
  | k + 1 => stepM (closeK a k) k a.length
theorem closeK_facts {n : Nat} {a : List (List Nat)} (ha : Good n a) : ∀ k, k ≤ n → Good n (closeK a k) ∧ ∀ i j, Rel (closeK a k) i j ↔ Wk (Rel a) k i j
  | 0, _ => ⟨ha, fun i j => Iff.rfl⟩
  | k + 1, hk => by
    obtain ⟨h1, h2⟩ := closeK_facts ha k (by omega)
    show Good n (stepM (closeK a k) k a.length) ∧ ∀ i j, Rel (stepM (closeK a k) k a.length) i j ↔ _
    rw [ha.len]
    refine ⟨stepM_good h1 (by omega) n, fun i j => ?_⟩
    rw [stepM_rel h1 (by omega)]
    show _ ↔ Wk (Rel a) k i j ∨ (Wk (Rel a) k i k ∧ Wk (Rel a) k k j)
    rw [h2, h2, h2]
theorem closeK_hull {n : Nat} {a : List (List Nat)} (ha : Good n a) : IsHull n (Rel a) (closeK a n) := by
  obtain ⟨h1, h2⟩ := closeK_facts ha n (Nat.le_refl _)
  exact ⟨h1, fun i j => by rw [h2, Wk.all ha.rel_lt]⟩

end Go.Proofs.Ytkikoniihmieiaa
