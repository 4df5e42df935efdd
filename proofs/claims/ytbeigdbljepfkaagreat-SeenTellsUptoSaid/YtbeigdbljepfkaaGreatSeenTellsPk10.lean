/- Plain mathematics of layer 18's own code: what a round finds, write by write and read by read, in whatever order; put in order it is the document's. Nothing of the program is named. Contracts of package hull: copied, join, Close. Contracts of package hull: Add. Plain mathematics of layer 18's own code: pairs that lead to one number, put into a closed matrix at once; for one number after the other they make the hull. Nothing of the program is named. A region that draws its order, by a plan (XPlan), in which one block of the caller's may change (an append in place): what reads must not read it. No function of the program is named here. The code's own contracts of layer 18: pairs that lead to one number are put into the rows of a closed matrix (meet, lead). -/
import Derived.Test.YtbeigdbljepfkaaGreatSeenTellsPk5
import Derived.Test.YtbeigdbljepfkaaGreatSeenTellsPk8
import Derived.Test.YtbeigdbljepfkaaGreatSeenTellsPk7
import Derived.Test.YtbeigdbljepfkaaGreatSeenTellsPk4
import Derived.Laws.BitsAllLaws
import Derived.Test.YtbeigdbljepfkaaGreatSeenTellsPk3
import Derived.Test.YtbeigdbljepfkaaGreatSeenTellsPk1
import Derived.Test.YtbeigdbljepfkaaGreatSeenTellsPk2
namespace Go.Proofs.YtbeigdbljepfkaaGreat
open Go.RowKit
set_option linter.unusedVariables false

theorem find_congr18 {α : Type} {p q : α → Bool} : ∀ {l : List α}, (∀ z ∈ l, p z = q z) → l.find? p = l.find? q
  | [], _ => rfl
  | a :: l, h => by
    rw [List.find?_cons, List.find?_cons, h a List.mem_cons_self, find_congr18 (fun z hz => h z (List.mem_cons_of_mem _ hz))]
/-- what read z reads from -/
def fromZ (f : Fac) (z : Int) : Int := f.frm.getD z.toNat 0
/-- the variable of item z -/
def vaZ (f : Fac) (z : Int) : Int := match f.items[z.toNat]? with | some x => x.va | none => -1
def isW (f : Fac) (z : Int) : Bool := match f.items[z.toNat]? with | some x => x.wr | none => false
/-- must the matrix have the pair of a and what z reads from, because of z? -/
def lkW (f : Fac) (X : List (List Nat)) (a z : Int) : Bool := decide (a ≠ fromZ f z) && hasM X a z && !hasM X a (fromZ f z)
def lkO (f : Fac) (X : List (List Nat)) (acc : List Ed) (a z : Int) : List Ed := if lkW f X a z = true ∧ (a, fromZ f z) ∉ edP acc then acc ++ [⟨a, fromZ f z, z⟩] else acc
def lkR (f : Fac) (X : List (List Nat)) (acc : List Ed) (a : Int) (zs : List Int) : List Ed := zs.foldl (fun l z => lkO f X l a z) acc
/-- the kept reads of writes to one variable -/
def rdsP (f : Fac) (v z : Int) : Bool := decide (0 ≤ fromZ f z) && decide (vaZ f z = v)
def rdsV (f : Fac) (kept : List Int) (v : Int) : List Int := kept.filter (rdsP f v)
def lkA (f : Fac) (X : List (List Nat)) (kept : List Int) (ws : List Int) : List Ed := ws.foldl (fun l a => lkR f X l a (rdsV f kept (vaZ f a))) []
def lkP (f : Fac) (X : List (List Nat)) (a b z : Int) : Bool := lkW f X a z && decide (fromZ f z = b)
section
variable {f : Fac} {X : List (List Nat)} {kept : List Int}
theorem lkR_nil (acc : List Ed) (a : Int) : lkR f X acc a [] = acc := rfl
theorem lkR_snoc (acc : List Ed) (a z : Int) (zs : List Int) : lkR f X acc a (zs ++ [z]) = lkO f X (lkR f X acc a zs) a z := by unfold lkR; rw [List.foldl_append]; rfl
theorem lkR_take {acc : List Ed} {a z : Int} {zs : List Int} {q : Nat} (h : zs[q]? = some z) : lkR f X acc a (zs.take (q + 1)) = lkO f X (lkR f X acc a (zs.take q)) a z := by
  rw [List.take_add_one, h]; exact lkR_snoc _ _ _ _
theorem lkA_nil : lkA f X kept [] = [] := rfl
theorem lkA_snoc (ws : List Int) (a : Int) : lkA f X kept (ws ++ [a]) = lkR f X (lkA f X kept ws) a (rdsV f kept (vaZ f a)) := by unfold lkA; rw [List.foldl_append]; rfl
theorem lkA_take {ws : List Int} {a : Int} {q : Nat} (h : ws[q]? = some a) : lkA f X kept (ws.take (q + 1)) = lkR f X (lkA f X kept (ws.take q)) a (rdsV f kept (vaZ f a)) := by
  rw [List.take_add_one, h]; exact lkA_snoc _ _
theorem lkO_len (acc : List Ed) (a z : Int) : (lkO f X acc a z).length ≤ acc.length + 1 := by unfold lkO; split <;> simp
theorem lkR_len (acc : List Ed) (a : Int) (zs : List Int) : (lkR f X acc a zs).length ≤ acc.length + zs.length := by
  induction zs using snoc_ind with
  | h0 => simp [lkR_nil]
  | h1 l z ih => rw [lkR_snoc, List.length_append]; have := lkO_len (f := f) (X := X) (lkR f X acc a l) a z; simp; omega
theorem rdsV_len (v : Int) : (rdsV f kept v).length ≤ kept.length := List.length_filter_le _ _
theorem lkA_len (ws : List Int) : (lkA f X kept ws).length ≤ ws.length * kept.length := by
  induction ws using snoc_ind with
  | h0 => simp [lkA_nil]
  | h1 l a ih =>
    rw [lkA_snoc, List.length_append]
    have h1 := lkR_len (f := f) (X := X) (lkA f X kept l) a (rdsV f kept (vaZ f a))
    have h2 := rdsV_len (f := f) (kept := kept) (vaZ f a)
    have h3 : (l.length + [a].length) * kept.length = l.length * kept.length + kept.length := by simp [Nat.add_mul]
    omega
/-- each pair once -/
theorem lkO_nodup {acc : List Ed} (a z : Int) (h : (edP acc).Nodup) : (edP (lkO f X acc a z)).Nodup := by
  unfold lkO
  split
  · rename_i hc
    unfold edP at h hc ⊢
    rw [List.map_append]
    refine List.nodup_append.2 ⟨h, by simp, fun p hp q hq e => ?_⟩
    simp only [List.map_cons, List.map_nil, List.mem_singleton] at hq
    subst hq
    subst e
    exact hc.2 hp
  · exact h
theorem lkR_nodup {acc : List Ed} (a : Int) (zs : List Int) (h : (edP acc).Nodup) : (edP (lkR f X acc a zs)).Nodup := by
  induction zs using snoc_ind with
  | h0 => exact h
  | h1 l z ih => rw [lkR_snoc]; exact lkO_nodup a z ih
theorem lkA_nodup (ws : List Int) : (edP (lkA f X kept ws)).Nodup := by
  induction ws using snoc_ind with
  | h0 => simp [lkA_nil, edP]
  | h1 l a ih => rw [lkA_snoc]; exact lkR_nodup a _ ih
theorem mem_edP {l : List Ed} {a b : Int} : (a, b) ∈ edP l ↔ ∃ x ∈ l, x.w1 = a ∧ x.w2 = b := by
  unfold edP
  rw [List.mem_map]
  constructor
  · rintro ⟨x, hx, e⟩; injection e with e1 e2; exact ⟨x, hx, e1, e2⟩
  · rintro ⟨x, hx, e1, e2⟩; exact ⟨x, hx, by rw [e1, e2]⟩
theorem mem_lkR (acc : List Ed) (a : Int) (zs : List Int) (x : Ed) : x ∈ lkR f X acc a zs ↔ x ∈ acc ∨ (x.w1 = a ∧ (a, x.w2) ∉ edP acc ∧ zs.find? (lkP f X a x.w2) = some x.rd) := by
  induction zs using snoc_ind generalizing x with
  | h0 => simp [lkR_nil]
  | h1 l z ih =>
    rw [lkR_snoc, List.find?_append]
    have hin : ∀ b, (a, b) ∈ edP (lkR f X acc a l) ↔ (a, b) ∈ edP acc ∨ ∃ y, l.find? (lkP f X a b) = some y := fun b => by
      rw [mem_edP]
      constructor
      · rintro ⟨y, hy, e1, e2⟩
        rcases (ih y).1 hy with h | ⟨_, h2, h3⟩
        · exact .inl (mem_edP.2 ⟨y, h, e1, e2⟩)
        · subst e2; exact .inr ⟨_, h3⟩
      · rintro (h | ⟨y, h⟩)
        · obtain ⟨u, hu, e1, e2⟩ := mem_edP.1 h
          exact ⟨u, (ih u).2 (.inl hu), e1, e2⟩
        · by_cases hb : (a, b) ∈ edP acc
          · obtain ⟨u, hu, e1, e2⟩ := mem_edP.1 hb
            exact ⟨u, (ih u).2 (.inl hu), e1, e2⟩
          · exact ⟨⟨a, b, y⟩, (ih ⟨a, b, y⟩).2 (.inr ⟨rfl, hb, h⟩), rfl, rfl⟩
    have hz : ([z] : List Int).find? (lkP f X a x.w2) = if lkW f X a z = true ∧ fromZ f z = x.w2 then some z else none := by
      rw [List.find?_cons, List.find?_nil]
      unfold lkP
      by_cases h1 : lkW f X a z = true
      · by_cases h2 : fromZ f z = x.w2
        · rw [h1, decide_eq_true h2, if_pos ⟨rfl, h2⟩]; rfl
        · rw [decide_eq_false h2, Bool.and_false, if_neg (fun h => h2 h.2)]
      · rw [if_neg (fun h => h1 h.1)]
        simp only [Bool.not_eq_true] at h1
        rw [h1, Bool.false_and]
    rw [hz]
    unfold lkO
    by_cases hc : lkW f X a z = true ∧ (a, fromZ f z) ∉ edP (lkR f X acc a l)
    · rw [if_pos hc, List.mem_append, ih]
      have hc2 := hc.2
      rw [hin, not_or] at hc2
      constructor
      · rintro ((h | ⟨h1, h2, h3⟩) | h)
        · exact .inl h
        · exact .inr ⟨h1, h2, by rw [h3]; rfl⟩
        · rw [List.mem_singleton] at h
          subst h
          refine .inr ⟨rfl, hc2.1, ?_⟩
          cases hf : l.find? (lkP f X a (fromZ f z)) with
          | some y => exact absurd ⟨y, hf⟩ hc2.2
          | none => rw [if_pos ⟨hc.1, rfl⟩]; rfl
      · rintro (h | ⟨h1, h2, h3⟩)
        · exact .inl (.inl h)
        · cases hf : l.find? (lkP f X a x.w2) with
          | some y =>
            rw [hf] at h3
            exact .inl (.inr ⟨h1, h2, h3⟩)
          | none =>
            rw [hf, Option.none_or] at h3
            split at h3
            · rename_i hh
              injection h3 with h3
              obtain ⟨x1, x2, x3⟩ := x
              simp only at h1 h3 hh
              obtain ⟨h4, h5⟩ := hh
              rw [h1, ← h3, ← h5]
              exact .inr (List.mem_singleton.2 rfl)
            · cases h3
    · rw [if_neg hc, ih]
      constructor
      · rintro (h | ⟨h1, h2, h3⟩)
        · exact .inl h
        · exact .inr ⟨h1, h2, by rw [h3]; rfl⟩
      · rintro (h | ⟨h1, h2, h3⟩)
        · exact .inl h
        · cases hf : l.find? (lkP f X a x.w2) with
          | some y =>
            rw [hf] at h3
            exact .inr ⟨h1, h2, h3⟩
          | none =>
            rw [hf, Option.none_or] at h3
            split at h3
            · rename_i hh
              exfalso
              refine hc ⟨hh.1, fun h => ?_⟩
              rw [hin, hh.2] at h
              rcases h with h | ⟨y, h⟩
              · exact h2 h
              · rw [hf] at h; cases h
            · cases h3
theorem mem_lkA {ws : List Int} (hnd : ws.Nodup) (x : Ed) : x ∈ lkA f X kept ws ↔ x.w1 ∈ ws ∧ (rdsV f kept (vaZ f x.w1)).find? (lkP f X x.w1 x.w2) = some x.rd := by
  induction ws using snoc_ind generalizing x with
  | h0 => simp [lkA_nil]
  | h1 l a ih =>
    have h0 := List.nodup_append.1 hnd
    have hal : a ∉ l := fun h => h0.2.2 a h a (List.mem_singleton.2 rfl) rfl
    have ih := ih h0.1
    rw [lkA_snoc, mem_lkR, ih, List.mem_append, List.mem_singleton]
    have hno : ∀ b, (a, b) ∉ edP (lkA f X kept l) := fun b h => by
      obtain ⟨u, hu, e1, e2⟩ := mem_edP.1 h
      have := ((ih u).1 hu).1
      rw [e1] at this
      exact hal this
    constructor
    · rintro (⟨h1, h2⟩ | ⟨h1, _, h3⟩)
      · exact ⟨.inl h1, h2⟩
      · refine ⟨.inr h1, ?_⟩
        rw [h1]; exact h3
    · rintro ⟨h1 | h1, h2⟩
      · exact .inl ⟨h1, h2⟩
      · rw [h1] at h2
        exact .inr ⟨h1, hno _, h2⟩
end
/-! ### it is the document's -/
def EdLt (x y : Ed) : Prop := x.w1 < y.w1 ∨ (x.w1 = y.w1 ∧ x.w2 < y.w2)
section
variable {f : Fac} {X : List (List Nat)} {kept : List Int}
theorem nwB_sorted (a : Nat) : ∀ k, (nwB f X kept a k).Pairwise EdLt
  | 0 => by simp [nwB_zero]
  | k + 1 => by
    rw [nwB_succ]
    refine List.pairwise_append.2 ⟨nwB_sorted a k, ?_, fun x hx y hy => ?_⟩
    · cases nwO f X kept a k <;> simp
    · rw [Option.mem_toList] at hy
      obtain ⟨b, hb, hx⟩ := mem_nwB.1 hx
      obtain ⟨-, e1, e2, -, -⟩ := nwO_some hx
      obtain ⟨-, e3, e4, -, -⟩ := nwO_some hy
      exact .inr ⟨by rw [e1, e3], by rw [e2, e4]; omega⟩
theorem nwA_sorted (n : Nat) : ∀ k, (nwA f X kept n k).Pairwise EdLt
  | 0 => by simp [nwA_zero]
  | k + 1 => by
    rw [nwA_succ]
    refine List.pairwise_append.2 ⟨nwA_sorted n k, nwB_sorted k n, fun x hx y hy => ?_⟩
    obtain ⟨a, b, ha, -, hx⟩ := mem_nwA.1 hx
    obtain ⟨b', -, hy⟩ := mem_nwB.1 hy
    obtain ⟨-, e1, -, -, -⟩ := nwO_some hx
    obtain ⟨-, e3, -, -, -⟩ := nwO_some hy
    exact .inl (by rw [e1, e3]; omega)
theorem newF_sorted : (newF f X kept).Pairwise EdLt := nwA_sorted _ _
theorem fromF_hit {is : List It} {i b : Nat} (hi : i < is.length) (h : (fromF is).getD i 0 = (b : Int)) : ∃ x y, is[i]? = some x ∧ is[b]? = some y ∧ y.wr = true ∧ y.va = x.va := by
  have hx : is[i]? = some is[i] := List.getElem?_eq_getElem hi
  rw [getD_at (fromF_at hx)] at h
  unfold fromOne at h
  split at h
  · omega
  · split at h
    · omega
    · cases hw : writeF is is[i].va is[i].vl with
      | none => rw [hw] at h; simp at h
      | some k =>
        rw [hw] at h
        simp only at h
        obtain ⟨y, h1, h2, -⟩ := writeF_some hw
        obtain rfl : k = b := by omega
        unfold hitW at h2
        simp only [Bool.and_eq_true, decide_eq_true_eq] at h2
        exact ⟨_, y, hx, h1, h2.1, h2.2.1⟩
/-- what a round finds, by the writes ws and the kept reads: a permutation of the document's -/
theorem lkA_perm {ws : List Int} (hfr : f.frm = fromF f.items) (hnd : ws.Nodup) (hws : ∀ z ∈ ws, 0 ≤ z ∧ z < (f.items.length : Int) ∧ isW f z = true) (hk : ∀ z ∈ kept, 0 ≤ z ∧ z < (f.items.length : Int))
    (hX : ∀ a y : Nat, Rel X a y → isW f (a : Int) = true → (a : Int) ∈ ws) : (lkA f X kept ws).Perm (newF f X kept) := by
  have n1 : (lkA f X kept ws).Nodup := List.Pairwise.of_map _ (fun a b h e => h (by rw [e])) (lkA_nodup ws)
  have n2 : (newF f X kept).Nodup := List.Pairwise.of_map _ (fun a b h e => h (by rw [e])) (nwA_nodup _ _)
  refine (List.perm_ext_iff_of_nodup n1 n2).2 (fun x => ?_)
  rw [mem_lkA hnd]
  have key : ∀ a b : Nat, nwG f X a b = true → (rdsV f kept (vaZ f (a : Int))).find? (lkP f X (a : Int) (b : Int)) = kept.find? (nwK f X a b) := fun a b hg => by
    unfold rdsV
    rw [List.find?_filter]
    refine find_congr18 (fun z hz => ?_)
    obtain ⟨h0, h1⟩ := hk z hz
    obtain ⟨r, rfl⟩ := Int.eq_ofNat_of_zero_le h0
    unfold nwG at hg
    simp only [Bool.and_eq_true, Bool.not_eq_true', decide_eq_true_eq] at hg
    obtain ⟨⟨hne, hbo⟩, hno⟩ := hg
    unfold rdsP lkP lkW nwK
    by_cases hb : fromZ f (r : Int) = (b : Int)
    · have hb' := hb
      unfold fromZ at hb'
      rw [Int.toNat_natCast] at hb' ⊢
      have hb2 := hb'
      rw [hfr] at hb'
      obtain ⟨x1, y1, q1, q2, q3, q4⟩ := fromF_hit (by omega) hb'
      have hva : vaZ f (r : Int) = vaZ f (a : Int) := by
        unfold bothW at hbo
        unfold vaZ
        rw [Int.toNat_natCast, Int.toNat_natCast, q1]
        cases hq : f.items[a]? with
        | none => rw [hq] at hbo; simp at hbo
        | some u =>
          rw [hq, q2] at hbo
          simp only [Bool.and_eq_true, decide_eq_true_eq] at hbo
          simp only
          rw [← q4, hbo.2]
      rw [hb, hva, hb2, hno, decide_eq_true (show (0 : Int) ≤ (b : Int) by omega), decide_eq_true (show (a : Int) ≠ (b : Int) by omega)]
      simp
    · have hb2 : f.frm.getD r 0 ≠ (b : Int) := fun h => hb (by unfold fromZ; rw [Int.toNat_natCast]; exact h)
      rw [decide_eq_false hb, Int.toNat_natCast, decide_eq_false hb2]
      simp
  constructor
  · rintro ⟨hw, hf⟩
    obtain ⟨h0, h1, h2⟩ := hws _ hw
    have hp := List.find?_some hf
    have hm := List.mem_of_find?_eq_some hf
    unfold rdsV at hm
    obtain ⟨hmk, hmp⟩ := List.mem_filter.1 hm
    obtain ⟨k0, k1⟩ := hk _ hmk
    obtain ⟨x1, x2, x3⟩ := x
    simp only at hw hf h0 h1 h2 hp hmp hmk k0 k1 ⊢
    obtain ⟨a, rfl⟩ := Int.eq_ofNat_of_zero_le h0
    obtain ⟨r, rfl⟩ := Int.eq_ofNat_of_zero_le k0
    unfold lkP lkW at hp
    unfold rdsP at hmp
    simp only [Bool.and_eq_true, Bool.not_eq_true', decide_eq_true_eq] at hp hmp
    obtain ⟨⟨⟨p1, p2⟩, p3⟩, p4⟩ := hp
    obtain ⟨m1, m2⟩ := hmp
    rw [p4] at p1 p3 m1
    obtain ⟨b, rfl⟩ := Int.eq_ofNat_of_zero_le m1
    have hb' := p4
    unfold fromZ at hb'
    rw [Int.toNat_natCast, hfr] at hb'
    obtain ⟨u, y, q1, q2, q3, q4⟩ := fromF_hit (by omega) hb'
    have hbl := (List.getElem?_eq_some_iff.1 q2).1
    unfold isW at h2
    unfold vaZ at m2
    rw [Int.toNat_natCast] at h2 m2
    rw [Int.toNat_natCast, q1] at m2
    have hg : nwG f X a b = true := by
      unfold nwG bothW
      cases hq : f.items[a]? with
      | none => rw [hq] at h2; cases h2
      | some e =>
        rw [hq] at h2 m2
        simp only at h2 m2
        simp only [q2, p3, Bool.not_false, Bool.and_true, Bool.and_eq_true, decide_eq_true_eq]
        exact ⟨by omega, ⟨h2, q3⟩, by rw [q4, m2]⟩
    refine mem_newF.2 ⟨a, b, by omega, hbl, ?_⟩
    unfold nwO
    rw [if_pos hg, ← key a b hg, hf]; rfl
  · intro h
    obtain ⟨a, b, ha, hb, h⟩ := mem_newF.1 h
    obtain ⟨hg, e1, e2, hm, hK⟩ := nwO_some h
    unfold nwO at h
    rw [if_pos hg, ← key a b hg] at h
    have hf : (rdsV f kept (vaZ f (a : Int))).find? (lkP f X (a : Int) (b : Int)) = some x.rd := by
      cases hq : (rdsV f kept (vaZ f (a : Int))).find? (lkP f X (a : Int) (b : Int)) with
      | none => rw [hq] at h; cases h
      | some r =>
        rw [hq] at h
        simp only [Option.map_some, Option.some.injEq] at h
        rw [← h]
    rw [e1, e2]
    refine ⟨?_, hf⟩
    obtain ⟨k0, k1⟩ := hk _ hm
    obtain ⟨r, hr⟩ := Int.eq_ofNat_of_zero_le k0
    unfold nwK at hK
    simp only [Bool.and_eq_true, decide_eq_true_eq] at hK
    rw [hr] at hK
    refine hX a r hK.2 ?_
    unfold nwG at hg
    simp only [Bool.and_eq_true, Bool.not_eq_true', decide_eq_true_eq] at hg
    have := bothW_wr hg.1.2
    unfold wrB at this
    unfold isW
    rw [Int.toNat_natCast]
    exact this.1
/-- a sorted permutation of what was found is the document's -/
theorem lk_sorted {l l' : List Ed} (hp : l.Perm (newF f X kept)) (hq : l.Perm l') (hs : l'.Pairwise fun x y => ¬ EdLt y x) : l' = newF f X kept := by
  refine List.Perm.eq_of_pairwise (le := fun x y => ¬ EdLt y x) (fun x y hx hy h1 h2 => ?_) hs (newF_sorted.imp (fun {x y} h h' => ?_)) (hq.symm.trans hp)
  · have hx' : x ∈ newF f X kept := hp.subset (hq.symm.subset hx)
    have e : x.w1 = y.w1 ∧ x.w2 = y.w2 := by
      unfold EdLt at h1 h2; omega
    obtain ⟨a, b, ha, hb, h3⟩ := mem_newF.1 hx'
    obtain ⟨a', b', ha', hb', h4⟩ := mem_newF.1 hy
    obtain ⟨-, i1, i2, -, -⟩ := nwO_some h3
    obtain ⟨-, i3, i4, -, -⟩ := nwO_some h4
    obtain rfl : a = a' := by omega
    obtain rfl : b = b' := by omega
    rw [h3] at h4
    injection h4
  · unfold EdLt at h h'; omega
theorem Conn.first {r : Nat → Nat → Prop} {P : Nat → Prop} (h : ∀ i j, r i j → P i) {a y : Nat} (hc : Conn r a y) : P a := by
  induction hc with
  | one h1 => exact h _ _ h1
  | step _ _ ih => exact ih
/-- whoever leads anywhere is in the past -/
theorem seX_first {B : List (List Nat)} (hB : Good f.items.length B) {P : Nat → Prop} (h : ∀ a y : Nat, Rel B a y → P a) : ∀ k (a y : Nat), Rel (seX f kept B k) a y → P a
  | 0, a, y, hh => h a y hh
  | k + 1, a, y, hh => by
    have ih := seX_first hB h k
    refine Conn.first (fun i j h1 => ?_) (((seX_hull hB k).2 a y).1 hh)
    rcases (seX_rel hB k i j).1 h1 with h2 | h2
    · exact ih i j h2
    · obtain ⟨x, hx, e1, e2⟩ := mem_edP.1 h2
      obtain ⟨p, q, hp, hq, e3, e4, hne, hbo, -, hrk, hfr, hha⟩ := newF_some hx
      obtain rfl : p = i := by omega
      by_cases h0 : 0 ≤ x.rd
      · obtain ⟨r, hr'⟩ := Int.eq_ofNat_of_zero_le h0
        rw [hr'] at hha
        exact ih p r hha
      · exfalso
        unfold hasM at hha
        simp only [Bool.and_eq_true] at hha
        have := hha.2
        unfold hasR at this
        rw [decide_eq_false h0] at this
        simp at this
end
end Go.Proofs.YtbeigdbljepfkaaGreat

namespace Go.Proofs.YtbeigdbljepfkaaGreat
open Go.RowKit
set_option linter.unusedVariables false

theorem own_only {w w' : World} {g base : Nat} {e : TypeId} {size n : Nat} {v : Value} {vs : List Value} (h : w.ownsRow base e size v n vs) (ho : OnlyAt g w w') (hne : v.ownBlock ≠ some g) : w'.ownsRow base e size v n vs := by
  refine ⟨h.1, ?_⟩
  rcases h.2 with ⟨h1, h2⟩ | ⟨k, cap, cur, rfl, hbg, hg, r⟩
  · exact .inl ⟨h1, h2⟩
  · exact .inr ⟨k, cap, cur, rfl, hbg, (ho.block k (fun e => hne (by rw [← e]; rfl))).trans hg, r⟩
theorem Blk.only {w w' : World} {g k : Nat} {t : TypeId} {cs : List Value} (h : Blk w k t cs) (ho : OnlyAt g w w') (hne : k ≠ g) : Blk w' k t cs := (ho.block k hne).trans h
theorem Row.only {w w' : World} {g n : Nat} {A : Option Addr} {xs : List Nat} (h : Row w A n xs) (ho : OnlyAt g w w') (hne : ∀ ad, A = some ad → ad.block ≠ g) : Row w' A n xs := by
  refine ⟨⟨h.1.1, fun hn => ?_⟩, h.2⟩
  obtain ⟨b, off, e, hb, hc⟩ := h.1.2 hn
  have hbg := hne _ e
  exact ⟨b, off, e, by rw [ho.size]; exact hb, fun j u hu => (ho.cell (p := ⟨b, off + j, none⟩) hbg).trans (hc j u hu)⟩
theorem below_only {w w' w0 : World} {g : Nat} (h : Below w0.heap.size w0 w) (ho : OnlyAt g w w') (hg : w0.heap.size ≤ g) : Below w0.heap.size w0 w' := h.trans (ho.below.mono hg)
theorem OwnRows.joined {t : TypeId} {w w' : World} {base : Nat} {vs : List Value} {xss : List (List Nat)} (h : OwnRows t w base vs xss) {i g m c : Nat} {ys : List Nat} (hv : vs[i]? = some (.slice (some ⟨g, 0, none⟩) m c))
    (ho : OnlyAt g w w') (hy : w'.ownsRow base t 1 (.slice (some ⟨g, 0, none⟩) m c) m (ys.map u64v)) (hw : W64 ys) : OwnRows t w' base vs (xss.set i ys) := by
  refine ⟨by simp [h.1], fun k v zs h1 h2 => ?_, h.2.2⟩
  rw [List.getElem?_set] at h2
  by_cases hk : i = k
  · subst hk
    rw [if_pos rfl] at h2
    split at h2
    · injection h2 with h2
      subst h2
      rw [hv] at h1
      injection h1 with h1
      subst h1
      exact ⟨_, _, _, rfl, hy, hw⟩
    · cases h2
  · rw [if_neg hk] at h2
    obtain ⟨A, m', c', e, h3, hx⟩ := h.2.1 k v zs h1 h2
    subst e
    exact ⟨A, m', c', rfl, own_only h3 ho (h.2.2 i k _ _ g hk hv h1 rfl), hx⟩
theorem set_self {α : Type} {l : List α} {q : Nat} {r : α} (h : l[q]? = some r) : l.set q r = l := by
  apply List.ext_getElem?
  intro i
  rw [List.getElem?_set]
  by_cases hq : q = i
  · subst hq
    rw [if_pos rfl, if_pos (List.getElem?_eq_some_iff.1 h).1, h]
  · rw [if_neg hq]

/-- what 'join' does: the words of both, in the first one's place -/
def RetJoinIn (g base n c : Nat) (zs : List Nat) (w : World) (e : Ending) (w' : World) : Prop :=
  e = .returned (.tuple #[]) ∧ w'.ownsRow base 105 1 (.slice (some ⟨g, 0, none⟩) n c) n (zs.map u64v) ∧ OnlyAt g w w'

end Go.Proofs.YtbeigdbljepfkaaGreat

namespace Go.Proofs.YtbeigdbljepfkaaGreat
open Go.RowKit
set_option linter.unusedVariables false

/-- the first q rows turned by f -/
def mapPre (f : Nat → List Nat → List Nat) (a : List (List Nat)) (q : Nat) : List (List Nat) := (List.range a.length).map fun i => if i < q then f i (a.getD i []) else a.getD i []
section
variable {f : Nat → List Nat → List Nat} {a : List (List Nat)} {q : Nat}
theorem mapPre_len : (mapPre f a q).length = a.length := by simp [mapPre]
theorem mapPre_get {i : Nat} {r : List Nat} (h : a[i]? = some r) : (mapPre f a q)[i]? = some (if i < q then f i r else r) := by
  unfold mapPre
  have hi := (List.getElem?_eq_some_iff.1 h).1
  rw [List.getElem?_map, List.getElem?_range hi, Option.map_some, getD_at h]
theorem mapPre_zero : mapPre f a 0 = a := by
  unfold mapPre
  simp only [Nat.not_lt_zero, if_false]
  rw [map_range_getD a [] (fun x => x)]; simp
theorem mapPre_succ {r : List Nat} (h : a[q]? = some r) : mapPre f a (q + 1) = (mapPre f a q).set q (f q r) := by
  apply List.ext_getElem?
  intro i
  rw [List.getElem?_set]
  by_cases hi : i < a.length
  · have hx : a[i]? = some a[i] := List.getElem?_eq_getElem hi
    rw [mapPre_get hx, mapPre_len]
    by_cases hq : q = i
    · subst hq
      rw [h] at hx
      injection hx with hx
      rw [if_pos (by omega), if_pos rfl, if_pos hi, hx]
    · rw [if_neg hq, mapPre_get hx]
      by_cases h1 : i < q
      · rw [if_pos h1, if_pos (by omega)]
      · rw [if_neg h1, if_neg (by omega)]
  · rw [List.getElem?_eq_none (by rw [mapPre_len]; omega)]
    split
    · rename_i h1
      subst h1
      exact absurd (List.getElem?_eq_some_iff.1 h).1 hi
    · rw [List.getElem?_eq_none (by rw [mapPre_len]; omega)]
theorem mapPre_same {r : List Nat} (h : a[q]? = some r) (hf : f q r = r) : mapPre f a (q + 1) = mapPre f a q := by
  rw [mapPre_succ h, hf]
  exact set_self (by rw [mapPre_get h, if_neg (Nat.lt_irrefl _)])
end
theorem RowsF.put {w : World} {lo hi : Nat} {vs : List Value} {xss : List (List Nat)} (h : RowsF w lo hi vs xss) {k : Nat} {v : Value} {xs : List Nat} (hv : RowF w lo hi v xs) : RowsF w lo hi (vs.set k v) (xss.set k xs) := by
  refine ⟨by simp [h.1], fun i u ys h1 h2 => ?_⟩
  rw [List.getElem?_set] at h1 h2
  by_cases hk : k = i
  · rw [if_pos hk] at h1 h2
    split at h1
    · split at h2
      · injection h1 with h1
        injection h2 with h2
        subst h1 h2
        exact hv
      · cases h2
    · cases h1
  · rw [if_neg hk] at h1 h2
    exact h.2 i u ys h1 h2

/-! ### one pair more -/

end Go.Proofs.YtbeigdbljepfkaaGreat

namespace Go.Proofs.YtbeigdbljepfkaaGreat
open Go.RowKit
set_option linter.unusedVariables false

/-- have both rows a bit in common? -/
def metR (a b : List Nat) : Bool := (List.range a.length).any fun j => a.getD j 0 &&& b.getD j 0 != 0
theorem metR_iff {a b : List Nat} (ha : W64 a) : metR a b = true ↔ ∃ y : Nat, hasR a (y : Int) = true ∧ hasR b (y : Int) = true := by
  unfold metR
  rw [List.any_eq_true]
  constructor
  · rintro ⟨j, hj, h⟩
    rw [bne_iff_ne] at h
    obtain ⟨i, hi⟩ := Nat.exists_testBit_of_ne_zero h
    rw [Nat.testBit_and, Bool.and_eq_true] at hi
    have hjl := List.mem_range.1 hj
    have hw : a.getD j 0 < 18446744073709551616 := by
      rw [List.getD_eq_getElem?_getD, List.getElem?_eq_getElem hjl]
      exact ha _ (List.getElem_mem hjl)
    have hi64 : i < 64 := by
      rcases Nat.lt_or_ge i 64 with h1 | h1
      · exact h1
      · have := Nat.testBit_lt_two_pow (x := a.getD j 0) (i := i) (Nat.lt_of_lt_of_le hw (Nat.pow_le_pow_right (n := 2) (by decide) h1))
        rw [hi.1] at this; cases this
    exact ⟨64 * j + i, by rw [hasR_w _ _ _ hi64]; exact hi.1, by rw [hasR_w _ _ _ hi64]; exact hi.2⟩
  · rintro ⟨y, h1, h2⟩
    rw [hasR_nat] at h1 h2
    refine ⟨y / 64, List.mem_range.2 ?_, ?_⟩
    · rcases Nat.lt_or_ge (y / 64) a.length with h | h
      · exact h
      · rw [List.getD_eq_getElem?_getD, List.getElem?_eq_none h] at h1
        simp at h1
    · rw [bne_iff_ne]
      intro h
      have := Nat.testBit_and (a.getD (y / 64) 0) (b.getD (y / 64) 0) (y % 64)
      rw [h, h1, h2] at this
      simp at this
/-- what is told of a prefix of the words -/
def metK (a b : List Nat) (k : Nat) : Bool := (List.range k).any fun j => a.getD j 0 &&& b.getD j 0 != 0
theorem metK_succ (a b : List Nat) (k : Nat) : metK a b (k + 1) = (metK a b k || a.getD k 0 &&& b.getD k 0 != 0) := by
  unfold metK; rw [List.range_succ, List.any_append]; simp
theorem metK_mono {a b : List Nat} {k n : Nat} (h : k ≤ n) (h1 : metK a b k = true) : metK a b n = true := by
  unfold metK at h1 ⊢
  rw [List.any_eq_true] at h1 ⊢
  obtain ⟨j, hj, e⟩ := h1
  exact ⟨j, List.mem_range.2 (Nat.lt_of_lt_of_le (List.mem_range.1 hj) h), e⟩
/-- row q, with what it gains -/
def leadRow (F g : List Nat) (q : Nat) (r : List Nat) : List Nat := if (hasR F (q : Int) || metR r F) && !subR g r then orR r g else r
def leadM (a : List (List Nat)) (F : List Nat) (j : Nat) : List (List Nat) := mapPre (leadRow F (setR (a.getD j []) (j : Int))) a a.length
/-- what they make of a closed relation -/
def LeadR (r : Nat → Nat → Prop) (P : Nat → Prop) (j x y : Nat) : Prop := r x y ∨ ((P x ∨ ∃ z, r x z ∧ P z) ∧ (y = j ∨ r j y))
theorem LeadR.conn {r : Nat → Nat → Prop} (hr : Trans2 r) (P : Nat → Prop) (j x y : Nat) : LeadR r P j x y ↔ Conn (fun a b => r a b ∨ (P a ∧ b = j)) x y := by
  constructor
  · rintro (h | ⟨h1, h2⟩)
    · exact .one (.inl h)
    · have ha : Conn (fun a b => r a b ∨ (P a ∧ b = j)) x j := by
        rcases h1 with h1 | ⟨z, h1, h3⟩
        · exact .one (.inr ⟨h1, rfl⟩)
        · exact .step (.one (.inl h1)) (.inr ⟨h3, rfl⟩)
      rcases h2 with rfl | h2
      · exact ha
      · exact .step ha (.inl h2)
  · refine Conn.least (fun a b c h1 h2 => ?_) (fun a b h => ?_)
    · rcases h1 with h1 | ⟨p1, p2⟩ <;> rcases h2 with h2 | ⟨q1, q2⟩
      · exact .inl (hr _ _ _ h1 h2)
      · refine .inr ⟨.inr ?_, q2⟩
        rcases q1 with q1 | ⟨z, q1, q3⟩
        · exact ⟨b, h1, q1⟩
        · exact ⟨z, hr _ _ _ h1 q1, q3⟩
      · refine .inr ⟨p1, .inr ?_⟩
        rcases p2 with rfl | p2
        · exact h2
        · exact hr _ _ _ p2 h2
      · exact .inr ⟨p1, q2⟩
    · rcases h with h | ⟨h, rfl⟩
      · exact .inl h
      · exact .inr ⟨.inl h, .inl rfl⟩
section
variable {n : Nat} {a : List (List Nat)}
theorem leadRow_facts (ha : Good n a) {F : List Nat} {j : Nat} (hj : j < n) {q : Nat} {r : List Nat} (hr : a[q]? = some r) :
    W64 (leadRow F (setR (a.getD j []) (j : Int)) q r) ∧ (leadRow F (setR (a.getD j []) (j : Int)) q r).length = r.length ∧
      ∀ y : Nat, hasR (leadRow F (setR (a.getD j []) (j : Int)) q r) (y : Int) = (hasR r (y : Int) || ((hasR F (q : Int) || metR r F) && (hasM a (j : Int) (y : Int) || decide (y = j)))) := by
  obtain ⟨s, hs, hws, hls⟩ := ha.at_ hj
  have h1 := ha.row r (List.mem_of_getElem? hr)
  have h2 := ha.row s (List.mem_of_getElem? hs)
  have hwg : W64 (setR s (j : Int)) := setR_w64 hws j
  have hg : ∀ y : Nat, hasR (setR s (j : Int)) (y : Int) = (hasM a (j : Int) (y : Int) || decide (y = j)) := fun y => by rw [hasR_setR s j y (by omega), hasM_in hs]
  rw [getD_at hs]
  unfold leadRow
  cases hc : (hasR F (q : Int) || metR r F) with
  | false =>
    rw [Bool.false_and, if_neg (by simp)]
    exact ⟨h1.1, rfl, fun y => by rw [Bool.false_and, Bool.or_false]⟩
  | true =>
    rw [Bool.true_and]
    cases hsb : subR (setR s (j : Int)) r with
    | true =>
      rw [if_neg (by simp)]
      refine ⟨h1.1, rfl, fun y => ?_⟩
      rw [Bool.true_and, ← hg y]
      cases hy : hasR (setR s (j : Int)) (y : Int) with
      | false => rw [Bool.or_false]
      | true => rw [(subR_iff _ r hwg).1 hsb y hy]; rfl
    | false =>
      rw [if_pos (by simp)]
      refine ⟨orR_w64 h1.1 hwg, by rw [orR_len, setR_len, h1.2.2.1, h2.2.2.1, Nat.max_self], fun y => ?_⟩
      rw [hasR_orR, hg y, Bool.true_and]
theorem leadM_good (ha : Good n a) (F : List Nat) {j : Nat} (hj : j < n) : Good n (leadM a F j) := by
  unfold leadM
  refine ⟨ha.le, by rw [mapPre_len, ha.len], fun r hr => ?_⟩
  obtain ⟨q, hq⟩ := List.getElem?_of_mem hr
  have hql : q < a.length := by
    have := (List.getElem?_eq_some_iff.1 hq).1
    rwa [mapPre_len] at this
  have hx : a[q]? = some a[q] := List.getElem?_eq_getElem hql
  rw [mapPre_get hx, if_pos hql] at hq
  injection hq with hq
  subst hq
  have h0 := ha.row _ (List.mem_of_getElem? hx)
  obtain ⟨h1, h2, h3⟩ := leadRow_facts ha (F := F) hj hx
  refine ⟨h1, by rw [h2]; exact h0.2.1, by rw [h2]; exact h0.2.2.1, fun y hy => ?_⟩
  rw [h3 y, h0.2.2.2 y hy, decide_eq_false (by omega), Bool.or_false]
  cases hh : hasM a (j : Int) (y : Int) with
  | false => simp
  | true => exact absurd (ha.has_lt hh).2 (by omega)
theorem leadM_rel (ha : Good n a) {F : List Nat} (hF : ∀ y : Nat, hasR F (y : Int) = true → y < n) {j : Nat} (hj : j < n) (x y : Nat) : Rel (leadM a F j) x y ↔ LeadR (Rel a) (fun z => hasR F (z : Int) = true) j x y := by
  unfold LeadR
  by_cases hx : x < n
  · obtain ⟨r, hr, hrw, _⟩ := ha.at_ hx
    have h1 : (leadM a F j)[x]? = some (leadRow F (setR (a.getD j []) (j : Int)) x r) := by
      unfold leadM
      rw [mapPre_get hr, if_pos (by rw [ha.len]; exact hx)]
    obtain ⟨_, _, h3⟩ := leadRow_facts ha (F := F) hj hr
    have hm : metR r F = true ↔ ∃ z : Nat, Rel a x z ∧ hasR F (z : Int) = true := by
      rw [metR_iff hrw]
      unfold Rel
      simp only [hasM_in hr]
    unfold Rel at hm ⊢
    rw [hasM_in h1, h3 y, hasM_in hr]
    simp only [Bool.or_eq_true, Bool.and_eq_true, decide_eq_true_eq]
    rw [hm]
    constructor
    · rintro (h | ⟨h, h'⟩)
      · exact .inl h
      · exact .inr ⟨h, h'.symm⟩
    · rintro (h | ⟨h, h'⟩)
      · exact .inl h
      · exact .inr ⟨h, h'.symm⟩
  · constructor
    · intro h
      exact absurd ((leadM_good ha F hj).rel_lt _ _ h).1 hx
    · rintro (h | ⟨h | ⟨z, h, _⟩, _⟩)
      · exact absurd (ha.rel_lt _ _ h).1 hx
      · exact absurd (hF x h) hx
      · exact absurd (ha.rel_lt _ _ h).1 hx
theorem leadM_hull (ha : Good n a) (hc : ClosedM a) {F : List Nat} (hF : ∀ y : Nat, hasR F (y : Int) = true → y < n) {j : Nat} (hj : j < n) : IsHull n (fun x y => Rel a x y ∨ (hasR F (x : Int) = true ∧ y = j)) (leadM a F j) :=
  ⟨leadM_good ha F hj, fun x y => by rw [leadM_rel ha hF hj, LeadR.conn hc]⟩
end
/-! ### the first writes of the edges to one number -/
def fstO (N : Nat) (k : Nat) (r : List Nat) (e : Ed) : List Nat := if e.w2 = (k : Int) then setR (if r = [] then List.replicate N 0 else r) e.w1 else r
def fstR (N : Nat) (es : List Ed) (k : Nat) : List Nat := es.foldl (fstO N k) []
theorem fstR_nil (N k : Nat) : fstR N [] k = [] := rfl
theorem fstR_snoc (N : Nat) (es : List Ed) (e : Ed) (k : Nat) : fstR N (es ++ [e]) k = fstO N k (fstR N es k) e := by unfold fstR; rw [List.foldl_append]; rfl
theorem fstR_take {N : Nat} {es : List Ed} {q : Nat} {e : Ed} (h : es[q]? = some e) (k : Nat) : fstR N (es.take (q + 1)) k = fstO N k (fstR N (es.take q) k) e := by
  rw [List.take_add_one, h]; exact fstR_snoc _ _ _ _
theorem fstO_other {N k : Nat} {r : List Nat} {e : Ed} (h : e.w2 ≠ (k : Int)) : fstO N k r e = r := if_neg h
theorem fstR_facts {N : Nat} (hN : 0 < N) (es : List Ed) (hes : ∀ e ∈ es, ∃ a : Nat, e.w1 = (a : Int) ∧ a < 64 * N) (k : Nat) :
    W64 (fstR N es k) ∧ ((fstR N es k = [] ∧ ∀ e ∈ es, e.w2 ≠ (k : Int)) ∨ ((fstR N es k).length = N ∧ ∃ e ∈ es, e.w2 = (k : Int))) ∧ ∀ y : Nat, hasR (fstR N es k) (y : Int) = true ↔ ((y : Int), (k : Int)) ∈ edP es := by
  induction es using snoc_ind with
  | h0 => exact ⟨fun x hx => (by cases hx), .inl ⟨rfl, fun e h => (by cases h)⟩, fun y => (by rw [fstR_nil]; simp [edP, hasR])⟩
  | h1 l e ih =>
    obtain ⟨i1, i2, i3⟩ := ih (fun x hx => hes x (List.mem_append_left _ hx))
    have hed : ∀ y : Nat, ((y : Int), (k : Int)) ∈ edP (l ++ [e]) ↔ ((y : Int), (k : Int)) ∈ edP l ∨ ((y : Int) = e.w1 ∧ (k : Int) = e.w2) := fun y => by
      unfold edP; rw [List.map_append, List.mem_append]; simp
    rw [fstR_snoc]
    by_cases hk : e.w2 = (k : Int)
    · obtain ⟨a, ha, hal⟩ := hes e (by simp)
      unfold fstO
      rw [if_pos hk, ha]
      have hb : W64 (if fstR N l k = [] then List.replicate N 0 else fstR N l k) ∧ (if fstR N l k = [] then List.replicate N 0 else fstR N l k).length = N ∧ ∀ y : Nat, hasR (if fstR N l k = [] then List.replicate N 0 else fstR N l k) (y : Int) = hasR (fstR N l k) (y : Int) := by
        split
        · rename_i h0
          refine ⟨fun x hx => by rw [List.eq_of_mem_replicate hx]; decide, by simp, fun y => ?_⟩
          rw [h0, hasR_zeros]; simp [hasR]
        · rename_i h0
          rcases i2 with ⟨h, _⟩ | ⟨h, _⟩
          · exact absurd h h0
          · exact ⟨i1, h, fun y => rfl⟩
      obtain ⟨b1, b2, b3⟩ := hb
      refine ⟨setR_w64 b1 a, .inr ⟨by rw [setR_len, b2], e, by simp, hk⟩, fun y => ?_⟩
      rw [hasR_setR _ a y (by rw [b2]; exact hal), b3 y, Bool.or_eq_true, i3 y, hed y, decide_eq_true_eq, ha, hk]
      constructor
      · rintro (h | h)
        · exact .inl h
        · exact .inr ⟨by omega, rfl⟩
      · rintro (h | ⟨h, _⟩)
        · exact .inl h
        · exact .inr (by omega)
    · rw [fstO_other hk]
      refine ⟨i1, ?_, fun y => ?_⟩
      · rcases i2 with ⟨h1, h2⟩ | ⟨h1, u, h2, h3⟩
        · exact .inl ⟨h1, fun x hx => by
            rcases List.mem_append.1 hx with h | h
            · exact h2 x h
            · rw [List.mem_singleton] at h; rw [h]; exact hk⟩
        · exact .inr ⟨h1, u, List.mem_append_left _ h2, h3⟩
      · rw [i3 y, hed y]
        constructor
        · exact .inl
        · rintro (h | ⟨_, h⟩)
          · exact h
          · exact absurd h.symm hk
/-! ### all of them -/
def adX (N : Nat) (X : List (List Nat)) (es : List Ed) : Nat → List (List Nat)
  | 0 => X
  | k + 1 => if fstR N es k = [] then adX N X es k else leadM (adX N X es k) (fstR N es k) k
theorem adX_hull {n N : Nat} (hN : 0 < N) (hn : n ≤ 64 * N) {X : List (List Nat)} (hX : Good n X) (hc : ClosedM X) {es : List Ed} (hes : ∀ e ∈ es, ∃ a b : Nat, e.w1 = (a : Int) ∧ e.w2 = (b : Int) ∧ a < n ∧ b < n) :
    ∀ k, k ≤ n → IsHull n (fun x y => Rel X x y ∨ (((x : Int), (y : Int)) ∈ edP es ∧ y < k)) (adX N X es k)
  | 0, _ => ⟨hX, fun i j => by
      show Rel X i j ↔ _
      rw [← Conn.of_trans hc]
      refine Conn.same (fun x y => ⟨fun h => .inl h, fun h => ?_⟩) i j
      rcases h with h | ⟨_, h⟩
      · exact h
      · omega⟩
  | k + 1, hk => by
    have ih := adX_hull hN hn hX hc hes k (by omega)
    obtain ⟨-, f2, f3⟩ := fstR_facts hN es (fun e he => by obtain ⟨a, b, h1, h2, h3, h4⟩ := hes e he; exact ⟨a, h1, by omega⟩) k
    rw [adX]
    rcases f2 with ⟨f0, f1⟩ | ⟨f0, u, f1, f4⟩
    · rw [if_pos f0]
      refine ⟨ih.1, fun i j => ?_⟩
      rw [ih.2]
      refine Conn.same (fun x y => ?_) i j
      constructor
      · rintro (h | ⟨h, h'⟩)
        · exact .inl h
        · exact .inr ⟨h, by omega⟩
      · rintro (h | ⟨h, h'⟩)
        · exact .inl h
        · by_cases hy : y = k
          · obtain ⟨e, he, e1, e2⟩ := mem_edP.1 h
            exact absurd (by rw [e2, hy]) (f1 e he)
          · exact .inr ⟨h, by omega⟩
    · rw [if_neg (fun h => by rw [h] at f0; simp at f0; omega)]
      have hF : ∀ y : Nat, hasR (fstR N es k) (y : Int) = true → y < n := fun y hy => by
        obtain ⟨e, he, e1, e2⟩ := mem_edP.1 ((f3 y).1 hy)
        obtain ⟨a, b, h1, h2, h3, h4⟩ := hes e he
        omega
      have hL := leadM_hull ih.1 ih.closed hF (show k < n by omega)
      refine ⟨hL.1, fun i j => ?_⟩
      rw [hL.2]
      constructor
      · intro h
        refine Conn.least (s := Conn fun x y => Rel X x y ∨ (((x : Int), (y : Int)) ∈ edP es ∧ y < k + 1)) (fun a b c h1 h2 => Conn.trans h1 h2) (fun x y h1 => ?_) h
        rcases h1 with h1 | ⟨h1, rfl⟩
        · exact ((ih.2 x y).1 h1).mono (fun p q h2 => by
            rcases h2 with h2 | ⟨h2, h3⟩
            · exact .inl h2
            · exact .inr ⟨h2, by omega⟩)
        · exact .one (.inr ⟨(f3 x).1 h1, by omega⟩)
      · intro h
        refine h.mono (fun x y h1 => ?_) |> fun h => h
        rcases h1 with h1 | ⟨h1, h2⟩
        · exact .inl ((ih.2 x y).2 (.one (.inl h1)))
        · by_cases hy : y = k
          · exact .inr ⟨(f3 x).2 (by rw [hy] at h1; exact h1), hy⟩
          · exact .inl ((ih.2 x y).2 (.one (.inr ⟨h1, by omega⟩)))
/-- .. make the hull of all -/
theorem adX_close {n N : Nat} (hN : 0 < N) (hn : n ≤ 64 * N) {X : List (List Nat)} (hX : Good n X) (hc : ClosedM X) {es : List Ed} (hes : ∀ e ∈ es, ∃ a b : Nat, e.w1 = (a : Int) ∧ e.w2 = (b : Int) ∧ a < n ∧ b < n) : adX N X es n = closeK ((edP es).foldl setP X) n := by
  have hok : ∀ p ∈ edP es, okP (n : Int) p = true := fun p hp => by
    obtain ⟨x, hx, rfl⟩ := List.mem_map.1 hp
    obtain ⟨a, b, h1, h2, h3, h4⟩ := hes x hx
    unfold okP inM
    simp only [h1, h2, Bool.and_eq_true, decide_eq_true_eq]
    omega
  obtain ⟨h1, h2⟩ := fold_facts (edP es) X hX hok
  refine IsHull.unique (adX_hull hN hn hX hc hes n (Nat.le_refl _)) (closeK_hull h1) (fun i j => Conn.same (fun x y => ?_) i j)
  have h3 := h2 x y
  show _ ↔ hasM ((edP es).foldl setP X) (x : Int) (y : Int) = true
  rw [h3, Bool.or_eq_true, decide_eq_true_eq]
  constructor
  · rintro (h | ⟨h, _⟩)
    · exact .inl h
    · exact .inr h
  · rintro (h | h)
    · exact .inl h
    · refine .inr ⟨h, ?_⟩
      obtain ⟨e, he, e1, e2⟩ := mem_edP.1 h
      obtain ⟨a, b, k1, k2, k3, k4⟩ := hes e he
      omega
end Go.Proofs.YtbeigdbljepfkaaGreat

namespace Go.Proofs.YtbeigdbljepfkaaGreat
open Go.RowKit

/-- whatever there was, but for the block g, is as it was -/
structure BelowB (g : Nat) (w w' : World) : Prop where
  os : w'.os = w.os
  tape : w'.tape = w.tape
  output : w'.output = w.output
  size : w.heap.size ≤ w'.heap.size
  block : ∀ k, k < w.heap.size → k ≠ g → w'.heap[k]? = w.heap[k]?
theorem BelowB.refl (g : Nat) (w : World) : BelowB g w w := ⟨rfl, rfl, rfl, Nat.le_refl _, fun _ _ _ => rfl⟩
theorem BelowB.trans {g : Nat} {a b c : World} (h : BelowB g a b) (k : BelowB g b c) : BelowB g a c :=
  ⟨k.os.trans h.os, k.tape.trans h.tape, k.output.trans h.output, Nat.le_trans h.size k.size, fun i hi hg => (k.block i (Nat.lt_of_lt_of_le hi h.size) hg).trans (h.block i hi hg)⟩
theorem BelowB.of {g : Nat} {w w' : World} (h : Below w.heap.size w w') : BelowB g w w' := ⟨h.os, h.tape, h.output, h.size, fun k hk _ => h.block k hk⟩
theorem BelowB.grown {g : Nat} {w w' : World} {row : Option Nat} (hg : w.grownBy w' row) (h : ∀ k, row = some k → k = g) : BelowB g w w' :=
  ⟨hg.os, hg.tape, hg.output, hg.size, fun k hk hne => hg.block k hk (fun e => hne (h k e.symm))⟩
theorem BelowB.cell {g : Nat} {w w' : World} (h : BelowB g w w') {p : Addr} (hp : p.block < w.heap.size) (hg : p.block ≠ g) : w'.cell? p = w.cell? p := World.cell?_of_block (w := w) (h.block p.block hp hg)
theorem BelowB.below {g B : Nat} {w w' : World} (h : BelowB g w w') (hB : B ≤ w.heap.size) (hg : B ≤ g) : Below B w w' := ⟨h.os, h.tape, h.output, h.size, fun k hk => h.block k (by omega) (by omega)⟩
theorem BelowB.blk {g k : Nat} {t : TypeId} {cs : List Value} {w w' : World} (h : BelowB g w w') (hk : Blk w k t cs) (hne : k ≠ g) : Blk w' k t cs := (h.block k hk.lt hne).trans hk
section
variable {gb : Nat} {P : Program} {ops : Array Oper} {md : Region.Mode} {Q : Exit → Act → World → Prop}

/-- Whatever order is picked from here on, till the first n operations are done; each leaves what was there. -/
def wpAnyG (gb : Nat) (P : Program) (md : Region.Mode) (ops : Array Oper) (Q : Exit → Act → World → Prop) (n : Nat) (F : Array Bool → Act → World → Prop) : Nat → Array Bool → Act → World → Prop
  | 0, listed, a, w => F listed a w
  | f + 1, listed, a, w => Region.ready md ops listed ≠ [] ∧ ∀ i ∈ Region.ready md ops listed, i < n ∧ wpOp P ops Q i (fun a' w' => BelowB gb w w' ∧ wpAnyG gb P md ops Q n F f (listed.setIfInBounds i true) a' w') a w

theorem wpAny_of_G {n g : Nat} {F : Array Bool → Act → World → Prop} (hF : ∀ listed a w, F listed a w → wpAny P md ops Q g listed a w) :
    ∀ (f : Nat) (listed : Array Bool) (a : Act) (w : World), wpAnyG gb P md ops Q n F f listed a w → wpAny P md ops Q (f + g) listed a w
  | 0, _, _, _, h => by rw [Nat.zero_add]; exact hF _ _ _ h
  | f + 1, listed, a, w, h => by
    rw [show f + 1 + g = (f + g) + 1 by omega]
    exact ⟨fun h0 => absurd h0 h.1, fun i hi => wpOp_mono (fun a' w' h' => wpAny_of_G hF f _ a' w' h'.2) (h.2 i hi).2⟩

theorem belowB_of {w w' w'' : World} (h : BelowB gb w w') (h' : BelowB gb w' w'') : BelowB gb w w'' := h.trans h'
theorem yieldsB_later {w w' : World} {o : Oper} {v : Value} {a : Act} (hb : BelowB gb w w') (h : YieldsIf P ops (fun x => BelowB gb w x) o v a) : YieldsIf P ops (fun x => BelowB gb w' x) o v a :=
  h.imp (fun ⟨h1, h2⟩ => ⟨h1, fun x hx => h2 x (belowB_of hb hx)⟩) id

theorem wpAnyG_first {n i : Nat} {oi : Oper} {v : Value} {F : Array Bool → Act → World → Prop} (hi : ops[i]? = some oi) (hsel : ∀ (j : Nat) (o : Oper) cs b, ops[j]? = some o → o.op ≠ .select cs b)
    (hQ : ∀ c a w, Q (.panic c) (a.put oi.dst v) w → Q (.panic c) a w)
    (hlate : ∀ listed, HeadInv md ops n listed → listed.getD i true = false → ∀ t, n ≤ t → t ∉ Region.ready md ops listed) (hin : i < n)
    (hdone : ∀ listed a w, F listed a w → ∀ j ∈ Region.ready md ops listed, n ≤ j) :
    ∀ (f : Nat) (listed : Array Bool) (a : Act) (w : World), HeadInv md ops n listed →
      (∀ j oj, ops[j]? = some oj → j ≠ i → listed.getD j true = false → (∀ e ∈ oj.after, Region.binds md e = true → e.on ≠ i) → oi.apart ops oj = true) →
      i ∈ Region.ready md ops listed → YieldsIf P ops (fun x => BelowB gb w x) oi v a →
      wpAnyG gb P md ops Q n F f (listed.setIfInBounds i true) (a.put oi.dst v) w → wpAnyG gb P md ops Q n F (f + 1) listed a w := by
  intro f
  induction f with
  | zero =>
    intro listed a w inv _ hr hy H
    have hun := (mem_ready.1 hr).1
    refine ⟨fun h => (by rw [h] at hr; cases hr), fun j hj => ?_⟩
    have hjn : j < n := by
      rcases Nat.lt_or_ge j n with h | h
      · exact h
      · exact absurd hj (hlate listed inv hun j h)
    refine ⟨hjn, ?_⟩
    by_cases hji : j = i
    · subst hji; exact hy.wpOp hi (BelowB.refl _ _) ⟨BelowB.refl _ _, H⟩
    · have := hdone _ _ _ H j (ready_mono hj hji)
      omega
  | succ f ih =>
    intro listed a w inv hfree hr hy H
    have hun := (mem_ready.1 hr).1
    refine ⟨fun h => (by rw [h] at hr; cases hr), fun j hj => ?_⟩
    have hjn : j < n := by
      rcases Nat.lt_or_ge j n with h | h
      · exact h
      · exact absurd hj (hlate listed inv hun j h)
    refine ⟨hjn, ?_⟩
    by_cases hji : j = i
    · subst hji; exact hy.wpOp hi (BelowB.refl _ _) ⟨BelowB.refl _ _, H⟩
    · have h1 := (H.2 j (ready_mono hj hji)).2
      obtain ⟨hjun, oj, hoj, hall⟩ := mem_ready.1 hj
      have hnot : ∀ e ∈ oj.after, Region.binds md e = true → e.on ≠ i := fun e he hb heq => by
        have h1 := hall e he hb
        rw [heq, getD_both hun] at h1
        cases h1
      have h2 := wpOp_putIf hoj (hfree j oj hoj hji hjun hnot) (fun cs b => hsel i oi cs b hi) (fun cs b => hsel j oj cs b hoj) hQ hy h1
      have hfree' : ∀ k ok, ops[k]? = some ok → k ≠ i → (listed.setIfInBounds j true).getD k true = false →
          (∀ e ∈ ok.after, Region.binds md e = true → e.on ≠ i) → oi.apart ops ok = true := fun k ok hk hki hun hno => by
        refine hfree k ok hk hki ?_ hno
        by_cases hjk : j = k
        · subst hjk; exact hjun
        · rw [getD_set_ne true hjk] at hun; exact hun
      refine wpOp_mono (fun a' w' h3 => ⟨h3.2.1, ih (listed.setIfInBounds j true) a' w' (inv.set hj hjn) hfree' (ready_mono hr (Ne.symm hji)) (yieldsB_later h3.2.1 h3.1) ?_⟩) h2
      rw [Array.setIfInBounds_comm _ _ hji]
      exact h3.2.2

/-- the walk of the plan -/
def wpPG (gb : Nat) (P : Program) (ops : Array Oper) (Q : Exit → Act → World → Prop) (tail : List Oper) : List (Bool × Nat) → Act → World → Prop
  | [], a, w => wpList P ops Q tail a w
  | (true, i) :: rest, a, w => ∃ o v, ops[i]? = some o ∧ YieldsIf P ops (fun x => BelowB gb w x) o v a ∧ wpPG gb P ops Q tail rest (a.put o.dst v) w
  | (false, i) :: rest, a, w => wpOp P ops Q i (fun a' w' => BelowB gb w w' ∧ wpPG gb P ops Q tail rest a' w') a w

theorem wpAnyG_plan {n : Nat} {tail : List Oper} (hsel : Region.noSelect ops = true) (hQ : ∀ c a d v w, Q (.panic c) (a.put d v) w → Q (.panic c) a w)
    (hlate : ∀ listed, HeadInv md ops n listed → ∀ i, i < n → listed.getD i true = false → ∀ t, n ≤ t → t ∉ Region.ready md ops listed) :
    ∀ (pl : List (Bool × Nat)) (listed : Array Bool) (a : Act) (w : World), HeadInv md ops n listed → planB md ops n pl listed = true → wpPG gb P ops Q tail pl a w →
    wpAnyG gb P md ops Q n (fun listed' a' w' => Region.seqB md ops (ops.size - n) n listed' = true ∧ wpList P ops Q tail a' w') pl.length listed a w
  | [], listed, a, w, _, hB, h => ⟨hB, h⟩
  | (true, i) :: rest, listed, a, w, inv, hB, h => by
    simp only [planB, if_true, Bool.and_eq_true, decide_eq_true_eq] at hB
    obtain ⟨⟨hin, hr, hf⟩, hB'⟩ := hB
    obtain ⟨o, v, ho, hy, h'⟩ := h
    have hr' : i ∈ Region.ready md ops listed := by simpa using hr
    exact wpAnyG_first ho (Region.noSelect_spec hsel) (fun c a w => hQ c a o.dst v w) (fun l hl hu => hlate l hl i hin hu) hin (fun listed' a' w' hL => seqB_ready hL.1) rest.length listed a w inv (Region.free_spec ho hf) hr' hy
      (wpAnyG_plan hsel hQ hlate rest _ _ _ (inv.set hr' hin) hB' h')
  | (false, i) :: rest, listed, a, w, inv, hB, h => by
    simp only [planB, Bool.false_eq_true, if_false, Bool.and_eq_true, decide_eq_true_eq] at hB
    obtain ⟨⟨hin, hr⟩, hB'⟩ := hB
    have hr' : i ∈ Region.ready md ops listed := by rw [hr]; simp
    refine ⟨by rw [hr]; simp, fun j hj => ?_⟩
    rw [hr] at hj
    have hji : j = i := by simpa using hj
    subst hji
    exact ⟨hin, wpOp_mono (fun a' w' h3 => ⟨h3.1, wpAnyG_plan hsel hQ hlate rest _ a' w' (inv.set hr' hin) hB' h3.2⟩) h⟩

theorem wpAny_planG {a : Act} {w : World} {l : List Oper} (n : Nat) (pl : List (Bool × Nat)) (hB : planAll .any l.toArray n pl = true)
    (h : ∀ W : World, Hid (W = w.drew) → wpPG gb P l.toArray (NoPanic Q) (l.drop n) pl a W) : wpAny P .any l.toArray (NoPanic Q) l.toArray.size (Array.replicate l.toArray.size false) a { w with drawn := w.drawn + 1 } := by
  have hQ : ∀ c a d v w, NoPanic Q (.panic c) (a.put d v) w → NoPanic Q (.panic c) a w := fun _ _ _ _ _ h => h
  simp only [planAll, Bool.and_eq_true, decide_eq_true_eq] at hB
  obtain ⟨⟨⟨⟨hsel, hlen⟩, hn⟩, hsc⟩, hpl⟩ := hB
  have hn' : n ≤ l.length := by simpa using hn
  have hdl : (l.drop n).length = l.toArray.size - n := by simp
  have inv0 : HeadInv .any l.toArray n (Array.replicate l.toArray.size false) :=
    ⟨by simp, fun j oj _ hl => (by rw [getD_replicate_false] at hl; cases hl), fun t _ ht => getD_in (by simpa using ht) (getD_replicate_false _ _)⟩
  have hlate : ∀ listed, HeadInv .any l.toArray n listed → ∀ i, i < n → listed.getD i true = false → ∀ t, n ≤ t → t ∉ Region.ready .any l.toArray listed := by
    intro listed inv i hin hun t ht hr
    rw [Bool.or_eq_true, decide_eq_true_eq, Bool.and_eq_true] at hsc
    obtain ⟨_, ot, hot, _⟩ := mem_ready.1 hr
    have htl := (Array.getElem?_eq_some_iff.1 hot).1
    rcases hsc with h0 | ⟨hs, hc⟩
    · omega
    · exact tail_waits hs hc (by omega) inv _ i rfl hin hun t ht hr
  have H := wpAnyG_plan (md := .any) hsel hQ hlate pl _ a w.drew inv0 hpl (h w.drew (Lib.hid rfl))
  have := wpAny_of_G (Q := NoPanic Q) (g := l.toArray.size - n) (fun listed a' w' hL => by
    have := wpAny_of_seq (md := .any) (Q' := NoPanic Q) (l.drop n) n listed a' w' (fun j => by simp [List.getElem?_drop]) (by rw [hdl]; exact hL.1) hL.2
    rwa [hdl] at this) _ _ _ _ H
  rw [hlen, show n + (l.toArray.size - n) = l.toArray.size by omega] at this
  exact this
theorem wp_region_planG {id : Nat} {a : Act} {w : World} {l : List Oper} (n : Nat) (pl : List (Bool × Nat)) (hm : P.follows .mixedOrders = true) (hB : planAll .any l.toArray n pl = true)
    (h : ∀ W : World, Hid (W = w.drew) → wpPG gb P l.toArray (NoPanic Q) (l.drop n) pl a W) : (Code.region id l.toArray true).wp P Q a w :=
  wp_region_noPanic (wp_region_any hm (wpAny_planG n pl hB h))

/-! ### the steps -/
section
variable {tail : List Oper} {rest : List (Bool × Nat)} {a : Act} {w : World} {i : Nat} {o : Oper}
/-- what only reads: its value, in every world whose cells are those of w, where w has any -/
theorem wpPG_float {v : Value} (hi : ops[i]? = some o) (hw : Region.wanted o (yielded ops a.tmps) = true)
    (hy : ∀ w' : World, (∀ p : Addr, p.block ≠ gb → (w.cell? p).isSome = true → w'.cell? p = w.cell? p) → (execOp a.eval o).run P w' = .ok (.value v) w') (h : ∀ K : Act → Prop, (∀ a', wpPG gb P ops Q tail rest a' w → K a') → K (a.put o.dst v)) : wpPG gb P ops Q tail ((true, i) :: rest) a w :=
  ⟨o, v, hi, .inl ⟨hw, fun w' hb => hy w' (fun p hpg hp => by
    have hlt : p.block < w.heap.size := by
      cases hc : w.cell? p with
      | none => rw [hc] at hp; cases hp
      | some u => exact block_lt_of_cell hc
    exact hb.cell hlt hpg)⟩, h _ (fun _ h => h)⟩
/-- what comes up alone: a call -/
theorem wpPG_only (hi : ops[i]? = some o) (hw : Region.wanted o (yielded ops a.tmps) = true)
    (h : ∀ K : Act → World → Prop, (∀ a' w', BelowB gb w w' → wpPG gb P ops Q tail rest a' w' → K a' w') → o.wp P a w K Q) : wpPG gb P ops Q tail ((false, i) :: rest) a w := by
  show wpOp P ops Q i _ a w
  unfold wpOp
  simp only [hi, hw, if_true]
  exact .inl (h _ (fun a' w' hb hp => ⟨hb, hp⟩))
theorem wpPG_nil (h : wpList P ops Q tail a w) : wpPG gb P ops Q tail [] a w := h
end
end
end Go.Proofs.YtbeigdbljepfkaaGreat

namespace Go.Proofs.YtbeigdbljepfkaaGreat
open Go.RowKit
set_option linter.unusedVariables false

/-- rows as RowsAt, all of whose blocks are among S -/
def RowsS (S : Nat → Prop) (w : World) (A : Option Addr) (n : Nat) (xss : List (List Nat)) : Prop := ∃ vs, Rd w A n vs ∧ RowsC w vs xss ∧ (∀ ad, A = some ad → S ad.block) ∧ ∀ v ∈ vs, ∀ g, v.ownBlock = some g → S g
section
variable {S T : Nat → Prop} {w w' : World} {A : Option Addr} {n : Nat} {xss : List (List Nat)}
theorem RowsS.at (h : RowsS S w A n xss) : RowsAt w A n xss := by
  obtain ⟨vs, h1, h2, -, -⟩ := h; exact ⟨vs, h1, h2⟩
theorem RowsS.of (h : RowsAt w A n xss) (hS : ∀ g, S g) : RowsS S w A n xss := by
  obtain ⟨vs, h1, h2⟩ := h; exact ⟨vs, h1, h2, fun _ _ => hS _, fun _ _ g _ => hS g⟩
theorem RowsS.below (h : RowsS S w A n xss) (hb : Below w.heap.size w w') : RowsS S w' A n xss := by
  obtain ⟨vs, h1, h2, h3, h4⟩ := h; exact ⟨vs, h1.below hb, h2.below hb, h3, h4⟩
theorem RowsS.mono (h : RowsS S w A n xss) (hs : ∀ g, S g → T g) : RowsS T w A n xss := by
  obtain ⟨vs, h1, h2, h3, h4⟩ := h; exact ⟨vs, h1, h2, fun ad e => hs _ (h3 ad e), fun v hv g e => hs _ (h4 v hv g e)⟩
/-- its blocks are there -/
theorem RowsS.there (h : RowsS S w A n xss) (hn : 0 < n) (hp : ∀ xs ∈ xss, 0 < xs.length) : RowsS (fun g => S g ∧ g < w.heap.size) w A n xss := by
  obtain ⟨vs, h1, h2, h3, h4⟩ := h
  refine ⟨vs, h1, h2, fun ad e => ⟨h3 ad e, ?_⟩, fun v hv g e => ⟨h4 v hv g e, ?_⟩⟩
  · obtain ⟨b, off, e2, hb, -⟩ := h1.2 hn
    rw [e] at e2; injection e2 with e2; subst e2; exact hb
  · obtain ⟨i, hi⟩ := List.getElem?_of_mem hv
    have hil : i < xss.length := by rw [← h2.1]; exact (List.getElem?_eq_some_iff.1 hi).1
    obtain ⟨B, m, c, e3, hr⟩ := h2.2 i v xss[i] hi (List.getElem?_eq_getElem hil)
    have hm : 0 < m := by rw [← hr.len]; exact hp _ (List.getElem_mem hil)
    obtain ⟨b, off, e4, hb, -⟩ := hr.1.2 hm
    subst e3; subst e4
    injection e with e
    rw [← e]; exact hb
theorem RowsS.putB {M : Nat} {t : TypeId} {N : Int} {B : Option Addr} {m c : Nat} (hM : MatB w M t N B m c) (h : RowsS S w A n xss) (hne : 0 < n → ∀ ad, A = some ad → ad.block ≠ M) (x y : Value) :
    RowsS S ((w.setCell ⟨M, 0, none⟩ x).setCell ⟨M, 1, none⟩ y) A n xss := by
  obtain ⟨vs, h1, h2, h3, h4⟩ := h
  refine ⟨vs, ?_, ⟨h2.1, fun i v xs a b => ?_⟩, h3, h4⟩
  · rcases Nat.eq_zero_or_pos n with rfl | hm
    · rw [h1.of_nil]; exact Rd.nil _ _
    · exact (h1.setCell (hne hm) x).setCell (hne hm) y
  · obtain ⟨B', m', c', e, hr⟩ := h2.2 i v xs a b
    exact ⟨B', m', c', e, hr.putB hM x y⟩
theorem RowsS.grown {row : Option Nat} (h : RowsS S w A n xss) (hg : w.grownBy w' row) (hrow : ∀ g, row = some g → ¬ S g) : RowsS S w' A n xss := by
  obtain ⟨vs, h1, h2, h3, h4⟩ := h
  refine ⟨vs, ⟨h1.1, fun h0 => ?_⟩, ⟨h2.1, fun i v xs a b => ?_⟩, h3, h4⟩
  · obtain ⟨b, off, e, hb, hc⟩ := h1.2 h0
    exact ⟨b, off, e, Nat.lt_of_lt_of_le hb hg.size, fun j u hu => (World.cell?_of_block (hg.block b hb (fun e' => hrow b e'.symm (h3 _ e)))).trans (hc j u hu)⟩
  · obtain ⟨B', m', c', e, ⟨⟨hr1, hr2⟩, hr3⟩⟩ := h2.2 i v xs a b
    refine ⟨B', m', c', e, ⟨⟨hr1, fun h0 => ?_⟩, hr3⟩⟩
    obtain ⟨b', off, e2, hb, hc⟩ := hr2 h0
    exact ⟨b', off, e2, Nat.lt_of_lt_of_le hb hg.size, fun j u hu => (World.cell?_of_block (hg.block b' hb (fun e' => hrow b' e'.symm (h4 v (List.mem_of_getElem? a) b' (by rw [e, e2]; rfl))))).trans (hc j u hu)⟩
end
/-- the rows of a matrix, whose outer cells (block G) are a call's own and written in place -/
structure LeadI (S : Nat → Prop) (w0 : World) (base G n cap : Nat) (vs : List Value) (xss : List (List Nat)) (wr : World) : Prop where
  own : wr.ownsRow base 75 1 (.slice (some ⟨G, 0, none⟩) n cap) n vs
  rows : RowsF wr G (G + 1) vs xss
  src : ∀ v ∈ vs, ∀ g, v.ownBlock = some g → S g ∨ w0.heap.size ≤ g
  big : w0.heap.size ≤ G ∧ G < wr.heap.size
section
variable {S : Nat → Prop} {w0 wr w' : World} {base G n cap : Nat} {vs : List Value} {xss : List (List Nat)}
theorem LeadI.later (h : LeadI S w0 base G n cap vs xss wr) (hb : Below wr.heap.size wr w') : LeadI S w0 base G n cap vs xss w' :=
  ⟨own_below h.own hb, h.rows.below hb, h.src, h.big.1, Nat.lt_of_lt_of_le h.big.2 hb.size⟩
theorem LeadI.put (h : LeadI S w0 base G n cap vs xss wr) {k : Nat} {v : Value} {xs : List Nat} (hv : RowF wr G (G + 1) v xs) (hs : ∀ g, v.ownBlock = some g → S g ∨ w0.heap.size ≤ g) : LeadI S w0 base G n cap (vs.set k v) (xss.set k xs) (wr.setCell ⟨G, k, none⟩ v) :=
  ⟨(h.own.stored k v).1, (h.rows.set (p := ⟨G, k, none⟩) (Nat.le_refl _) (by simp) v).put (hv.set (p := ⟨G, k, none⟩) (Nat.le_refl _) (by simp) v), fun u hu g e => by
    rcases List.mem_or_eq_of_mem_set hu with h1 | h1
    · exact h.src u h1 g e
    · subst h1; exact hs g e, h.big.1, by simpa using h.big.2⟩
theorem LeadI.vlen (h : LeadI S w0 base G n cap vs xss wr) : vs.length = n := by have := h.own.1; simpa using this
theorem LeadI.get (h : LeadI S w0 base G n cap vs xss wr) {k : Nat} (hk : k < n) {r : List Nat} (hr : xss[k]? = some r) : ∃ B m d, vs[k]? = some (.slice B m d) ∧ wr.cell? ⟨G, k, none⟩ = some (.slice B m d) ∧ wr.frozen? ⟨G, k, none⟩ = false ∧ Row wr B m r := by
  have hl : k < vs.length := by rw [h.vlen]; exact hk
  have hv : vs[k]? = some vs[k] := List.getElem?_eq_getElem hl
  obtain ⟨B, m, d, e, hrow, -⟩ := h.rows.2 k _ r hv hr
  rw [e] at hv
  exact ⟨B, m, d, hv, by rw [h.own.cellAt k (by omega)]; exact hv, h.own.frozenAt k, hrow⟩
theorem LeadI.at (h : LeadI S w0 base G n cap vs xss wr) : RowsS (fun g => S g ∨ w0.heap.size ≤ g) wr (some ⟨G, 0, none⟩) n xss :=
  ⟨vs, Rd.of_own' h.own, h.rows.rows, fun ad e => by injection e with e; subst e; exact .inr h.big.1, h.src⟩
end
set_option maxHeartbeats 1000000 in
theorem seen_meet (A B : Option Addr) (n m c d : Nat) (xs ys : List Nat) (w : World) (hr : Row w A n xs) (hs : Row w B m ys) (hnm : n ≤ m) (hm : m ≤ 1073741824) :
    Calls Tryz.prog 92 #[.slice A n c, .slice B m d] w fun e w' => e = .returned (.bool (metR xs ys)) ∧ w = w' := by
  have hl := Lib.hid hr.len
  have hme : Hid (metR xs ys = metK xs ys n) := Lib.hid (by unfold metR metK; rw [hl.out])
  replace hr := Lib.hid hr
  replace hs := Lib.hid hs
  go_enter Tryz.func92, Tryz.ntmps92
  go_wp2
  go_loop [9] (fun i => ∃ k : Nat, k ≤ n ∧ i = .int .i64 k ∧ Hid (metK xs ys k = false)) (fun i => n - (intOf i).toNat)
  case atStart => exact ⟨0, Nat.zero_le _, rfl, Lib.hid rfl⟩
  case round =>
    obtain ⟨k, hk, rfl, hall⟩ := hrel
    by_cases hlt : k < n
    · obtain ⟨b, off, x, rfl, hbk, hx, hx64, hc⟩ := hr.out.at_ hlt
      obtain ⟨b2, off2, y, rfl, hbk2, hy, hy64, hc2⟩ := hs.out.at_ (Nat.lt_of_lt_of_le hlt hnm)
      have hgx := Row.get hx
      have hgy := Row.get hy
      have hT := u64_and_nat x y hx64 hy64
      have hkm : (k : Int) < (m : Int) := by omega
      have hkn : (k : Int) < (n : Int) := by omega
      have hst := metK_succ xs ys k
      rw [hall.out, Bool.false_or, hgx, hgy] at hst
      obtain ⟨z, hz⟩ : ∃ z, z = x &&& y := ⟨_, rfl⟩
      rw [← hz] at hT hst
      replace hz := Lib.hid hz
      replace hT := Lib.hid hT
      clear hx hy hgx hgy hlt
      by_cases hz0 : z = 0
      · have e1 : ((z : Int) != 0) = false := by rw [hz0]; rfl
        have hst' : Hid (metK xs ys (k + 1) = false) := Lib.hid (by rw [hst, hz0]; rfl)
        have hT0 : (bits BinOp.and IntKind.u64 (x : Int) (y : Int) != 0) = false := by rw [hT.out]; exact e1
        clear hst hz0 e1
        go_wp2
        go_round
        case rel => exact ⟨k + 1, by omega, by go_num, hst'⟩
        case measure => simp [intOf]; omega
      · have e1 : ((z : Int) != 0) = true := by rw [bne_iff_ne]; omega
        have hst' : Hid (metR xs ys = true) := Lib.hid (by rw [hme.out]; exact metK_mono (k := k + 1) (by omega) (by rw [hst, bne_iff_ne]; exact hz0))
        have hT0 : (bits BinOp.and IntKind.u64 (x : Int) (y : Int) != 0) = true := by rw [hT.out]; exact e1
        clear hst hz0 e1
        go_wp2
        go_ret
        exact ⟨by rw [hst'.out]; rfl, rfl⟩
    · obtain rfl : k = n := by omega
      have hlt' : ¬ (k : Int) < (k : Int) := by omega
      clear hlt
      go_wp2
      go_ret
      exact ⟨by rw [hme.out, hall.out]; rfl, rfl⟩
theorem BelowB.setG {g : Nat} {w w' : World} (h : BelowB g w w') (o : Nat) (u : Value) : BelowB g w (w'.setCell ⟨g, o, none⟩ u) :=
  ⟨h.os, h.tape, h.output, by simpa using h.size, fun k hk hg => (Below.heap_setCell _ _ _ _ (by simpa using hg)).trans (h.block k hk hg)⟩
/-- what 'lead' does -/
def RetLead (S : Nat → Prop) (w0 : World) (base G n cap : Nat) (xss : List (List Nat)) (w : World) (e : Ending) (w' : World) : Prop := e = .returned (.tuple #[]) ∧ ∃ vs, LeadI S w0 base G n cap vs xss w' ∧ BelowB G w w'
set_option maxRecDepth 100000 in
set_option maxHeartbeats 2000000 in
theorem seen_lead (S : Nat → Prop) (w0 : World) (base G n cap fm fc : Nat) (F : Option Addr) (vs0 : List Value) (a : List (List Nat)) (fs : List Nat) (j : Nat) (w : World) (h0 : LeadI S w0 base G n cap vs0 a w) (hF0 : Row w F fm fs) (hfm : fm = (wordsZ (n : Int)).toNat) (hFG : 0 < fm → ∀ ad, F = some ad → ad.block ≠ G) (hG : Good n a) (hj : j < n) :
    Calls Tryz.prog 67 #[.slice (some ⟨G, 0, none⟩) n cap, .slice F fm fc, .int .i64 (j : Int)] w (RetLead S w0 base G n cap (leadM a fs j) w) := by
  have hal := hG.len
  have hnn : n ≤ 4096 := hG.le
  obtain ⟨s, hs⟩ : ∃ s, a[j]? = some s := ⟨_, List.getElem?_eq_getElem (by omega)⟩
  obtain ⟨B0, m0, d0, hv0, c0, f0, hsr⟩ := h0.get hj hs
  have hm0 : m0 ≤ 64 := by have := hsr.len; have := hG.small s (List.mem_of_getElem? hs); omega
  have hlen0 : m0 = fm := by rw [← hsr.len, hfm, (hG.row s (List.mem_of_getElem? hs)).2.2.1]
  obtain ⟨g, hg⟩ : ∃ g, g = setR s (j : Int) := ⟨_, rfl⟩
  have hres : Hid (mapPre (leadRow fs g) a n = leadM a fs j) := Lib.hid (by unfold leadM; rw [getD_at hs, ← hg, hal])
  have hglen : Hid (g.length = m0) := Lib.hid (by rw [hg, setR_len]; exact hsr.len)
  have hSet := row_SetO B0 m0 d0 s (j : Int) w hsr (by omega) (by omega) (by omega)
  rw [← hg] at hSet
  replace hSet := Lib.hid hSet
  have hj0 : (0 : Int) ≤ (j : Int) := by omega
  have hjn : (j : Int) < (n : Int) := by omega
  have hI0 := Lib.hid h0
  have hF0' := Lib.hid hF0
  have hfm64 : fm ≤ 64 := by omega
  replace hFG := Lib.hid hFG
  replace hal := Lib.hid hal
  replace hg := Lib.hid hg
  replace hG := Lib.hid hG
  replace hfm := Lib.hid hfm
  replace hlen0 := Lib.hid hlen0
  clear hs hsr h0 hF0 hv0
  go_enter Tryz.func67, Tryz.ntmps67
  go_wp2_with fail
  refine hSet.out.mono ?_; rintro e w1 ⟨Cg, ng, cg, rfl, ho, hg64, hb1⟩
  have hgG : Hid (0 < ng → ∀ ad, Cg = some ad → ad.block ≠ G) := Lib.hid (fun _ ad e => by
    have := own_lt_block ho ad.block (by rw [e]; rfl)
    have := hI0.out.big.2
    omega)
  have hgn := Lib.hid (Row.of_own ho hg64)
  have hng : ng ≤ 64 := by have := hgn.out.len; have := hglen.out; omega
  have hI := Lib.hid (hI0.out.later hb1)
  have hF := Lib.hid (hF0'.out.below hb1)
  have hbb : Hid (BelowB G w w1) := Lib.hid (BelowB.of hb1)
  clear c0 f0 hSet ho hb1 hI0 hF0'
  go_wp2_with fail
  go_loopw [17] (fun t wr => ∃ (k : Nat) (vs : List Value), k ≤ n ∧ t = .int .i64 k ∧ Hid (LeadI S w0 base G n cap vs (mapPre (leadRow fs g) a k) wr) ∧ Hid (Row wr F fm fs) ∧ Hid (Row wr Cg ng g) ∧ Hid (BelowB G w wr)) (fun t _ => n - (intOf t).toNat)
  case atStart => exact ⟨0, vs0, Nat.zero_le _, rfl, Lib.hid (by rw [mapPre_zero]; exact hI.out), hF, hgn, hbb⟩
  case round =>
    clear hI hF hgn hbb
    obtain ⟨k, vs, hk, rfl, hI, hF, hgn, hbb⟩ := hrel
    by_cases hlt : k < n
    · obtain ⟨r, hx⟩ : ∃ r, a[k]? = some r := ⟨_, List.getElem?_eq_getElem (by have := hal.out; omega)⟩
      have hxk : (mapPre (leadRow fs g) a k)[k]? = some r := by rw [mapPre_get hx, if_neg (Nat.lt_irrefl _)]
      obtain ⟨B, m, d, hv, c0, f0, hrr⟩ := hI.out.get hlt hxk
      have hm : m ≤ 64 := by have := hrr.len; have := hG.out.small r (List.mem_of_getElem? hx); omega
      have hmf : m ≤ fm := by rw [← hrr.len, (hG.out.row r (List.mem_of_getElem? hx)).2.2.1, ← hfm.out]; exact Nat.le_refl _
      have hk0 : (0 : Int) ≤ (k : Int) := by omega
      have hkn : (k : Int) < (n : Int) := by omega
      have hHas := Lib.hid (row_Has F fm fc fs (k : Int) wr hF.out (by omega) (by omega) (by omega))
      have hMet := Lib.hid (seen_meet B F m fm d fc r fs wr hrr hF.out hmf (by omega))
      have hSub := Lib.hid (row_Sub Cg B ng m cg d g r wr hgn.out hrr (by omega) (by omega))
      have hOr := Lib.hid (fun W h1 h2 => row_OrO B Cg m ng d cg r g W h1 h2 (by omega) (by omega))
      replace hx := Lib.hid hx
      replace hrr := Lib.hid hrr
      replace hv := Lib.hid hv
      clear hxk hlt
      cases hh : hasR fs (k : Int) with
      | true =>
        go_wp2_with fail
        refine hHas.out.mono ?_; rintro e w' ⟨rfl, rfl⟩
        rw [hh]
        cases hsb : subR g r with
        | true =>
          go_wp2_with fail
          refine hSub.out.mono ?_; rintro e w' ⟨rfl, rfl⟩
          rw [hsb]
          -- row k stays as it is (rw [hsb]; simp)
          have hadd : leadRow fs g k r = r := by unfold leadRow; rw [hsb]; simp
          have hst : Hid (mapPre (leadRow fs g) a (k + 1) = mapPre (leadRow fs g) a k) := Lib.hid (mapPre_same hx.out hadd)
          clear hadd
          go_wp2_with fail
          go_roundw
          case rel => exact ⟨k + 1, vs, by omega, by go_num, Lib.hid (by rw [hst.out]; exact hI.out), hF, hgn, hbb⟩
          case measure => simp [intOf]; omega
        | false =>
          go_wp2_with fail
          refine hSub.out.mono ?_; rintro e w' ⟨rfl, rfl⟩
          rw [hsb]
          -- row k gains (rw [hsb, hh]; simp)
          have hadd : leadRow fs g k r = orR r g := by unfold leadRow; rw [hsb, hh]; simp
          have hst : Hid (mapPre (leadRow fs g) a (k + 1) = (mapPre (leadRow fs g) a k).set k (orR r g)) := Lib.hid (by rw [mapPre_succ hx.out, hadd])
          clear hadd
          go_wp2_with fail
          refine (hOr.out wr hrr.out hgn.out).mono ?_; rintro e w1 ⟨C, p, q, rfl, ho, hx64, hb1⟩
          have hwrb := Lib.hid hI.out.big.2
          have hCl := Lib.hid (own_lt_block ho)
          replace hI := Lib.hid (hI.out.later hb1)
          replace hF := Lib.hid (hF.out.below hb1)
          replace hgn := Lib.hid (hgn.out.below hb1)
          replace hbb := Lib.hid (hbb.out.trans (BelowB.of hb1))
          have hC : Hid (RowF w1 G (G + 1) (.slice C p q) (orR r g)) := Lib.hid (RowF.new ho hx64 hwrb.out)
          have hsC : Hid (∀ g, (Value.slice C p q).ownBlock = some g → S g ∨ w0.heap.size ≤ g) := Lib.hid (fun g e => .inr (by have := hCl.out g e; have := hI.out.big; have := hwrb.out; omega))
          obtain ⟨u, hu⟩ : ∃ u, vs[k]? = some u := ⟨_, List.getElem?_eq_getElem (by rw [hI.out.vlen]; omega)⟩
          have hcg := hI.out.own.cellAt k (by omega)
          rw [hu] at hcg
          have hfg := hI.out.own.frozenAt k
          clear ho hx64 hb1 hOr hSub hu hCl c0 f0 hv
          go_wp2_with fail
          go_roundw
          case rel => exact ⟨k + 1, vs.set k (.slice C p q), by omega, by go_num, Lib.hid (by rw [hst.out]; exact hI.out.put hC.out hsC.out), Lib.hid (hF.out.setCell' hFG.out _), Lib.hid (hgn.out.setCell' hgG.out _), Lib.hid (hbb.out.setG k _)⟩
          case measure => simp [intOf]; omega
      | false =>
        go_wp2_with fail
        refine hHas.out.mono ?_; rintro e w' ⟨rfl, rfl⟩
        rw [hh]
        cases hmt : metR r fs with
        | false =>
          go_wp2_with fail
          refine hMet.out.mono ?_; rintro e w' ⟨rfl, rfl⟩
          rw [hmt]
          -- row k stays as it is (rw [hh, hmt]; simp)
          have hadd : leadRow fs g k r = r := by unfold leadRow; rw [hh, hmt]; simp
          have hst : Hid (mapPre (leadRow fs g) a (k + 1) = mapPre (leadRow fs g) a k) := Lib.hid (mapPre_same hx.out hadd)
          clear hadd
          go_wp2_with fail
          go_roundw
          case rel => exact ⟨k + 1, vs, by omega, by go_num, Lib.hid (by rw [hst.out]; exact hI.out), hF, hgn, hbb⟩
          case measure => simp [intOf]; omega
        | true =>
          go_wp2_with fail
          refine hMet.out.mono ?_; rintro e w' ⟨rfl, rfl⟩
          rw [hmt]
          cases hsb : subR g r with
          | true =>
            go_wp2_with fail
            refine hSub.out.mono ?_; rintro e w' ⟨rfl, rfl⟩
            rw [hsb]
            -- row k stays as it is (rw [hsb]; simp)
            have hadd : leadRow fs g k r = r := by unfold leadRow; rw [hsb]; simp
            have hst : Hid (mapPre (leadRow fs g) a (k + 1) = mapPre (leadRow fs g) a k) := Lib.hid (mapPre_same hx.out hadd)
            clear hadd
            go_wp2_with fail
            go_roundw
            case rel => exact ⟨k + 1, vs, by omega, by go_num, Lib.hid (by rw [hst.out]; exact hI.out), hF, hgn, hbb⟩
            case measure => simp [intOf]; omega
          | false =>
            go_wp2_with fail
            refine hSub.out.mono ?_; rintro e w' ⟨rfl, rfl⟩
            rw [hsb]
            -- row k gains (rw [hsb, hmt]; simp)
            have hadd : leadRow fs g k r = orR r g := by unfold leadRow; rw [hsb, hmt]; simp
            have hst : Hid (mapPre (leadRow fs g) a (k + 1) = (mapPre (leadRow fs g) a k).set k (orR r g)) := Lib.hid (by rw [mapPre_succ hx.out, hadd])
            clear hadd
            go_wp2_with fail
            refine (hOr.out wr hrr.out hgn.out).mono ?_; rintro e w1 ⟨C, p, q, rfl, ho, hx64, hb1⟩
            have hwrb := Lib.hid hI.out.big.2
            have hCl := Lib.hid (own_lt_block ho)
            replace hI := Lib.hid (hI.out.later hb1)
            replace hF := Lib.hid (hF.out.below hb1)
            replace hgn := Lib.hid (hgn.out.below hb1)
            replace hbb := Lib.hid (hbb.out.trans (BelowB.of hb1))
            have hC : Hid (RowF w1 G (G + 1) (.slice C p q) (orR r g)) := Lib.hid (RowF.new ho hx64 hwrb.out)
            have hsC : Hid (∀ g, (Value.slice C p q).ownBlock = some g → S g ∨ w0.heap.size ≤ g) := Lib.hid (fun g e => .inr (by have := hCl.out g e; have := hI.out.big; have := hwrb.out; omega))
            obtain ⟨u, hu⟩ : ∃ u, vs[k]? = some u := ⟨_, List.getElem?_eq_getElem (by rw [hI.out.vlen]; omega)⟩
            have hcg := hI.out.own.cellAt k (by omega)
            rw [hu] at hcg
            have hfg := hI.out.own.frozenAt k
            clear ho hx64 hb1 hOr hSub hu hCl c0 f0 hv
            go_wp2_with fail
            go_roundw
            case rel => exact ⟨k + 1, vs.set k (.slice C p q), by omega, by go_num, Lib.hid (by rw [hst.out]; exact hI.out.put hC.out hsC.out), Lib.hid (hF.out.setCell' hFG.out _), Lib.hid (hgn.out.setCell' hgG.out _), Lib.hid (hbb.out.setG k _)⟩
            case measure => simp [intOf]; omega
    · obtain rfl : k = n := by omega
      have hlt' : ¬ (k : Int) < (k : Int) := by omega
      clear hlt
      go_wp2_with fail
      go_end0
      exact ⟨rfl, vs, by rw [← hres.out]; exact hI.out, hbb.out⟩
end Go.Proofs.YtbeigdbljepfkaaGreat
