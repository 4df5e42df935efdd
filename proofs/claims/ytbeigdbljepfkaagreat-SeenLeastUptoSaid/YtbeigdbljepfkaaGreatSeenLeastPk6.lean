/- Plain mathematics of layer 18: what an operation has seen, round by round. Nothing of the program is named. Plain mathematics of layer 16: what is ahead of an operation. Nothing of the program is named. Facts in a variable (FBox), as the document's answers of layers 10 and on box them. The contracts of the document's own answers of layer 10: Write, Check. The contracts of the document's own answers of layer 6: Name, Flat, Count, Right, Spot, Small. The contracts of the document's own answers of layer 6: Spot, Number, Same. The contracts of the document's own answers of layer 9, first half: find, texts, items, Ints, Same, Small. The contract of the document's own answer of layer 9: Of. The contracts of the document's own answers of layer 9: Same, Small. -/
import Derived.Test.YtbeigdbljepfkaaGreatSeenLeastPk5
import Derived.Test.YtbeigdbljepfkaaGreatSeenLeastPk3
import Derived.Test.YtbeigdbljepfkaaGreatSeenLeastPk1
import Derived.Test.YtbeigdbljepfkaaGreatProg
import Derived.BigQuiet
import Derived.Test.YtbeigdbljepfkaaGreatSeenLeastPk4
namespace Go.Proofs.YtbeigdbljepfkaaGreat
open Go.RowKit
set_option linter.unusedVariables false

/-! ### what a round finds -/
def nwG (f : Fac) (X : List (List Nat)) (a b : Nat) : Bool := decide (a ≠ b) && bothW f.items a b && !(hasM X (a : Int) (b : Int))
def nwK (f : Fac) (X : List (List Nat)) (a b : Nat) (r : Int) : Bool := decide (f.frm.getD r.toNat 0 = (b : Int)) && hasM X (a : Int) r
def nwO (f : Fac) (X : List (List Nat)) (kept : List Int) (a b : Nat) : Option Ed := if nwG f X a b = true then (kept.find? (nwK f X a b)).map (fun r => ⟨(a : Int), (b : Int), r⟩) else none
def nwB (f : Fac) (X : List (List Nat)) (kept : List Int) (a k : Nat) : List Ed := (List.range k).flatMap fun b => (nwO f X kept a b).toList
def nwA (f : Fac) (X : List (List Nat)) (kept : List Int) (n k : Nat) : List Ed := (List.range k).flatMap fun a => nwB f X kept a n
def newF (f : Fac) (X : List (List Nat)) (kept : List Int) : List Ed := nwA f X kept f.items.length f.items.length
section
variable {f : Fac} {X : List (List Nat)} {kept : List Int}
theorem nwB_zero (a : Nat) : nwB f X kept a 0 = [] := rfl
theorem nwA_zero (n : Nat) : nwA f X kept n 0 = [] := rfl
theorem nwB_succ (a k : Nat) : nwB f X kept a (k + 1) = nwB f X kept a k ++ (nwO f X kept a k).toList := by
  unfold nwB; rw [List.range_succ, List.flatMap_append]; simp
theorem nwA_succ (n k : Nat) : nwA f X kept n (k + 1) = nwA f X kept n k ++ nwB f X kept k n := by
  unfold nwA; rw [List.range_succ, List.flatMap_append]; simp
theorem nwO_len (a b : Nat) : (nwO f X kept a b).toList.length ≤ 1 := by cases nwO f X kept a b <;> simp
theorem nwB_len (a : Nat) : ∀ k, (nwB f X kept a k).length ≤ k
  | 0 => by simp [nwB_zero]
  | k + 1 => by rw [nwB_succ, List.length_append]; have := nwB_len a k; have := nwO_len (f := f) (X := X) (kept := kept) a k; omega
theorem nwA_len (n : Nat) : ∀ k, (nwA f X kept n k).length ≤ k * n
  | 0 => by simp [nwA_zero]
  | k + 1 => by rw [nwA_succ, List.length_append, Nat.succ_mul]; have := nwA_len n k; have := nwB_len (f := f) (X := X) (kept := kept) k n; omega
theorem nwO_some {a b : Nat} {x : Ed} (h : nwO f X kept a b = some x) : nwG f X a b = true ∧ x.w1 = (a : Int) ∧ x.w2 = (b : Int) ∧ x.rd ∈ kept ∧ nwK f X a b x.rd = true := by
  unfold nwO at h
  split at h
  · rename_i hg
    cases hr : kept.find? (nwK f X a b) with
    | none => rw [hr] at h; cases h
    | some r =>
      rw [hr] at h
      simp only [Option.map_some, Option.some.injEq] at h
      subst h
      exact ⟨hg, rfl, rfl, List.mem_of_find?_eq_some hr, List.find?_some hr⟩
  · cases h
theorem mem_nwB {a k : Nat} {x : Ed} : x ∈ nwB f X kept a k ↔ ∃ b, b < k ∧ nwO f X kept a b = some x := by
  unfold nwB
  rw [List.mem_flatMap]
  constructor
  · rintro ⟨b, hb, hx⟩; exact ⟨b, List.mem_range.1 hb, by rwa [Option.mem_toList] at hx⟩
  · rintro ⟨b, hb, hx⟩; exact ⟨b, List.mem_range.2 hb, by rwa [Option.mem_toList]⟩
theorem mem_nwA {n k : Nat} {x : Ed} : x ∈ nwA f X kept n k ↔ ∃ a b, a < k ∧ b < n ∧ nwO f X kept a b = some x := by
  unfold nwA
  rw [List.mem_flatMap]
  constructor
  · rintro ⟨a, ha, hx⟩
    obtain ⟨b, hb, h⟩ := mem_nwB.1 hx
    exact ⟨a, b, List.mem_range.1 ha, hb, h⟩
  · rintro ⟨a, b, ha, hb, h⟩; exact ⟨a, List.mem_range.2 ha, mem_nwB.2 ⟨b, hb, h⟩⟩
theorem mem_newF {x : Ed} : x ∈ newF f X kept ↔ ∃ a b, a < f.items.length ∧ b < f.items.length ∧ nwO f X kept a b = some x := mem_nwA
/-- what a round finds, in words -/
theorem newF_some {x : Ed} (h : x ∈ newF f X kept) : ∃ a b : Nat, a < f.items.length ∧ b < f.items.length ∧ x.w1 = (a : Int) ∧ x.w2 = (b : Int) ∧ a ≠ b ∧ bothW f.items a b = true ∧ ¬ Rel X a b ∧ x.rd ∈ kept ∧ f.frm.getD x.rd.toNat 0 = (b : Int) ∧ hasM X (a : Int) x.rd = true := by
  obtain ⟨a, b, ha, hb, h⟩ := mem_newF.1 h
  obtain ⟨h1, h2, h3, h4, h5⟩ := nwO_some h
  unfold nwG at h1
  unfold nwK at h5
  simp only [Bool.and_eq_true, Bool.not_eq_true', decide_eq_true_eq] at h1 h5
  exact ⟨a, b, ha, hb, h2, h3, h1.1.1, h1.1.2, by unfold Rel; rw [h1.2]; simp, h4, h5.1, h5.2⟩
theorem newF_nil : newF f X kept = [] ↔ ∀ a b, a < f.items.length → b < f.items.length → a ≠ b → bothW f.items a b = true → ∀ r ∈ kept, f.frm.getD r.toNat 0 = (b : Int) → hasM X (a : Int) r = true → Rel X a b := by
  constructor
  · intro h a b ha hb hne hbo r hr h1 h2
    cases hx : hasM X (a : Int) (b : Int) with
    | true => exact hx
    | false =>
      exfalso
      have hg : nwG f X a b = true := by unfold nwG; rw [decide_eq_true hne, hbo, hx]; rfl
      cases hf : kept.find? (nwK f X a b) with
      | none =>
        have := List.find?_eq_none.1 hf r hr
        unfold nwK at this
        rw [decide_eq_true h1, h2] at this
        simp at this
      | some q =>
        have : (⟨(a : Int), (b : Int), q⟩ : Ed) ∈ newF f X kept := mem_newF.2 ⟨a, b, ha, hb, by unfold nwO; rw [if_pos hg, hf]; rfl⟩
        rw [h] at this
        cases this
  · intro h
    refine List.eq_nil_iff_forall_not_mem.2 (fun x hx => ?_)
    obtain ⟨a, b, ha, hb, -, -, hne, hbo, hn, hr, h1, h2⟩ := newF_some hx
    exact hn (h a b ha hb hne hbo x.rd hr h1 h2)
/-- each pair is found once -/
theorem nwB_nodup (a : Nat) : ∀ k, (edP (nwB f X kept a k)).Nodup
  | 0 => by simp [nwB_zero, edP]
  | k + 1 => by
    unfold edP
    rw [nwB_succ, List.map_append]
    refine List.nodup_append.2 ⟨nwB_nodup a k, ?_, fun p hp q hq e => ?_⟩
    · cases nwO f X kept a k <;> simp
    · obtain ⟨x, hx, rfl⟩ := List.mem_map.1 hp
      obtain ⟨y, hy, rfl⟩ := List.mem_map.1 hq
      rw [Option.mem_toList] at hy
      obtain ⟨b, hb, hx⟩ := mem_nwB.1 hx
      obtain ⟨-, -, h1, -, -⟩ := nwO_some hx
      obtain ⟨-, -, h2, -, -⟩ := nwO_some hy
      injection e with e1 e2
      omega
theorem nwA_nodup (n : Nat) : ∀ k, (edP (nwA f X kept n k)).Nodup
  | 0 => by simp [nwA_zero, edP]
  | k + 1 => by
    unfold edP
    rw [nwA_succ, List.map_append]
    refine List.nodup_append.2 ⟨nwA_nodup n k, nwB_nodup k n, fun p hp q hq e => ?_⟩
    obtain ⟨x, hx, rfl⟩ := List.mem_map.1 hp
    obtain ⟨y, hy, rfl⟩ := List.mem_map.1 hq
    obtain ⟨a, b, ha, -, hx⟩ := mem_nwA.1 hx
    obtain ⟨b', -, hy⟩ := mem_nwB.1 hy
    obtain ⟨-, h1, -, -, -⟩ := nwO_some hx
    obtain ⟨-, h2, -, -, -⟩ := nwO_some hy
    injection e with e1 e2
    omega
theorem newF_ok : ∀ p ∈ edP (newF f X kept), okP (f.items.length : Int) p = true := fun p hp => by
  obtain ⟨x, hx, rfl⟩ := List.mem_map.1 hp
  obtain ⟨a, b, ha, hb, h1, h2, -⟩ := newF_some hx
  unfold okP inM
  simp only [h1, h2, Bool.and_eq_true, decide_eq_true_eq]
  omega
end
/-! ### the rounds -/
def seX (f : Fac) (kept : List Int) (B : List (List Nat)) : Nat → List (List Nat)
  | 0 => B
  | k + 1 => closeK ((edP (newF f (seX f kept B k) kept)).foldl setP (seX f kept B k)) f.items.length
def seL (f : Fac) (kept : List Int) (B : List (List Nat)) : Nat → List Ed
  | 0 => []
  | k + 1 => seL f kept B k ++ newF f (seX f kept B k) kept
/-- the rounds that find something are the first k ones -/
def SeenIs (f : Fac) (kept : List Int) (B : List (List Nat)) (k : Nat) : Prop := (∀ j, j < k → newF f (seX f kept B j) kept ≠ []) ∧ newF f (seX f kept B k) kept = []
section
variable {f : Fac} {kept : List Int} {B : List (List Nat)}
theorem SeenIs.unique {j k : Nat} (h : SeenIs f kept B j) (h' : SeenIs f kept B k) : j = k := by
  rcases Nat.lt_trichotomy j k with h1 | h1 | h1
  · exact absurd h.2 (h'.1 j h1)
  · exact h1
  · exact absurd h'.2 (h.1 k h1)
theorem seX_good (hB : Good f.items.length B) : ∀ k, Good f.items.length (seX f kept B k)
  | 0 => hB
  | k + 1 => (closeK_hull (fold_facts _ _ (seX_good hB k) newF_ok).1).1
theorem seX_hull (hB : Good f.items.length B) (k : Nat) : IsHull f.items.length (Rel ((edP (newF f (seX f kept B k) kept)).foldl setP (seX f kept B k))) (seX f kept B (k + 1)) := closeK_hull (fold_facts _ _ (seX_good hB k) newF_ok).1
theorem seX_rel (hB : Good f.items.length B) (k i j : Nat) : Rel ((edP (newF f (seX f kept B k) kept)).foldl setP (seX f kept B k)) i j ↔ Rel (seX f kept B k) i j ∨ ((i : Int), (j : Int)) ∈ edP (newF f (seX f kept B k) kept) := by
  unfold Rel
  rw [(fold_facts _ _ (seX_good hB k) newF_ok).2, Bool.or_eq_true, decide_eq_true_eq]
theorem seX_step (hB : Good f.items.length B) (k i j : Nat) (h : Rel (seX f kept B k) i j) : Rel (seX f kept B (k + 1)) i j :=
  ((seX_hull hB k).2 i j).2 (.one ((seX_rel hB k i j).2 (.inl h)))
theorem seX_new (hB : Good f.items.length B) (k i j : Nat) (h : ((i : Int), (j : Int)) ∈ edP (newF f (seX f kept B k) kept)) : Rel (seX f kept B (k + 1)) i j :=
  ((seX_hull hB k).2 i j).2 (.one ((seX_rel hB k i j).2 (.inr h)))
theorem seX_base (hB : Good f.items.length B) (i j : Nat) (h : Rel B i j) : ∀ k, Rel (seX f kept B k) i j
  | 0 => h
  | k + 1 => seX_step hB k i j (seX_base hB i j h k)
theorem seX_closed (hB : Good f.items.length B) (hc : ClosedM B) : ∀ k, ClosedM (seX f kept B k)
  | 0 => hc
  | k + 1 => (seX_hull hB k).closed
/-- it is in each closed matrix that has what it must have -/
theorem seX_least (hB : Good f.items.length B) {Y : List (List Nat)} {keptY : List Int} (hY : ClosedM Y) (hs : ∀ i j, Rel B i j → Rel Y i j) (hk : ∀ r ∈ kept, r ∈ keptY) (hr : ∀ r ∈ kept, 0 ≤ r) (hn : newF f Y keptY = []) : ∀ k i j, Rel (seX f kept B k) i j → Rel Y i j
  | 0, i, j, h => hs i j h
  | k + 1, i, j, h => by
    have ih := seX_least hB hY hs hk hr hn k
    refine Conn.least hY (fun a b hab => ?_) (((seX_hull hB k).2 i j).1 h)
    rcases (seX_rel hB k a b).1 hab with h1 | h1
    · exact ih a b h1
    · obtain ⟨x, hx, e⟩ := List.mem_map.1 h1
      obtain ⟨p, q, hp, hq, e1, e2, hne, hbo, -, hrk, hfr, hha⟩ := newF_some hx
      injection e with e3 e4
      obtain rfl : p = a := by omega
      obtain rfl : q = b := by omega
      obtain ⟨r, hr'⟩ := Int.eq_ofNat_of_zero_le (hr _ hrk)
      rw [hr'] at hha
      refine newF_nil.1 hn p q hp hq hne hbo x.rd (hk _ hrk) hfr ?_
      rw [hr']
      exact ih p r hha
theorem seL_pairs (hB : Good f.items.length B) : ∀ k, ∀ x ∈ seL f kept B k, ∃ a b : Nat, a < f.items.length ∧ b < f.items.length ∧ x.w1 = (a : Int) ∧ x.w2 = (b : Int) ∧ bothW f.items a b = true ∧ Rel (seX f kept B k) a b
  | 0, x, h => by cases h
  | k + 1, x, h => by
    rcases List.mem_append.1 h with h | h
    · obtain ⟨a, b, ha, hb, e1, e2, hbo, hr⟩ := seL_pairs hB k x h
      exact ⟨a, b, ha, hb, e1, e2, hbo, seX_step hB k a b hr⟩
    · obtain ⟨a, b, ha, hb, e1, e2, hne, hbo, -⟩ := newF_some h
      exact ⟨a, b, ha, hb, e1, e2, hbo, seX_new hB k a b (List.mem_map.2 ⟨x, h, by rw [e1, e2]⟩)⟩
theorem seL_nodup (hB : Good f.items.length B) : ∀ k, (edP (seL f kept B k)).Nodup
  | 0 => by simp [seL, edP]
  | k + 1 => by
    unfold edP
    rw [seL, List.map_append]
    refine List.nodup_append.2 ⟨seL_nodup hB k, nwA_nodup _ _, fun p hp q hq e => ?_⟩
    obtain ⟨x, hx, rfl⟩ := List.mem_map.1 hp
    obtain ⟨y, hy, rfl⟩ := List.mem_map.1 hq
    obtain ⟨a, b, ha, hb, e1, e2, hbo, hr⟩ := seL_pairs hB k x hx
    obtain ⟨a', b', ha', hb', e1', e2', -, -, hno, -⟩ := newF_some hy
    injection e with e3 e4
    obtain rfl : a = a' := by omega
    obtain rfl : b = b' := by omega
    exact hno hr
theorem seL_ge : ∀ k, (∀ j, j < k → newF f (seX f kept B j) kept ≠ []) → k ≤ (seL f kept B k).length
  | 0, _ => Nat.zero_le _
  | k + 1, h => by
    have h1 := seL_ge k (fun j hj => h j (by omega))
    have h2 := List.length_pos_iff.2 (h k (by omega))
    rw [seL, List.length_append]
    omega
end
/-- how many of the first i items are writes -/
def wrB (is : List It) (i : Nat) : Bool := match is[i]? with | some x => x.wr | none => false
def cntW (is : List It) (i : Nat) : Nat := (List.range i).countP (wrB is)
theorem cntW_succ (is : List It) (i : Nat) : cntW is (i + 1) = if wrB is i = true then cntW is i + 1 else cntW is i := by
  unfold cntW
  rw [List.range_succ, List.countP_append]
  simp only [List.countP_cons, List.countP_nil]
  split <;> simp
theorem cntW_le (is : List It) (i : Nat) : cntW is i ≤ i := by
  unfold cntW
  exact Nat.le_trans List.countP_le_length (by rw [List.length_range]; exact Nat.le_refl _)
theorem bothW_wr {is : List It} {a b : Nat} (h : bothW is a b = true) : wrB is a = true ∧ wrB is b = true := by
  unfold bothW at h
  unfold wrB
  cases hx : is[a]? with
  | none => rw [hx] at h; simp at h
  | some x =>
    cases hy : is[b]? with
    | none => rw [hx, hy] at h; simp at h
    | some y =>
      rw [hx, hy] at h
      simp only [Bool.and_eq_true] at h
      exact ⟨h.1.1, h.1.2⟩
theorem prod_len {α β γ : Type} (g : α → β → γ) (m : List β) : ∀ l : List α, (l.flatMap fun a => m.map (g a)).length = l.length * m.length
  | [] => by simp
  | a :: l => by rw [List.flatMap_cons, List.length_append, prod_len g m l, List.length_map, List.length_cons, Nat.succ_mul]; omega
theorem seL_len {f : Fac} {kept : List Int} {B : List (List Nat)} (hB : Good f.items.length B) (k : Nat) : (seL f kept B k).length ≤ cntW f.items f.items.length * cntW f.items f.items.length := by
  have h := (seL_nodup (kept := kept) hB k).length_le_of_subset (l₂ := ((List.range f.items.length).filter (wrB f.items)).flatMap fun (a : Nat) => ((List.range f.items.length).filter (wrB f.items)).map ((fun (a b : Nat) => ((a : Int), (b : Int))) a)) (fun p hp => by
    obtain ⟨x, hx, rfl⟩ := List.mem_map.1 hp
    obtain ⟨a, b, ha, hb, e1, e2, hbo, -⟩ := seL_pairs hB k x hx
    obtain ⟨w1, w2⟩ := bothW_wr hbo
    exact List.mem_flatMap.2 ⟨a, List.mem_filter.2 ⟨List.mem_range.2 ha, w1⟩, List.mem_map.2 ⟨b, List.mem_filter.2 ⟨List.mem_range.2 hb, w2⟩, by rw [e1, e2]⟩⟩)
  rw [prod_len, ← List.countP_eq_length_filter] at h
  unfold edP at h
  rw [List.length_map] at h
  exact h
theorem seL_okE {f : Fac} {kept : List Int} {B : List (List Nat)} (hB : Good f.items.length B) (hk : ∀ r ∈ kept, 0 ≤ r ∧ r < (f.items.length : Int)) (hl : f.items.length ≤ 1048576) : ∀ k, ∀ x ∈ seL f kept B k, Ed.Ok x
  | 0, x, h => by cases h
  | k + 1, x, h => by
    rcases List.mem_append.1 h with h | h
    · exact seL_okE hB hk hl k x h
    · obtain ⟨a, b, ha, hb, e1, e2, -, -, -, hr, -⟩ := newF_some h
      have := hk _ hr
      exact ⟨by omega, by omega, by omega, by omega, by omega, by omega⟩
theorem newF_okE {f : Fac} {kept : List Int} {X : List (List Nat)} (hk : ∀ r ∈ kept, 0 ≤ r ∧ r < (f.items.length : Int)) (hl : f.items.length ≤ 1048576) : ∀ x ∈ newF f X kept, Ed.Ok x := fun x h => by
  obtain ⟨a, b, ha, hb, e1, e2, -, -, -, hr, -⟩ := newF_some h
  have := hk _ hr
  exact ⟨by omega, by omega, by omega, by omega, by omega, by omega⟩
end Go.Proofs.YtbeigdbljepfkaaGreat

namespace Go.Proofs.YtbeigdbljepfkaaGreat
set_option linter.unusedVariables false

/-- the past of o in a matrix, up to number n -/
def colN (a : List (List Nat)) (o : Int) (n : Nat) : List Nat := (List.range n).filter fun i => hasM a (i : Int) o
/-- .. and o -/
def wihN (a : List (List Nat)) (o : Int) (n : Nat) : List Nat := (List.range n).filter fun i => decide ((i : Int) = o) || hasM a (i : Int) o
def wihF (a : List (List Nat)) (o : Int) (n : Nat) : List Int := (wihN a o n).map fun (i : Nat) => (i : Int)
def wihO (a : List (List Nat)) (o : Int) (n : Nat) : List Int := if 0 ≤ o ∧ o < (n : Int) then wihF a o n else []
/-- is a number a read's? -/
def rdOK (is : List It) (z : Int) : Bool := match is[z.toNat]? with | some x => !x.wr | none => false
def keptF (is : List It) (l : List Int) : List Int := l.filter (rdOK is)
theorem wihF_succ (a : List (List Nat)) (o : Int) (n : Nat) : wihF a o (n + 1) = if (decide ((n : Int) = o) || hasM a (n : Int) o) = true then wihF a o n ++ [(n : Int)] else wihF a o n := by
  unfold wihF wihN
  rw [List.range_succ, List.filter_append]
  split
  · rename_i h; rw [List.filter_cons_of_pos (by exact h)]; simp
  · rename_i h; rw [List.filter_cons_of_neg (by exact h)]; simp
theorem wihF_len (a : List (List Nat)) (o : Int) (n : Nat) : (wihF a o n).length ≤ n := by
  unfold wihF wihN; rw [List.length_map]; exact Nat.le_trans (List.length_filter_le _ _) (by simp)
theorem wihF_ok (a : List (List Nat)) (o : Int) (n : Nat) : ∀ z ∈ wihF a o n, 0 ≤ z ∧ z < (n : Int) := fun z hz => by
  unfold wihF wihN at hz
  obtain ⟨i, hi, rfl⟩ := List.mem_map.1 hz
  have := List.mem_range.1 (List.mem_filter.1 hi).1
  omega
theorem wihO_ok (a : List (List Nat)) (o : Int) (n : Nat) : ∀ z ∈ wihO a o n, 0 ≤ z ∧ z < (n : Int) := fun z hz => by
  unfold wihO at hz
  split at hz
  · exact wihF_ok a o n z hz
  · cases hz
theorem filter_take {p : Int → Bool} {l : List Int} {k : Nat} {z : Int} (h : l[k]? = some z) : (l.take (k + 1)).filter p = if p z = true then (l.take k).filter p ++ [z] else (l.take k).filter p := by
  have h1 := List.take_succ_eq_append_getElem (List.getElem?_eq_some_iff.1 h).1
  rw [(List.getElem?_eq_some_iff.1 h).2] at h1
  rw [h1, List.filter_append]
  split
  · rename_i h; rw [List.filter_cons_of_pos (by exact h)]; simp
  · rename_i h; rw [List.filter_cons_of_neg (by exact h)]; simp
theorem rdOK_at {is : List It} {z : Int} {x : It} (h : is[z.toNat]? = some x) : rdOK is z = !x.wr := by unfold rdOK; rw [h]

end Go.Proofs.YtbeigdbljepfkaaGreat

namespace Go.Proofs.YtbeigdbljepfkaaGreat
open Go.RowKit
set_option linter.unusedVariables false

/-- facts f, told by the slices v, lie in the variable g; of what was there in w nothing has turned -/
structure FBox (w : World) (g : Nat) (v : FV) (f : Fac) (wr : World) : Prop where
  f : FactsAt wr v f
  k : Blk wr g 29 [.slice v.A v.n v.c, .slice v.B v.m v.d, .slice v.C v.k v.e]
  o : Below w.heap.size w wr
section
variable {w wr w' : World} {g : Nat} {v : FV} {f : Fac}
theorem FBox.later (h : FBox w g v f wr) (hb : Below wr.heap.size wr w') : FBox w g v f w' := ⟨h.f.below hb, h.k.below hb h.k.lt, below_trans2 h.o hb⟩
theorem FBox.new (h : FactsAt w v f) : FBox w w.heap.size v f (w.alloc (.cells #[.slice v.A v.n v.c, .slice v.B v.m v.d, .slice v.C v.k v.e] 29)) :=
  ⟨h.below ((Below.refl _ _).alloc (Nat.le_refl _) _), Blk.new w _ _, (Below.refl _ _).alloc (Nat.le_refl _) _⟩
theorem FBox.c0 (h : FBox w g v f wr) : wr.cell? ⟨g, 0, none⟩ = some (.slice v.A v.n v.c) := h.k.cell 0
theorem FBox.c1 (h : FBox w g v f wr) : wr.cell? ⟨g, 1, none⟩ = some (.slice v.B v.m v.d) := h.k.cell 1
theorem FBox.c2 (h : FBox w g v f wr) : wr.cell? ⟨g, 2, none⟩ = some (.slice v.C v.k v.e) := h.k.cell 2
/-- .. and all that was told from an earlier world on -/
theorem FBox.from_ {w0 : World} (h : FBox w g v f wr) (hb : Below w0.heap.size w0 w) : FBox w0 g v f wr := ⟨h.f, h.k, below_trans2 hb h.o⟩
end

/-! ### facts stored into a variable of facts -/
section
variable {w w0 : World} {g k : Nat} {t : TypeId} {cs : List Value} {v u : FV} {f : Fac}
end

/-! ### an item in a variable -/
end Go.Proofs.YtbeigdbljepfkaaGreat

namespace Go.Proofs.YtbeigdbljepfkaaGreat
open Go.RowKit
set_option linter.unusedVariables false
def RetWrite (o : Option Nat) (w : World) (e : Ending) (w' : World) : Prop := e = .returned (.tuple #[.int .i64 ((o.getD 0 : Nat) : Int), .bool o.isSome]) ∧ Below w.heap.size w w'
def RetCheck (r : Int × Int × Int) (w : World) (e : Ending) (w' : World) : Prop := e = .returned (.tuple #[.int .i64 r.1, .int .i64 r.2.1, .int .i64 r.2.2]) ∧ Below w.heap.size w w'
set_option maxRecDepth 100000 in
set_option maxHeartbeats 1000000 in
theorem ref10_Write (v : FV) (f : Fac) (va vl : Int) (w : World) (hF : FactsAt w v f) :
    Calls Tryz.prog 48 #[.agg #[.slice v.A v.n v.c, .slice v.B v.m v.d, .slice v.C v.k v.e], .int .i64 va, .int .i64 vl] w (RetWrite (writeF f.items va vl) w) := by
  have hil := hF.is.len
  have him : v.m ≤ 9223372036854775807 := by have := hF.ic; have := hF.im; omega
  -- a call with facts v: they are boxed at g, the world is W0 then
  have hB0 := Lib.hid (FBox.new hF)
  obtain ⟨g, hg⟩ : ∃ g, g = w.heap.size := ⟨_, rfl⟩
  obtain ⟨W0, hW0⟩ : ∃ W, W = w.alloc (.cells #[.slice v.A v.n v.c, .slice v.B v.m v.d, .slice v.C v.k v.e] 29) := ⟨_, rfl⟩
  rw [← hW0, ← hg] at hB0
  clear hF
  have p0 := hB0.out.c0
  have p1 := hB0.out.c1
  have p2 := hB0.out.c2
  go_enter Tryz.func48, Tryz.ntmps48
  go_wp2_with (rw [← hW0, ← hg]; clear hW0 hg)
  go_loopw [8] (fun t wr => ∃ k : Nat, k ≤ v.m ∧ t = .int .i64 k ∧ wr = W0 ∧ Hid (∀ j, j < k → ∀ y, f.items[j]? = some y → hitW va vl y = false)) (fun t _ => v.m - (intOf t).toNat)
  case atStart => exact ⟨0, Nat.zero_le _, rfl, rfl, Lib.hid (fun j hj => absurd hj (by omega))⟩
  case round =>
    obtain ⟨k, hk, rfl, rfl, hall⟩ := hrel
    by_cases hlt : k < v.m
    · have hlt' : (k : Int) < (v.m : Int) := by omega
      obtain ⟨ib, io, x, hxB, hib, hx, hxo, i0, i1, i2, i3, i4⟩ := hB0.out.f.is.item hlt
      rw [hxB] at p1
      have hno := fun (h : hitW va vl x = false) => Lib.hid (show ∀ j, j < k + 1 → ∀ y, f.items[j]? = some y → hitW va vl y = false from fun j hj y hy => by
        rcases Nat.lt_succ_iff_lt_or_eq.1 hj with h1 | h1
        · exact hall.out j h1 y hy
        · subst h1; rw [hx] at hy; injection hy with hy; subst hy; exact h)
      have hyes := fun (h : hitW va vl x = true) => writeF_at hx h hall.out
      obtain ⟨xs, xp, xw, xa, xl⟩ := x
      simp only at i0 i1 i2 i3 i4
      have hh : hitW va vl ⟨xs, xp, xw, xa, xl⟩ = (xw && (decide (xa = va) && decide (xl = vl))) := rfl
      rw [hh] at hno hyes
      clear hh hxo hx hall hlt hxB
      have hkw : (k : Int) + 1 < 9223372036854775808 := by omega
      cases xw with
      | false =>
        have hn := hno rfl
        clear hno hyes
        go_wp2_with fail
        go_round
        case rel => exact ⟨k + 1, by omega, by go_num, trivial, hn⟩
        case measure => simp [intOf]; omega
      | true =>
        by_cases ha : xa = va
        · by_cases hl : xl = vl
          · have hy := hyes (by simp [ha, hl])
            clear hno hyes
            have e1 : (xa == va) = true := by simp [ha]
            have e2 : (xl == vl) = true := by simp [hl]
            replace ha := Lib.hid ha
            replace hl := Lib.hid hl
            replace hy := Lib.hid hy
            go_wp2_with fail
            exact bodyPost_ret (v := .tuple #[.int .i64 (k : Int), .bool true]) (by simp [results, go_sem]) rfl ⟨by rw [hy.out]; rfl, hB0.out.o⟩
          · have hn := hno (by simp [hl])
            clear hno hyes
            have e1 : (xa == va) = true := by simp [ha]
            have e2 : (xl == vl) = false := by simp [hl]
            replace ha := Lib.hid ha
            replace hl := Lib.hid hl
            go_wp2_with fail
            go_round
            case rel => exact ⟨k + 1, by omega, by go_num, trivial, hn⟩
            case measure => simp [intOf]; omega
        · have hn := hno (by simp [ha])
          clear hno hyes
          have e1 : (xa == va) = false := by simp [ha]
          replace ha := Lib.hid ha
          go_wp2_with fail
          go_round
          case rel => exact ⟨k + 1, by omega, by go_num, trivial, hn⟩
          case measure => simp [intOf]; omega
    · have hlt' : ¬ (k : Int) < (v.m : Int) := by omega
      have hn := Lib.hid (writeF_none (is := f.items) (v := va) (val := vl) (fun j y hy => hall.out j (by have := (List.getElem?_eq_some_iff.1 hy).1; omega) y hy))
      clear hall hlt
      go_wp2_with fail
      exact bodyPost_ret (v := .tuple #[.int .i64 0, .bool false]) (by simp [results, go_sem]) rfl ⟨by rw [hn.out]; rfl, hB0.out.o⟩
set_option maxRecDepth 100000 in
set_option maxHeartbeats 1000000 in
theorem ref10_Check (v : FV) (f : Fac) (w : World) (hF : FactsAt w v f) :
    Calls Tryz.prog 27 #[.agg #[.slice v.A v.n v.c, .slice v.B v.m v.d, .slice v.C v.k v.e]] w (RetCheck (checkF f.items) w) := by
  have hil := hF.is.len
  have him : v.m ≤ 9223372036854775807 := by have := hF.ic; have := hF.im; omega
  -- a call with facts v: they are boxed at g, the world is W0 then
  have hB0 := Lib.hid (FBox.new hF)
  obtain ⟨g, hg⟩ : ∃ g, g = w.heap.size := ⟨_, rfl⟩
  obtain ⟨W0, hW0⟩ : ∃ W, W = w.alloc (.cells #[.slice v.A v.n v.c, .slice v.B v.m v.d, .slice v.C v.k v.e] 29) := ⟨_, rfl⟩
  rw [← hW0, ← hg] at hB0
  clear hF
  have p0 := hB0.out.c0
  have p1 := hB0.out.c1
  have p2 := hB0.out.c2
  go_enter Tryz.func27, Tryz.ntmps27
  go_wp2_with (rw [← hW0, ← hg]; clear hW0 hg)
  clear p0 p1 p2
  go_loopw [5] (fun t wr => ∃ k : Nat, k ≤ v.m ∧ t = .int .i64 k ∧ Hid (FBox w g v f wr) ∧ Hid (∀ j, j < k → stepC f.items j = none)) (fun t _ => v.m - (intOf t).toNat)
  case atStart => exact ⟨0, Nat.zero_le _, rfl, hB0, Lib.hid (fun j hj => absurd hj (by omega))⟩
  case round =>
    clear hB0
    obtain ⟨k, hk, rfl, hB, hall⟩ := hrel
    have p0 := hB.out.c0
    have p1 := hB.out.c1
    have p2 := hB.out.c2
    by_cases hlt : k < v.m
    · have hlt' : (k : Int) < (v.m : Int) := by omega
      obtain ⟨ib, io, x, hxB, hib, hx, hxo, i0, i1, i2, i3, i4⟩ := hB.out.f.is.item hlt
      rw [hxB] at p1
      have hkw : (k : Int) + 1 < 9223372036854775808 := by omega
      have hno := fun (h : stepC f.items k = none) => Lib.hid (show ∀ j, j < k + 1 → stepC f.items j = none from fun j hj => by
        rcases Nat.lt_succ_iff_lt_or_eq.1 hj with h1 | h1
        · exact hall.out j h1
        · subst h1; exact h)
      have hyes := fun r (h : stepC f.items k = some r) => checkF_at h hall.out
      have hst : stepC f.items k = if x.wr = false then none else if x.vl = 0 then some ((k : Int), (k : Int), 5) else if (writeF f.items x.va x.vl).getD 0 < k then some (((writeF f.items x.va x.vl).getD 0 : Nat), (k : Int), 4) else none := by
        unfold stepC; rw [hx]
      obtain ⟨xs, xp, xw, xa, xl⟩ := x
      simp only at i0 i1 i2 i3 i4 hst
      obtain ⟨V, hV⟩ : ∃ W, W = wr.alloc (.cells #[.int .i64 xs, .int .i64 xp, .bool xw, .int .i64 xa, .int .i64 xl] 49) := ⟨_, rfl⟩
      obtain ⟨gx, hgx⟩ : ∃ g, g = wr.heap.size := ⟨_, rfl⟩
      have bV : Below wr.heap.size wr V := by rw [hV]; exact (Below.refl _ _).alloc (Nat.le_refl _) _
      have kIt : Blk V gx 49 [.int .i64 xs, .int .i64 xp, .bool xw, .int .i64 xa, .int .i64 xl] := by rw [hV, hgx]; exact Blk.new wr _ _
      have hBV := Lib.hid (hB.out.later bV)
      have j2 := kIt.cell 2
      have j3 := kIt.cell 3
      have j4 := kIt.cell 4
      simp only [List.getElem?_cons_zero, List.getElem?_cons_succ] at j2 j3 j4
      have w0 := hBV.out.c0
      have w1 := hBV.out.c1
      have w2 := hBV.out.c2
      clear bV kIt hx hxo hxB hlt
      cases xw with
      | false =>
        have hn := hno (by rw [hst]; rfl)
        clear hno hyes hst hall
        go_wp2_with (rw [← hV, ← hgx]; clear hV hgx)
        go_round
        case rel => exact ⟨k + 1, by omega, by go_num, hBV, hn⟩
        case measure => simp [intOf]; omega
      | true =>
        by_cases h0 : xl = 0
        · have hy := Lib.hid (hyes _ (by rw [hst, if_neg (by simp), if_pos h0]))
          have e0 : (xl == 0) = true := by simp [h0]
          clear hno hyes hst hall
          replace h0 := Lib.hid h0
          go_wp2_with (rw [← hV, ← hgx]; clear hV hgx)
          exact bodyPost_ret (v := .tuple #[.int .i64 (k : Int), .int .i64 (k : Int), .int .i64 5]) (by simp [results, go_sem]) rfl ⟨by rw [hy.out], hBV.out.o⟩
        · have e0 : (xl == 0) = false := by simp [h0]
          have cW := ref10_Write v f xa xl V hBV.out.f
          obtain ⟨o, ho⟩ : ∃ o, o = writeF f.items xa xl := ⟨_, rfl⟩
          rw [← ho] at cW hst
          rw [if_neg (by simp), if_neg h0] at hst
          unfold RetWrite at cW
          obtain ⟨i, hi⟩ : ∃ i, i = o.getD 0 := ⟨_, rfl⟩
          rw [← hi] at cW hst
          obtain ⟨ii, hii⟩ : ∃ ii : Int, ii = (i : Int) := ⟨_, rfl⟩
          rw [← hii] at cW
          replace cW := Lib.hid cW
          replace h0 := Lib.hid h0
          replace ho := Lib.hid ho
          replace hi := Lib.hid hi
          by_cases hik : i < k
          · have hy := Lib.hid (hyes _ (by rw [hst, if_pos hik]))
            have hik' : ii < (k : Int) := by omega
            replace hii := Lib.hid hii
            clear hno hyes hst hall hik
            go_wp2_with (rw [← hV, ← hgx]; clear hV hgx)
            refine cW.out.mono ?_; rintro e w3 ⟨rfl, b3⟩
            go_wp2_with fail
            exact bodyPost_ret (v := .tuple #[.int .i64 ii, .int .i64 (k : Int), .int .i64 4]) (by simp [results, go_sem]) rfl ⟨by rw [hy.out, hii.out], below_trans2 hBV.out.o b3⟩
          · have hn := hno (by rw [hst, if_neg hik])
            have dk : decide (ii < (k : Int)) = false := decide_eq_false (by omega)
            replace hii := Lib.hid hii
            clear hno hyes hst hall hik
            go_wp2_with (rw [← hV, ← hgx]; clear hV hgx)
            refine cW.out.mono ?_; rintro e w3 ⟨rfl, b3⟩
            have hB3 := Lib.hid (hBV.out.later b3)
            clear w0 w1 w2 j2 j3 j4 p0 p1 p2 i0 i1 i2 i3 i4 b3 e0
            go_wp2_with fail
            go_round
            case rel => exact ⟨k + 1, by omega, by go_num, hB3, hn⟩
            case measure => simp [intOf]; omega
    · have hlt' : ¬ (k : Int) < (v.m : Int) := by omega
      have hn := Lib.hid (checkF_none (is := f.items) (fun j hj => hall.out j (by omega)))
      clear hall hlt
      go_wp2_with fail
      exact bodyPost_ret (v := .tuple #[.int .i64 0, .int .i64 0, .int .i64 0]) (by simp [results, go_sem]) rfl ⟨by rw [hn.out], hB.out.o⟩
end Go.Proofs.YtbeigdbljepfkaaGreat

namespace Go.Proofs.YtbeigdbljepfkaaGreat
open Go.RowKit
set_option linter.unusedVariables false

theorem info_op : (Tryz.prog.info? 61).map (fun i => (i.zero, i.size, i.bytes)) = some (some (.agg #[.bool false, .string .empty, .int .i64 0]), 3, 32) := by kernel_rfl
set_option maxRecDepth 100000 in
set_option maxHeartbeats 2000000 in
theorem ref6_Flat (A : Option Addr) (n c : Nat) (hs : List (List OpT)) (w : World) (hH : HistAt w A n hs) (hn : n ≤ 9223372036854775807) (hF : (allO hs).length ≤ 4398046511104) :
    Calls Tryz.prog 24 #[.slice A n c] w (RetOps 61 (allO hs) w) := by
  obtain ⟨i0, hi, hz0, hz1, hz2⟩ := info_parts info_op
  replace hH := Lib.hid hH
  go_enter Tryz.func24, Tryz.ntmps24
  go_wp2_with fail
  go_loopw [3, 4] (fun v i wr => ∃ k : Nat, k ≤ n ∧ i = .int .i64 k ∧ Hid (wr.ownsRow w.heap.size 61 3 v (allO (hs.take k)).length (cellsO (allO (hs.take k))) ∧ OkO (allO (hs.take k)) ∧ Below w.heap.size w wr)) (fun _ i _ => n - (intOf i).toNat)
  case atStart => exact ⟨0, Nat.zero_le _, rfl, Lib.hid ⟨World.ownsRow_nil _ _ _ _, fun o h => by simp [allO] at h, Below.refl _ _⟩⟩
  case round =>
    obtain ⟨k, hk, rfl, hI⟩ := hrel
    by_cases hlt : k < n
    · obtain ⟨b, off, B, m, cc, os, rfl, hb, hos, hcell, hmc, hm63, hO⟩ := (hH.out.below hI.out.2.2).at_ hlt
      have hlen := allO_take_succ hos
      have hle := allO_take_le hs (k + 1)
      rw [hlen, List.length_append, hO.len] at hle
      have hlt' : (k : Int) < (n : Int) := by omega
      replace hO := Lib.hid hO
      replace hlen := Lib.hid hlen
      replace hos := Lib.hid hos
      replace hmc := Lib.hid hmc
      clear hlt
      go_wp2_with (at_builtin; refine wpList_append_ops rfl (.tmp 11) (.tmp 15) _ rfl w.heap.size 61 i0 _ Tryz.underlying58 hi hz0 hz1 hz2 rfl _ _ _ (by rfl) hI.out.1 _ _ _ _ rfl hO.out (by omega) hI.out.2.2.size ?_; intro v' w' hown' hb')
      refine ⟨⟨k + 1, by omega, by go_num, Lib.hid ⟨by rw [hlen.out, List.length_append, hO.out.len]; exact hown', by rw [hlen.out]; exact okO_append hI.out.2.1 hO.out.2.1, hI.out.2.2.trans hb'⟩⟩, by simp [intOf]; omega⟩
    · have hkn : k = n := by omega
      have hall : hs.take k = hs := by rw [hkn, ← hH.out.len]; exact List.take_length
      rw [hall] at hI
      have hkn' : ¬ (k : Int) < (n : Int) := by omega
      clear hlt hkn hall
      obtain ⟨A', cap, hv, hO⟩ := OpsAt.of_own hI.out.1 hI.out.2.1 rfl
      subst hv
      go_wp2_with fail
      go_ret
      exact ⟨A', _, cap, rfl, hI.out.1, rfl, hI.out.2.1, hO, OwnsRow.cap_le hI.out.1, hI.out.2.2⟩

theorem ref6_Count (A : Option Addr) (n c : Nat) (hs : List (List OpT)) (w : World) (hH : HistAt w A n hs) (hn : n ≤ 9223372036854775807) (hF : (allO hs).length ≤ 4398046511104) :
    Calls Tryz.prog 23 #[.slice A n c] w fun e w' => e = .returned (.int .i64 ((allO hs).length : Nat)) ∧ Below w.heap.size w w' := by
  have cF := Lib.hid (ref6_Flat A n c hs w hH hn hF)
  clear hH
  go_enter Tryz.func23, Tryz.ntmps23
  go_wp2_with fail
  refine cF.out.mono ?_; rintro e w1 ⟨A1, n1, c1, rfl, -, h1, -, -, -, b⟩
  go_wp2_with fail
  go_ret
  exact ⟨by rw [← h1]; rfl, b⟩
theorem name_size (s : ByteArray) : s.data.toList.length = s.size := by cases s; rfl
theorem name_byte (s : ByteArray) (k : Nat) (h : k < s.size) : s.data.toList[k]? = some (s[k]'h) := by
  obtain ⟨⟨l⟩⟩ := s
  exact List.getElem?_eq_getElem h
theorem nameL_no {l : List UInt8} {k : Nat} {c : UInt8} (h : l[k]? = some c) (hc : ¬ (97 ≤ c.toNat ∧ c.toNat ≤ 122)) : nameL l = false := by
  unfold nameL
  have : l.all (fun c => decide (97 ≤ c.toNat) && decide (c.toNat ≤ 122)) = false := by
    rw [List.all_eq_false]
    exact ⟨c, List.mem_of_getElem? h, by simpa using fun h1 => by omega⟩
  rw [this]; rfl
theorem nameL_len {l : List UInt8} (h : ∀ j, j < l.length → ∃ c, l[j]? = some c ∧ 97 ≤ c.toNat ∧ c.toNat ≤ 122) : nameL l = (decide (1 ≤ l.length) && decide (l.length ≤ 8)) := by
  unfold nameL
  have : l.all (fun c => decide (97 ≤ c.toNat) && decide (c.toNat ≤ 122)) = true := by
    rw [List.all_eq_true]
    intro c hc
    obtain ⟨j, hj⟩ := List.getElem?_of_mem hc
    obtain ⟨d, hd, h1, h2⟩ := h j (List.getElem?_eq_some_iff.1 hj).1
    rw [hj] at hd; injection hd with hd; subst hd
    simp [h1, h2]
  rw [this, Bool.true_and]
set_option maxRecDepth 100000 in
set_option maxHeartbeats 2000000 in
theorem ref6_Name (s : ByteArray) (w : World) (hs : s.size ≤ 9223372036854775807) :
    Calls Tryz.prog 73 #[.string s] w fun e w' => e = .returned (.bool (nameL s.data.toList)) ∧ w' = w := by
  go_enter Tryz.func73, Tryz.ntmps73
  go_wp2_with fail
  go_loop [3] (fun t => ∃ q : Nat, t = .int .i64 q ∧ q ≤ s.size ∧ Hid (∀ j, j < q → ∃ c, s.data.toList[j]? = some c ∧ 97 ≤ c.toNat ∧ c.toNat ≤ 122)) (fun t => s.size - (intOf t).toNat)
  case atStart => exact ⟨0, rfl, by omega, Lib.hid (fun j hj => absurd hj (by omega))⟩
  case round =>
    obtain ⟨q, rfl, hq, hall⟩ := hrel
    by_cases hlt : (q : Int) < (s.size : Int)
    · have h : 0 ≤ (q : Int) ∧ (q : Int) < (s.size : Int) := ⟨by omega, hlt⟩
      have hlt' : q < s.size := by omega
      obtain ⟨c, hc⟩ : ∃ c : UInt8, s[q]'hlt' = c := ⟨_, rfl⟩
      have hcl : Hid (s.data.toList[q]? = some c) := Lib.hid (by rw [name_byte s q hlt', hc])
      by_cases h97 : 97 ≤ c.toNat
      · by_cases h122 : c.toNat ≤ 122
        · have e1 : ¬ (c.toNat : Int) < 97 := by omega
          have e2 : ¬ (122 : Int) < (c.toNat : Int) := by omega
          have hall' : Hid (∀ j, j < q + 1 → ∃ c, s.data.toList[j]? = some c ∧ 97 ≤ c.toNat ∧ c.toNat ≤ 122) := Lib.hid (fun j hj => by
            rcases Nat.lt_succ_iff_lt_or_eq.1 hj with h1 | h1
            · exact hall.out j h1
            · subst h1
              exact ⟨c, hcl.out, h97, h122⟩)
          clear hall h97 h122
          go_wp2_with fail
          go_round
          case rel => exact ⟨q + 1, by go_num, by omega, hall'⟩
          case measure => simp [intOf]; omega
        · have e1 : ¬ (c.toNat : Int) < 97 := by omega
          have e2 : (122 : Int) < (c.toNat : Int) := by omega
          have hres := Lib.hid (nameL_no hcl.out (by omega))
          clear hall h97 h122
          go_wp2_with fail
          go_ret
          exact ⟨by rw [hres.out]; rfl, rfl⟩
      · have e1 : (c.toNat : Int) < 97 := by omega
        have hres := Lib.hid (nameL_no hcl.out (by omega))
        clear hall h97
        go_wp2_with fail
        go_ret
        exact ⟨by rw [hres.out]; rfl, rfl⟩
    · have hqs : q = s.data.toList.length := by rw [name_size]; omega
      have hres := Lib.hid (nameL_len (l := s.data.toList) (by rw [← hqs]; exact hall.out))
      rw [name_size] at hres
      clear hall hqs
      by_cases h1 : 1 ≤ s.size
      · have h1' : (1 : Int) ≤ (s.size : Int) := by omega
        by_cases h8 : s.size ≤ 8
        · have h8' : (s.size : Int) ≤ 8 := by omega
          rw [decide_eq_true h1, decide_eq_true h8] at hres
          clear h1 h8
          go_wp2_with fail
          go_ret
          exact ⟨by rw [hres.out]; rfl, rfl⟩
        · have h8' : ¬ (s.size : Int) ≤ 8 := by omega
          rw [decide_eq_true h1, decide_eq_false h8] at hres
          clear h1 h8
          go_wp2_with fail
          go_ret
          exact ⟨by rw [hres.out]; rfl, rfl⟩
      · have h1' : ¬ (1 : Int) ≤ (s.size : Int) := by omega
        rw [decide_eq_false h1] at hres
        clear h1
        go_wp2_with fail
        go_ret
        exact ⟨by rw [hres.out]; rfl, rfl⟩

theorem rightL_no {hs : List (List OpT)} {k : Nat} {o : OpT} (h : (allO hs)[k]? = some o) (hc : nameL o.2.1.data.toList = false) : rightL hs = false := by
  unfold rightL
  have : (allO hs).all (fun o => nameL o.2.1.data.toList) = false := by
    rw [List.all_eq_false]
    exact ⟨o, List.mem_of_getElem? h, by rw [hc]; simp⟩
  rw [this]; rfl
theorem rightL_len {hs : List (List OpT)} (h : ∀ j, j < (allO hs).length → ∃ o, (allO hs)[j]? = some o ∧ nameL o.2.1.data.toList = true) : rightL hs = decide ((allO hs).length ≤ 4096) := by
  unfold rightL
  have : (allO hs).all (fun o => nameL o.2.1.data.toList) = true := by
    rw [List.all_eq_true]
    intro o ho
    obtain ⟨j, hj⟩ := List.getElem?_of_mem ho
    obtain ⟨d, hd, h1⟩ := h j (List.getElem?_eq_some_iff.1 hj).1
    rw [hj] at hd; injection hd with hd; subst hd
    exact h1
  rw [this, Bool.true_and]
set_option maxRecDepth 100000 in
set_option maxHeartbeats 2000000 in
theorem ref6_Right (A : Option Addr) (n c : Nat) (hs : List (List OpT)) (w : World) (hH : HistAt w A n hs) (hn : n ≤ 9223372036854775807) (hF : (allO hs).length ≤ 4398046511104) :
    Calls Tryz.prog 46 #[.slice A n c] w fun e w' => e = .returned (.bool (rightL hs)) ∧ Below w.heap.size w w' := by
  have cF := Lib.hid (ref6_Flat A n c hs w hH hn hF)
  clear hH
  go_enter Tryz.func46, Tryz.ntmps46
  go_wp2_with fail
  refine cF.out.mono ?_; rintro e w1 ⟨A1, n1, c1, rfl, -, h1, -, hO, hmc, b⟩
  replace hO := Lib.hid hO
  replace h1 := Lib.hid h1
  replace hmc := Lib.hid hmc
  replace b := Lib.hid b
  have hF' : n1 ≤ 4398046511104 := by rw [h1.out]; exact hF
  clear hF
  go_wp2_with fail
  go_loop [4] (fun t => ∃ q : Nat, t = .int .i64 q ∧ q ≤ n1 ∧ Hid (∀ j, j < q → ∃ o, (allO hs)[j]? = some o ∧ nameL o.2.1.data.toList = true)) (fun t => n1 - (intOf t).toNat)
  case atStart => exact ⟨0, rfl, by omega, Lib.hid (fun j hj => absurd hj (by omega))⟩
  case round =>
    obtain ⟨q, rfl, hq, hall⟩ := hrel
    by_cases hlt : q < n1
    · obtain ⟨bb, off, o, rfl, hb, ho, hok, c0, c1', c2⟩ := hO.out.at_ hlt
      have hlt' : (q : Int) < (n1 : Int) := by omega
      have cN := Lib.hid (ref6_Name o.2.1 w1 hok.2)
      cases hnm : nameL o.2.1.data.toList with
      | true =>
        rw [hnm] at cN
        have hall' : Hid (∀ j, j < q + 1 → ∃ o, (allO hs)[j]? = some o ∧ nameL o.2.1.data.toList = true) := Lib.hid (fun j hj => by
          rcases Nat.lt_succ_iff_lt_or_eq.1 hj with h1 | h1
          · exact hall.out j h1
          · subst h1; exact ⟨o, ho, hnm⟩)
        replace ho := Lib.hid ho
        clear hall hlt hnm hok
        go_wp2_with fail
        refine cN.out.mono ?_; rintro e w' ⟨rfl, rfl⟩
        go_wp2_with fail
        go_round
        case rel => exact ⟨q + 1, by go_num, by omega, hall'⟩
        case measure => simp [intOf]; omega
      | false =>
        rw [hnm] at cN
        have hres := Lib.hid (rightL_no ho hnm)
        replace ho := Lib.hid ho
        clear hall hlt hnm hok
        go_wp2_with fail
        refine cN.out.mono ?_; rintro e w' ⟨rfl, rfl⟩
        go_wp2_with fail
        go_ret
        exact ⟨by rw [hres.out]; rfl, b.out⟩
    · have hqn : q = n1 := by omega
      have hres := Lib.hid (rightL_len (hs := hs) (by rw [← h1.out, ← hqn]; exact hall.out))
      rw [← h1.out] at hres
      have hlt' : ¬ (q : Int) < (n1 : Int) := by omega
      clear hall hqn hlt
      by_cases h8 : n1 ≤ 4096
      · have h8' : (n1 : Int) ≤ 4096 := by omega
        rw [decide_eq_true h8] at hres
        clear h8
        go_wp2_with fail
        go_ret
        exact ⟨by rw [hres.out]; rfl, b.out⟩
      · have h8' : ¬ (n1 : Int) ≤ 4096 := by omega
        rw [decide_eq_false h8] at hres
        clear h8
        go_wp2_with fail
        go_ret
        exact ⟨by rw [hres.out]; rfl, b.out⟩
theorem smallL_no1 {hs : List (List OpT)} {most : Int} (h : most < (hs.length : Int)) : smallL hs most = false := by
  unfold smallL; rw [decide_eq_false (by omega : ¬ (hs.length : Int) ≤ most)]; rfl
theorem smallL_no2 {hs : List (List OpT)} {most : Int} (h : most < ((allO hs).length : Int)) : smallL hs most = false := by
  unfold smallL; rw [decide_eq_false (by omega : ¬ ((allO hs).length : Int) ≤ most), Bool.and_false]; rfl
theorem smallL_no3 {hs : List (List OpT)} {most : Int} {k : Nat} {o : OpT} (h : (allO hs)[k]? = some o) (hc : ¬ o.2.1.size ≤ 20) : smallL hs most = false := by
  unfold smallL
  have : (allO hs).all (fun o => decide (o.2.1.size ≤ 20)) = false := by
    rw [List.all_eq_false]
    exact ⟨o, List.mem_of_getElem? h, by rw [decide_eq_false hc]; simp⟩
  rw [this, Bool.and_false]
theorem smallL_yes {hs : List (List OpT)} {most : Int} (h1 : (hs.length : Int) ≤ most) (h2 : ((allO hs).length : Int) ≤ most) (h : ∀ j, j < (allO hs).length → ∃ o, (allO hs)[j]? = some o ∧ o.2.1.size ≤ 20) : smallL hs most = true := by
  unfold smallL
  have : (allO hs).all (fun o => decide (o.2.1.size ≤ 20)) = true := by
    rw [List.all_eq_true]
    intro o ho
    obtain ⟨j, hj⟩ := List.getElem?_of_mem ho
    obtain ⟨d, hd, h1⟩ := h j (List.getElem?_eq_some_iff.1 hj).1
    rw [hj] at hd; injection hd with hd; subst hd
    exact decide_eq_true h1
  rw [this, decide_eq_true h1, decide_eq_true h2]; rfl
set_option maxRecDepth 100000 in
set_option maxHeartbeats 2000000 in
theorem ref6_Small (A : Option Addr) (n c : Nat) (most : Int) (hs : List (List OpT)) (w : World) (hH : HistAt w A n hs) (hn : n ≤ 9223372036854775807) (hF : (allO hs).length ≤ 4398046511104) :
    Calls Tryz.prog 5 #[.slice A n c, .int .i64 most] w fun e w' => e = .returned (.bool (smallL hs most)) ∧ Below w.heap.size w w' := by
  have hlen := hH.len
  by_cases h1 : (n : Int) ≤ most
  · have cC := Lib.hid (ref6_Count A n c hs w hH hn hF)
    obtain ⟨N, hN⟩ : ∃ N, N = (allO hs).length := ⟨_, rfl⟩
    rw [← hN] at cC
    by_cases h2 : (N : Int) ≤ most
    · have hyes := Lib.hid (fun h => smallL_yes (hs := hs) (most := most) (by rw [hlen]; exact h1) (by rw [← hN]; exact h2) h)
      replace hlen := Lib.hid hlen
      replace hH := Lib.hid hH
      replace hN := Lib.hid hN
      go_enter Tryz.func5, Tryz.ntmps5
      go_wp2_with fail
      refine cC.out.mono ?_; rintro e w1 ⟨rfl, b1⟩
      have cF := Lib.hid (ref6_Flat A n c hs w1 (hH.out.below b1) hn hF)
      replace b1 := Lib.hid b1
      replace hF := Lib.hid hF
      go_wp2_with fail
      refine cF.out.mono ?_; rintro e w2 ⟨A1, n1, c1, rfl, -, h1', -, hO, hmc, b⟩
      replace b := Lib.hid (below_trans2 b1.out b)
      replace hO := Lib.hid hO
      replace hmc := Lib.hid hmc
      have hF' : n1 ≤ 4398046511104 := by rw [h1']; exact hF.out
      rw [← h1'] at hyes
      replace h1' := Lib.hid h1'
      go_wp2_with fail
      go_loop [6] (fun t => ∃ q : Nat, t = .int .i64 q ∧ q ≤ n1 ∧ Hid (∀ j, j < q → ∃ o, (allO hs)[j]? = some o ∧ o.2.1.size ≤ 20)) (fun t => n1 - (intOf t).toNat)
      case atStart => exact ⟨0, rfl, by omega, Lib.hid (fun j hj => absurd hj (by omega))⟩
      case round =>
        obtain ⟨q, rfl, hq, hall⟩ := hrel
        by_cases hlt : q < n1
        · obtain ⟨bb, off, o, rfl, hb, ho, hok, c0, c1', c2⟩ := hO.out.at_ hlt
          have hlt' : (q : Int) < (n1 : Int) := by omega
          by_cases h20 : o.2.1.size ≤ 20
          · have hall' : Hid (∀ j, j < q + 1 → ∃ o, (allO hs)[j]? = some o ∧ o.2.1.size ≤ 20) := Lib.hid (fun j hj => by
              rcases Nat.lt_succ_iff_lt_or_eq.1 hj with h1 | h1
              · exact hall.out j h1
              · subst h1; exact ⟨o, ho, h20⟩)
            have h20' : (o.2.1.size : Int) ≤ 20 := by omega
            replace ho := Lib.hid ho
            replace hyes := Lib.hid hyes
            clear hall hlt hok h20
            go_wp2_with fail
            go_round
            case rel => exact ⟨q + 1, by go_num, by omega, hall'⟩
            case measure => simp [intOf]; omega
          · have hres := Lib.hid (smallL_no3 (most := most) ho h20)
            have h20' : (20 : Int) < (o.2.1.size : Int) := by omega
            replace ho := Lib.hid ho
            clear hall hlt hok h20
            go_wp2_with fail
            go_ret
            exact ⟨by rw [hres.out]; rfl, b.out⟩
        · have hqn : q = n1 := by omega
          have hres := Lib.hid (hyes.out (by rw [← hqn]; exact hall.out))
          have hlt' : ¬ (q : Int) < (n1 : Int) := by omega
          clear hall hqn hlt
          go_wp2_with fail
          go_ret
          exact ⟨by rw [hres.out]; rfl, b.out⟩
    · have hres := Lib.hid (smallL_no2 (hs := hs) (most := most) (by omega))
      have h2' : most < (N : Int) := by omega
      clear hH h2
      replace hN := Lib.hid hN
      replace hlen := Lib.hid hlen
      go_enter Tryz.func5, Tryz.ntmps5
      go_wp2_with fail
      refine cC.out.mono ?_; rintro e w1 ⟨rfl, b1⟩
      go_wp2_with fail
      go_ret
      exact ⟨by rw [hres.out]; rfl, b1⟩
  · have hres := Lib.hid (smallL_no1 (hs := hs) (most := most) (by omega))
    have h1' : most < (n : Int) := by omega
    clear hH h1
    replace hlen := Lib.hid hlen
    go_enter Tryz.func5, Tryz.ntmps5
    go_wp2_with fail
    go_ret
    exact ⟨by rw [hres.out]; rfl, Below.refl _ _⟩

end Go.Proofs.YtbeigdbljepfkaaGreat

namespace Go.Proofs.YtbeigdbljepfkaaGreat
open Go.RowKit
set_option linter.unusedVariables false

section
variable {w w' : World} {g : Nat} {t : TypeId} {x y : Int}
end

theorem toList_inj {a b : ByteArray} (h : a.toList = b.toList) : a = b := by
  rw [ByteArray.toList_eq, ByteArray.toList_eq] at h
  obtain ⟨⟨x⟩⟩ := a
  obtain ⟨⟨y⟩⟩ := b
  have h' : x = y := h
  rw [h']

end Go.Proofs.YtbeigdbljepfkaaGreat

namespace Go.Proofs.YtbeigdbljepfkaaGreat
open Go.RowKit
set_option linter.unusedVariables false

set_option maxRecDepth 100000 in
set_option maxHeartbeats 1000000 in
theorem ref9_find (A : Option Addr) (n c : Nat) (l : List ByteArray) (s : ByteArray) (w : World) (hL : LAt encS w A n l) (hn : n ≤ 9223372036854775807) :
    Calls Tryz.prog 47 #[.slice A n c, .string s] w fun e w' => e = .returned (.int .i64 (findZ l s)) ∧ w' = w := by
  have hl := Lib.hid hL.len
  replace hL := Lib.hid hL
  go_enter Tryz.func47, Tryz.ntmps47
  go_wp2_with fail
  go_loop [5] (fun t => ∃ q : Nat, t = .int .i64 q ∧ q ≤ n ∧ Hid (∀ i, i < q → l[i]? ≠ some s)) (fun t => n - (intOf t).toNat)
  case atStart => exact ⟨0, rfl, by omega, Lib.hid (fun j hj => absurd hj (by omega))⟩
  case round =>
    obtain ⟨q, rfl, hq, hall⟩ := hrel
    by_cases hlt : q < n
    · obtain ⟨b, off, x, rfl, hb, hx, hok, hc⟩ := hL.out.str hlt
      have hlt' : (q : Int) < (n : Int) := by omega
      by_cases hxs : x = s
      · subst hxs
        have e1 : (x.toList == x.toList) = true := by simp
        have hres := Lib.hid (findZ_at hx hall.out)
        replace hx := Lib.hid hx
        clear hlt
        go_wp2_with fail
        go_ret
        exact ⟨by rw [hres.out]; rfl, rfl⟩
      · have e1 : (x.toList == s.toList) = false := by
          rw [beq_eq_false_iff_ne]
          exact fun h => hxs (toList_inj h)
        have hall' : Hid (∀ i, i < q + 1 → l[i]? ≠ some s) := Lib.hid (fun i hi => by
          rcases Nat.lt_succ_iff_lt_or_eq.1 hi with h1 | h1
          · exact hall.out i h1
          · subst h1; rw [hx]; exact fun e => hxs (by injection e))
        replace hx := Lib.hid hx
        clear hlt hxs hall
        go_wp2_with fail
        go_round
        case rel => exact ⟨q + 1, by go_num, by omega, hall'⟩
        case measure => simp [intOf]; omega
    · have hlt' : ¬ (q : Int) < (n : Int) := by omega
      have hres : Hid (findZ l s = -1) := Lib.hid (findZ_none (fun i hi => hall.out i (by rw [hl.out] at hi; omega)))
      clear hlt hall
      go_wp2_with fail
      go_ret
      exact ⟨by rw [hres.out]; rfl, rfl⟩

end Go.Proofs.YtbeigdbljepfkaaGreat

namespace Go.Proofs.YtbeigdbljepfkaaGreat
open Go.RowKit
set_option linter.unusedVariables false

theorem Blk.not_row {w : World} {g : Nat} {t e : TypeId} {cs : List Value} {base size n : Nat} {v : Value} {xs : List Value} (h : Blk w g t cs) (hte : t ≠ e) (hr : w.ownsRow base e size v n xs) : v.ownBlock ≠ some g := by
  rcases hr.2 with ⟨rfl, _⟩ | ⟨k, cap, cur, rfl, _, hk, _⟩
  · intro h; cases h
  · intro he
    have : k = g := by simpa [Value.ownBlock] using he
    subst this
    rw [show w.heap[k]? = _ from h] at hk
    injection hk with hk
    injection hk with _ h2 _
    exact hte h2
theorem Blk.kept {w w' : World} {g : Nat} {t : TypeId} {cs : List Value} {row : Option Nat} (h : Blk w g t cs) (hg : w.grownBy w' row) (hne : row ≠ some g) : Blk w' g t cs :=
  (hg.block g h.lt (fun e => hne e.symm)).trans h
theorem own_farT {w : World} {g i : Nat} {t e : TypeId} {cs : List Value} {base size n : Nat} {v : Value} {xs : List Value} (hr : w.ownsRow base e size v n xs) (h : Blk w g t cs) (hte : t ≠ e) (u : Value) : (w.setCell ⟨g, i, none⟩ u).ownsRow base e size v n xs := by
  have hne := h.not_row hte hr
  refine ⟨hr.1, ?_⟩
  rcases hr.2 with h1 | ⟨k, cap, cur, rfl, hb, hk, r⟩
  · exact .inl h1
  · refine .inr ⟨k, cap, cur, rfl, hb, ?_, r⟩
    rw [Below.heap_setCell w ⟨g, i, none⟩ u k (fun e => hne (by rw [e]; rfl))]
    exact hk
/-- what is built may be told -/
structure StOk (st : StF) : Prop where
  s : ∀ x ∈ st.1, x.size ≤ 9223372036854775807
  i : ∀ x ∈ st.2, It.Ok x
  l : st.1.length ≤ st.2.length
  n : st.2.length ≤ 4398046511104
theorem StOk.nil : StOk ([], []) := ⟨fun x h => by simp at h, fun x h => by simp at h, Nat.le_refl _, by simp⟩
theorem StOk.one {st : StF} (h : StOk st) {se pl : Nat} {o : OpT} (hn : st.2.length < 4398046511104) (hse : se ≤ 4398046511104) (hpl : pl ≤ 4398046511104) (ho : (-9223372036854775808 ≤ o.2.2 ∧ o.2.2 < 9223372036854775808) ∧ o.2.1.size ≤ 9223372036854775807) : StOk (oneF se st (o, pl)) := by
  have hl := addV_len st.1 o.2.1
  have hf := findZ_range (addV st.1 o.2.1) o.2.1
  have h1 := h.l
  refine ⟨fun x hx => ?_, fun x hx => ?_, ?_, ?_⟩
  · simp only [oneF] at hx
    by_cases hfz : findZ st.1 o.2.1 < 0
    · rw [addV_new hfz] at hx
      rcases List.mem_append.1 hx with hx | hx
      · exact h.s x hx
      · rw [List.mem_singleton.1 hx]; exact ho.2
    · rw [addV_old hfz] at hx; exact h.s x hx
  · simp only [oneF] at hx
    rcases List.mem_append.1 hx with hx | hx
    · exact h.i x hx
    · rw [List.mem_singleton.1 hx]
      have := h.n
      exact ⟨by simp only; omega, by simp only; omega, by simp only; omega, by simp only; omega, by simp only; omega, by simp only; omega, ho.1.1, ho.1.2⟩
  · simp only [oneF, List.length_append, List.length_cons, List.length_nil]; omega
  · simp only [oneF, List.length_append, List.length_cons, List.length_nil]; omega
/-- while facts are built: in the variable g1, of which the answer's is g0 -/
structure FI (w wr : World) (g0 g1 : Nat) (v u : Value) (st : StF) : Prop where
  r : Blk wr g0 29 [.slice none 0 0, .slice none 0 0, .slice none 0 0]
  f : Blk wr g1 29 [v, u, .slice none 0 0]
  ov : wr.ownsRow w.heap.size 9 1 v st.1.length (encS.all st.1)
  ou : wr.ownsRow w.heap.size 49 5 u st.2.length (encT.all st.2)
  b : Below w.heap.size w wr
  ok : StOk st
  l0 : w.heap.size ≤ g0
  l1 : g0 < g1
theorem FI.later {w wr w' : World} {g0 g1 : Nat} {v u : Value} {st : StF} (h : FI w wr g0 g1 v u st) (hb : Below wr.heap.size wr w') : FI w w' g0 g1 v u st :=
  ⟨h.r.below hb h.r.lt, h.f.below hb h.f.lt, own_below h.ov hb, own_below h.ou hb, below_trans2 h.b hb, h.ok, h.l0, h.l1⟩
theorem info_str : (Tryz.prog.info? 9).map (fun i => (i.zero, i.size, i.bytes)) = some (some (.string .empty), 1, 16) := by kernel_rfl
theorem info_item : (Tryz.prog.info? 49).map (fun i => (i.zero, i.size, i.bytes)) = some (some (.agg #[.int .i64 0, .int .i64 0, .bool false, .int .i64 0, .int .i64 0]), 5, 40) := by kernel_rfl
set_option maxRecDepth 100000 in
set_option maxHeartbeats 4000000 in
theorem ref9_Of (A : Option Addr) (n c : Nat) (hs : List (List OpT)) (w : World) (hH : HistAt w A n hs) (hn : n ≤ 1099511627776) (hF : (allO hs).length ≤ 1099511627776) :
    Calls Tryz.prog 26 #[.slice A n c] w fun e w' => ∃ v : FV, e = .returned (.tuple #[.agg #[.slice v.A v.n v.c, .slice v.B v.m v.d, .slice v.C v.k v.e], .int .i64 (if rightL hs = true then 0 else 1)]) ∧
      FactsAt w' v (if rightL hs = true then facO hs else ⟨[], [], []⟩) ∧ Below w.heap.size w w' := by
  obtain ⟨i0, hi, hz0, hz1, hz2⟩ := info_parts info_str
  obtain ⟨j0, ji, jz0, jz1, jz2⟩ := info_parts info_item
  replace hi := Lib.hid hi
  replace hz0 := Lib.hid hz0
  replace hz1 := Lib.hid hz1
  replace hz2 := Lib.hid hz2
  replace ji := Lib.hid ji
  replace jz0 := Lib.hid jz0
  replace jz1 := Lib.hid jz1
  replace jz2 := Lib.hid jz2
  have hlen := Lib.hid hH.len
  have hH0 := Lib.hid hH
  obtain ⟨W0, hW0⟩ : ∃ W, W = w.alloc (.cells #[.slice none 0 0, .slice none 0 0, .slice none 0 0] 29) := ⟨_, rfl⟩
  obtain ⟨g0, hg0⟩ : ∃ g, g = w.heap.size := ⟨_, rfl⟩
  have k0 : Blk W0 g0 29 [.slice none 0 0, .slice none 0 0, .slice none 0 0] := by rw [hW0, hg0]; exact Blk.new w _ _
  have bb := Lib.hid (show Below w.heap.size w W0 from by rw [hW0]; exact (Below.refl _ w).alloc (Nat.le_refl _) _)
  have cR := Lib.hid (ref6_Right A n c hs W0 (hH.below bb.out) (by omega) (by omega))
  replace hF := Lib.hid hF
  cases hr : rightL hs with
  | false =>
    rw [hr] at cR
    replace hr := Lib.hid hr
    clear hH
    go_enter Tryz.func26, Tryz.ntmps26
    go_wp2_with (rw [← hW0, ← hg0]; clear hW0; replace hg0 := Lib.hid hg0)
    refine cR.out.mono ?_; rintro e w1 ⟨rfl, b⟩
    replace bb := Lib.hid (below_trans2 bb.out b)
    replace k0 := k0.below b k0.lt
    clear b
    have c0 := k0.cell 0
    have c1 := k0.cell 1
    have c2 := k0.cell 2
    have f0 := k0.frozen 0
    have f1 := k0.frozen 1
    have f2 := k0.frozen 2
    go_wp2_with fail
    have k3 := ((k0.set_ 0 (.slice none 0 0)).set_ 1 (.slice none 0 0)).set_ 2 (.slice none 0 0)
    have e0 := k3.cell 0
    have e1 := k3.cell 1
    have e2 := k3.cell 2
    refine bodyPost_ret (v := .tuple #[.agg #[.slice none 0 0, .slice none 0 0, .slice none 0 0], .int .i64 1]) (by simp [results, Tryz.results26, go_sem, e0, e1, e2]) rfl ⟨⟨none, 0, 0, none, 0, 0, none, 0, 0⟩, rfl, ⟨LAt.nil _ _ _, Nat.le_refl _, by simp, LAt.nil _ _ _, Nat.le_refl _, by simp, LAt.nil _ _ _, Nat.le_refl _, by simp⟩, ?_⟩
    exact ((bb.out.setCell (by rw [hg0.out]; exact Nat.le_refl _) _).setCell (by rw [hg0.out]; exact Nat.le_refl _) _).setCell (by rw [hg0.out]; exact Nat.le_refl _) _
  | true =>
    rw [hr] at cR
    replace hr := Lib.hid hr
    replace hH := Lib.hid (hH.below bb.out)
    go_enter Tryz.func26, Tryz.ntmps26
    go_wp2_with (rw [← hW0, ← hg0]; clear hW0; replace hg0 := Lib.hid hg0)
    refine cR.out.mono ?_; rintro e w1 ⟨rfl, b⟩
    replace bb := Lib.hid (below_trans2 bb.out b)
    replace hH := Lib.hid (hH.out.below b)
    replace k0 := k0.below b k0.lt
    obtain ⟨W1, hW1⟩ : ∃ W, W = w1.alloc (.cells #[.slice none 0 0, .slice none 0 0, .slice none 0 0] 29) := ⟨_, rfl⟩
    obtain ⟨g1, hg1⟩ : ∃ g, g = w1.heap.size := ⟨_, rfl⟩
    have hFI : FI w W1 g0 g1 (.slice none 0 0) (.slice none 0 0) ([], []) := by
      have b1 : Below w1.heap.size w1 W1 := by rw [hW1]; exact (Below.refl _ w1).alloc (Nat.le_refl _) _
      exact ⟨k0.below b1 k0.lt, by rw [hW1, hg1]; exact Blk.new w1 _ _, World.ownsRow_nil _ _ _ _, World.ownsRow_nil _ _ _ _, below_trans2 bb.out b1, StOk.nil, by rw [hg0.out]; exact Nat.le_refl _, by rw [hg1]; exact k0.lt⟩
    replace hH := Lib.hid (hH.out.below (show Below w1.heap.size w1 W1 from by rw [hW1]; exact (Below.refl _ w1).alloc (Nat.le_refl _) _))
    replace hFI := Lib.hid hFI
    clear b k0 bb cR
    go_wp2_with (rw [← hW1, ← hg1]; clear hW1; replace hg1 := Lib.hid hg1)
    go_loopw [5] (fun i wr => ∃ (k : Nat) (v u : Value), k ≤ n ∧ i = .int .i64 k ∧ Hid (FI w wr g0 g1 v u (hisF (hs.take k))) ∧ Hid (HistAt wr A n hs)) (fun i _ => n - (intOf i).toNat)
    case atStart => exact ⟨0, _, _, Nat.zero_le _, rfl, hFI, hH⟩
    case round =>
      obtain ⟨k, v, u, hk, rfl, hI, hHr⟩ := hrel
      by_cases hlt : k < n
      · obtain ⟨b1, off, B, m, cc, os, rfl, hbl, hos, hcell, hmc, hm63, hO⟩ := hHr.out.at_ hlt
        have hlt' : (k : Int) < (n : Int) := by omega
        have hol := Lib.hid hO.len
        have htk := Lib.hid (List.take_succ_eq_append_getElem (List.getElem?_eq_some_iff.1 hos).1)
        rw [(List.getElem?_eq_some_iff.1 hos).2] at htk
        replace hos := Lib.hid hos
        replace hO := Lib.hid hO
        go_wp2_with fail
        go_loopw [6] (fun i wr => ∃ (j : Nat) (v u : Value), j ≤ m ∧ i = .int .i64 j ∧ Hid (FI w wr g0 g1 v u (sesF k (os.take j) (hisF (hs.take k)))) ∧ Hid (HistAt wr (some ⟨b1, off, none⟩) n hs)) (fun i _ => m - (intOf i).toNat)
        case atStart => exact ⟨0, v, u, Nat.zero_le _, rfl, hI, hHr⟩
        case round =>
          clear hI hHr hcell hO
          obtain ⟨j, v, u, hj, rfl, hI, hHr⟩ := hrel
          obtain ⟨b1', off', B, m', cc, os', e1, hbl, hos', hcell, hmc, hm63, hO⟩ := hHr.out.at_ hlt
          injection e1 with e1
          injection e1 with e1 e2
          subst e1; subst e2
          obtain rfl : os' = os := by rw [hos.out] at hos'; injection hos' with h; exact h.symm
          obtain rfl : m' = m := by rw [← hO.len]; exact hol.out
          clear hos'
          by_cases hjm : j < m'
          · obtain ⟨b2, off2, o, rfl, hb2, ho, hok, x0, x1, x2⟩ := hO.at_ hjm
            have hjm' : (j : Int) < (m' : Int) := by omega
            have htj := Lib.hid (List.take_succ_eq_append_getElem (List.getElem?_eq_some_iff.1 ho).1)
            rw [(List.getElem?_eq_some_iff.1 ho).2] at htj
            obtain ⟨st, hst⟩ : ∃ st, st = sesF k (os'.take j) (hisF (hs.take k)) := ⟨_, rfl⟩
            rw [← hst] at hI
            have hone : Hid (sesF k (os'.take (j + 1)) (hisF (hs.take k)) = oneF k st (o, j)) := Lib.hid (by
              rw [htj.out, sesF_snoc, ← hst, List.length_take, hol.out, Nat.min_eq_left (by omega)])
            have hstl : st.2.length < 1099511627776 := by
              have h1 := (sesF_len k (os'.take j) (hisF (hs.take k))).1
              have h2 := hisF_len (hs.take k)
              have h3 := allO_take_le hs (k + 1)
              rw [allO_take_succ hos.out, List.length_append, hol.out] at h3
              rw [← hst, h2, List.length_take] at h1
              have := hF.out
              omega
            have hjb : j ≤ 4398046511104 := by
              have h3 := allO_take_le hs (k + 1)
              rw [allO_take_succ hos.out, List.length_append, hol.out] at h3
              have := hF.out
              omega
            have hok4 := hI.out.ok.one (se := k) (pl := j) (o := o) (by omega) (by omega) (by omega) hok
            have hitok : It.Ok ⟨k, j, o.1, findZ (addV st.1 o.2.1) o.2.1, o.2.2⟩ := hok4.i _ (by simp [oneF])
            replace hst := Lib.hid hst
            replace ho := Lib.hid ho
            replace htj := Lib.hid htj
            have hhI := hI
            obtain ⟨A1, c1, rfl, h11, h12, hLv⟩ := LAt.of_own hI.out.ov hI.out.ok.s rfl
            obtain ⟨Wo, hWo⟩ : ∃ W, W = wr.alloc (.cells #[.bool o.1, .string o.2.1, .int .i64 o.2.2] 61) := ⟨_, rfl⟩
            obtain ⟨g2, hg2⟩ : ∃ g, g = wr.heap.size := ⟨_, rfl⟩
            have bo : Below wr.heap.size wr Wo := by rw [hWo]; exact (Below.refl _ _).alloc (Nat.le_refl _) _
            have ko : Blk Wo g2 61 [.bool o.1, .string o.2.1, .int .i64 o.2.2] := by rw [hWo, hg2]; exact Blk.new wr _ _
            have I3 := hI.out.later bo
            have hne : g1 ≠ g2 := by have := hI.out.f.lt; omega
            have hne' : g2 ≠ g1 := fun e => hne e.symm
            have cf := Lib.hid (ref9_find A1 st.1.length c1 st.1 o.2.1 Wo (hLv.below bo) (by omega))
            replace hHr := Lib.hid (hHr.out.below bo)
            have q0 := I3.f.cell 0
            have q1 := I3.f.cell 1
            have p0 := ko.cell 0
            have p1 := ko.cell 1
            have p2 := ko.cell 2
            clear hjm hI hLv hO
            replace I3 := Lib.hid I3
            replace hitok := Lib.hid hitok
            replace hok4 := Lib.hid hok4
            obtain ⟨V, hV⟩ : ∃ V, V = findZ st.1 o.2.1 := ⟨_, rfl⟩
            rw [← hV] at cf
            have hVr := findZ_range st.1 o.2.1
            rw [← hV] at hVr
            replace hone := Lib.hid hone.out
            go_wp2_with (rw [← hWo, ← hg2]; clear hWo; replace hg2 := Lib.hid hg2)
            refine cf.out.mono ?_; rintro e wx ⟨rfl, hwx⟩
            rw [hwx]
            clear hwx cf
            by_cases hV0 : V < 0
            · have hadd : Hid (addV st.1 o.2.1 = st.1 ++ [o.2.1]) := Lib.hid (addV_new (by rw [← hV]; exact hV0))
              have hVis : Hid (findZ (addV st.1 o.2.1) o.2.1 = (st.1.length : Int)) := Lib.hid (by rw [addV_find, if_pos (by rw [← hV]; exact hV0)])
              rw [hVis.out] at hitok
              have hsl := hok4.out.s o.2.1 (addV_mem _ _)
              obtain ⟨W3, hW3⟩ : ∃ W, W = Wo.alloc (.cells #[.string o.2.1] 9) := ⟨_, rfl⟩
              have b3 : Below Wo.heap.size Wo W3 := by rw [hW3]; exact (Below.refl _ _).alloc (Nat.le_refl _) _
              have hlit : LAt encS W3 (some ⟨Wo.heap.size, 0, none⟩) 1 [o.2.1] := by rw [hW3]; exact LAt.lit1 (E := encS) Wo _ o.2.1 hsl
              have I4 := I3.out.later b3
              have ko3 := ko.below b3 ko.lt
              have hstn := I4.ok.l
              replace hV := Lib.hid hV
              go_wp2_with (first
                | (rw [← hW3]
                   clear hW3
                   at_builtin
                   refine wpList_append_L (E := encS) rfl (.tmp 46) (.tmp 49) _ rfl w.heap.size 9 i0 _ 16 Tryz.underlying25 hi.out hz0.out hz1.out hz2.out rfl _ st.1.length st.1 (by rfl) I4.ov _ 1 1 [o.2.1] rfl hlit (by unfold maxLen; omega) (by omega) I4.b.size ?_
                   intro v' w4 hown' hbb hg hob
                   obtain ⟨A3, c3, rfl, h31, h32, hL3⟩ := LAt.of_own hown' (fun x hx => (List.mem_append.1 hx).elim (I4.ok.s x) (fun h => by rw [List.mem_singleton.1 h]; exact hsl)) (by simp)
                   have kf4 := I4.f.kept hg (I4.f.not_row (by decide) I4.ov)
                   have kr4 := I4.r.kept hg (I4.r.not_row (by decide) I4.ov)
                   have ko4 := ko3.kept hg (ko3.not_row (by decide) I4.ov)
                   have ou4 := own_grown I4.ou I4.ov (by decide) hg
                   have b4 := I4.b.trans hbb
                   clear q0 q1 p0 p1 p2
                   have q0 := kf4.cell 0
                   have q1 := kf4.cell 1
                   have s0 := kf4.frozen 0
                   have p0 := ko4.cell 0
                   have p1 := ko4.cell 1
                   have p2 := ko4.cell 2
                   obtain ⟨W5, hW5⟩ : ∃ W, W = w4.setCell ⟨g1, 0, none⟩ (.slice A3 (st.1.length + 1) c3) := ⟨_, rfl⟩
                   have kf5 : Blk W5 g1 29 [.slice A3 (st.1.length + 1) c3, u, .slice none 0 0] := by rw [hW5]; exact kf4.set_ 0 _
                   have kr5 : Blk W5 g0 29 [.slice none 0 0, .slice none 0 0, .slice none 0 0] := by rw [hW5]; exact kr4.far (p := ⟨g1, 0, none⟩) (by have := I3.out.l1; show g0 ≠ g1; omega) _
                   have ov5 : W5.ownsRow w.heap.size 9 1 (.slice A3 (st.1.length + 1) c3) (st.1.length + 1) (encS.all (st.1 ++ [o.2.1])) := by rw [hW5]; exact own_farT (i := 0) hown' kf4 (by decide) _
                   have ou5 : W5.ownsRow w.heap.size 49 5 u st.2.length (encT.all st.2) := by rw [hW5]; exact own_farT (i := 0) ou4 kf4 (by decide) _
                   have b5 : Below w.heap.size w W5 := by rw [hW5]; exact b4.setCell (p := ⟨g1, 0, none⟩) (by have := I3.out.l0; have := I3.out.l1; show w.heap.size ≤ g1; omega) _
                   clear hbb hg hob hlit ko3 I4 b3 hL3 h31 h32 kf4 kr4 ko4 ou4 b4 hown'
                   -- an item more, its number is (st.1.length : Int); the world is W5: ov5, ou5, kf5, kr5, b5 : what stands there
                   obtain ⟨W6, hW6⟩ : ∃ W, W = W5.alloc (.cells #[.int .i64 (k : Int), .int .i64 (j : Int), .bool o.1, .int .i64 (st.1.length : Int), .int .i64 o.2.2] 49) := ⟨_, rfl⟩
                   have b6 : Below W5.heap.size W5 W6 := by rw [hW6]; exact (Below.refl _ _).alloc (Nat.le_refl _) _
                   have hlit6 : LAt encT W6 (some ⟨W5.heap.size, 0, none⟩) 1 [⟨k, j, o.1, (st.1.length : Int), o.2.2⟩] := by rw [hW6]; exact LAt.lit1 (E := encT) W5 _ ⟨k, j, o.1, (st.1.length : Int), o.2.2⟩ hitok.out
                   have ov6 := Lib.hid (own_below ov5 b6)
                   have ou6 := Lib.hid (own_below ou5 b6)
                   have kf6 := Lib.hid (kf5.below b6 kf5.lt)
                   have kr6 := Lib.hid (kr5.below b6 kr5.lt)
                   have hw6 : w.heap.size ≤ W6.heap.size := Nat.le_trans b5.size b6.size
                   have bw6 := Lib.hid (below_trans2 b5 b6)
                   replace hlit6 := Lib.hid hlit6
                   clear ov5 ou5 kf5 kr5 b5 b6
                   rw [show W5.heap.size = w4.heap.size from by rw [hW5]; simp] at hlit6
                   )
                | (rw [← hW5, ← hW6]
                   clear hW5 hW6
                   at_builtin
                   refine wpList_append_L (E := encT) rfl (.tmp 53) (.tmp 62) _ rfl w.heap.size 49 j0 _ 40 Tryz.underlying26 ji.out jz0.out jz1.out jz2.out rfl _ st.2.length st.2 (by rfl) ou6.out _ 1 1 _ rfl hlit6.out (by unfold maxLen; omega) (by omega) hw6 ?_
                   intro v7 w7 hown7 hbb7 hg7 hob7
                   obtain ⟨A7, c7, rfl, h71, h72, hL7⟩ := LAt.of_own hown7 (fun x hx => (List.mem_append.1 hx).elim (I3.out.ok.i x) (fun h => by rw [List.mem_singleton.1 h]; exact hitok.out)) (by simp)
                   have kf7 := kf6.out.kept hg7 (kf6.out.not_row (by decide) ou6.out)
                   have kr7 := kr6.out.kept hg7 (kr6.out.not_row (by decide) ou6.out)
                   have ov7 := own_grown ov6.out ou6.out (by decide) hg7
                   have b7 : Below w.heap.size w w7 := bw6.out.trans hbb7
                   have r0 := kf7.cell 0
                   have r1 := kf7.cell 1
                   have r2 := kf7.cell 2
                   have s1 := kf7.frozen 1
                   have kf8 := Lib.hid (kf7.set_ 1 (.slice A7 (st.2.length + 1) c7))
                   have kr8 := Lib.hid (kr7.far (p := ⟨g1, 1, none⟩) (by have := I3.out.l1; show g0 ≠ g1; omega) (.slice A7 (st.2.length + 1) c7))
                   have ov8 := Lib.hid (own_farT (i := 1) ov7 kf7 (by decide) (.slice A7 (st.2.length + 1) c7))
                   have ou8 := Lib.hid (own_farT (i := 1) hown7 kf7 (by decide) (.slice A7 (st.2.length + 1) c7))
                   have b8 := Lib.hid (b7.setCell (p := ⟨g1, 1, none⟩) (by have := I3.out.l0; have := I3.out.l1; show w.heap.size ≤ g1; omega) (.slice A7 (st.2.length + 1) c7))
                   clear ov6 ou6 kf6 kr6 hlit6 hown7 hbb7 hg7 hob7 kf7 kr7 ov7 b7 hL7 h71 h72 hw6 bw6
                   ))
              exact ⟨⟨j + 1, _, _, by omega, by go_num, Lib.hid (by
                rw [hone.out]
                unfold oneF
                rw [hVis.out]
                refine ⟨kr8.out, kf8.out, ?_, by rw [List.length_append]; exact ou8.out, b8.out, by have := hok4.out; unfold oneF at this; rw [hVis.out] at this; exact this, I3.out.l0, I3.out.l1⟩
                show World.ownsRow _ _ _ _ _ (addV st.1 o.2.1).length (encS.all (addV st.1 o.2.1))
                rw [hadd.out]
                have h := ov8.out
                first | exact h | (rw [List.length_append]; exact h)), Lib.hid (hH0.out.below b8.out)⟩, by simp [intOf]; omega⟩
            · have hadd : Hid (addV st.1 o.2.1 = st.1) := Lib.hid (addV_old (by rw [← hV]; exact hV0))
              have hVis : Hid (findZ (addV st.1 o.2.1) o.2.1 = V) := Lib.hid (by rw [addV_find, if_neg (by rw [← hV]; exact hV0), hV])
              rw [hVis.out] at hitok
              replace hV := Lib.hid hV
              have ov5 := I3.out.ov
              have ou5 := I3.out.ou
              have kf5 := I3.out.f
              have kr5 := I3.out.r
              have b5 := I3.out.b
              -- an item more, its number is V; the world is Wo: ov5, ou5, kf5, kr5, b5 : what stands there
              obtain ⟨W6, hW6⟩ : ∃ W, W = Wo.alloc (.cells #[.int .i64 (k : Int), .int .i64 (j : Int), .bool o.1, .int .i64 V, .int .i64 o.2.2] 49) := ⟨_, rfl⟩
              have b6 : Below Wo.heap.size Wo W6 := by rw [hW6]; exact (Below.refl _ _).alloc (Nat.le_refl _) _
              have hlit6 : LAt encT W6 (some ⟨Wo.heap.size, 0, none⟩) 1 [⟨k, j, o.1, V, o.2.2⟩] := by rw [hW6]; exact LAt.lit1 (E := encT) Wo _ ⟨k, j, o.1, V, o.2.2⟩ hitok.out
              have ov6 := Lib.hid (own_below ov5 b6)
              have ou6 := Lib.hid (own_below ou5 b6)
              have kf6 := Lib.hid (kf5.below b6 kf5.lt)
              have kr6 := Lib.hid (kr5.below b6 kr5.lt)
              have hw6 : w.heap.size ≤ W6.heap.size := Nat.le_trans b5.size b6.size
              have bw6 := Lib.hid (below_trans2 b5 b6)
              replace hlit6 := Lib.hid hlit6
              clear ov5 ou5 kf5 kr5 b5 b6
              go_wp2_with (
                rw [← hW6]
                clear hW6
                at_builtin
                refine wpList_append_L (E := encT) rfl (.tmp 53) (.tmp 62) _ rfl w.heap.size 49 j0 _ 40 Tryz.underlying26 ji.out jz0.out jz1.out jz2.out rfl _ st.2.length st.2 (by rfl) ou6.out _ 1 1 _ rfl hlit6.out (by unfold maxLen; omega) (by omega) hw6 ?_
                intro v7 w7 hown7 hbb7 hg7 hob7
                obtain ⟨A7, c7, rfl, h71, h72, hL7⟩ := LAt.of_own hown7 (fun x hx => (List.mem_append.1 hx).elim (I3.out.ok.i x) (fun h => by rw [List.mem_singleton.1 h]; exact hitok.out)) (by simp)
                have kf7 := kf6.out.kept hg7 (kf6.out.not_row (by decide) ou6.out)
                have kr7 := kr6.out.kept hg7 (kr6.out.not_row (by decide) ou6.out)
                have ov7 := own_grown ov6.out ou6.out (by decide) hg7
                have b7 : Below w.heap.size w w7 := bw6.out.trans hbb7
                have r0 := kf7.cell 0
                have r1 := kf7.cell 1
                have r2 := kf7.cell 2
                have s1 := kf7.frozen 1
                have kf8 := Lib.hid (kf7.set_ 1 (.slice A7 (st.2.length + 1) c7))
                have kr8 := Lib.hid (kr7.far (p := ⟨g1, 1, none⟩) (by have := I3.out.l1; show g0 ≠ g1; omega) (.slice A7 (st.2.length + 1) c7))
                have ov8 := Lib.hid (own_farT (i := 1) ov7 kf7 (by decide) (.slice A7 (st.2.length + 1) c7))
                have ou8 := Lib.hid (own_farT (i := 1) hown7 kf7 (by decide) (.slice A7 (st.2.length + 1) c7))
                have b8 := Lib.hid (b7.setCell (p := ⟨g1, 1, none⟩) (by have := I3.out.l0; have := I3.out.l1; show w.heap.size ≤ g1; omega) (.slice A7 (st.2.length + 1) c7))
                clear ov6 ou6 kf6 kr6 hlit6 hown7 hbb7 hg7 hob7 kf7 kr7 ov7 b7 hL7 h71 h72 hw6 bw6
                )
              exact ⟨⟨j + 1, _, _, by omega, by go_num, Lib.hid (by
                rw [hone.out]
                unfold oneF
                rw [hVis.out]
                refine ⟨kr8.out, kf8.out, ?_, by rw [List.length_append]; exact ou8.out, b8.out, by have := hok4.out; unfold oneF at this; rw [hVis.out] at this; exact this, I3.out.l0, I3.out.l1⟩
                show World.ownsRow _ _ _ _ _ (addV st.1 o.2.1).length (encS.all (addV st.1 o.2.1))
                rw [hadd.out]
                have h := ov8.out
                first | exact h | (rw [List.length_append]; exact h)), Lib.hid (hH0.out.below b8.out)⟩, by simp [intOf]; omega⟩
          · have hjm' : ¬ (j : Int) < (m' : Int) := by omega
            have htk2 : os'.take j = os' := List.take_of_length_le (by rw [hol.out]; omega)
            rw [htk2] at hI
            have hnx : Hid (hisF (hs.take (k + 1)) = sesF k os' (hisF (hs.take k))) := Lib.hid (by
              rw [htk.out, hisF_snoc, List.length_take, hlen.out, Nat.min_eq_left (by omega)])
            rw [← hnx.out] at hI
            clear hjm htk2 hO
            go_wp2_with fail
            exact ⟨⟨k + 1, _, _, by omega, by go_num, hI, hHr⟩, by simp [intOf]; omega⟩
      · have hkn' : ¬ (k : Int) < (n : Int) := by omega
        rw [show hs.take k = hs from List.take_of_length_le (by rw [hlen.out]; omega)] at hI
        obtain ⟨A1, c1, rfl, h11, h12, hLv⟩ := LAt.of_own hI.out.ov hI.out.ok.s rfl
        obtain ⟨A2, c2, rfl, h21, h22, hLu⟩ := LAt.of_own hI.out.ou hI.out.ok.i rfl
        obtain ⟨N, hN⟩ : ∃ N, N = (hisF hs).1.length := ⟨_, rfl⟩
        obtain ⟨M, hM⟩ : ∃ M, M = (hisF hs).2.length := ⟨_, rfl⟩
        have kf := hI.out.f
        have kr := hI.out.r
        rw [← hN] at kf hLv h11
        rw [← hM] at kf hLu h21
        have q0 := kf.cell 0
        have q1 := kf.cell 1
        have q2 := kf.cell 2
        have s0 := kr.frozen 0
        have s1 := kr.frozen 1
        have s2 := kr.frozen 2
        have p0 := kr.cell 0
        have p1 := kr.cell 1
        have p2 := kr.cell 2
        have k3 := ((kr.set_ 0 (.slice A1 N c1)).set_ 1 (.slice A2 M c2)).set_ 2 (.slice none 0 0)
        have e0 := k3.cell 0
        have e1 := k3.cell 1
        have e2 := k3.cell 2
        have bl := hI.out.l0
        have bS : ∀ i (u : Value) (X : World), Below w.heap.size w X → Below w.heap.size w (X.setCell ⟨g0, i, none⟩ u) := fun i u X h => h.setCell (p := ⟨g0, i, none⟩) bl u
        have bE := bS 2 (.slice none 0 0) _ (bS 1 (.slice A2 M c2) _ (bS 0 (.slice A1 N c1) _ hI.out.b))
        have ovX := own_farT (i := 2) (own_farT (i := 1) (own_farT (i := 0) hI.out.ov kr (by decide) (.slice A1 N c1)) (kr.set_ 0 _) (by decide) (.slice A2 M c2)) ((kr.set_ 0 _).set_ 1 _) (by decide) (.slice none 0 0)
        have ouX := own_farT (i := 2) (own_farT (i := 1) (own_farT (i := 0) hI.out.ou kr (by decide) (.slice A1 N c1)) (kr.set_ 0 _) (by decide) (.slice A2 M c2)) ((kr.set_ 0 _).set_ 1 _) (by decide) (.slice none 0 0)
        have hLX := LAt.of_own' ovX hI.out.ok.s rfl
        have hUX := LAt.of_own' ouX hI.out.ok.i rfl
        rw [← hN] at hLX
        rw [← hM] at hUX
        replace hLX := Lib.hid hLX
        replace hUX := Lib.hid hUX
        replace bE := Lib.hid bE
        clear ovX ouX bS hLv hLu kf kr k3 hlt hn
        replace hI := Lib.hid True.intro
        replace hN := Lib.hid hN
        replace hM := Lib.hid hM
        go_wp2_with fail
        refine bodyPost_ret (v := .tuple #[.agg #[.slice A1 N c1, .slice A2 M c2, .slice none 0 0], .int .i64 0]) (by simp [results, Tryz.results26, go_sem, e0, e1, e2]) rfl ⟨⟨A1, N, c1, A2, M, c2, none, 0, 0⟩, rfl, ?_, bE.out⟩
        exact ⟨hLX.out, h11, h12, hUX.out, h21, h22, LAt.nil _ _ _, Nat.le_refl _, by simp⟩

end Go.Proofs.YtbeigdbljepfkaaGreat

namespace Go.Proofs.YtbeigdbljepfkaaGreat
open Go.RowKit
set_option linter.unusedVariables false

end Go.Proofs.YtbeigdbljepfkaaGreat
