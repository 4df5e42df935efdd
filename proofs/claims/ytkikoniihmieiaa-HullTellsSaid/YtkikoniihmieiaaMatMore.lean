/- Plain facts of matrices that may be: parts of one another, together, whether a pair is there. Words for memory: a variable that holds a matrix, with its rows. No function of the program is named here. -/
import Derived.Test.YtkikoniihmieiaaTurnFacts
import Derived.Test.YtkikoniihmieiaaMatRefA
import Derived.Test.YtkikoniihmieiaaMatRefH
namespace Go.Proofs.Ytkikoniihmieiaa
open Go.RowKit
set_option linter.unusedVariables false

theorem subM_iff {n : Nat} {a b : List (List Nat)} (ha : Good n a) (hb : Good n b) : subM a b = true ↔ ∀ i j : Nat, hasM a (i : Int) (j : Int) = true → hasM b (i : Int) (j : Int) = true := by
  unfold subM
  rw [List.all_eq_true]
  constructor
  · intro h i j hh
    obtain ⟨h1, h2⟩ := ha.has_lt hh
    obtain ⟨r, hr, hw, _⟩ := ha.at_ h1
    obtain ⟨s, hs, _, _⟩ := hb.at_ h1
    have h3 := h i (List.mem_range.2 (by rw [ha.len]; exact h1))
    rw [getD_at hr, getD_at hs] at h3
    rw [hasM_in hr] at hh
    rw [hasM_in hs]
    exact (subR_iff r s hw).1 h3 j hh
  · intro h i hi
    have h1 : i < n := by rw [← ha.len]; exact List.mem_range.1 hi
    obtain ⟨r, hr, hw, _⟩ := ha.at_ h1
    obtain ⟨s, hs, _, _⟩ := hb.at_ h1
    rw [getD_at hr, getD_at hs]
    refine (subR_iff r s hw).2 fun j hj => ?_
    have := h i j (by rw [hasM_in hr]; exact hj)
    rwa [hasM_in hs] at this
theorem same_sub {n : Nat} {a b : List (List Nat)} (ha : Good n a) (hb : Good n b) : sameM a b = (subM a b && subM b a) := by
  cases h : subM a b && subM b a with
  | true =>
    rw [Bool.and_eq_true, subM_iff ha hb, subM_iff hb ha] at h
    have : a = b := good_ext ha hb fun i j _ _ => by
      cases h1 : hasM a (i : Int) (j : Int) with
      | true => exact (h.1 i j h1).symm
      | false =>
        cases h2 : hasM b (i : Int) (j : Int) with
        | true => rw [h.2 i j h2] at h1; cases h1
        | false => rfl
    subst this
    simp [sameM]
  | false =>
    cases h1 : sameM a b with
    | false => rfl
    | true =>
      have : a = b := by simpa [sameM] using h1
      subst this
      rw [(subM_iff ha ha).2 fun _ _ h => h] at h
      cases h
theorem Good.in_has {n : Nat} {a : List (List Nat)} (h : Good n a) (i j : Int) : (inM (n : Int) i j && hasM a i j) = hasM a i j := by
  cases hh : hasM a i j with
  | false => rw [Bool.and_false]
  | true =>
    have h0 : 0 ≤ i := by
      refine Decidable.byContradiction fun hc => ?_
      rw [hasM_out (.inl (by omega))] at hh; cases hh
    obtain ⟨k, rfl⟩ := Int.eq_ofNat_of_zero_le h0
    have h1 : 0 ≤ j := by
      refine Decidable.byContradiction fun hc => ?_
      by_cases hk : k < a.length
      · rw [hasM_in (List.getElem?_eq_getElem hk), hasR_out _ _ (.inl (by omega))] at hh; cases hh
      · rw [hasM_out (.inr (by omega))] at hh; cases hh
    obtain ⟨q, rfl⟩ := Int.eq_ofNat_of_zero_le h1
    obtain ⟨h2, h3⟩ := h.has_lt hh
    rw [Bool.and_true]
    unfold inM; simp; omega
theorem orM_len (a b : List (List Nat)) : (orM a b).length = a.length := by simp [orM]
theorem orM_small {n : Nat} {a b : List (List Nat)} (ha : Good n a) (hb : Good n b) : ∀ r ∈ orM a b, r.length ≤ 64 := by
  intro r hr
  unfold orM at hr
  obtain ⟨i, hi, rfl⟩ := List.mem_map.1 hr
  have h1 : i < n := by rw [← ha.len]; exact List.mem_range.1 hi
  obtain ⟨r, hr, _, _⟩ := ha.at_ h1
  obtain ⟨s, hs, _, _⟩ := hb.at_ h1
  rw [getD_at hr, getD_at hs, orR_len]
  have := ha.small r (List.mem_of_getElem? hr)
  have := hb.small s (List.mem_of_getElem? hs)
  omega
theorem Good.same_len {n : Nat} {a b : List (List Nat)} (ha : Good n a) (hb : Good n b) : ∀ (i : Nat) (xs ys : List Nat), a[i]? = some xs → b[i]? = some ys → xs.length = ys.length ∧ xs.length ≤ 1024 := fun i xs ys h1 h2 => by
  have k1 := ha.row xs (List.mem_of_getElem? h1)
  have k2 := hb.row ys (List.mem_of_getElem? h2)
  have k3 := ha.small xs (List.mem_of_getElem? h1)
  exact ⟨by rw [k1.2.2.1, k2.2.2.1], by omega⟩
theorem equalM_self' (N : Int) (xss : List (List Nat)) : equalM N N xss xss = true := by simp [equalM, sameM]

end Go.Proofs.Ytkikoniihmieiaa

namespace Go.Proofs.Ytkikoniihmieiaa
open Go.RowKit
set_option linter.unusedVariables false

/-- block g is a variable that holds the matrix of N and xss -/
def MatK (w : World) (g : Nat) (t : TypeId) (N : Int) (A : Option Addr) (n c : Nat) (xss : List (List Nat)) : Prop := MatB w g t N A n c ∧ RowsAt w A n xss
section
variable {w w' : World} {g : Nat} {t : TypeId} {N : Int} {A : Option Addr} {n c : Nat} {xss : List (List Nat)}
theorem MatB.below (h : MatB w g t N A n c) (hb : Below w.heap.size w w') : MatB w' g t N A n c := h.below_ hb
theorem MatK.below (h : MatK w g t N A n c xss) (hb : Below w.heap.size w w') : MatK w' g t N A n c xss := ⟨h.1.below_ hb, h.2.below hb⟩
theorem MatK.new (w : World) (t : TypeId) (hr : RowsAt w A n xss) : MatK (w.alloc (.cells #[.int .i64 N, .slice A n c] t)) w.heap.size t N A n c xss := ⟨MatB.new w t, hr.below ((Below.refl _ _).alloc (Nat.le_refl _) _)⟩
theorem MatK.put (h : MatB w g t 0 none 0 0) {G : Nat} {t' : TypeId} {M : Int} {B : Option Addr} {m d : Nat} {yss : List (List Nat)} (k : MatK w G t' M B m d yss) (hne : G ≠ g) (hb : 0 < m → ∀ ad, B = some ad → ad.block ≠ g) (x y : Value) : MatK ((w.setCell ⟨g, 0, none⟩ x).setCell ⟨g, 1, none⟩ y) G t' M B m d yss :=
  ⟨(k.1.farB (p := ⟨g, 0, none⟩) (by simpa using hne) _).farB (p := ⟨g, 1, none⟩) (by simpa using hne) _, k.2.putB h hb _ _⟩
theorem MatK.drew (h : MatK w g t N A n c xss) : MatK w.drew g t N A n c xss := ⟨Blk.drew h.1, h.2⟩
theorem below_alloc (w : World) (o : Obj) : Below w.heap.size w (w.alloc o) := (Below.refl _ _).alloc (Nat.le_refl _) _
end

/-- what comes behind several orders, walked once: 'apply cut_three (F := ..)'; the orders first, each ends in 'key'; then the rest -/
theorem cut_three {Goal F : Nat → Nat → World → Prop} {R : Prop} (h1 : (∀ a b c, F a b c → Goal a b c) → R) (h2 : ∀ a b c, F a b c → Goal a b c) : R := h1 h2
theorem cut_five {T1 T2 T3 T4 T5 : Type} {Goal F : T1 → T2 → T3 → T4 → T5 → Prop} {R : Prop} (h1 : (∀ a b c d e, F a b c d e → Goal a b c d e) → R) (h2 : ∀ a b c d e, F a b c d e → Goal a b c d e) : R := h1 h2
theorem cut_seven {T1 T2 T3 T4 T5 T6 T7 : Type} {Goal F : T1 → T2 → T3 → T4 → T5 → T6 → T7 → Prop} {R : Prop} (h1 : (∀ a b c d e f g, F a b c d e f g → Goal a b c d e f g) → R) (h2 : ∀ a b c d e f g, F a b c d e f g → Goal a b c d e f g) : R := h1 h2

theorem RowsAt.farM {w : World} {C : Option Addr} {n G : Nat} {t : TypeId} {xss : List (List Nat)} (h : RowsAt w C n xss) (hM : MatB w G t 0 none 0 0) (h1 : ∀ r ∈ xss, r.length = 1) : 0 < n → ∀ ad, C = some ad → ad.block ≠ G := by
  intro h0 ad e hb
  obtain ⟨b, off, B, m, c, xs, e2, _, hx, hc, hr⟩ := h.at_ h0
  rw [e] at e2
  cases e2
  have hb' : b = G := hb
  subst hb'
  have hxl := h1 xs (List.mem_of_getElem? hx)
  have hrl := hr.len
  rw [Blk.cell hM] at hc
  match off + 0, hc with
  | 0, hc => simp at hc
  | 1, hc =>
    simp at hc
    omega
  | k + 2, hc => simp at hc

end Go.Proofs.Ytkikoniihmieiaa
