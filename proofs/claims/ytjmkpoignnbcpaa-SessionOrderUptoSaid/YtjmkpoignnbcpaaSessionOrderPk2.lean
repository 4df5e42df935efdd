/- Plain mathematics of layer 9: a history comes back of its facts, but for empty sessions at its end. Nothing of the program is named. Plain mathematics of layer 9: each item stands where its operation does, and says the same. Nothing of the program is named. Plain mathematics of words of 64 bits: counts of bits, the lowest bit, sums of neighbouring fields. No Go is named here but the model's integer kinds. Contracts of package word. Contracts of the document's own answers for words (package eyewitnessref01). Plain mathematics of rows of words. Contracts of package row. Contracts of package row: clone, Set. Contracts of package row: Or, Sub, Same, Count. Contracts of package row: List. Contracts of the document's own answers for rows (package eyewitnessref02). Contracts of the document's own answers for rows: Sub, Set, Or. Contracts of the document's own answers for rows: Set. Plain facts of rows: what the statements of layer 2 say of them. Plain mathematics of square matrices of bits. Nothing of the program is imported. Plain mathematics of layer 12: what stands ahead within a session. Nothing of the program is named. Facts in a variable (FBox), as the document's answers of layers 10 and on box them. Plain mathematics of layer 10: writes of values, differentiated facts. Nothing of the program is named. -/
import Derived.Test.YtjmkpoignnbcpaaSessionOrderPk1
import Derived.WalkKit
import Derived.Test.YtjmkpoignnbcpaaRows
import Derived.WalkSpells
import Derived.WalkLawsBesides
import Derived.Deep.DeepCutAuto
import Derived.Laws.BitsAllLaws
import Derived.Lib.Hide
import Derived.Deep.QuietTactic
import Derived.BigQuiet
import Derived.StillTailTactics
import Derived.Deep.RegionWith
import Derived.Deep.RegionHeld3
import Derived.BigRegion
import Derived.Deep.DrawnRows
import Derived.Laws.AppendOwnNone
import Derived.OpenShut
import Derived.Test.YtjmkpoignnbcpaaProg
namespace Go.Proofs.Ytjmkpoignnbcpaa
set_option linter.unusedVariables false

/-- a history without the empty sessions at its end -/
def trimH (hs : List (List OpT)) : List (List OpT) := (hs.reverse.dropWhile List.isEmpty).reverse
theorem trimH_nil : trimH [] = [] := rfl
theorem trimH_empty (hs : List (List OpT)) : trimH (hs ++ [[]]) = trimH hs := by simp [trimH]
theorem trimH_snoc (hs : List (List OpT)) {os : List OpT} (h : os ≠ []) : trimH (hs ++ [os]) = hs ++ [os] := by
  cases os with
  | nil => exact absurd rfl h
  | cons o os => simp [trimH]
theorem trimH_len (hs : List (List OpT)) : (trimH hs).length ≤ hs.length := by
  unfold trimH
  rw [List.length_reverse]
  have := (List.dropWhile_sublist (l := hs.reverse) List.isEmpty).length_le
  rwa [List.length_reverse] at this
theorem trimH_ext (hs : List (List OpT)) : extH (trimH hs) hs.length = hs := by
  induction hs using snoc_ind with
  | h0 => rfl
  | h1 hs os ih =>
    by_cases h : os = []
    · subst h
      rw [trimH_empty, List.length_append]
      unfold extH at ih ⊢
      have hl := trimH_len hs
      rw [show hs.length + [([] : List OpT)].length - (trimH hs).length = (hs.length - (trimH hs).length) + 1 from by simp; omega, List.replicate_succ', ← List.append_assoc, ih]
    · rw [trimH_snoc hs h]; exact extH_done (Nat.le_refl _)
theorem trimH_take (hs : List (List OpT)) : hs.take (trimH hs).length = trimH hs := by
  have h := trimH_ext hs
  unfold extH at h
  have h2 : (trimH hs ++ List.replicate (hs.length - (trimH hs).length) []).take (trimH hs).length = trimH hs := List.take_left' rfl
  rwa [h] at h2
theorem hisF_trim (hs : List (List OpT)) : hisF (trimH hs) = hisF hs := by
  induction hs using snoc_ind with
  | h0 => rfl
  | h1 hs os ih =>
    by_cases h : os = []
    · subst h; rw [trimH_empty, ih, hisF_snoc, sesF_nil]
    · rw [trimH_snoc hs h]
theorem allO_trim (hs : List (List OpT)) : allO (trimH hs) = allO hs := by
  induction hs using snoc_ind with
  | h0 => rfl
  | h1 hs os ih =>
    by_cases h : os = []
    · subst h; rw [trimH_empty, ih, allO_append]; simp [allO]
    · rw [trimH_snoc hs h]
theorem layF_append (vars : List ByteArray) : ∀ (a b : List It) (h : List (List OpT)), layF vars (a ++ b) h = (layF vars a h).bind (layF vars b)
  | [], b, h => rfl
  | x :: a, b, h => by
    cases hok : okX vars x with
    | false => rw [List.cons_append, layF_bad hok, layF_bad hok]; rfl
    | true => rw [List.cons_append, layF_cons hok, layF_cons hok]; exact layF_append vars a b _
/-- one operation, laid -/
theorem layF_one {vars vs : List ByteArray} {r : List ByteArray} {o : OpT} (hv : vars = addV vs o.2.1 ++ r) (se pl : Nat) (h : List (List OpT)) :
    layF vars [⟨se, pl, o.1, findZ (addV vs o.2.1) o.2.1, o.2.2⟩] h = some (putH (extH h (se + 1)) se o) := by
  have hm := addV_mem vs o.2.1
  have h0 := findZ_mem.2 hm
  have h1 := (findZ_range (addV vs o.2.1) o.2.1).2
  have hg := findZ_get h0
  have hlt : (findZ (addV vs o.2.1) o.2.1).toNat < (addV vs o.2.1).length := by omega
  have hok : okX vars ⟨se, pl, o.1, findZ (addV vs o.2.1) o.2.1, o.2.2⟩ = true := by
    unfold okX
    simp only [Bool.and_eq_true, decide_eq_true_eq]
    refine ⟨⟨by omega, h0⟩, ?_⟩
    rw [hv, List.length_append]; omega
  have ho : opX vars ⟨se, pl, o.1, findZ (addV vs o.2.1) o.2.1, o.2.2⟩ = o := by
    unfold opX
    simp only
    rw [List.getD_eq_getElem?_getD, hv, List.getElem?_append_left hlt, hg]
    rfl
  rw [layF_cons hok, ho, layF]
  simp
theorem putH_last (hs : List (List OpT)) (os : List OpT) (o : OpT) : putH (hs ++ [os]) hs.length o = hs ++ [os ++ [o]] := by
  unfold putH
  apply List.ext_getElem?
  intro i
  rw [List.getElem?_modify]
  rcases Nat.lt_trichotomy i hs.length with h | h | h
  · rw [List.getElem?_append_left h, List.getElem?_append_left h]
    have : ¬ hs.length = i := by omega
    simp [this]
  · subst h; simp
  · rw [List.getElem?_eq_none (by simp; omega), List.getElem?_eq_none (by simp; omega)]; rfl
/-- a session's names stand at the front of what follows -/
theorem sesF_front (se : Nat) (os : List OpT) (o : OpT) (st : StF) : ∃ r, (sesF se (os ++ [o]) st).1 = (sesF se os st).1 ++ r := by
  rw [sesF_snoc]
  show ∃ r, addV _ _ = _
  by_cases h : findZ (sesF se os st).1 o.2.1 < 0
  · exact ⟨[o.2.1], addV_new h⟩
  · exact ⟨[], by rw [addV_old h]; simp⟩
theorem sesF_first (se : Nat) (os : List OpT) (st : StF) : ∃ r, (sesF se os st).1 = st.1 ++ r := by
  induction os using snoc_ind with
  | h0 => exact ⟨[], by simp [sesF_nil]⟩
  | h1 os o ih =>
    obtain ⟨r, hr⟩ := ih
    obtain ⟨q, hq⟩ := sesF_front se os o st
    exact ⟨r ++ q, by rw [hq, hr, List.append_assoc]⟩
/-- a session more, laid behind what is laid -/
theorem layF_ses (vars : List ByteArray) (hs : List (List OpT)) (os : List OpT) (st : StF) (g : List (List OpT)) (hg : extH g hs.length = hs) (hgl : g.length ≤ hs.length) (hl : layF vars st.2 [] = some g) :
    (∃ r, vars = (sesF hs.length os st).1 ++ r) → layF vars (sesF hs.length os st).2 [] = some (if os = [] then g else hs ++ [os]) := by
  induction os using snoc_ind with
  | h0 => intro _; rw [sesF_nil, if_pos rfl]; exact hl
  | h1 os o ih =>
    rintro ⟨r, hr⟩
    have ih' := ih (by
      obtain ⟨q, hq⟩ := sesF_front hs.length os o st
      exact ⟨q ++ r, by rw [hr, hq, List.append_assoc]⟩)
    rw [sesF_snoc] at hr ⊢
    show layF vars (_ ++ _) [] = _
    rw [layF_append, ih', if_neg (show ¬ os ++ [o] = [] by simp)]
    show layF vars _ _ = _
    rw [layF_one hr _ _]
    show some (putH _ hs.length o) = _
    by_cases h : os = []
    · subst h
      rw [if_pos rfl]
      have : extH g (hs.length + 1) = hs ++ [[]] := by
        unfold extH at hg ⊢
        rw [show hs.length + 1 - g.length = (hs.length - g.length) + 1 from by omega, List.replicate_succ', ← List.append_assoc, hg]
      show some (putH (extH g (hs.length + 1)) hs.length o) = _
      rw [this, putH_last]
    · rw [if_neg h, extH_done (by simp), putH_last]
theorem hisF_laid (hs : List (List OpT)) : ∀ (vars : List ByteArray), (∃ r, vars = (hisF hs).1 ++ r) → layF vars (hisF hs).2 [] = some (trimH hs) := by
  induction hs using snoc_ind with
  | h0 => intro vars _; rfl
  | h1 hs os ih =>
    rintro vars ⟨r, hr⟩
    have ih' := ih vars (by
      rw [hisF_snoc] at hr
      obtain ⟨q, hq⟩ := sesF_first hs.length os (hisF hs)
      exact ⟨q ++ r, by rw [hr, hq, List.append_assoc]⟩)
    rw [hisF_snoc] at hr ⊢
    rw [layF_ses vars hs os (hisF hs) (trimH hs) (trimH_ext hs) (trimH_len hs) ih' ⟨r, hr⟩]
    by_cases h : os = []
    · subst h; rw [if_pos rfl, trimH_empty]
    · rw [if_neg h, trimH_snoc hs h]
theorem facO_trim (hs : List (List OpT)) : facO (trimH hs) = facO hs := by unfold facO; rw [hisF_trim]
/-- what is asked of a history is asked of its front -/
theorem backF_facO {hs : List (List OpT)} (h0 : rightL hs = true) : backF (facO hs) = some (trimH hs) := by
  have h : rightL (trimH hs) = true := by unfold rightL at h0 ⊢; rw [allO_trim]; exact h0
  unfold backF
  have hl : layF (facO hs).vars (facO hs).items [] = some (trimH hs) := hisF_laid hs _ ⟨[], by simp [facO]⟩
  rw [hl]
  show (if _ then _ else _) = _
  rw [facO_trim, h]
  simp
theorem sesF_nodup (se : Nat) (os : List OpT) (st : StF) (h : st.1.Nodup) : (sesF se os st).1.Nodup := by
  induction os using snoc_ind with
  | h0 => exact h
  | h1 os o ih => rw [sesF_snoc]; exact addV_nodup _ ih
theorem hisF_nodup (hs : List (List OpT)) : (hisF hs).1.Nodup := by
  induction hs using snoc_ind with
  | h0 => exact List.nodup_nil
  | h1 hs os ih => rw [hisF_snoc]; exact sesF_nodup _ _ _ ih
end Go.Proofs.Ytjmkpoignnbcpaa

namespace Go.Proofs.Ytjmkpoignnbcpaa
set_option linter.unusedVariables false

theorem spotN_front : ∀ (hs : List (List OpT)) (os : List OpT) (i : Nat), i < (allO hs).length → spotN (hs ++ [os]) i = spotN hs i
  | [], os, i, h => by simp [allO] at h
  | x :: r, os, i, h => by
    have h' : i < x.length + (allO r).length := by rw [← List.length_append, ← allO_cons]; exact h
    rw [List.cons_append]
    unfold spotN
    by_cases hi : i < x.length
    · rw [if_pos hi, if_pos hi]
    · rw [if_neg hi, if_neg hi, spotN_front r os _ (by omega)]
theorem spotN_last : ∀ (hs : List (List OpT)) (os : List OpT) (i : Nat), i < os.length → spotN (hs ++ [os]) ((allO hs).length + i) = some (hs.length, i)
  | [], os, i, h => by
    show spotN [os] (0 + i) = _
    unfold spotN
    rw [Nat.zero_add, if_pos h]; rfl
  | x :: r, os, i, h => by
    rw [List.cons_append]
    unfold spotN
    have e : (allO (x :: r)).length = x.length + (allO r).length := by rw [allO_cons, List.length_append]
    rw [if_neg (by omega), show (allO (x :: r)).length + i - x.length = (allO r).length + i from by omega, spotN_last r os i h]
    simp
theorem sesF_items (se : Nat) (os : List OpT) (st : StF) : ∃ l, (sesF se os st).2 = st.2 ++ l ∧ l.length = os.length ∧
    ∀ (i : Nat) (o : OpT), os[i]? = some o → ∃ va : Int, l[i]? = some ⟨se, i, o.1, va, o.2.2⟩ ∧ 0 ≤ va ∧ (sesF se os st).1[va.toNat]? = some o.2.1 := by
  induction os using snoc_ind with
  | h0 => exact ⟨[], by simp [sesF_nil], rfl, fun i o h => by simp at h⟩
  | h1 os o ih =>
    obtain ⟨l, h1, h2, h3⟩ := ih
    obtain ⟨q, hq⟩ := sesF_front se os o st
    have e2 : (sesF se (os ++ [o]) st).2 = (sesF se os st).2 ++ [⟨se, os.length, o.1, findZ (addV (sesF se os st).1 o.2.1) o.2.1, o.2.2⟩] := by rw [sesF_snoc]; rfl
    have e1 : (sesF se (os ++ [o]) st).1 = addV (sesF se os st).1 o.2.1 := by rw [sesF_snoc]; rfl
    refine ⟨l ++ [⟨se, os.length, o.1, findZ (addV (sesF se os st).1 o.2.1) o.2.1, o.2.2⟩], by rw [e2, h1, List.append_assoc], by simp [h2], fun i x hx => ?_⟩
    rcases Nat.lt_or_ge i os.length with hlt | hge
    · rw [List.getElem?_append_left hlt] at hx
      obtain ⟨va, g1, g2, g3⟩ := h3 i x hx
      refine ⟨va, by rw [List.getElem?_append_left (by omega)]; exact g1, g2, ?_⟩
      rw [hq, List.getElem?_append_left (List.getElem?_eq_some_iff.1 g3).1]; exact g3
    · have hi : i = os.length := by
        have := (List.getElem?_eq_some_iff.1 hx).1
        simp at this; omega
      subst hi
      simp at hx
      subst hx
      have hm := findZ_mem.2 (addV_mem (sesF se os st).1 o.2.1)
      refine ⟨findZ (addV (sesF se os st).1 o.2.1) o.2.1, by rw [← h2]; simp, hm, ?_⟩
      rw [e1]; exact findZ_get hm
/-- each item stands where its operation does, and says the same -/
theorem hisF_item (hs : List (List OpT)) : ∀ (i : Nat) (o : OpT), (allO hs)[i]? = some o →
    ∃ (s p : Nat) (va : Int), spotN hs i = some (s, p) ∧ (hisF hs).2[i]? = some ⟨s, p, o.1, va, o.2.2⟩ ∧ 0 ≤ va ∧ (hisF hs).1[va.toNat]? = some o.2.1 := by
  induction hs using snoc_ind with
  | h0 => intro i o h; simp [allO] at h
  | h1 hs os ih =>
    intro i o h
    rw [hisF_snoc]
    obtain ⟨l, h1, h2, h3⟩ := sesF_items hs.length os (hisF hs)
    obtain ⟨q, hq⟩ := sesF_first hs.length os (hisF hs)
    have hl := hisF_len hs
    have ho : allO [os] = os := by simp [allO]
    rw [allO_append, ho] at h
    rcases Nat.lt_or_ge i (allO hs).length with hlt | hge
    · rw [List.getElem?_append_left hlt] at h
      obtain ⟨s, p, va, g1, g2, g3, g4⟩ := ih i o h
      refine ⟨s, p, va, by rw [spotN_front hs os i hlt]; exact g1, by rw [h1, List.getElem?_append_left (by omega)]; exact g2, g3, ?_⟩
      rw [hq, List.getElem?_append_left (List.getElem?_eq_some_iff.1 g4).1]; exact g4
    · rw [List.getElem?_append_right hge] at h
      obtain ⟨k, rfl⟩ : ∃ k, i = (allO hs).length + k := ⟨i - (allO hs).length, by omega⟩
      rw [Nat.add_sub_cancel_left] at h
      obtain ⟨va, g1, g2, g3⟩ := h3 k o h
      refine ⟨hs.length, k, va, spotN_last hs os k (List.getElem?_eq_some_iff.1 h).1, ?_, g2, g3⟩
      rw [h1, List.getElem?_append_right (by omega), hl, Nat.add_sub_cancel_left]; exact g1
/-- sessions of items are few -/
theorem hisF_se (hs : List (List OpT)) : ∀ x ∈ (hisF hs).2, 0 ≤ x.se ∧ x.se < hs.length := by
  intro x hx
  obtain ⟨i, hi⟩ := List.getElem?_of_mem hx
  have hlt := (List.getElem?_eq_some_iff.1 hi).1
  rw [hisF_len] at hlt
  obtain ⟨s, p, va, g1, g2, -, -⟩ := hisF_item hs i (allO hs)[i] (List.getElem?_eq_getElem hlt)
  rw [hi] at g2
  injection g2 with g2
  have := (spotN_some hs i s p g1).1
  rw [g2]
  exact ⟨by simp only; omega, by simp only; omega⟩
end Go.Proofs.Ytjmkpoignnbcpaa

namespace Go.Proofs.Ytjmkpoignnbcpaa
open Go.RowKit

/-- how many of the lowest k bits are set -/
def pcF : Nat → Nat → Nat
  | 0, _ => 0
  | k + 1, x => x % 2 + pcF k (x / 2)
/-- the lowest of the lowest k bits that is set; k, if none is -/
def ffF : Nat → Nat → Nat
  | 0, _ => 0
  | k + 1, x => if x % 2 = 1 then 0 else 1 + ffF k (x / 2)
/-- the sum of the lowest n digits of x in base b -/
def dsF (b : Nat) : Nat → Nat → Nat
  | 0, _ => 0
  | n + 1, x => x % b + dsF b n (x / b)
def bitZ (i : Int) : Int := if 0 ≤ i ∧ i < 64 then 2 ^ i.toNat else 0
def hasB (x : Nat) (i : Int) : Bool := decide (0 ≤ i) && x.testBit i.toNat
def lowZ (n : Int) : Int := if n < 0 then 0 else 2 ^ (min n.toNat 64) - 1

theorem pcF_zero (k : Nat) : pcF k 0 = 0 := by induction k with | zero => rfl | succ k ih => simp [pcF, ih]
theorem pcF_le (k x : Nat) : pcF k x ≤ k := by
  induction k generalizing x with
  | zero => simp [pcF]
  | succ k ih => simp only [pcF]; have := ih (x / 2); omega
theorem ffF_le (k x : Nat) : ffF k x ≤ k := by
  induction k generalizing x with
  | zero => simp [ffF]
  | succ k ih => simp only [ffF]; have := ih (x / 2); split <;> omega
theorem pcF_more (k x : Nat) (h : x < 2 ^ k) : pcF (k + 1) x = pcF k x := by
  induction k generalizing x with
  | zero => simp at h; subst h; rfl
  | succ k ih => rw [pcF, ih (x / 2) (by omega), pcF]
/-- one step of counting from the low end -/
theorem pcF_step (k x : Nat) (h : x < 2 ^ k) (_hk : 0 < k) : pcF k x = x % 2 + pcF k (x / 2) := by
  rw [← pcF_more k x h]; rfl
theorem pcF_snoc (k x : Nat) : pcF (k + 1) x = pcF k x + (x.testBit k).toNat := by
  induction k generalizing x with
  | zero => simp [pcF, Nat.testBit_zero]; rcases Nat.mod_two_eq_zero_or_one x with h | h <;> simp [h]
  | succ k ih => rw [pcF, ih, pcF, Nat.testBit_succ]; omega
theorem ffF_none (k x : Nat) : ffF k x = k ↔ x % 2 ^ k = 0 := by
  induction k generalizing x with
  | zero => simp [ffF, Nat.mod_one]
  | succ k ih =>
    have e : x % 2 ^ (k + 1) = x % 2 + 2 * (x / 2 % 2 ^ k) := by
      rw [Nat.pow_succ, Nat.mul_comm, Nat.mod_mul]
    rw [ffF]; have := ih (x / 2); split <;> omega
theorem ffF_bit (k x : Nat) (h : ffF k x < k) : x.testBit (ffF k x) = true := by
  induction k generalizing x with
  | zero => omega
  | succ k ih =>
    rw [ffF] at h ⊢
    split at h
    · rename_i h1; rw [if_pos h1, Nat.testBit_zero]; simp [h1]
    · rename_i h1; rw [if_neg h1, Nat.add_comm 1, Nat.testBit_succ]; exact ih _ (by omega)
theorem ffF_low (k x : Nat) : x % 2 ^ (ffF k x) = 0 := by
  induction k generalizing x with
  | zero => simp [ffF, Nat.mod_one]
  | succ k ih =>
    rw [ffF]
    split
    · simp [Nat.mod_one]
    · rename_i h1
      have e : x % 2 ^ (ffF k (x / 2) + 1) = x % 2 + 2 * (x / 2 % 2 ^ (ffF k (x / 2))) := by
        rw [Nat.pow_succ, Nat.mul_comm, Nat.mod_mul]
      rw [Nat.add_comm 1, e, ih]; omega
theorem ffF_before (k x j : Nat) (h : j < ffF k x) : x.testBit j = false := by
  have h0 := ffF_low k x
  have e : (x % 2 ^ (ffF k x)).testBit j = (decide (j < ffF k x) && x.testBit j) := Nat.testBit_mod_two_pow _ _ _
  rw [h0] at e; simpa [h] using e.symm

/-! ### 'and' by halves -/
theorem and_cut (k x y : Nat) : x &&& y = 2 ^ k * (x / 2 ^ k &&& y / 2 ^ k) + (x % 2 ^ k &&& y % 2 ^ k) := by
  have h1 : (x &&& y) / 2 ^ k = x / 2 ^ k &&& y / 2 ^ k := Nat.and_div_two_pow
  have h2 : (x &&& y) % 2 ^ k = x % 2 ^ k &&& y % 2 ^ k := Nat.and_mod_two_pow
  rw [← h1, ← h2]; exact (Nat.div_add_mod _ _).symm
theorem and_bits (a b c d : Nat) (hb : b < 2) (hd : d < 2) : (2 * a + b) &&& (2 * c + d) = 2 * (a &&& c) + (b &&& d) := by
  rw [and_cut 1]; simp only [Nat.pow_one]
  rw [show (2 * a + b) / 2 = a from by omega, show (2 * c + d) / 2 = c from by omega, show (2 * a + b) % 2 = b from by omega, show (2 * c + d) % 2 = d from by omega]

theorem and_comp (k v : Nat) (h : v < 2 ^ k) : v &&& (2 ^ k - 1 - v) = 0 := by
  apply Nat.eq_of_testBit_eq; intro i
  rw [Nat.testBit_and, show 2 ^ k - 1 - v = 2 ^ k - (v + 1) from by omega, Nat.testBit_two_pow_sub_succ h]
  cases v.testBit i <;> simp

theorem low_bits (k w : Nat) (h : w < 2 ^ k) : ((w + (2 ^ k - 1)) % 2 ^ k) &&& (2 ^ k - 1 - w) = 2 ^ (ffF k w) - 1 := by
  induction k generalizing w with
  | zero => simp [ffF]
  | succ k ih =>
    have hp : 2 ^ (k + 1) = 2 * 2 ^ k := by rw [Nat.pow_succ]; omega
    have hpos : 0 < 2 ^ k := Nat.two_pow_pos k
    rw [ffF]
    by_cases h1 : w % 2 = 1
    · rw [if_pos h1]
      obtain ⟨v, rfl⟩ : ∃ v, w = 2 * v + 1 := ⟨w / 2, by omega⟩
      have hv : v < 2 ^ k := by omega
      have e1 : (2 * v + 1 + (2 ^ (k + 1) - 1)) % 2 ^ (k + 1) = 2 * v + 0 := by
        rw [show 2 * v + 1 + (2 ^ (k + 1) - 1) = 2 * v + 2 ^ (k + 1) from by omega, Nat.add_mod_right, Nat.mod_eq_of_lt (by omega)]; rfl
      have e2 : 2 ^ (k + 1) - 1 - (2 * v + 1) = 2 * (2 ^ k - 1 - v) + 0 := by omega
      rw [e1, e2, and_bits _ _ _ _ (by omega) (by omega), and_comp k v hv]; rfl
    · rw [if_neg h1]
      obtain ⟨v, rfl⟩ : ∃ v, w = 2 * v := ⟨w / 2, by omega⟩
      have hv : v < 2 ^ k := by omega
      have ev : 2 * v / 2 = v := by omega
      have e1 : (2 * v + (2 ^ (k + 1) - 1)) % 2 ^ (k + 1) = 2 * ((v + (2 ^ k - 1)) % 2 ^ k) + 1 := by
        by_cases hz : v = 0
        · subst hz; rw [Nat.mod_eq_of_lt (by omega), Nat.mod_eq_of_lt (by omega)]; omega
        · rw [show 2 * v + (2 ^ (k + 1) - 1) = (2 * v - 1) + 2 ^ (k + 1) from by omega, Nat.add_mod_right, Nat.mod_eq_of_lt (by omega),
            show v + (2 ^ k - 1) = (v - 1) + 2 ^ k from by omega, Nat.add_mod_right, Nat.mod_eq_of_lt (by omega)]; omega
      have e2 : 2 ^ (k + 1) - 1 - 2 * v = 2 * (2 ^ k - 1 - v) + 1 := by omega
      rw [e1, e2, and_bits _ _ _ _ (by omega) (by omega), ih v hv, ev, Nat.add_comm 1, Nat.pow_succ]
      have := Nat.two_pow_pos (ffF k v)
      simp; omega

theorem pcF_ones (k n : Nat) (h : n ≤ k) : pcF k (2 ^ n - 1) = n := by
  induction k generalizing n with
  | zero => obtain rfl : n = 0 := by omega
            rfl
  | succ k ih =>
    cases n with
    | zero => simp [pcF_zero]
    | succ n =>
      have := Nat.two_pow_pos n
      have e : 2 ^ (n + 1) = 2 * 2 ^ n := by rw [Nat.pow_succ]; omega
      rw [pcF, show (2 ^ (n + 1) - 1) / 2 = 2 ^ n - 1 from by omega, ih n (by omega), show (2 ^ (n + 1) - 1) % 2 = 1 from by omega]; omega

/-! ### sums of neighbouring fields -/
/-- the mask of n fields of 2m bits, the lower half of each set -/
def maskF (m : Nat) : Nat → Nat
  | 0 => 0
  | n + 1 => 2 ^ (2 * m) * maskF m n + (2 ^ m - 1)
theorem mask_and (m n x : Nat) : x &&& maskF m (n + 1) = 2 ^ (2 * m) * (x / 2 ^ (2 * m) &&& maskF m n) + x % 2 ^ m := by
  have hm : 2 ^ m ≤ 2 ^ (2 * m) := Nat.pow_le_pow_right (by omega) (by omega)
  have hp := Nat.two_pow_pos m
  rw [maskF, and_cut (2 * m)]
  have e1 : (2 ^ (2 * m) * maskF m n + (2 ^ m - 1)) / 2 ^ (2 * m) = maskF m n := by
    rw [Nat.mul_add_div (by omega), Nat.div_eq_of_lt (by omega)]; rfl
  have e2 : (2 ^ (2 * m) * maskF m n + (2 ^ m - 1)) % 2 ^ (2 * m) = 2 ^ m - 1 := by
    rw [Nat.mul_add_mod, Nat.mod_eq_of_lt (by omega)]
  rw [e1, e2, Nat.and_two_pow_sub_one_eq_mod, Nat.mod_mod_of_dvd _ (Nat.pow_dvd_pow 2 (by omega))]
/-- the sums of the two halves of each of n fields of 2m bits -/
def halvesF (m n x : Nat) : Nat := (x &&& maskF m n) + (x / 2 ^ m &&& maskF m n)
theorem halves_succ (m n x : Nat) : halvesF m (n + 1) x = 2 ^ (2 * m) * halvesF m n (x / 2 ^ (2 * m)) + (x % 2 ^ m + x / 2 ^ m % 2 ^ m) := by
  unfold halvesF
  rw [mask_and, mask_and, Nat.div_div_eq_div_mul, Nat.div_div_eq_div_mul, Nat.mul_comm (2 ^ m) (2 ^ (2 * m)), Nat.mul_add]
  omega
theorem dsF_halves (m n x : Nat) (hm : 0 < m) : dsF (2 ^ (2 * m)) n (halvesF m n x) = dsF (2 ^ m) (2 * n) x := by
  induction n generalizing x with
  | zero => rfl
  | succ n ih =>
    have h2 : 2 ^ (2 * m) = 2 ^ m * 2 ^ m := by rw [← Nat.pow_add]; congr 1; omega
    have hlo : 2 * 2 ^ m ≤ 2 ^ m * 2 ^ m := Nat.mul_le_mul_right _ (by
      have := Nat.pow_le_pow_right (n := 2) (by omega) hm; simpa using this)
    have l1 := Nat.mod_lt x (Nat.two_pow_pos m)
    have l2 := Nat.mod_lt (x / 2 ^ m) (Nat.two_pow_pos m)
    have hs : x % 2 ^ m + x / 2 ^ m % 2 ^ m < 2 ^ (2 * m) := by omega
    have d1 : (2 ^ (2 * m) * halvesF m n (x / 2 ^ (2 * m)) + (x % 2 ^ m + x / 2 ^ m % 2 ^ m)) / 2 ^ (2 * m) = halvesF m n (x / 2 ^ (2 * m)) := by
      rw [Nat.mul_add_div (by omega), Nat.div_eq_of_lt hs]; rfl
    have d2 : (2 ^ (2 * m) * halvesF m n (x / 2 ^ (2 * m)) + (x % 2 ^ m + x / 2 ^ m % 2 ^ m)) % 2 ^ (2 * m) = x % 2 ^ m + x / 2 ^ m % 2 ^ m := by
      rw [Nat.mul_add_mod, Nat.mod_eq_of_lt hs]
    rw [halves_succ, dsF, d1, d2, ih, show 2 * (n + 1) = (2 * n + 1) + 1 from by omega, dsF, dsF, Nat.div_div_eq_div_mul, ← h2]
    omega
theorem halves_lt (m n x : Nat) (hm : 0 < m) : halvesF m n x < 2 ^ (2 * m * n) := by
  induction n generalizing x with
  | zero => simp [halvesF, maskF]
  | succ n ih =>
    have h2 : 2 ^ (2 * m) = 2 ^ m * 2 ^ m := by rw [← Nat.pow_add]; congr 1; omega
    have hlo : 2 * 2 ^ m ≤ 2 ^ m * 2 ^ m := Nat.mul_le_mul_right _ (by
      have := Nat.pow_le_pow_right (n := 2) (by omega) hm; simpa using this)
    have l1 := Nat.mod_lt x (Nat.two_pow_pos m)
    have l2 := Nat.mod_lt (x / 2 ^ m) (Nat.two_pow_pos m)
    rw [halves_succ, Nat.mul_succ, Nat.pow_add, Nat.mul_comm (2 ^ (2 * m * n))]
    have hq := ih (x / 2 ^ (2 * m))
    have : 2 ^ (2 * m) * halvesF m n (x / 2 ^ (2 * m)) + 2 ^ (2 * m) ≤ 2 ^ (2 * m) * 2 ^ (2 * m * n) := by
      have := Nat.mul_le_mul_left (2 ^ (2 * m)) (Nat.succ_le_of_lt hq)
      rwa [Nat.mul_succ] at this
    omega
theorem dsF_two (n x : Nat) : dsF 2 n x = pcF n x := by
  induction n generalizing x with
  | zero => rfl
  | succ n ih => rw [dsF, pcF, ih]
theorem dsF_le (b n x : Nat) (hb : 0 < b) : dsF b n x ≤ n * (b - 1) := by
  induction n generalizing x with
  | zero => simp [dsF]
  | succ n ih => rw [dsF, Nat.succ_mul]; have := Nat.mod_lt x hb; have := ih (x / b); omega

/-! ### of 64 bits -/
def pop (x : Nat) : Nat := pcF 64 x
def low0 (x : Nat) : Nat := ffF 64 x
theorem pop_def (x : Nat) : pop x = pcF 64 x := rfl
theorem low0_def (x : Nat) : low0 x = ffF 64 x := rfl
attribute [irreducible] pop low0
theorem pop_le (x : Nat) : pop x ≤ 64 := by rw [pop_def]; exact pcF_le 64 x
theorem low0_le (x : Nat) : low0 x ≤ 64 := by rw [low0_def]; exact ffF_le 64 x
theorem pop_zero : pop 0 = 0 := by rw [pop_def]; exact pcF_zero 64
theorem pop_step (x : Nat) (h : x < 18446744073709551616) : pop x = x % 2 + pop (x / 2) := by
  rw [pop_def, pop_def]; exact pcF_step 64 x h (by omega)
theorem pop_ones (n : Nat) (h : n ≤ 64) : pop (2 ^ n - 1) = n := by rw [pop_def]; exact pcF_ones 64 n h
theorem low0_bit (x : Nat) (h : low0 x < 64) : x.testBit (low0 x) = true := by rw [low0_def] at h ⊢; exact ffF_bit 64 x h
theorem low0_before (x j : Nat) (h : j < low0 x) : x.testBit j = false := by rw [low0_def] at h; exact ffF_before 64 x j h
theorem low0_of (x k : Nat) (hk : k < 64) (h1 : x.testBit k = true) (h0 : ∀ j, j < k → x.testBit j = false) : low0 x = k := by
  have h2 := low0_before x
  rcases Nat.lt_trichotomy (low0 x) k with h | h | h
  · have := h0 _ h; rw [low0_bit x (by omega)] at this; cases this
  · exact h
  · have := h2 k h; rw [h1] at this; cases this
theorem low0_none (x : Nat) (h0 : ∀ j, j < 64 → x.testBit j = false) : low0 x = 64 := by
  have h := low0_le x
  rcases Nat.lt_or_ge (low0 x) 64 with h1 | h1
  · have := h0 _ h1; rw [low0_bit x h1] at this; cases this
  · omega

end Go.Proofs.Ytjmkpoignnbcpaa

namespace Go.Proofs.Ytjmkpoignnbcpaa
open Go.RowKit

theorem ret_u64 {a b : Int} (h : a = b) : Ending.returned (.int .u64 a) = .returned (.int .u64 b) := by rw [h]
theorem ret_i64 {a b : Int} (h : a = b) : Ending.returned (.int .i64 a) = .returned (.int .i64 b) := by rw [h]
theorem ret_bool {a b : Bool} (h : a = b) : Ending.returned (.bool a) = .returned (.bool b) := by rw [h]

theorem shift_min (i : Int) (h1 : -9223372036854775808 ≤ i) (h2 : i < 9223372036854775808) :
    min (IntKind.u64.wrap i).toNat 64 = if 0 ≤ i then min i.toNat 64 else 64 := by
  rw [IntKind.wrap_u64]; split <;> omega
theorem wrap_pow (n : Nat) (h : n ≤ 64) : IntKind.u64.wrap (2 ^ n) = if n < 64 then 2 ^ n else 0 := by
  rw [IntKind.wrap_u64]
  by_cases hn : n < 64
  · rw [if_pos hn]
    have : (2 : Nat) ^ n < 2 ^ 64 := Nat.pow_lt_pow_right (by omega) hn
    have h2 : ((2 ^ n : Nat) : Int) = (2 : Int) ^ n := by simp
    rw [← h2]; generalize 2 ^ n = q at *; omega
  · obtain rfl : n = 64 := by omega
    rfl
theorem bit_eq (i : Int) (h1 : -9223372036854775808 ≤ i) (h2 : i < 9223372036854775808) :
    IntKind.u64.wrap (2 ^ min (IntKind.u64.wrap i).toNat 64) = bitZ i := by
  rw [shift_min i h1 h2, wrap_pow _ (by split <;> omega)]
  unfold bitZ
  by_cases h0 : 0 ≤ i
  · rw [if_pos h0]
    by_cases h3 : i < 64
    · rw [if_pos (by omega), if_pos ⟨h0, h3⟩, show min i.toNat 64 = i.toNat from by omega]
    · rw [if_neg (by omega), if_neg (by omega)]
  · rw [if_neg h0, if_neg (by omega), if_neg (by omega)]

set_option maxHeartbeats 400000 in
theorem word_Bit (i : Int) (h1 : -9223372036854775808 ≤ i) (h2 : i < 9223372036854775808) (w : World) :
    Calls Try.prog 45 #[.int .i64 i] w fun e w' => e = .returned (.int .u64 (bitZ i)) ∧ w = w' := by
  go_enter Try.func45, Try.ntmps45
  go_wp2
  go_ret
  exact ⟨ret_u64 (bit_eq i h1 h2), rfl⟩

theorem has_eq (x : Nat) (hx : x < 18446744073709551616) (i : Int) (h1 : -9223372036854775808 ≤ i) (h2 : i < 9223372036854775808) :
    (bits BinOp.and IntKind.u64 (↑x / 2 ^ min (IntKind.u64.wrap i).toNat 64) 1 == 1) = hasB x i := by
  rw [shift_min i h1 h2]
  generalize hn : (if 0 ≤ i then min i.toNat 64 else 64) = n
  have e : ((x : Int) / 2 ^ n) = ((x / 2 ^ n : Nat) : Int) := by simp
  rw [e, show (1 : Int) = ((1 : Nat) : Int) from rfl, u64_and_nat _ _ (Nat.lt_of_le_of_lt (Nat.div_le_self _ _) hx) (by omega), Nat.and_one_is_mod]
  unfold hasB
  by_cases h0 : 0 ≤ i
  · rw [if_pos h0] at hn
    have ht : x.testBit i.toNat = x.testBit n := by
      by_cases h3 : i.toNat < 64
      · rw [← hn, show min i.toNat 64 = i.toNat from by omega]
      · have hl : ∀ j, 64 ≤ j → x.testBit j = false := fun j hj =>
          Nat.testBit_lt_two_pow (Nat.lt_of_lt_of_le hx (by rw [show (18446744073709551616 : Nat) = 2 ^ 64 from rfl]; exact Nat.pow_le_pow_right (by omega) hj))
        rw [hl _ (by omega), hl n (by omega)]
    rw [ht, Nat.testBit_eq_decide_div_mod_eq]
    simp only [h0, decide_true, Bool.true_and]
    rw [Bool.eq_iff_iff]; simp; omega
  · rw [if_neg h0] at hn
    subst hn
    have : x / 2 ^ 64 = 0 := Nat.div_eq_of_lt hx
    simp [h0, this]


theorem halves_eq (x : Nat) (hx : x < 18446744073709551616) (m n : Nat) (hm : 0 < m) (hn : 2 * m * n = 64) (c d : Int) (hc : c = ((maskF m n : Nat) : Int)) (hl : maskF m n < 18446744073709551616) (hd : d = ((2 ^ m : Nat) : Int)) :
    IntKind.u64.wrap (bits BinOp.and IntKind.u64 (↑x) c + bits BinOp.and IntKind.u64 (↑x / d) c) = ((halvesF m n x : Nat) : Int) := by
  subst hc; subst hd
  rw [show ((x : Int) / ((2 ^ m : Nat) : Int)) = ((x / 2 ^ m : Nat) : Int) from (Int.natCast_ediv _ _).symm]
  rw [u64_and_nat _ _ hx hl, u64_and_nat _ _ (Nat.lt_of_le_of_lt (Nat.div_le_self _ _) hx) hl, ← Int.natCast_add]
  have := halves_lt m n x hm
  rw [hn] at this
  unfold halvesF at this ⊢
  rw [IntKind.wrap_u64]; omega

/-- a number below 2^64 by its eight bytes -/
def by8 (b0 b1 b2 b3 b4 b5 b6 b7 : Nat) : Nat := b0 + 256 * (b1 + 256 * (b2 + 256 * (b3 + 256 * (b4 + 256 * (b5 + 256 * (b6 + 256 * b7))))))
theorem bytes8 (x : Nat) (hx : x < 18446744073709551616) : ∃ b0 b1 b2 b3 b4 b5 b6 b7 : Nat, x = by8 b0 b1 b2 b3 b4 b5 b6 b7 ∧ dsF 256 8 x = b0 + b1 + b2 + b3 + b4 + b5 + b6 + b7 := by
  refine ⟨x % 256, x / 256 % 256, x / 256 / 256 % 256, x / 256 / 256 / 256 % 256, x / 256 / 256 / 256 / 256 % 256, x / 256 / 256 / 256 / 256 / 256 % 256, x / 256 / 256 / 256 / 256 / 256 / 256 % 256, x / 256 / 256 / 256 / 256 / 256 / 256 / 256 % 256, ?_, ?_⟩
  · unfold by8; omega
  · simp only [dsF]; omega
theorem wrap_of (n : Nat) (h : n < 18446744073709551616) : IntKind.u64.wrap (n : Int) = n := by rw [IntKind.wrap_u64]; omega
theorem by8_one (b0 b1 b2 b3 b4 b5 b6 b7 : Nat) (h : b0 + b1 + b2 + b3 + b4 + b5 + b6 + b7 ≤ 64) :
    by8 b0 b1 b2 b3 b4 b5 b6 b7 + by8 b0 b1 b2 b3 b4 b5 b6 b7 / 256 = by8 (b0 + b1) (b1 + b2) (b2 + b3) (b3 + b4) (b4 + b5) (b5 + b6) (b6 + b7) b7 := by unfold by8; omega
theorem by8_two (b0 b1 b2 b3 b4 b5 b6 b7 : Nat) (h0 : b0 < 256) (h1 : b1 < 256) :
    by8 b0 b1 b2 b3 b4 b5 b6 b7 + by8 b0 b1 b2 b3 b4 b5 b6 b7 / 65536 = by8 (b0 + b2) (b1 + b3) (b2 + b4) (b3 + b5) (b4 + b6) (b5 + b7) b6 b7 := by
  have e : by8 b0 b1 b2 b3 b4 b5 b6 b7 / 65536 = b2 + 256 * (b3 + 256 * (b4 + 256 * (b5 + 256 * (b6 + 256 * b7)))) := by unfold by8; omega
  rw [e]; unfold by8; omega
theorem by8_four (b0 b1 b2 b3 b4 b5 b6 b7 : Nat) (h0 : b0 < 256) (h1 : b1 < 256) (h2 : b2 < 256) (h3 : b3 < 256) :
    by8 b0 b1 b2 b3 b4 b5 b6 b7 + by8 b0 b1 b2 b3 b4 b5 b6 b7 / 4294967296 = by8 (b0 + b4) (b1 + b5) (b2 + b6) (b3 + b7) b4 b5 b6 b7 := by
  have e : by8 b0 b1 b2 b3 b4 b5 b6 b7 / 4294967296 = b4 + 256 * (b5 + 256 * (b6 + 256 * b7)) := by unfold by8; omega
  rw [e]; unfold by8; omega
theorem by8_lt (b0 b1 b2 b3 b4 b5 b6 b7 : Nat) (h0 : b0 < 256) (h1 : b1 < 256) (h2 : b2 < 256) (h3 : b3 < 256) (h4 : b4 < 256) (h5 : b5 < 256) (h6 : b6 < 256) (h7 : b7 < 256) :
    by8 b0 b1 b2 b3 b4 b5 b6 b7 < 18446744073709551616 := by unfold by8; omega
/-- one of the three sums at the end, as Go wraps it -/
theorem sum_step (x y d : Nat) (h : x + x / d = y) (hy : y < 18446744073709551616) : IntKind.u64.wrap ((x : Int) + (x : Int) / (d : Int)) = (y : Int) := by
  rw [← Int.natCast_ediv, ← Int.natCast_add, h, wrap_of _ hy]
theorem count_end (x : Nat) (hx : x < 18446744073709551616) (hs : dsF 256 8 x ≤ 64) :
    wrap64 (bits BinOp.and IntKind.u64 (IntKind.u64.wrap (IntKind.u64.wrap (IntKind.u64.wrap (x + (x : Int) / 256) + IntKind.u64.wrap (x + (x : Int) / 256) / 65536) + IntKind.u64.wrap (IntKind.u64.wrap (x + (x : Int) / 256) + IntKind.u64.wrap (x + (x : Int) / 256) / 65536) / 4294967296)) 127) = ((dsF 256 8 x : Nat) : Int) := by
  obtain ⟨b0, b1, b2, b3, b4, b5, b6, b7, hb, hd⟩ := bytes8 x hx
  rw [hd] at hs ⊢
  clear hd
  subst hb
  have s1 := sum_step _ _ 256 (by8_one b0 b1 b2 b3 b4 b5 b6 b7 hs) (by8_lt _ _ _ _ _ _ _ _ (by omega) (by omega) (by omega) (by omega) (by omega) (by omega) (by omega) (by omega))
  have s2 := sum_step _ _ 65536 (by8_two (b0 + b1) (b1 + b2) (b2 + b3) (b3 + b4) (b4 + b5) (b5 + b6) (b6 + b7) b7 (by omega) (by omega)) (by8_lt _ _ _ _ _ _ _ _ (by omega) (by omega) (by omega) (by omega) (by omega) (by omega) (by omega) (by omega))
  have s3 := sum_step _ _ 4294967296 (by8_four (b0 + b1 + (b2 + b3)) (b1 + b2 + (b3 + b4)) (b2 + b3 + (b4 + b5)) (b3 + b4 + (b5 + b6)) (b4 + b5 + (b6 + b7)) (b5 + b6 + b7) (b6 + b7) b7 (by omega) (by omega) (by omega) (by omega)) (by8_lt _ _ _ _ _ _ _ _ (by omega) (by omega) (by omega) (by omega) (by omega) (by omega) (by omega) (by omega))
  simp only [Int.cast_ofNat_Int] at s1 s2 s3
  rw [s1, s2, s3, show (127 : Int) = ((127 : Nat) : Int) from rfl, u64_and_nat _ _ (by8_lt _ _ _ _ _ _ _ _ (by omega) (by omega) (by omega) (by omega) (by omega) (by omega) (by omega) (by omega)) (by omega), show (127 : Nat) = 2 ^ 7 - 1 from rfl, Nat.and_two_pow_sub_one_eq_mod]
  have hm : ∀ a y : Nat, a ≤ 64 → (a + 256 * y) % 2 ^ 7 = a := by omega
  unfold by8
  rw [hm _ _ (by omega)]
  rw [IntWalk.wrap64_in _ (by omega)]; omega

theorem count_all (x : Nat) : dsF 256 8 (halvesF 4 8 (halvesF 2 16 (halvesF 1 32 x))) = pcF 64 x := by
  have h1 := dsF_halves 1 32 x (by omega)
  have h2 := dsF_halves 2 16 (halvesF 1 32 x) (by omega)
  have h3 := dsF_halves 4 8 (halvesF 2 16 (halvesF 1 32 x)) (by omega)
  simp only [Nat.reduceMul, Nat.reducePow] at h1 h2 h3
  rw [h3, h2, h1, dsF_two]


theorem first_eq (x : Nat) (hx : x < 18446744073709551616) :
    bits BinOp.andNot IntKind.u64 (IntKind.u64.wrap (x - 1)) x = ((2 ^ (low0 x) - 1 : Nat) : Int) := by
  have h := low_bits 64 x hx
  rw [← low0_def] at h
  rw [show IntKind.u64.wrap ((x : Int) - 1) = (((x + (2 ^ 64 - 1)) % 2 ^ 64 : Nat) : Int) from by rw [IntKind.wrap_u64]; omega]
  rw [u64_andNot_nat _ _ (by omega) hx]
  rw [show (18446744073709551615 - x) = 2 ^ 64 - 1 - x from rfl, h]


theorem low_eq (n : Int) (h0 : 0 ≤ n) : IntKind.u64.wrap (IntKind.u64.wrap (2 ^ min n.toNat 64) - 1) = lowZ n := by
  rw [wrap_pow _ (by omega)]
  unfold lowZ
  rw [if_neg (show ¬ n < 0 by omega)]
  by_cases h : min n.toNat 64 < 64
  · rw [if_pos h]
    have : (2 : Nat) ^ (min n.toNat 64) < 2 ^ 64 := Nat.pow_lt_pow_right (by omega) h
    have hp := Nat.two_pow_pos (min n.toNat 64)
    have e : ((2 ^ (min n.toNat 64) : Nat) : Int) = (2 : Int) ^ (min n.toNat 64) := by simp
    rw [← e, IntKind.wrap_u64]; generalize 2 ^ (min n.toNat 64) = q at *; omega
  · rw [if_neg h, show min n.toNat 64 = 64 from by omega]; rfl


end Go.Proofs.Ytjmkpoignnbcpaa

namespace Go.Proofs.Ytjmkpoignnbcpaa
open Go.RowKit

def p2 (k : Nat) : Nat := 2 ^ k
theorem p2_succ (k : Nat) : p2 (k + 1) = p2 k * 2 := by unfold p2; exact Nat.pow_succ 2 k
theorem p2_lt (k : Nat) (h : k < 64) : p2 k ≤ 9223372036854775808 := by
  have : 2 ^ k ≤ 2 ^ 63 := Nat.pow_le_pow_right (by omega) (by omega)
  exact this
theorem p2_lt63 (k : Nat) (h : k < 63) : p2 k ≤ 4611686018427387904 := by
  have : 2 ^ k ≤ 2 ^ 62 := Nat.pow_le_pow_right (by omega) (by omega)
  exact this
theorem p2_pos (k : Nat) : 0 < p2 k := Nat.two_pow_pos k
theorem bitZ_p2 (i : Int) (h0 : 0 ≤ i) (h1 : i < 64) : bitZ i = (p2 i.toNat : Nat) := by
  unfold bitZ p2; rw [if_pos ⟨h0, h1⟩]; simp
theorem bitZ_out (i : Int) (h : i < 0 ∨ 64 ≤ i) : bitZ i = 0 := by
  unfold bitZ; rw [if_neg (by omega)]

set_option maxHeartbeats 400000 in
theorem ref_Bit (i : Int) (h1 : -9223372036854775808 ≤ i) (h2 : i < 9223372036854775808) (w : World) :
    Calls Try.prog 46 #[.int .i64 i] w fun e w' => e = .returned (.int .u64 (bitZ i)) ∧ w = w' := by
  by_cases h0 : i < 0
  · have H := Lib.hid (bitZ_out i (by omega))
    go_enter Try.func46, Try.ntmps46
    go_wp2
    go_ret
    rw [H.out]; exact ⟨rfl, rfl⟩
  by_cases h3 : 63 < i
  · have H := Lib.hid (bitZ_out i (by omega))
    go_enter Try.func46, Try.ntmps46
    go_wp2
    go_ret
    rw [H.out]; exact ⟨rfl, rfl⟩
  · obtain ⟨m, rfl⟩ := Int.eq_ofNat_of_zero_le (show 0 ≤ i by omega)
    have hm : m ≤ 63 := by omega
    have H := Lib.hid (bitZ_p2 m (by omega) (by omega))
    clear h1 h2
    go_enter Try.func46, Try.ntmps46
    go_wp2
    go_loop [0, 3] (fun i n => ∃ j k : Nat, j + k = m ∧ i = .int .i64 j ∧ n = .int .u64 (p2 k)) (fun i _ => (intOf i).toNat)
    case atStart => exact ⟨m, 0, rfl, rfl, rfl⟩
    case round =>
      obtain ⟨j, k, hjk, rfl, rfl⟩ := hrel
      by_cases hj : 0 < j
      · have hp := p2_lt63 k (by omega)
        have hjm : j ≤ 63 := by omega
        have hs := Lib.hid (p2_succ k)
        have hjk' := Lib.hid hjk
        clear hjk
        go_wp2
        go_round
        case rel => exact ⟨j - 1, k + 1, by have := hjk'.out; omega, by rw [show ((j - 1 : Nat) : Int) = (j : Int) - 1 from by omega], by rw [hs.out]; go_num⟩
        case measure => simp [intOf]; omega
      · obtain rfl : j = 0 := by omega
        have hk : k = m := by omega
        subst hk
        clear hjk
        go_wp2
        go_ret
        rw [H.out]; exact ⟨rfl, rfl⟩

theorem hasB_out (x : Nat) (i : Int) (hx : x < 18446744073709551616) (h : i < 0 ∨ 64 ≤ i) : hasB x i = false := by
  unfold hasB
  rcases h with h | h
  · simp; omega
  · have : x.testBit i.toNat = false :=
      Nat.testBit_lt_two_pow (Nat.lt_of_lt_of_le hx (by rw [show (18446744073709551616 : Nat) = 2 ^ 64 from rfl]; exact Nat.pow_le_pow_right (by omega) (by omega)))
    simp [this]
theorem hasB_in (x k : Nat) : hasB x (k : Int) = ((((x / p2 k) % 2 : Nat) : Int) == 1) := by
  unfold hasB p2
  have h0 : (0 : Int) ≤ k := by omega
  rw [Int.toNat_natCast, Nat.testBit_eq_decide_div_mod_eq, Bool.eq_iff_iff, beq_iff_eq]
  simp only [h0, decide_true, Bool.true_and, decide_eq_true_eq]
  generalize x / 2 ^ k % 2 = r
  omega

set_option maxHeartbeats 400000 in
theorem ref_Has (x : Nat) (hx : x < 18446744073709551616) (i : Int) (h1 : -9223372036854775808 ≤ i) (h2 : i < 9223372036854775808) (w : World) :
    Calls Try.prog 41 #[.int .u64 x, .int .i64 i] w fun e w' => e = .returned (.bool (hasB x i)) ∧ w = w' := by
  by_cases h0 : 0 ≤ i ∧ i < 64
  · obtain ⟨m, rfl⟩ := Int.eq_ofNat_of_zero_le h0.1
    have hb := Lib.hid (bitZ_p2 m (by omega) (by omega))
    have H := Lib.hid (hasB_in x m)
    have hp := p2_lt m (by omega)
    have hp0 := p2_pos m
    have hn : ((p2 m : Nat) : Int) != 0 := by rw [bne_iff_ne]; omega
    have hq0 : 0 ≤ (x : Int) / (p2 m : Nat) := Int.ediv_nonneg (by omega) (by omega)
    have hq1 : (x : Int) / (p2 m : Nat) < 18446744073709551616 := Int.lt_of_le_of_lt (Int.ediv_le_self _ (by omega)) (by omega)
    have hd := Lib.hid (Int.natCast_ediv x (p2 m))
    go_enter Try.func41, Try.ntmps41
    go_wp2_with fail
    refine (ref_Bit _ h1 h2 _).mono ?_
    rintro e w' ⟨rfl, rfl⟩
    rw [hb.out, Int.toNat_natCast]
    go_wp2
    go_ret
    rw [H.out, Int.natCast_emod, hd.out]; exact ⟨rfl, rfl⟩
  · have hb := Lib.hid (bitZ_out i (by omega))
    have H := Lib.hid (hasB_out x i hx (by omega))
    go_enter Try.func41, Try.ntmps41
    go_wp2_with fail
    refine (ref_Bit _ h1 h2 _).mono ?_
    rintro e w' ⟨rfl, rfl⟩
    rw [hb.out]
    go_wp2
    go_ret
    rw [H.out]; exact ⟨rfl, rfl⟩


theorem hasB_nat (x k : Nat) : hasB x (k : Int) = x.testBit k := by
  have h0 : (0 : Int) ≤ k := by omega
  unfold hasB; rw [Int.toNat_natCast]; simp only [h0, decide_true, Bool.true_and]


theorem lowZ_p2 (n : Int) (k : Nat) (hk : k ≤ 64) (h : (k : Int) = n ∨ (k = 64 ∧ 64 ≤ n) ∨ (k = 0 ∧ n ≤ 0)) : lowZ n = ((p2 k - 1 : Nat) : Int) := by
  unfold lowZ p2
  have hp := Nat.two_pow_pos k
  have e : ((2 ^ k : Nat) : Int) = (2 : Int) ^ k := by simp
  by_cases h0 : n < 0
  · rw [if_pos h0]; obtain rfl : k = 0 := by omega
    rfl
  · rw [if_neg h0, show min n.toNat 64 = k from by omega, ← e]; omega


end Go.Proofs.Ytjmkpoignnbcpaa

namespace Go.Proofs.Ytjmkpoignnbcpaa
open Go.RowKit
set_option linter.unusedVariables false

def wordsZ (n : Int) : Int := if n < 0 then 0 else (n + 63) / 64
def inR (n : Nat) (i : Int) : Bool := decide (0 ≤ i) && decide (i < 64 * (n : Int))
/-- is the bit i set? -/
def hasR (xs : List Nat) (i : Int) : Bool := decide (0 ≤ i) && (xs.getD (i.toNat / 64) 0).testBit (i.toNat % 64)
/-- with the bit i -/
def setR (xs : List Nat) (i : Int) : List Nat := if inR xs.length i then xs.set (i.toNat / 64) (xs.getD (i.toNat / 64) 0 ||| 2 ^ (i.toNat % 64)) else xs
/-- both together -/
def orR (a b : List Nat) : List Nat := (List.range (max a.length b.length)).map fun j => a.getD j 0 ||| b.getD j 0
def subR (a b : List Nat) : Bool := (List.range a.length).all fun j => a.getD j 0 &&& b.getD j 0 == a.getD j 0
def countR (xs : List Nat) : Nat := (xs.map pop).sum
def listN (xs : List Nat) : List Nat := (List.range (64 * xs.length)).filter fun i : Nat => hasR xs (i : Int)
def listR (xs : List Nat) : List Int := (listN xs).map Int.ofNat
def sameR (a b : List Nat) : Bool := a == b

theorem ofInt_i64 (a : Nat) (ha : a < 9223372036854775808) : (BitVec.ofInt 64 (a : Int)).toNat = a := by
  rw [BitVec.ofInt_natCast, BitVec.toNat_ofNat]; exact Nat.mod_eq_of_lt (by omega)
theorem i64_and_nat (a b : Nat) (ha : a < 9223372036854775808) (hb : b < 9223372036854775808) : bits .and .i64 (a : Int) (b : Int) = ((a &&& b : Nat) : Int) := by
  have hx : a &&& b < 2 ^ 63 := Nat.and_lt_two_pow _ (by omega)
  show IntKind.i64.wrap ((BitVec.ofInt 64 (a : Int) &&& BitVec.ofInt 64 (b : Int)).toNat : Int) = _
  rw [BitVec.toNat_and, ofInt_i64 a ha, ofInt_i64 b hb, IntKind.wrap_i64]
  omega
theorem i64_and_63 (a : Nat) (ha : a < 9223372036854775808) : bits .and .i64 (a : Int) 63 = ((a % 64 : Nat) : Int) := by
  rw [show (63 : Int) = ((63 : Nat) : Int) from rfl, i64_and_nat a 63 ha (by omega), show (63 : Nat) = 2 ^ 6 - 1 from rfl, Nat.and_two_pow_sub_one_eq_mod]

theorem inR_out (n : Nat) (i : Int) (h : i < 0 ∨ 64 * (n : Int) ≤ i) : inR n i = false := by
  unfold inR; rcases h with h | h
  · rw [decide_eq_false (by omega)]; rfl
  · rw [decide_eq_false (p := i < _) (by omega), Bool.and_false]
theorem inR_in (n m : Nat) (h : m < 64 * n) : inR n (m : Int) = true := by
  unfold inR; rw [decide_eq_true (by omega), decide_eq_true (by omega)]; rfl
theorem hasR_out (xs : List Nat) (i : Int) (h : i < 0 ∨ 64 * (xs.length : Int) ≤ i) : hasR xs i = false := by
  unfold hasR
  rcases h with h | h
  · rw [decide_eq_false (by omega)]; rfl
  · rw [List.getD_eq_getElem?_getD, List.getElem?_eq_none (by omega)]; simp
theorem hasR_in (xs : List Nat) (m x : Nat) (h : xs[m / 64]? = some x) : hasR xs (m : Int) = hasB x ((m % 64 : Nat) : Int) := by
  unfold hasR hasB
  rw [Int.toNat_natCast, Int.toNat_natCast, Row.get h, decide_eq_true (by omega), decide_eq_true (by omega)]

/-! ### both together -/
theorem map_range_set {α : Type} (n k : Nat) (f : Nat → α) (v : α) : ((List.range n).map f).set k v = (List.range n).map fun j => if j = k then v else f j := by
  apply List.ext_getElem?; intro j
  rw [List.getElem?_set]
  simp only [List.getElem?_map, List.length_map, List.length_range]
  by_cases hj : j < n
  · rw [List.getElem?_range hj]
    by_cases hk : k = j
    · subst hk; simp [hj]
    · rw [if_neg hk]; simp [Ne.symm hk]
  · rw [List.getElem?_eq_none (by simpa using hj)]
    by_cases hk : k = j
    · subst hk; simp [hj]
    · rw [if_neg hk]; rfl
/-- the longer one a, or'ed with the first k words of b -/
def orK (a b : List Nat) (k : Nat) : List Nat := (List.range a.length).map fun j => if j < k then a.getD j 0 ||| b.getD j 0 else a.getD j 0
theorem orK_zero (a b : List Nat) : orK a b 0 = a := by
  unfold orK; apply List.ext_getElem?; intro j
  simp only [List.getElem?_map]
  by_cases hj : j < a.length
  · rw [List.getElem?_range hj]; simp [List.getD_eq_getElem?_getD, List.getElem?_eq_getElem hj]
  · rw [List.getElem?_eq_none (by simpa using hj), List.getElem?_eq_none (by omega)]; rfl
theorem orK_len (a b : List Nat) (k : Nat) : (orK a b k).length = a.length := by simp [orK]
theorem orK_get (a b : List Nat) (k : Nat) (h : k < a.length) : (orK a b k)[k]? = some (a.getD k 0) := by
  unfold orK; rw [List.getElem?_map, List.getElem?_range h]; simp
theorem orK_set (a b : List Nat) (k : Nat) : (orK a b k).set k (a.getD k 0 ||| b.getD k 0) = orK a b (k + 1) := by
  unfold orK; rw [map_range_set]
  apply List.map_congr_left; intro j _
  by_cases hj : j = k
  · subst hj; simp
  · rw [if_neg hj]
    by_cases h2 : j < k
    · rw [if_pos h2, if_pos (by omega)]
    · rw [if_neg h2, if_neg (by omega)]
theorem orK_all (a b : List Nat) (h : b.length ≤ a.length) : orK a b b.length = orR a b := by
  unfold orK orR
  rw [show max a.length b.length = a.length from by omega]
  apply List.map_congr_left; intro j _
  by_cases hj : j < b.length
  · rw [if_pos hj]
  · rw [if_neg hj, List.getD_eq_getElem?_getD (l := b), List.getElem?_eq_none (by omega)]; simp
theorem orR_comm (a b : List Nat) : orR a b = orR b a := by
  unfold orR; rw [Nat.max_comm]
  apply List.map_congr_left; intro j _; exact Nat.or_comm _ _
theorem orK_lt (a b : List Nat) (k : Nat) (ha : ∀ x ∈ a, x < 18446744073709551616) (hb : ∀ x ∈ b, x < 18446744073709551616) : ∀ x ∈ orK a b k, x < 18446744073709551616 := by
  have hd : ∀ (l : List Nat), (∀ x ∈ l, x < 18446744073709551616) → ∀ j, l.getD j 0 < 18446744073709551616 := fun l hl j => by
    rw [List.getD_eq_getElem?_getD]
    cases hx : l[j]? with
    | none => simp
    | some x => simpa using hl x (List.mem_of_getElem? hx)
  intro x hx
  unfold orK at hx
  obtain ⟨j, _, rfl⟩ := List.mem_map.1 hx
  split
  · exact Nat.or_lt_two_pow (n := 64) (hd a ha j) (hd b hb j)
  · exact hd a ha j

/-! ### a part -/
theorem subR_no (a b : List Nat) (k : Nat) (hk : k < a.length) (h : (a.getD k 0 &&& b.getD k 0 == a.getD k 0) = false) : subR a b = false := by
  unfold subR; rw [List.all_eq_false]; exact ⟨k, List.mem_range.2 hk, by rw [h]; simp⟩
theorem subR_yes (a b : List Nat) (h : ∀ k, k < a.length → (a.getD k 0 &&& b.getD k 0 == a.getD k 0) = true) : subR a b = true := by
  unfold subR; rw [List.all_eq_true]; intro k hk; exact h k (List.mem_range.1 hk)
theorem and_not_zero (x y : Nat) (hx : x < 18446744073709551616) (hy : y < 18446744073709551616) : (x &&& (18446744073709551615 - y) == 0) = (x &&& y == x) := by
  have hb : ∀ j, (18446744073709551615 - y).testBit j = (decide (j < 64) && !y.testBit j) := fun j => by
    rw [show 18446744073709551615 - y = 2 ^ 64 - (y + 1) from by omega]; exact Nat.testBit_two_pow_sub_succ hy j
  have hout : ∀ j, 64 ≤ j → x.testBit j = false := fun j hj => Nat.testBit_lt_two_pow (Nat.lt_of_lt_of_le hx (by rw [show (18446744073709551616 : Nat) = 2 ^ 64 from rfl]; exact Nat.pow_le_pow_right (by omega) hj))
  rw [Bool.eq_iff_iff, beq_iff_eq, beq_iff_eq]
  constructor
  · intro h
    apply Nat.eq_of_testBit_eq; intro j
    have hj : (x &&& (18446744073709551615 - y)).testBit j = false := by rw [h, Nat.zero_testBit]
    rw [Nat.testBit_and, hb] at hj
    rw [Nat.testBit_and]
    by_cases h64 : j < 64
    · rw [decide_eq_true h64, Bool.true_and] at hj
      cases hxj : x.testBit j <;> cases hyj : y.testBit j <;> simp_all
    · rw [hout j (by omega)]; rfl
  · intro h
    apply Nat.eq_of_testBit_eq; intro j
    rw [Nat.testBit_and, hb, Nat.zero_testBit]
    have hj : (x &&& y).testBit j = x.testBit j := by rw [h]
    rw [Nat.testBit_and] at hj
    cases hxj : x.testBit j <;> cases hyj : y.testBit j <;> simp_all
theorem getD_out (b : List Nat) (k : Nat) (h : b.length ≤ k) : b.getD k 0 = 0 := by
  rw [List.getD_eq_getElem?_getD, List.getElem?_eq_none h]; rfl

/-! ### counts, sameness -/
theorem countR_le (xs : List Nat) : countR xs ≤ 64 * xs.length := by
  unfold countR
  induction xs with
  | nil => simp
  | cons x xs ih => simp only [List.map_cons, List.sum_cons, List.length_cons]; have := pop_le x; omega
theorem countR_take (xs : List Nat) (k x : Nat) (h : xs[k]? = some x) : countR (xs.take (k + 1)) = countR (xs.take k) + pop x := by
  have hk : k < xs.length := (List.getElem?_eq_some_iff.1 h).1
  rw [List.take_succ_eq_append_getElem hk]
  have : xs[k] = x := (List.getElem?_eq_some_iff.1 h).2
  unfold countR; simp [this]
theorem sameR_no_len (a b : List Nat) (h : a.length ≠ b.length) : sameR a b = false := by
  unfold sameR; rw [beq_eq_false_iff_ne]; rintro rfl; exact h rfl
theorem sameR_no (a b : List Nat) (k x y : Nat) (hx : a[k]? = some x) (hy : b[k]? = some y) (h : x ≠ y) : sameR a b = false := by
  unfold sameR; rw [beq_eq_false_iff_ne]; rintro rfl; rw [hx] at hy; injection hy with hy; exact h hy
theorem sameR_yes (a b : List Nat) (hl : a.length = b.length) (h : ∀ k, k < a.length → a[k]? = b[k]?) : sameR a b = true := by
  unfold sameR; rw [beq_iff_eq]; apply List.ext_getElem?; intro k
  by_cases hk : k < a.length
  · exact h k hk
  · rw [List.getElem?_eq_none (by omega), List.getElem?_eq_none (by omega)]

/-! ### the list of the bits -/
theorem filter_first (n l : Nat) (p q : Nat → Bool) (hl : l < n) (hp : p l = true) (hlow : ∀ j, j < l → p j = false) (hq : ∀ j, j < n → q j = (p j && decide (j ≠ l))) :
    (List.range n).filter p = l :: (List.range n).filter q := by
  induction n with
  | zero => omega
  | succ n ih =>
    rw [List.range_succ, List.filter_append, List.filter_append]
    by_cases h : l < n
    · rw [ih h (fun j hj => hq j (by omega))]
      have : q n = p n := by rw [hq n (by omega), decide_eq_true (by omega), Bool.and_true]
      simp [List.filter_cons, this]
    · obtain rfl : l = n := by omega
      have h1 : (List.range l).filter p = [] := by
        rw [List.filter_eq_nil_iff]; intro j hj; rw [hlow j (List.mem_range.1 hj)]; simp
      have h2 : (List.range l).filter q = [] := by
        rw [List.filter_eq_nil_iff]; intro j hj
        have hj' := List.mem_range.1 hj
        rw [hq j (by omega), hlow j hj']; simp
      have h3 : q l = false := by rw [hq l (by omega)]; simp
      simp [h1, h2, h3, hp]
def bitsOf (x : Nat) : List Nat := (List.range 64).filter fun j => x.testBit j
theorem bitsOf_zero : bitsOf 0 = [] := by
  unfold bitsOf; rw [List.filter_eq_nil_iff]; intro j _; simp
theorem low0_lt (x : Nat) (hx : x < 18446744073709551616) (h0 : x ≠ 0) : low0 x < 64 := by
  rcases Nat.lt_or_ge (low0 x) 64 with h | h
  · exact h
  · exfalso
    have hn := low0_le x
    refine h0 (Nat.eq_of_testBit_eq fun j => ?_)
    rw [Nat.zero_testBit]
    rcases Nat.lt_or_ge j 64 with h' | h'
    · exact low0_before x j (by omega)
    · exact Nat.testBit_lt_two_pow (Nat.lt_of_lt_of_le hx (by rw [show (18446744073709551616 : Nat) = 2 ^ 64 from rfl]; exact Nat.pow_le_pow_right (by omega) h'))
/-- without the bit i -/
def offN (x i : Nat) : Nat := x &&& (18446744073709551615 - p2 i)
theorem offN_lt (x i : Nat) (hx : x < 18446744073709551616) : offN x i < 18446744073709551616 := Nat.lt_of_le_of_lt Nat.and_le_left hx
theorem offN_bit (x i j : Nat) (hi : i < 64) (hj : j < 64) : (offN x i).testBit j = (x.testBit j && decide (j ≠ i)) := by
  unfold offN
  have hp := p2_lt i hi
  rw [Nat.testBit_and, show 18446744073709551615 - p2 i = 2 ^ 64 - (p2 i + 1) from by omega, Nat.testBit_two_pow_sub_succ (by omega)]
  unfold p2
  rw [Nat.testBit_two_pow, decide_eq_true hj, Bool.true_and]
  congr 1
  by_cases h : i = j
  · subst h; simp
  · simp [h, Ne.symm h]
theorem bitsOf_step (x : Nat) (hx : x < 18446744073709551616) (h0 : x ≠ 0) : bitsOf x = low0 x :: bitsOf (offN x (low0 x)) := by
  have hl := low0_lt x hx h0
  exact filter_first 64 (low0 x) _ _ hl (low0_bit x hl) (low0_before x) (fun j hj => offN_bit x (low0 x) j hl hj)
theorem pop_bits (x : Nat) : pop x = (bitsOf x).length := by
  rw [pop_def]; unfold bitsOf
  have : ∀ k, pcF k x = ((List.range k).filter fun j => x.testBit j).length := by
    intro k
    induction k with
    | zero => rfl
    | succ k ih =>
      rw [pcF_snoc, ih, List.range_succ, List.filter_append, List.length_append]
      cases h : x.testBit k <;> simp [h]
  exact this 64
/-- the list of the first k words' bits -/
def listK (xs : List Nat) (k : Nat) : List Nat := (List.range (64 * k)).filter fun i : Nat => hasR xs (i : Int)
theorem hasR_nat (xs : List Nat) (i : Nat) : hasR xs (i : Int) = (xs.getD (i / 64) 0).testBit (i % 64) := by
  unfold hasR; rw [Int.toNat_natCast, decide_eq_true (by omega), Bool.true_and]
theorem listK_succ (xs : List Nat) (k x : Nat) (h : xs[k]? = some x) : listK xs (k + 1) = listK xs k ++ (bitsOf x).map (64 * k + ·) := by
  unfold listK bitsOf
  rw [show 64 * (k + 1) = 64 * k + 64 from by omega, List.range_add, List.filter_append, List.filter_map]
  congr 2
  apply List.filter_congr
  intro j hj
  have := List.mem_range.1 hj
  show hasR xs ((64 * k + j : Nat) : Int) = _
  rw [hasR_nat, show (64 * k + j) / 64 = k from by omega, show (64 * k + j) % 64 = j from by omega, Row.get h]
theorem listK_all (xs : List Nat) : listK xs xs.length = listN xs := rfl
theorem listK_len (xs : List Nat) (k : Nat) : (listK xs k).length ≤ 64 * k := by
  have := List.length_filter_le (fun i : Nat => hasR xs (i : Int)) (List.range (64 * k))
  rwa [List.length_range] at this
theorem listK_lt (xs : List Nat) (k : Nat) : ∀ i ∈ listK xs k, i < 64 * k := fun i hi => by
  have := List.mem_filter.1 hi
  exact List.mem_range.1 this.1
theorem countR_list (xs : List Nat) : countR xs = (listN xs).length := by
  have : ∀ k, k ≤ xs.length → countR (xs.take k) = (listK xs k).length := by
    intro k hk
    induction k with
    | zero => simp [countR, listK]
    | succ k ih =>
      have hx : xs[k]? = some xs[k] := List.getElem?_eq_getElem (by omega)
      rw [countR_take xs k _ hx, listK_succ xs k _ hx, ih (by omega), List.length_append, List.length_map, pop_bits]
  have h := this xs.length (Nat.le_refl _)
  rwa [List.take_length] at h

/-! ### what the plain answers go through -/
def sameI (a b : List Int) : Bool := a == b
theorem sameI_no_len (a b : List Int) (h : a.length ≠ b.length) : sameI a b = false := by
  unfold sameI; rw [beq_eq_false_iff_ne]; rintro rfl; exact h rfl
theorem sameI_no (a b : List Int) (k : Nat) (x y : Int) (hx : a[k]? = some x) (hy : b[k]? = some y) (h : x ≠ y) : sameI a b = false := by
  unfold sameI; rw [beq_eq_false_iff_ne]; rintro rfl; rw [hx] at hy; injection hy with hy; exact h hy
theorem sameI_yes (a b : List Int) (hl : a.length = b.length) (h : ∀ k, k < a.length → a[k]? = b[k]?) : sameI a b = true := by
  unfold sameI; rw [beq_iff_eq]; apply List.ext_getElem?; intro k
  by_cases hk : k < a.length
  · exact h k hk
  · rw [List.getElem?_eq_none (by omega), List.getElem?_eq_none (by omega)]
/-- the bits below p that are set -/
def listP (xs : List Nat) (p : Nat) : List Nat := (List.range p).filter fun i : Nat => hasR xs (i : Int)
theorem listP_yes (xs : List Nat) (p : Nat) (h : hasR xs (p : Int) = true) : listP xs (p + 1) = listP xs p ++ [p] := by
  unfold listP; rw [List.range_succ, List.filter_append]; simp [h]
theorem listP_no (xs : List Nat) (p : Nat) (h : hasR xs (p : Int) = false) : listP xs (p + 1) = listP xs p := by
  unfold listP; rw [List.range_succ, List.filter_append]; simp [h]
theorem listP_len (xs : List Nat) (p : Nat) : (listP xs p).length ≤ p := by
  have := List.length_filter_le (fun i : Nat => hasR xs (i : Int)) (List.range p)
  rwa [List.length_range] at this
theorem listP_lt (xs : List Nat) (p : Nat) : ∀ i ∈ listP xs p, i < p := fun _ hi => List.mem_range.1 (List.mem_filter.1 hi).1
theorem listN_mem (xs : List Nat) (i : Nat) : i ∈ listN xs ↔ i < 64 * xs.length ∧ hasR xs (i : Int) = true := by
  unfold listN; rw [List.mem_filter, List.mem_range]
theorem listR_len (xs : List Nat) : (listR xs).length = countR xs := by rw [countR_list]; unfold listR; exact List.length_map _
/-- a is a part of b just where each bit of a is one of b -/
theorem subR_iff (a b : List Nat) (ha : ∀ x ∈ a, x < 18446744073709551616) : subR a b = true ↔ ∀ i : Nat, hasR a (i : Int) = true → hasR b (i : Int) = true := by
  have hd : ∀ j, a.getD j 0 < 18446744073709551616 := fun j => by
    rw [List.getD_eq_getElem?_getD]
    cases hx : a[j]? with
    | none => simp
    | some x => simpa using ha x (List.mem_of_getElem? hx)
  have hout : ∀ j r, 64 ≤ r → (a.getD j 0).testBit r = false := fun j r hr => Nat.testBit_lt_two_pow (Nat.lt_of_lt_of_le (hd j) (by rw [show (18446744073709551616 : Nat) = 2 ^ 64 from rfl]; exact Nat.pow_le_pow_right (by omega) hr))
  unfold subR
  rw [List.all_eq_true]
  constructor
  · intro h i hi
    rw [hasR_nat] at hi ⊢
    by_cases hk : i / 64 < a.length
    · have := h (i / 64) (List.mem_range.2 hk)
      rw [beq_iff_eq] at this
      rw [← this, Nat.testBit_and] at hi
      simp only [Bool.and_eq_true] at hi; exact hi.2
    · rw [getD_out a _ (by omega), Nat.zero_testBit] at hi; cases hi
  · intro h k _
    rw [beq_iff_eq]
    apply Nat.eq_of_testBit_eq; intro r
    rw [Nat.testBit_and]
    by_cases hr : r < 64
    · have := h (64 * k + r)
      rw [hasR_nat, hasR_nat, show (64 * k + r) / 64 = k from by omega, show (64 * k + r) % 64 = r from by omega] at this
      cases h1 : (a.getD k 0).testBit r with
      | false => rfl
      | true => rw [this h1]; rfl
    · rw [hout k r (by omega)]; rfl
theorem subR_list (a b : List Nat) (ha : ∀ x ∈ a, x < 18446744073709551616) : subR a b = (listN a).all fun i : Nat => hasR b (i : Int) := by
  rw [Bool.eq_iff_iff, subR_iff a b ha, List.all_eq_true]
  constructor
  · intro h i hi; exact h i ((listN_mem a i).1 hi).2
  · intro h i hi
    refine h i ((listN_mem a i).2 ⟨?_, hi⟩)
    rcases Nat.lt_or_ge i (64 * a.length) with h' | h'
    · exact h'
    · rw [hasR_out a i (.inr (by omega))] at hi; cases hi
/-- without the bit: adding it is or'ing it -/
theorem mod_snoc (x k : Nat) : x % 2 ^ (k + 1) = x % 2 ^ k + 2 ^ k * (x.testBit k).toNat := by
  rw [Nat.pow_succ, Nat.mod_mul, Nat.testBit_eq_decide_div_mod_eq]
  rcases Nat.mod_two_eq_zero_or_one (x / 2 ^ k) with h | h <;> simp [h]
theorem add_or (x r : Nat) (h : x.testBit r = false) : x + p2 r = x ||| p2 r := by
  have hm := mod_snoc x r
  rw [h] at hm
  have hlt := Nat.mod_lt x (Nat.two_pow_pos r)
  have hd := Nat.div_add_mod x (2 ^ (r + 1))
  have hdiv : (2 ^ r + x) / 2 ^ (r + 1) = x / 2 ^ (r + 1) := by
    have hp : 2 ^ (r + 1) = 2 * 2 ^ r := by rw [Nat.pow_succ]; omega
    have e : 2 ^ r + x = 2 ^ (r + 1) * (x / 2 ^ (r + 1)) + (2 ^ r + x % 2 ^ (r + 1)) := by omega
    rw [e, Nat.mul_add_div (Nat.two_pow_pos _), Nat.div_eq_of_lt (a := 2 ^ r + x % 2 ^ (r + 1)) (by simp at hm; omega)]; rfl
  unfold p2
  apply Nat.eq_of_testBit_eq; intro j
  rw [Nat.testBit_or, Nat.testBit_two_pow, Nat.add_comm]
  rcases Nat.lt_trichotomy j r with hj | hj | hj
  · rw [Nat.testBit_two_pow_add_gt hj, decide_eq_false (by omega), Bool.or_false]
  · subst hj; rw [Nat.testBit_two_pow_add_eq, h]; simp
  · obtain ⟨d, rfl⟩ : ∃ d, j = d + (r + 1) := ⟨j - (r + 1), by omega⟩
    rw [← Nat.testBit_div_two_pow, hdiv, Nat.testBit_div_two_pow, decide_eq_false (by omega), Bool.or_false]
theorem or_same (x r : Nat) (h : x.testBit r = true) : x ||| p2 r = x := by
  apply Nat.eq_of_testBit_eq; intro j
  rw [Nat.testBit_or]; unfold p2; rw [Nat.testBit_two_pow]
  by_cases hj : r = j
  · subst hj; rw [h]; rfl
  · simp [hj]
/-- the first k words of both together, nothing behind -/
def orP (N k : Nat) (a b : List Nat) : List Nat := (List.range N).map fun j => if j < k then a.getD j 0 ||| b.getD j 0 else 0
theorem orP_zero (N : Nat) (a b : List Nat) : orP N 0 a b = List.replicate N 0 := by
  unfold orP; apply List.ext_getElem (by simp); intro i _ _; simp
theorem orP_set (N k : Nat) (a b : List Nat) : (orP N k a b).set k (a.getD k 0 ||| b.getD k 0) = orP N (k + 1) a b := by
  unfold orP; rw [map_range_set]
  apply List.map_congr_left; intro j _
  by_cases hj : j = k
  · subst hj; simp
  · rw [if_neg hj]
    by_cases h2 : j < k
    · rw [if_pos h2, if_pos (by omega)]
    · rw [if_neg h2, if_neg (by omega)]
theorem orP_all (N : Nat) (a b : List Nat) (h : N = max a.length b.length) : orP N N a b = orR a b := by
  subst h; unfold orP orR
  apply List.map_congr_left; intro j hj
  rw [if_pos (List.mem_range.1 hj)]

end Go.Proofs.Ytjmkpoignnbcpaa

namespace Go.Proofs.Ytjmkpoignnbcpaa
open Go.RowKit
set_option linter.unusedVariables false

theorem info_u64 : (Try.prog.info? 71).map (fun i => (i.zero, i.size, i.bytes)) = some (some (.int .u64 0), 1, 8) := by kernel_rfl
theorem info_int : (Try.prog.info? 3).map (fun i => (i.zero, i.size, i.bytes)) = some (some (.int .i64 0), 1, 8) := by kernel_rfl
theorem mk_u64 (kl kc : IntKind) (n c : Nat) (hnc : n ≤ c) (hc : c ≤ 35184372088832) (W : World) :
    (Instr.makeSlice 61 (.int kl (n : Int)) (.int kc (c : Int))).run Try.prog W = .ok (.slice (some ⟨W.heap.size, 0, none⟩) n c) (W.alloc (.cells (zeros c (.int .u64 0)) 71)) := by
  obtain ⟨i, hi, hz0, hz1, hz2⟩ := info_parts info_u64
  exact run_make_one _ _ i _ Try.underlying61 hi hz0 hz1 rfl kl kc n c hnc (by rw [hz2]; omega) (by omega) W
theorem mk_int (kl kc : IntKind) (n c : Nat) (hnc : n ≤ c) (hc : c ≤ 35184372088832) (W : World) :
    (Instr.makeSlice 28 (.int kl (n : Int)) (.int kc (c : Int))).run Try.prog W = .ok (.slice (some ⟨W.heap.size, 0, none⟩) n c) (W.alloc (.cells (zeros c (.int .i64 0)) 3)) := by
  obtain ⟨i, hi, hz0, hz1, hz2⟩ := info_parts info_int
  exact run_make_one _ _ i _ Try.underlying28 hi hz0 hz1 rfl kl kc n c hnc (by rw [hz2]; omega) (by omega) W

theorem within_eq (n : Nat) (i : Int) (hn : n ≤ 140737488355328) (h1 : -9223372036854775808 ≤ i) (h2 : i < 9223372036854775808) : decide (IntKind.u64.wrap i / 64 < (n : Int)) = inR n i := by
  unfold inR
  rw [IntKind.wrap_u64, Bool.eq_iff_iff]
  simp only [decide_eq_true_eq, Bool.and_eq_true]
  omega
set_option maxHeartbeats 400000 in
theorem row_within (A : Option Addr) (n c : Nat) (i : Int) (hn : n ≤ 140737488355328) (h1 : -9223372036854775808 ≤ i) (h2 : i < 9223372036854775808) (w : World) :
    Calls Try.prog 44 #[.slice A n c, .int .i64 i] w fun e w' => e = .returned (.bool (inR n i)) ∧ w = w' := by
  have H := Lib.hid (within_eq n i hn h1 h2)
  go_enter Try.func44, Try.ntmps44
  go_wp2
  go_ret
  exact ⟨ret_bool H.out, rfl⟩

theorem wordsZ_nat (n : Int) (h0 : 0 ≤ n) : wordsZ n = (n + 63) / 64 := if_neg (by omega)
set_option maxHeartbeats 400000 in
theorem row_Words (n : Int) (h1 : -9223372036854775808 ≤ n) (h2 : n < 9223372036854775808) (w : World) :
    Calls Try.prog 42 #[.int .i64 n] w fun e w' => e = .returned (.int .i64 (wordsZ n)) ∧ w = w' := by
  by_cases h : n < 0
  · have H := Lib.hid (show wordsZ n = 0 from if_pos h)
    go_enter Try.func42, Try.ntmps42
    go_wp2
    go_ret
    rw [H.out]; exact ⟨rfl, rfl⟩
  · have H := Lib.hid (wordsZ_nat n (by omega))
    go_enter Try.func42, Try.ntmps42
    go_wp2
    go_ret
    rw [H.out]; exact ⟨rfl, rfl⟩

/-- how many words, as a number without a sign -/
def wordsN (n : Int) : Nat := (wordsZ n).toNat
theorem wordsZ_N (n : Int) : wordsZ n = (wordsN n : Nat) := by unfold wordsN wordsZ; split <;> omega
theorem wordsN_le (n : Int) (h : n ≤ 1099511627776) : wordsN n ≤ 17179869184 := by unfold wordsN wordsZ; split <;> omega
theorem own_row {w : World} {base g n c : Nat} {xs : List Nat} (h : w.ownsRow base 71 1 (.slice (some ⟨g, 0, none⟩) n c) n (xs.map u64v)) (hx : ∀ x ∈ xs, x < 18446744073709551616) : Row w (some ⟨g, 0, none⟩) n xs := by
  obtain ⟨A, c', hv, hr⟩ := Rd.of_own h
  injection hv with h1 h2 h3
  subst h1
  exact ⟨hr, hx⟩
set_option maxHeartbeats 400000 in
theorem row_NewO (n : Int) (h1 : -9223372036854775808 ≤ n) (h2 : n ≤ 1099511627776) (w : World) :
    Calls Try.prog 37 #[.int .i64 n] w (RetRowO 71 (List.replicate (wordsN n) 0) w) := by
  have hw := Lib.hid (wordsZ_N n)
  have hle := wordsN_le n h2
  have hmk := mk_u64 .i64 .i64 (wordsN n) (wordsN n) (Nat.le_refl _) (by omega)
  go_enter Try.func37, Try.ntmps37
  go_wp2_with fail
  refine (row_Words _ (by omega) (by omega) _).mono ?_; rintro e w' ⟨rfl, rfl⟩
  rw [hw.out]
  go_wp2
  go_ret
  refine own_ret (by simpa [u64v] using own_zeros w (wordsN n) (.int .u64 0) 71 (by unfold maxLen; omega)) (by simp) ((Below.refl _ _).alloc (Nat.le_refl _) _)
theorem row_New (n : Int) (h1 : -9223372036854775808 ≤ n) (h2 : n ≤ 1099511627776) (w : World) :
    Calls Try.prog 37 #[.int .i64 n] w (RetRow (List.replicate (wordsN n) 0) w) := (row_NewO n h1 h2 w).mono fun _ _ h => h.row

end Go.Proofs.Ytjmkpoignnbcpaa

namespace Go.Proofs.Ytjmkpoignnbcpaa
open Go.RowKit
set_option linter.unusedVariables false

theorem replicate_zero_u64 (n : Nat) : List.replicate n (Value.int .u64 0) = (List.replicate n (0 : Nat)).map u64v := by simp [u64v]
theorem splice_all (cur cs : List Value) (h : cs.length = cur.length) : splice cur 0 cs = cs := by
  unfold splice; simp [h]
theorem own_of_heap {w : World} {base g n : Nat} {t : TypeId} {cs : List Value} (hb : base ≤ g) (hn : cs.length = n) (hm : n ≤ maxLen) (h : w.heap[g]? = some (.cells cs.toArray t (0, 0))) :
    w.ownsRow base t 1 (.slice (some ⟨g, 0, none⟩) n n) n cs :=
  ⟨by simpa using hn, .inr ⟨g, n, cs.toArray, rfl, hb, h, Nat.le_refl _, hm, by simpa using hn, by rw [List.take_of_length_le (by simp; omega)]⟩⟩

/-- what a call that answers a new row of its own ends in -/
def RetOwn (n : Nat) (xs : List Nat) (w : World) (e : Ending) (w' : World) : Prop :=
  ∃ g, e = .returned (.slice (some ⟨g, 0, none⟩) n n) ∧ w'.ownsRow w.heap.size 71 1 (.slice (some ⟨g, 0, none⟩) n n) n (xs.map u64v) ∧ Below w.heap.size w w'

set_option maxHeartbeats 400000 in
theorem row_clone (A : Option Addr) (n c : Nat) (xs : List Nat) (w : World) (hr : Row w A n xs) (hn : n ≤ 17592186044416) :
    Calls Try.prog 43 #[.slice A n c] w (RetOwn n xs w) := by
  have hl := Lib.hid hr.len
  have hmk := mk_u64 .i64 .i64 n n (Nat.le_refl _) (by omega)
  obtain ⟨i0, hi, hz0, hz1, hz2⟩ := info_parts info_u64
  have hsz : (Try.prog.info? 71).map (·.size) = some 1 := by rw [hi]; simp [hz1]
  replace hsz := Lib.hid hsz
  replace hi := Lib.hid hi
  replace hz0 := Lib.hid hz0
  replace hz1 := Lib.hid hz1
  replace hz2 := Lib.hid hz2
  have hsrc : 0 < (xs.map u64v).length → some (⟨w.heap.size, 0, none⟩ : Addr) = some ⟨w.heap.size, 0, none⟩ ∧ ∃ ad, A = some ad ∧ ∀ j v, (xs.map u64v)[j]? = some v → (w.alloc (.cells (zeros n (.int .u64 0)) 71)).cell? (ad.add j) = some v := by
    intro hp
    obtain ⟨b, off, e, hb, hc⟩ := hr.1.2 (by have := hr.len; simp at hp; omega)
    refine ⟨rfl, _, e, fun j v hv => ?_⟩
    have h := hc j v hv
    have he : (⟨b, off, none⟩ : Addr).add j = ⟨b, off + j, none⟩ := by unfold Addr.add; split <;> simp_all
    rw [he, World.cell?_alloc_lt w _ _ hb]; exact h
  replace hsrc := Lib.hid hsrc
  clear hr
  go_enter Try.func43, Try.ntmps43
  go_wp2_with (with_reducible refine wpList_copy_splice rfl _ _ _ _ rfl 71 Try.underlying61 hsz.out (some ⟨w.heap.size, 0, none⟩) A n n n c rfl rfl w.heap.size 0 (List.replicate n (.int .u64 0)) 71 (heap_alloc_new _ _) (xs.map u64v) (by simp [hl.out]) hsrc.out (by simp [hl.out]) (by simp [u64v, Value.oneCell']) w.heap.size w ((Below.refl _ _).alloc (Nat.le_refl _) _) (Nat.le_refl _) ?_; intro w1 hg1 hb1)
  go_ret
  refine ⟨_, rfl, own_of_heap (Nat.le_refl _) (by simp [hl.out]) (by unfold maxLen; omega) ?_, hb1⟩
  rw [hg1.out, splice_all _ _ (by simp [hl.out])]

theorem word_BitN (r : Nat) (hr : r < 64) (w : World) : Calls Try.prog 45 #[.int .i64 (r : Int)] w fun e w' => e = .returned (.int .u64 (p2 r : Nat)) ∧ w = w' := by
  have h := word_Bit (r : Int) (by omega) (by omega) w
  rwa [bitZ_p2 (r : Int) (by omega) (by omega), Int.toNat_natCast] at h
theorem setR_in {xs : List Nat} {m x : Nat} (hm : m < 64 * xs.length) (hx : xs[m / 64]? = some x) : setR xs (m : Int) = xs.set (m / 64) (x ||| p2 (m % 64)) := by
  unfold setR p2
  rw [Int.toNat_natCast, if_pos (inR_in _ _ hm), Row.get hx]
theorem setR_out {xs : List Nat} {i : Int} (h : i < 0 ∨ 64 * (xs.length : Int) ≤ i) : setR xs i = xs := by
  unfold setR; rw [inR_out _ _ h]; rfl
theorem or_p2_lt {x r : Nat} (hx : x < 18446744073709551616) (hr : r < 64) : x ||| p2 r < 18446744073709551616 := by
  have := p2_lt r hr
  exact Nat.or_lt_two_pow (n := 64) hx (by omega)
theorem mem_set_lt {xs : List Nat} {k y B : Nat} (h : ∀ x ∈ xs, x < B) (hy : y < B) : ∀ x ∈ xs.set k y, x < B := fun x hx => by
  rcases List.mem_or_eq_of_mem_set hx with h1 | h1
  · exact h x h1
  · rw [h1]; exact hy

set_option maxHeartbeats 400000 in
theorem row_SetO (A : Option Addr) (n c : Nat) (xs : List Nat) (i : Int) (w : World) (hr : Row w A n xs) (hn : n ≤ 17592186044416) (h1 : -9223372036854775808 ≤ i) (h2 : i < 9223372036854775808) :
    Calls Try.prog 38 #[.slice A n c, .int .i64 i] w (RetRowO 71 (setR xs i) w) := by
  have hcl := Lib.hid (row_clone A n c xs w hr hn)
  have hlt := Lib.hid hr.2
  have hl := hr.len
  by_cases h : 0 ≤ i ∧ i < 64 * (n : Int)
  · obtain ⟨m, rfl⟩ := Int.eq_ofNat_of_zero_le h.1
    have hm : m < 64 * n := by omega
    have hI := Lib.hid (inR_in n m hm)
    obtain ⟨x, hx⟩ : ∃ x, xs[m / 64]? = some x := ⟨_, List.getElem?_eq_getElem (by omega)⟩
    have hx64 : x < 18446744073709551616 := hlt.out x (List.mem_of_getElem? hx)
    have hS := setR_in (m := m) (by omega) hx
    obtain ⟨r, hre⟩ : ∃ r, r = m % 64 := ⟨_, rfl⟩
    have hr64 : r < 64 := by omega
    have hA := i64_and_63 m (by omega)
    rw [← hre] at hS hA
    have hE := u64_or_nat x (p2 r) hx64 (by have := p2_lt r hr64; omega)
    have hO := or_p2_lt hx64 hr64
    replace hO := Lib.hid hO
    replace hE := Lib.hid hE
    replace hS := Lib.hid hS
    replace hA := Lib.hid hA
    replace hx := Lib.hid hx
    have hl' := Lib.hid hl
    clear h hl hr hre
    go_enter Try.func38, Try.ntmps38
    go_wp2_with fail
    refine hcl.out.mono ?_; rintro e w1 ⟨g, rfl, hown, hb⟩
    have hc : w1.cell? ⟨g, m / 64, none⟩ = some (.int .u64 (x : Int)) := by
      rw [hown.cellAt _ (by omega), List.getElem?_map, hx.out]; rfl
    have hf := hown.frozenAt (m / 64)
    have hg := (hown.lt g rfl).1
    go_wp2_with fail
    refine (row_within _ n _ m (by omega) (by omega) (by omega) _).mono ?_; rintro e w' ⟨rfl, rfl⟩
    rw [hI.out]
    go_wp2_with fail
    have hA1 : (0 : Int) ≤ (m : Int) / 64 := by omega
    have hA2 : (m : Int) / 64 < (n : Int) := by omega
    have hA3 : ((m : Int) / 64).toNat = m / 64 := by omega
    refine still_tail 10 (by kernel_rfl) (by kernel_rfl) (fun W hW => ?_)
    have hc' : W.cell? ⟨g, m / 64, none⟩ = some (.int .u64 (x : Int)) := by rw [hW.out]; exact hc
    have hf' : W.frozen? ⟨g, m / 64, none⟩ = false := by rw [hW.out]; exact hf
    have hown' : W.ownsRow w.heap.size 71 1 (.slice (some ⟨g, 0, none⟩) n n) n (xs.map u64v) := by rw [hW.out]; exact hown.drew
    have hb' : Below w.heap.size w W := by rw [hW.out]; exact hb.drew
    clear hc hf hb hown
    simp only [List.take_succ_cons, List.take_zero, List.drop_succ_cons, List.drop_zero]
    repeat
      refine @wpStill_step _ _ _ _ _ _ _ ?_
      intro K hK
      go_simp
      refine hK _ ?_
      clear hK K
    refine wpStill_step (fun K hK => ?_)
    go_simp
    rw [hA.out]
    refine ⟨_, still_call (word_BitN _ hr64 _), hK _ ?_⟩
    clear hK K
    repeat
      refine @wpStill_step _ _ _ _ _ _ _ ?_
      intro K hK
      go_simp
      refine hK _ ?_
      clear hK K
    refine wpStill_nil ?_
    go_wp2
    go_ret
    rw [hE.out, hS.out]
    refine own_ret (c := n) ?_ (mem_set_lt hlt.out hO.out) (hb'.setCell hg _)
    rw [List.map_set]
    exact (hown'.stored _ _).1
  · have hI := Lib.hid (inR_out n i (by omega))
    have hS := Lib.hid (setR_out (xs := xs) (i := i) (by omega))
    clear h hl hr
    go_enter Try.func38, Try.ntmps38
    go_wp2_with fail
    refine hcl.out.mono ?_; rintro e w1 ⟨g, rfl, hown, hb⟩
    go_wp2_with fail
    refine (row_within _ n _ i (by omega) (by omega) (by omega) _).mono ?_; rintro e w' ⟨rfl, rfl⟩
    rw [hI.out]
    go_wp2
    go_ret
    rw [hS.out]
    exact own_ret hown hlt.out (hb)
theorem row_Set (A : Option Addr) (n c : Nat) (xs : List Nat) (i : Int) (w : World) (hr : Row w A n xs) (hn : n ≤ 17592186044416) (h1 : -9223372036854775808 ≤ i) (h2 : i < 9223372036854775808) :
    Calls Try.prog 38 #[.slice A n c, .int .i64 i] w (RetRow (setR xs i) w) := (row_SetO A n c xs i w hr hn h1 h2).mono fun _ _ h => h.row

end Go.Proofs.Ytjmkpoignnbcpaa

namespace Go.Proofs.Ytjmkpoignnbcpaa
open Go.RowKit
set_option linter.unusedVariables false

theorem orv (x y : Nat) (hx : x < 18446744073709551616) (hy : y < 18446744073709551616) : bits BinOp.or IntKind.u64 (x : Int) (y : Int) = ((x ||| y : Nat) : Int) := u64_or_nat x y hx hy


theorem andNot_eq (x y : Nat) (hx : x < 18446744073709551616) (hy : y < 18446744073709551616) : bits BinOp.andNot IntKind.u64 (x : Int) (y : Int) = ((x &&& (18446744073709551615 - y) : Nat) : Int) := u64_andNot_nat x y hx hy
theorem andNot_test (x y : Nat) (hx : x < 18446744073709551616) (hy : y < 18446744073709551616) : (bits BinOp.andNot IntKind.u64 (x : Int) (y : Int) != 0) = !(x &&& y == x) := by
  rw [andNot_eq x y hx hy, ← and_not_zero x y hx hy, bne]
  congr 1
  rw [Bool.eq_iff_iff, beq_iff_eq, beq_iff_eq]; omega



end Go.Proofs.Ytjmkpoignnbcpaa

namespace Go.Proofs.Ytjmkpoignnbcpaa
open Go.RowKit
set_option linter.unusedVariables false

/-- the numbers without a sign, as cells -/
def natv (i : Nat) : Value := .int .i64 (i : Int)
theorem natv_ints (l : List Nat) : l.map natv = (l.map Int.ofNat).map i64v := by
  rw [List.map_map]; rfl
theorem own_ints {w : World} {base n : Nat} {e : TypeId} {v : Value} {zs : List Nat} (h : w.ownsRow base e 1 v n (zs.map natv)) (hx : ∀ x ∈ zs, x < 9223372036854775808) : ∃ A c, v = .slice A n c ∧ Ints w A n (zs.map Int.ofNat) := by
  obtain ⟨A, c, hv, hr⟩ := Rd.of_own h
  refine ⟨A, c, hv, by rw [← natv_ints]; exact hr, fun x hx' => ?_⟩
  obtain ⟨i, hi, rfl⟩ := List.mem_map.1 hx'
  have := hx i hi
  show -9223372036854775808 ≤ (i : Int) ∧ (i : Int) < 9223372036854775808
  omega
theorem off_eq (x i : Nat) (hx : x < 18446744073709551616) (hi : i < 64) : bits BinOp.andNot IntKind.u64 (x : Int) (p2 i : Nat) = (offN x i : Nat) := by
  have := p2_lt i hi
  exact u64_andNot_nat x (p2 i) hx (by omega)


end Go.Proofs.Ytjmkpoignnbcpaa

namespace Go.Proofs.Ytjmkpoignnbcpaa
open Go.RowKit
set_option maxRecDepth 100000
set_option linter.unusedVariables false

/-- what a call that only reads ends in -/
def RetQ (v : Value) (w : World) (e : Ending) (w' : World) : Prop := e = .returned v ∧ ∃ k, w' = w.drewN k
theorem RetQ.below {w w' : World} {e : Ending} {v : Value} (h : RetQ v w e w') : Below w.heap.size w w' := by
  obtain ⟨_, k, rfl⟩ := h; exact below_drewN (Below.refl _ _) k

set_option maxHeartbeats 400000 in
theorem ref2_Words (n : Int) (h1 : -9223372036854775808 ≤ n) (h2 : n ≤ 1099511627776) (w : World) :
    Calls Try.prog 33 #[.int .i64 n] w fun e w' => e = .returned (.int .i64 (wordsZ n)) ∧ w = w' := by
  by_cases h : n < 0
  · have H := Lib.hid (show wordsZ n = 0 from if_pos h)
    go_enter Try.func33, Try.ntmps33
    go_wp2
    go_ret
    rw [H.out]; exact ⟨rfl, rfl⟩
  · have H := Lib.hid (wordsZ_nat n (by omega))
    go_enter Try.func33, Try.ntmps33
    go_wp2
    go_ret
    rw [H.out]; exact ⟨rfl, rfl⟩

set_option maxHeartbeats 400000 in
theorem ref2_NewO (n : Int) (h1 : -9223372036854775808 ≤ n) (h2 : n ≤ 1099511627776) (w : World) :
    Calls Try.prog 39 #[.int .i64 n] w (RetRowO 71 (List.replicate (wordsN n) 0) w) := by
  have hw := Lib.hid (wordsZ_N n)
  have hle := wordsN_le n h2
  have hmk := mk_u64 .i64 .i64 (wordsN n) (wordsN n) (Nat.le_refl _) (by omega)
  go_enter Try.func39, Try.ntmps39
  go_wp2_with fail
  refine (ref2_Words _ (by omega) (by omega) _).mono ?_; rintro e w' ⟨rfl, rfl⟩
  rw [hw.out]
  go_wp2
  go_ret
  refine own_ret (by simpa [u64v] using own_zeros w (wordsN n) (.int .u64 0) 71 (by unfold maxLen; omega)) (by simp) ((Below.refl _ _).alloc (Nat.le_refl _) _)
theorem ref2_New (n : Int) (h1 : -9223372036854775808 ≤ n) (h2 : n ≤ 1099511627776) (w : World) :
    Calls Try.prog 39 #[.int .i64 n] w (RetRow (List.replicate (wordsN n) 0) w) := (ref2_NewO n h1 h2 w).mono fun _ _ h => h.row

set_option maxHeartbeats 400000 in
theorem ref2_Has (A : Option Addr) (n c : Nat) (xs : List Nat) (i : Int) (w : World) (hr : Row w A n xs) (hn : n ≤ 1073741824) (h1 : -9223372036854775808 ≤ i) (h2 : i < 9223372036854775808) :
    Calls Try.prog 34 #[.slice A n c, .int .i64 i] w fun e w' => e = .returned (.bool (hasR xs i)) ∧ w = w' := by
  have hl := hr.len
  by_cases h0 : 0 ≤ i
  · by_cases h3 : i < 64 * (n : Int)
    · obtain ⟨m, rfl⟩ := Int.eq_ofNat_of_zero_le h0
      have hm : m < 64 * n := by omega
      obtain ⟨b, off, x, rfl, hb, hx, hx64, hc⟩ := hr.at_ (k := m / 64) (by omega)
      have H := hasR_in xs m x hx
      rw [show ((m % 64 : Nat) : Int) = (m : Int) % 64 from by omega] at H
      replace H := Lib.hid H
      clear hx hr hl
      go_enter Try.func34, Try.ntmps34
      go_wp2_with fail
      refine (ref_Has x hx64 _ (by omega) (by omega) _).mono ?_; rintro e w' ⟨rfl, rfl⟩
      go_wp2
      go_ret
      rw [H.out]; exact ⟨rfl, rfl⟩
    · have H := Lib.hid (hasR_out xs i (by omega))
      clear hl hr
      go_enter Try.func34, Try.ntmps34
      go_wp2
      go_ret
      rw [H.out]; exact ⟨rfl, rfl⟩
  · have H := Lib.hid (hasR_out xs i (by omega))
    clear hl hr
    go_enter Try.func34, Try.ntmps34
    go_wp2
    go_ret
    rw [H.out]; exact ⟨rfl, rfl⟩

set_option maxHeartbeats 400000 in
theorem ref2_Same (A B : Option Addr) (n m c d : Nat) (xs ys : List Nat) (w : World) (hr : Row w A n xs) (hs : Row w B m ys) (hn : n ≤ 17592186044416) (hm : m ≤ 17592186044416) :
    Calls Try.prog 27 #[.slice A n c, .slice B m d] w (RetQ (.bool (sameR xs ys)) w) := by
  have hl := Lib.hid hr.len
  have hl2 := Lib.hid hs.len
  replace hr := Lib.hid hr
  replace hs := Lib.hid hs
  by_cases hnm : n = m
  · subst hnm
    have hne : ((n : Int) != (n : Int)) = false := by simp
    go_enter Try.func27, Try.ntmps27
    go_wp2
    go_loopw [5] (fun i wr => ∃ k q : Nat, k ≤ n ∧ i = .int .i64 k ∧ Hid (∀ j, j < k → xs[j]? = ys[j]?) ∧ wr = w.drewN q) (fun i _ => n - (intOf i).toNat)
    case atStart => exact ⟨0, 0, Nat.zero_le _, rfl, Lib.hid (fun j hj => absurd hj (by omega)), rfl⟩
    case round =>
      obtain ⟨k, q, hk, rfl, hall, rfl⟩ := hrel
      by_cases hlt : k < n
      · obtain ⟨b, off, x, rfl, hbk, hx, hx64, hc⟩ := hr.out.at_ hlt
        obtain ⟨b2, off2, y, rfl, hbk2, hy, hy64, hc2⟩ := hs.out.at_ hlt
        have hk0 : (0 : Int) ≤ (k : Int) := by omega
        have hkn : (k : Int) < (n : Int) := by omega
        by_cases hxy : x = y
        · subst hxy
          have hall' : Hid (∀ j, j < k + 1 → xs[j]? = ys[j]?) := Lib.hid (fun j hj => by
            rcases Nat.lt_succ_iff_lt_or_eq.1 hj with h | h
            · exact hall.out j h
            · rw [h, hx, hy])
          have hne' : ((x : Int) != (x : Int)) = false := by simp
          clear hx hy
          go_wp2
          go_quiet (fail)
          go_wp2
          go_roundw
          case rel => exact ⟨k + 1, _, by omega, by go_num, hall', rfl⟩
          case measure => simp [intOf]; omega
        · have hno := Lib.hid (sameR_no xs ys k x y hx hy hxy)
          have hne' : ((x : Int) != (y : Int)) = true := by rw [bne_iff_ne]; omega
          clear hx hy
          go_wp2
          go_quiet (fail)
          go_wp2
          go_ret
          rw [hno.out]; exact ⟨rfl, _, by rw [World.drewN_drewN]⟩
      · have hyes := Lib.hid (sameR_yes xs ys (by rw [hl.out, hl2.out]) (fun j hj => hall.out j (by rw [hl.out] at hj; omega)))
        go_wp2
        go_ret
        rw [hyes.out]; exact ⟨rfl, _, rfl⟩
  · have hno := Lib.hid (sameR_no_len xs ys (by rw [hl.out, hl2.out]; exact hnm))
    have hne : ((n : Int) != (m : Int)) = true := by rw [bne_iff_ne]; omega
    go_enter Try.func27, Try.ntmps27
    go_wp2
    go_ret
    rw [hno.out]; exact ⟨rfl, 0, rfl⟩

set_option maxHeartbeats 400000 in
theorem ref2_Ints (A B : Option Addr) (n m c d : Nat) (xs ys : List Int) (w : World) (hr : Ints w A n xs) (hs : Ints w B m ys) (hn : n ≤ 17592186044416) (hm : m ≤ 17592186044416) :
    Calls Try.prog 15 #[.slice A n c, .slice B m d] w (RetQ (.bool (sameI xs ys)) w) := by
  have hl := Lib.hid hr.len
  have hl2 := Lib.hid hs.len
  replace hr := Lib.hid hr
  replace hs := Lib.hid hs
  by_cases hnm : n = m
  · subst hnm
    have hne : ((n : Int) != (n : Int)) = false := by simp
    go_enter Try.func15, Try.ntmps15
    go_wp2
    go_loopw [5] (fun i wr => ∃ k q : Nat, k ≤ n ∧ i = .int .i64 k ∧ Hid (∀ j, j < k → xs[j]? = ys[j]?) ∧ wr = w.drewN q) (fun i _ => n - (intOf i).toNat)
    case atStart => exact ⟨0, 0, Nat.zero_le _, rfl, Lib.hid (fun j hj => absurd hj (by omega)), rfl⟩
    case round =>
      obtain ⟨k, q, hk, rfl, hall, rfl⟩ := hrel
      by_cases hlt : k < n
      · obtain ⟨b, off, x, rfl, hbk, hx, hx64, hc⟩ := hr.out.at_ hlt
        obtain ⟨b2, off2, y, rfl, hbk2, hy, hy64, hc2⟩ := hs.out.at_ hlt
        have hk0 : (0 : Int) ≤ (k : Int) := by omega
        have hkn : (k : Int) < (n : Int) := by omega
        by_cases hxy : x = y
        · subst hxy
          have hall' : Hid (∀ j, j < k + 1 → xs[j]? = ys[j]?) := Lib.hid (fun j hj => by
            rcases Nat.lt_succ_iff_lt_or_eq.1 hj with h | h
            · exact hall.out j h
            · rw [h, hx, hy])
          have hne' : ((x : Int) != (x : Int)) = false := by simp
          clear hx hy
          go_wp2
          go_quiet (fail)
          go_wp2
          go_roundw
          case rel => exact ⟨k + 1, _, by omega, by go_num, hall', rfl⟩
          case measure => simp [intOf]; omega
        · have hno := Lib.hid (sameI_no xs ys k x y hx hy hxy)
          have hne' : ((x : Int) != (y : Int)) = true := by rw [bne_iff_ne]; omega
          clear hx hy
          go_wp2
          go_quiet (fail)
          go_wp2
          go_ret
          rw [hno.out]; exact ⟨rfl, _, by rw [World.drewN_drewN]⟩
      · have hyes := Lib.hid (sameI_yes xs ys (by rw [hl.out, hl2.out]) (fun j hj => hall.out j (by rw [hl.out] at hj; omega)))
        go_wp2
        go_ret
        rw [hyes.out]; exact ⟨rfl, _, rfl⟩
  · have hno := Lib.hid (sameI_no_len xs ys (by rw [hl.out, hl2.out]; exact hnm))
    have hne : ((n : Int) != (m : Int)) = true := by rw [bne_iff_ne]; omega
    go_enter Try.func15, Try.ntmps15
    go_wp2
    go_ret
    rw [hno.out]; exact ⟨rfl, 0, rfl⟩

set_option maxHeartbeats 1000000 in
theorem ref2_ListO (A : Option Addr) (n c : Nat) (xs : List Nat) (w : World) (hr : Row w A n xs) (hn : n ≤ 1073741824) :
    Calls Try.prog 35 #[.slice A n c] w (RetIntsO 3 (listR xs) w) := by
  have hl := Lib.hid hr.len
  obtain ⟨i0, hi, hz0, hz1, hz2⟩ := info_parts info_int
  replace hi := Lib.hid hi
  replace hz0 := Lib.hid hz0
  replace hz1 := Lib.hid hz1
  replace hz2 := Lib.hid hz2
  replace hr := Lib.hid hr
  go_enter Try.func35, Try.ntmps35
  go_wp2
  go_loopw [3, 4] (fun l i wr => ∃ p : Nat, p ≤ 64 * n ∧ i = .int .i64 p ∧ wr.ownsRow w.heap.size 3 1 l (listP xs p).length ((listP xs p).map natv) ∧ Below w.heap.size w wr) (fun _ i _ => 64 * n - (intOf i).toNat)
  case atStart => exact ⟨0, Nat.zero_le _, rfl, World.ownsRow_nil _ _ _ _, Below.refl _ _⟩
  case round =>
    obtain ⟨p, hp, rfl, hown, hb⟩ := hrel
    by_cases hlt : p < 64 * n
    · have hH := Lib.hid (ref2_Has A n c xs p wr (hr.out.below hb) hn (by omega) (by omega))
      have hlen := listP_len xs p
      rcases Bool.eq_false_or_eq_true (hasR xs (p : Int)) with ht | ht
      · have hy := Lib.hid (listP_yes xs p ht)
        rw [ht] at hH
        clear ht
        go_wp2_with fail
        refine hH.out.mono ?_; rintro e w' ⟨rfl, rfl⟩
        go_wp2_with (at_builtin; refine wpList_append_lies _ rfl (.tmp 15) (.tmp 17) _ rfl w.heap.size 3 i0 _ 1 8 Try.underlying28 hi.out hz0.out hz1.out hz2.out rfl (by omega) _ _ _ (by rfl) (hown.alloc _) ⟨wr.heap.size, 0, none⟩ 1 1 [.int .i64 (p : Int)] rfl rfl (cell_one_new _ _ _) (by simp [Value.oneCell']) (by omega) (by unfold maxLen; omega) (by omega) (by have := hb.size; simp; omega) _ rfl ?_; intro g cap w1 hown1 hgrow hat hlt1; have hb1 := (hb.alloc hb.size _).grown hgrow (by have := hb.size; simp; omega) (own_lt_block hown); clear hgrow hat hlt1)
        go_roundw
        case rel =>
          refine ⟨p + 1, by omega, by go_num, ?_, hb1⟩
          rw [hy.out, List.length_append, List.map_append]
          exact hown1
        case measure => simp [intOf]; omega
      · have hy := Lib.hid (listP_no xs p ht)
        rw [ht] at hH
        clear ht
        go_wp2_with fail
        refine hH.out.mono ?_; rintro e w' ⟨rfl, rfl⟩
        go_wp2
        go_roundw
        case rel => exact ⟨p + 1, by omega, by go_num, by rw [hy.out]; exact hown, hb⟩
        case measure => simp [intOf]; omega
    · obtain rfl : p = 64 * n := by omega
      have he : listP xs (64 * n) = listN xs := by rw [← hl.out]; rfl
      rw [he] at hown
      have hb64 : ∀ i ∈ listN xs, i < 9223372036854775808 := fun i hi' => by
        have := ((listN_mem xs i).1 hi').1
        rw [hl.out] at this; omega
      obtain ⟨A', c', rfl, hI⟩ := own_ints hown hb64
      have hO := hown
      rw [natv_ints] at hO
      clear he hb64 hown
      go_wp2
      go_ret
      exact ⟨_, _, _, rfl, hO, hI.2, hb⟩
theorem ref2_List (A : Option Addr) (n c : Nat) (xs : List Nat) (w : World) (hr : Row w A n xs) (hn : n ≤ 1073741824) :
    Calls Try.prog 35 #[.slice A n c] w (RetInts (listR xs) w) := (ref2_ListO A n c xs w hr hn).mono fun _ _ h => h.ints


end Go.Proofs.Ytjmkpoignnbcpaa

namespace Go.Proofs.Ytjmkpoignnbcpaa
open Go.RowKit
set_option linter.unusedVariables false



end Go.Proofs.Ytjmkpoignnbcpaa

namespace Go.Proofs.Ytjmkpoignnbcpaa
open Go.RowKit
set_option linter.unusedVariables false

theorem ref_BitN (r : Nat) (hr : r < 64) (w : World) : Calls Try.prog 46 #[.int .i64 (r : Int)] w fun e w' => e = .returned (.int .u64 (p2 r : Nat)) ∧ w = w' := by
  have h := ref_Bit (r : Int) (by omega) (by omega) w
  rwa [bitZ_p2 (r : Int) (by omega) (by omega), Int.toNat_natCast] at h
set_option maxRecDepth 100000 in
set_option maxHeartbeats 1000000 in
theorem ref2_SetO (A : Option Addr) (n c : Nat) (xs : List Nat) (i : Int) (w : World) (hr : Row w A n xs) (hn : n ≤ 1073741824) (h1 : -9223372036854775808 ≤ i) (h2 : i < 9223372036854775808) :
    Calls Try.prog 40 #[.slice A n c, .int .i64 i] w (RetRowO 71 (setR xs i) w) := by
  obtain ⟨i0, hi, hz0, hz1, hz2⟩ := info_parts info_u64
  replace hi := Lib.hid hi
  replace hz0 := Lib.hid hz0
  replace hz1 := Lib.hid hz1
  replace hz2 := Lib.hid hz2
  have hl := hr.len
  have hlt := Lib.hid hr.2
  have hlit : (w.alloc (.cells #[] 71)).ownsRow w.heap.size 71 1 (.slice (some ⟨w.heap.size, 0, none⟩) 0 0) 0 [] := by
    have h := World.ownsRow_lit (size := 1) (base := w.heap.size) (e := 71) w #[] 0 (Nat.le_refl _) (by omega) (by simp)
    simpa using h
  have hb0 : Below w.heap.size w (w.alloc (.cells #[] 71)) := (Below.refl _ _).alloc (Nat.le_refl _) _
  have hrd : Rd (w.alloc (.cells #[] 71)) A n (xs.map u64v) := hr.1.below hb0
  have hH := ref2_Has A n c xs i
  have hr0 := Lib.hid hr
  by_cases hin : 0 ≤ i ∧ i < 64 * (n : Int)
  · obtain ⟨m, rfl⟩ := Int.eq_ofNat_of_zero_le hin.1
    obtain ⟨hi1, hi2⟩ := hin
    have hm : m < 64 * n := by omega
    obtain ⟨x, hx⟩ : ∃ x, xs[m / 64]? = some x := ⟨_, List.getElem?_eq_getElem (by omega)⟩
    have hx64 : x < 18446744073709551616 := hlt.out x (List.mem_of_getElem? hx)
    have hS := setR_in (m := m) (by omega) hx
    have hHin := hasR_in xs m x hx
    rw [hasB_nat] at hHin
    obtain ⟨r, hre⟩ : ∃ r, r = m % 64 := ⟨_, rfl⟩
    have hr64 : r < 64 := by omega
    rw [← hre] at hS hHin
    rcases Bool.eq_false_or_eq_true (x.testBit r) with ht | ht
    · rw [or_same x r ht] at hS
      have hset : xs.set (m / 64) x = xs := by
        apply List.ext_getElem?; intro j
        rw [List.getElem?_set]
        by_cases hj : m / 64 = j
        · subst hj; rw [if_pos rfl, if_pos (by omega), hx]
        · rw [if_neg hj]
      rw [hset] at hS
      rw [ht] at hHin
      replace hS := Lib.hid hS
      replace hHin := Lib.hid hHin
      have hl' := Lib.hid hl
      replace hH := Lib.hid hH
      clear hl hre ht hset hx hr
      go_enter Try.func40, Try.ntmps40
      go_wp2_with (first
        | (at_builtin; refine wpList_append_rd rfl (.tmp 6) (.tmp 7) _ rfl w.heap.size 71 i0 _ 8 Try.underlying61 hi.out hz0.out hz1.out hz2.out rfl _ 0 _ (by rfl) hlit A n c _ rfl hrd (by simp [u64v, Value.oneCell']) (by unfold maxLen; omega) (by omega) hb0.size ?_; intro v1 w1 hown1 hbb hform; simp only [Nat.zero_add, List.nil_append] at hown1 hform; obtain ⟨g, cap, rfl⟩ := hform (by omega); have hb1 := hb0.trans hbb; have hrr := Lib.hid (hr0.out.below hb1); clear hbb hlit hb0 hrd)
        | (go_at_call 34; refine (hH.out _ hrr.out hn h1 h2).mono ?_; rintro e w' ⟨rfl, rfl⟩; rw [hHin.out]))
      go_ret
      rw [hS.out]
      exact own_ret hown1 hlt.out (hb1)
    · rw [← add_or x r ht] at hS
      rw [ht] at hHin
      have hE := add_or x r ht
      have hO := or_p2_lt hx64 hr64
      rw [← hE] at hO
      replace hO := Lib.hid hO
      replace hS := Lib.hid hS
      replace hHin := Lib.hid hHin
      replace hx := Lib.hid hx
      have hl' := Lib.hid hl
      replace hH := Lib.hid hH
      have hrem : (m : Int) % 64 = (r : Int) := by omega
      have hp2 := p2_lt r hr64
      have hp20 := p2_pos r
      clear hl hre ht hE hr
      go_enter Try.func40, Try.ntmps40
      go_wp2_with (first
        | (at_builtin; refine wpList_append_rd rfl (.tmp 6) (.tmp 7) _ rfl w.heap.size 71 i0 _ 8 Try.underlying61 hi.out hz0.out hz1.out hz2.out rfl _ 0 _ (by rfl) hlit A n c _ rfl hrd (by simp [u64v, Value.oneCell']) (by unfold maxLen; omega) (by omega) hb0.size ?_; intro v1 w1 hown1 hbb hform; simp only [Nat.zero_add, List.nil_append] at hown1 hform; obtain ⟨g, cap, rfl⟩ := hform (by omega); have hb1 := hb0.trans hbb; have hrr := Lib.hid (hr0.out.below hb1); clear hbb hlit hb0 hrd)
        | (go_at_call 34; refine (hH.out _ hrr.out hn h1 h2).mono ?_; rintro e w' ⟨rfl, rfl⟩; rw [hHin.out]))
      have hc : w1.cell? ⟨g, m / 64, none⟩ = some (.int .u64 (x : Int)) := by
        rw [hown1.cellAt _ (by omega), List.getElem?_map, hx.out]; rfl
      have hf := hown1.frozenAt (m / 64)
      have hg := (hown1.lt g rfl).1
      have hA1 : (0 : Int) ≤ (m : Int) / 64 := by omega
      have hA2 : (m : Int) / 64 < (n : Int) := by omega
      have hA3 : ((m : Int) / 64).toNat = m / 64 := by omega
      refine still_tail 13 (by kernel_rfl) (by kernel_rfl) (fun W hW => ?_)
      have hc' : W.cell? ⟨g, m / 64, none⟩ = some (.int .u64 (x : Int)) := by rw [hW.out]; exact hc
      have hf' : W.frozen? ⟨g, m / 64, none⟩ = false := by rw [hW.out]; exact hf
      have hown' : W.ownsRow w.heap.size 71 1 (.slice (some ⟨g, 0, none⟩) n cap) n (xs.map u64v) := by rw [hW.out]; exact hown1.drew
      have hb' : Below w.heap.size w W := by rw [hW.out]; exact hb1.drew
      clear hc hf hb1 hown1
      simp only [List.take_succ_cons, List.take_zero, List.drop_succ_cons, List.drop_zero]
      have htd : (m : Int).tdiv 64 = (m : Int) / 64 := Int.tdiv_eq_ediv_of_nonneg hi1
      have htm : (m : Int).tmod 64 = (r : Int) := by rw [Int.tmod_eq_emod_of_nonneg hi1]; exact hrem
      have hsum : IntKind.u64.wrap ((x : Int) + (p2 r : Nat)) = ((x + p2 r : Nat) : Int) := by
        have := hO.out
        rw [IntKind.wrap_u64]; omega
      have hw1 : IntKind.i64.wrap ((m : Int) / 64) = (m : Int) / 64 := by rw [IntKind.wrap_i64]; omega
      have hw2 : IntKind.i64.wrap (r : Int) = (r : Int) := by rw [IntKind.wrap_i64]; omega
      clear hrem
      repeat
        refine @wpStill_step _ _ _ _ _ _ _ ?_
        intro K hK
        go_simp
        refine hK _ ?_
        clear hK K
      refine wpStill_step (fun K hK => ?_)
      go_simp
      refine ⟨_, still_call (ref_BitN r hr64 _), hK _ ?_⟩
      clear hK K
      repeat
        refine @wpStill_step _ _ _ _ _ _ _ ?_
        intro K hK
        go_simp
        refine hK _ ?_
        clear hK K
      refine wpStill_nil ?_
      clear htd htm hw1 hw2 hsum
      go_wp2
      go_ret
      rw [hS.out, show (x : Int) + (p2 r : Nat) = ((x + p2 r : Nat) : Int) from by omega]
      refine own_ret (c := cap) ?_ (mem_set_lt hlt.out hO.out) (hb'.setCell hg _)
      rw [List.map_set]
      exact (hown'.stored _ _).1
  · have hS := Lib.hid (setR_out (xs := xs) (i := i) (by omega))
    clear hl hr hH
    have hdec : (0 ≤ i ∧ ¬ i < 64 * (n : Int)) ∨ ¬ 0 ≤ i := by omega
    clear hin
    rcases hdec with ⟨d1, d2⟩ | d1
    all_goals
      go_enter Try.func40, Try.ntmps40
      go_wp2_with (at_builtin; refine wpList_append_rd rfl (.tmp 6) (.tmp 7) _ rfl w.heap.size 71 i0 _ 8 Try.underlying61 hi.out hz0.out hz1.out hz2.out rfl _ 0 _ (by rfl) hlit A n c _ rfl hrd (by simp [u64v, Value.oneCell']) (by unfold maxLen; omega) (by omega) hb0.size ?_; intro v1 w1 hown1 hbb hform; simp only [Nat.zero_add, List.nil_append] at hown1 hform; have hb1 := hb0.trans hbb; clear hbb hlit hb0 hrd hform)
      obtain ⟨A2, c2, rfl, hrd2⟩ := Rd.of_own hown1
      go_ret
      rw [hS.out]
      exact own_ret hown1 hlt.out hb1
theorem ref2_Set (A : Option Addr) (n c : Nat) (xs : List Nat) (i : Int) (w : World) (hr : Row w A n xs) (hn : n ≤ 1073741824) (h1 : -9223372036854775808 ≤ i) (h2 : i < 9223372036854775808) :
    Calls Try.prog 40 #[.slice A n c, .int .i64 i] w (RetRow (setR xs i) w) := (ref2_SetO A n c xs i w hr hn h1 h2).mono fun _ _ h => h.row

end Go.Proofs.Ytjmkpoignnbcpaa

namespace Go.Proofs.Ytjmkpoignnbcpaa
open Go.RowKit
set_option linter.unusedVariables false

def W64 (xs : List Nat) : Prop := ∀ x ∈ xs, x < 18446744073709551616
theorem getD_w64 {xs : List Nat} (h : W64 xs) (j : Nat) : xs.getD j 0 < 18446744073709551616 := by
  rw [List.getD_eq_getElem?_getD]
  cases hx : xs[j]? with
  | none => simp
  | some x => simpa using h x (List.mem_of_getElem? hx)
theorem bit_out {x r : Nat} (hx : x < 18446744073709551616) (hr : 64 ≤ r) : x.testBit r = false :=
  Nat.testBit_lt_two_pow (Nat.lt_of_lt_of_le hx (by rw [show (18446744073709551616 : Nat) = 2 ^ 64 from rfl]; exact Nat.pow_le_pow_right (by omega) hr))
theorem hasR_w (xs : List Nat) (k r : Nat) (hr : r < 64) : hasR xs ((64 * k + r : Nat) : Int) = (xs.getD k 0).testBit r := by
  rw [hasR_nat, show (64 * k + r) / 64 = k from by omega, show (64 * k + r) % 64 = r from by omega]
/-- rows of one length with the same bits are the same -/
theorem row_ext {a b : List Nat} (ha : W64 a) (hb : W64 b) (hl : a.length = b.length) (h : ∀ i : Nat, i < 64 * a.length → hasR a (i : Int) = hasR b (i : Int)) : a = b := by
  apply List.ext_getElem hl
  intro k h1 h2
  apply Nat.eq_of_testBit_eq; intro r
  have ea : a[k] = a.getD k 0 := by rw [List.getD_eq_getElem?_getD, List.getElem?_eq_getElem h1]; rfl
  have eb : b[k] = b.getD k 0 := by rw [List.getD_eq_getElem?_getD, List.getElem?_eq_getElem h2]; rfl
  rw [ea, eb]
  by_cases hr : r < 64
  · rw [← hasR_w a k r hr, ← hasR_w b k r hr]; exact h _ (by omega)
  · rw [bit_out (getD_w64 ha k) (by omega), bit_out (getD_w64 hb k) (by omega)]
theorem setR_len (xs : List Nat) (i : Int) : (setR xs i).length = xs.length := by
  unfold setR; split <;> simp
theorem setR_w64 {xs : List Nat} (h : W64 xs) (m : Nat) : W64 (setR xs (m : Int)) := by
  by_cases hm : m < 64 * xs.length
  · have hx : xs[m / 64]? = some xs[m / 64] := List.getElem?_eq_getElem (by omega)
    rw [setR_in hm hx]
    exact mem_set_lt h (or_p2_lt (h _ (List.mem_of_getElem? hx)) (by omega))
  · rw [setR_out (.inr (by omega))]; exact h
theorem hasR_setR (xs : List Nat) (m j : Nat) (hm : m < 64 * xs.length) : hasR (setR xs (m : Int)) (j : Int) = (hasR xs (j : Int) || decide (j = m)) := by
  have hx : xs[m / 64]? = some xs[m / 64] := List.getElem?_eq_getElem (by omega)
  rw [setR_in hm hx, hasR_nat, hasR_nat, List.getD_eq_getElem?_getD, List.getD_eq_getElem?_getD, List.getElem?_set]
  by_cases h1 : m / 64 = j / 64
  · rw [if_pos h1, if_pos (by omega), ← h1, hx]
    simp only [Option.getD_some]
    rw [Nat.testBit_or]; unfold p2; rw [Nat.testBit_two_pow]
    by_cases h2 : j = m
    · subst h2; simp
    · rw [decide_eq_false h2, decide_eq_false (by omega)]
  · rw [if_neg h1, decide_eq_false (by rintro rfl; exact h1 rfl), Bool.or_false]
theorem setR_has {xs : List Nat} (h : W64 xs) (m : Nat) (hh : hasR xs (m : Int) = true) : setR xs (m : Int) = xs := by
  by_cases hm : m < 64 * xs.length
  · refine row_ext (setR_w64 h m) h (setR_len xs m) fun i _ => ?_
    rw [hasR_setR xs m i hm]
    by_cases hi : i = m
    · subst hi; rw [hh]; rfl
    · rw [decide_eq_false hi, Bool.or_false]
  · exact setR_out (.inr (by omega))
theorem setR_twice {xs : List Nat} (h : W64 xs) (m : Nat) : setR (setR xs (m : Int)) (m : Int) = setR xs (m : Int) := by
  by_cases hm : m < 64 * xs.length
  · exact setR_has (setR_w64 h m) m (by rw [hasR_setR xs m m hm]; simp)
  · rw [setR_out (.inr (by rw [setR_len]; omega))]
theorem subR_setR {xs : List Nat} (h : W64 xs) (m : Nat) : subR xs (setR xs (m : Int)) = true := by
  rw [subR_iff xs _ h]; intro i hi
  by_cases hm : m < 64 * xs.length
  · rw [hasR_setR xs m i hm, hi]; rfl
  · rw [setR_out (.inr (by omega))]; exact hi
theorem count_add (N m : Nat) (p q : Nat → Bool) (hm : m < N) (hp : p m = false) (hq : ∀ j, q j = (p j || decide (j = m))) : ((List.range N).filter q).length = ((List.range N).filter p).length + 1 := by
  induction N with
  | zero => omega
  | succ N ih =>
    rw [List.range_succ, List.filter_append, List.filter_append, List.length_append, List.length_append]
    by_cases h : m < N
    · rw [ih h]
      have : q N = p N := by rw [hq, decide_eq_false (by omega), Bool.or_false]
      simp [List.filter_cons, this]; split <;> simp <;> omega
    · obtain rfl : m = N := by omega
      have h1 : (List.range m).filter q = (List.range m).filter p := List.filter_congr fun j hj => by
        have := List.mem_range.1 hj
        rw [hq, decide_eq_false (by omega), Bool.or_false]
      rw [h1]; simp [hq, hp]
theorem countR_setR (xs : List Nat) (m : Nat) (hm : m < 64 * xs.length) (hh : hasR xs (m : Int) = false) : countR (setR xs (m : Int)) = countR xs + 1 := by
  rw [countR_list, countR_list]; unfold listN; rw [setR_len]
  exact count_add _ m _ _ hm hh (fun j => hasR_setR xs m j hm)

/-! ### both together -/
theorem orR_len (a b : List Nat) : (orR a b).length = max a.length b.length := by simp [orR]
theorem orR_getD (a b : List Nat) (k : Nat) : (orR a b).getD k 0 = a.getD k 0 ||| b.getD k 0 := by
  unfold orR
  rw [List.getD_eq_getElem?_getD, List.getElem?_map]
  by_cases h : k < max a.length b.length
  · rw [List.getElem?_range h]; rfl
  · rw [List.getElem?_eq_none (by simpa using h), getD_out a k (by omega), getD_out b k (by omega)]; rfl
theorem hasR_orR (a b : List Nat) (i : Nat) : hasR (orR a b) (i : Int) = (hasR a (i : Int) || hasR b (i : Int)) := by
  rw [hasR_nat, hasR_nat, hasR_nat, orR_getD, Nat.testBit_or]
theorem orR_w64 {a b : List Nat} (ha : W64 a) (hb : W64 b) : W64 (orR a b) := by
  intro x hx
  unfold orR at hx
  obtain ⟨j, _, rfl⟩ := List.mem_map.1 hx
  exact Nat.or_lt_two_pow (n := 64) (getD_w64 ha j) (getD_w64 hb j)
theorem subR_orl {a b : List Nat} (ha : W64 a) : subR a (orR a b) = true := by
  rw [subR_iff a _ ha]; intro i hi; rw [hasR_orR, hi]; rfl
theorem subR_orr {a b : List Nat} (hb : W64 b) : subR b (orR a b) = true := by
  rw [subR_iff b _ hb]; intro i hi; rw [hasR_orR, hi, Bool.or_true]
theorem sameR_refl (a : List Nat) : sameR a a = true := by unfold sameR; exact beq_self_eq_true a
theorem sameI_refl (a : List Int) : sameI a a = true := by unfold sameI; exact beq_self_eq_true a
/-- how many, counted up to any number that is far enough -/
theorem count_far (xs : List Nat) (N : Nat) (hN : 64 * xs.length ≤ N) : ((List.range N).filter fun i : Nat => hasR xs (i : Int)).length = countR xs := by
  obtain ⟨d, rfl⟩ : ∃ d, N = 64 * xs.length + d := ⟨N - 64 * xs.length, by omega⟩
  rw [List.range_add, List.filter_append, List.length_append, List.filter_map, countR_list]
  have : (List.range d).filter ((fun i : Nat => hasR xs (i : Int)) ∘ (64 * xs.length + ·)) = [] := by
    rw [List.filter_eq_nil_iff]; intro j _
    show ¬ hasR xs ((64 * xs.length + j : Nat) : Int) = true
    rw [hasR_out xs _ (.inr (by omega))]; simp
  rw [this]; rfl
theorem count_mono (N : Nat) (p q : Nat → Bool) (h : ∀ j, j < N → p j = true → q j = true) : ((List.range N).filter p).length ≤ ((List.range N).filter q).length ∧ (∀ m, m < N → p m = false → q m = true → ((List.range N).filter p).length < ((List.range N).filter q).length) := by
  induction N with
  | zero => simp
  | succ N ih =>
    obtain ⟨i1, i2⟩ := ih (fun j hj => h j (by omega))
    simp only [List.range_succ, List.filter_append, List.length_append]
    have h1 : ([N].filter p).length ≤ ([N].filter q).length := by
      cases hp : p N with
      | false => simp [hp]
      | true => simp [hp, h N (by omega) hp]
    refine ⟨by omega, fun m hm hp hq => ?_⟩
    by_cases hmN : m < N
    · have := i2 m hmN hp hq; omega
    · obtain rfl : m = N := by omega
      have h2 : ([m].filter p).length < ([m].filter q).length := by simp [hp, hq]
      omega
theorem subR_count {a b : List Nat} (ha : W64 a) : subR a b = decide (countR (orR a b) = countR b) := by
  have e1 : countR (orR a b) = ((List.range (64 * (orR a b).length)).filter fun i : Nat => hasR (orR a b) (i : Int)).length := (count_far _ _ (Nat.le_refl _)).symm
  have e2 : countR b = ((List.range (64 * (orR a b).length)).filter fun i : Nat => hasR b (i : Int)).length := (count_far b _ (by rw [orR_len]; omega)).symm
  rw [e1, e2]
  obtain ⟨hle, hlt⟩ := count_mono (64 * (orR a b).length) (fun i : Nat => hasR b (i : Int)) (fun i : Nat => hasR (orR a b) (i : Int)) (fun j _ hj => by rw [hasR_orR, hj, Bool.or_true])
  rw [Bool.eq_iff_iff, subR_iff a b ha, decide_eq_true_iff]
  constructor
  · intro h
    congr 1
    refine List.filter_congr fun j _ => ?_
    rw [hasR_orR]
    cases h1 : hasR a (j : Int) with
    | false => rfl
    | true => rw [h j h1]; rfl
  · intro h i hi
    cases hb : hasR b (i : Int) with
    | true => rfl
    | false =>
      exfalso
      have hi64 : i < 64 * (orR a b).length := by
        rcases Nat.lt_or_ge i (64 * (orR a b).length) with h' | h'
        · exact h'
        · rw [hasR_out a i (.inr (by rw [orR_len] at h'; omega))] at hi; cases hi
      have := hlt i hi64 hb (by rw [hasR_orR, hi]; rfl)
      omega

/-! ### a row of its list -/
theorem listN_rises (xs : List Nat) (k i j : Nat) (hi : (listN xs)[k]? = some i) (hj : (listN xs)[k + 1]? = some j) : i < j := by
  have hp : (listN xs).Pairwise (· < ·) := List.pairwise_lt_range.filter _
  obtain ⟨h1, e1⟩ := List.getElem?_eq_some_iff.1 hi
  obtain ⟨h2, e2⟩ := List.getElem?_eq_some_iff.1 hj
  rw [← e1, ← e2]
  exact List.pairwise_iff_getElem.1 hp k (k + 1) h1 h2 (by omega)
def setN (r : List Nat) (i : Nat) : List Nat := setR r (i : Int)
/-- the bits of l, set one by one in a row of n words -/
def setAll (n : Nat) (l : List Nat) : List Nat := l.foldl setN (List.replicate n 0)
theorem setAll_snoc (n : Nat) (l : List Nat) (i : Nat) : setAll n (l ++ [i]) = setR (setAll n l) (i : Int) := by
  unfold setAll; rw [List.foldl_append]; rfl
theorem hasR_zeros (n i : Nat) : hasR (List.replicate n 0) (i : Int) = false := by
  rw [hasR_nat, List.getD_eq_getElem?_getD, List.getElem?_replicate]
  split <;> simp
theorem setAll_facts (n : Nat) (l : List Nat) (h : ∀ i ∈ l, i < 64 * n) : (setAll n l).length = n ∧ W64 (setAll n l) ∧ ∀ j : Nat, hasR (setAll n l) (j : Int) = decide (j ∈ l) := by
  have : ∀ (r : List Nat), (∀ i ∈ l, i < 64 * r.length) → W64 r → (l.foldl setN r).length = r.length ∧ W64 (l.foldl setN r) ∧ ∀ j : Nat, hasR (l.foldl setN r) (j : Int) = (hasR r (j : Int) || decide (j ∈ l)) := by
    clear h
    induction l with
    | nil => intro r _ hw; exact ⟨rfl, hw, fun j => by simp⟩
    | cons i l ih =>
      intro r hl hw
      have hi := hl i (by simp)
      obtain ⟨h1, h2, h3⟩ := ih (setR r (i : Int)) (fun j hj => by rw [setR_len]; exact hl j (by simp [hj])) (setR_w64 hw i)
      refine ⟨h1.trans (setR_len r i), h2, fun j => ?_⟩
      show hasR (l.foldl _ (setR r (i : Int))) (j : Int) = _
      rw [h3 j, hasR_setR r i j hi, Bool.or_assoc]
      congr 1
      simp
  obtain ⟨h1, h2, h3⟩ := this (List.replicate n 0) (by simpa using h) (fun x hx => by have := (List.mem_replicate.1 hx).2; omega)
  refine ⟨h1.trans List.length_replicate, h2, fun j => ?_⟩
  have := h3 j
  rw [hasR_zeros, Bool.false_or] at this
  exact this
theorem setAll_back {xs : List Nat} (h : W64 xs) : setAll xs.length (listN xs) = xs := by
  obtain ⟨h1, h2, h3⟩ := setAll_facts xs.length (listN xs) (fun i hi => ((listN_mem xs i).1 hi).1)
  refine row_ext h2 h h1 fun i hi => ?_
  rw [h1] at hi
  rw [h3, Bool.eq_iff_iff, decide_eq_true_iff, listN_mem]
  exact ⟨fun h => h.2, fun h => ⟨hi, h⟩⟩

/-- what the statement's frame tells of an argument -/
theorem row_of_is {w : World} {A : Option Addr} {n c : Nat} {zs : List Int}
    (h : (A = none ∧ n = 0 ∧ c = 0 ∧ zs = []) ∨ ∃ x, A = some x ∧ n ≤ c ∧ c ≤ maxLen ∧ zs.length = c ∧ (∀ i, i < zs.length → w.cell? (x.add i) = some (.int .u64 (zs.getD i 0))) ∧ ∀ n ∈ zs, (Lit.int .u64 n).wf = true) : ∃ xs, Row w A n xs ∧ n ≤ 9223372036854775807 := by
  have hle : n ≤ 9223372036854775807 := by
    rcases h with ⟨_, h0, _⟩ | ⟨_, _, h1, h2, _⟩
    · omega
    · unfold maxLen at h2; omega
  suffices h' : ∃ xs, Row w A n xs from h'.imp fun xs hx => ⟨hx, hle⟩
  rcases h with ⟨rfl, rfl, rfl, rfl⟩ | ⟨⟨b, off, spot⟩, rfl, hl, hm, hz, hcell, hwz⟩
  · exact ⟨[], Row.nil _ _⟩
  · by_cases h0 : n = 0
    · subst h0; exact ⟨[], Row.nil _ _⟩
    · have hc := hcell 0 (by omega)
      have hspot : spot = none := by simpa [Addr.add] using World.cell?_spot hc
      subst hspot
      have hadd : ∀ j, (⟨b, off, none⟩ : Addr).add j = ⟨b, off + j, none⟩ := fun j => by unfold Addr.add; split <;> simp_all
      have hval : ∀ z ∈ zs, 0 ≤ z ∧ z < 18446744073709551616 := fun z hz' => by have := bounds_u64 (hwz z hz'); omega
      refine ⟨(zs.take n).map Int.toNat, ⟨by simp; omega, fun _ => ⟨b, off, rfl, ?_, fun j u hu => ?_⟩⟩, fun x hx => ?_⟩
      · have := World.block_lt_of_cell? w _ hc
        rwa [hadd] at this
      · rw [List.map_map, List.getElem?_map] at hu
        cases hx : (zs.take n)[j]? with
        | none => rw [hx] at hu; cases hu
        | some z =>
          rw [hx] at hu
          have hj : j < n := by have := (List.getElem?_eq_some_iff.1 hx).1; rw [List.length_take] at this; omega
          rw [List.getElem?_take_of_lt hj] at hx
          have h1 := hcell j (by omega)
          have h2 : zs.getD j 0 = z := by rw [List.getD_eq_getElem?_getD, hx]; rfl
          have h3 := hval z (List.mem_of_getElem? hx)
          rw [hadd, h2] at h1
          rw [h1]
          have : u64v z.toNat = u := by simpa using hu
          rw [← this]; unfold u64v; rw [Int.toNat_of_nonneg h3.1]
      · obtain ⟨z, hz1, rfl⟩ := List.mem_map.1 hx
        have := hval z (List.mem_of_mem_take hz1); omega

end Go.Proofs.Ytjmkpoignnbcpaa

namespace Go.Proofs.Ytjmkpoignnbcpaa

def smallM (xss : List (List Nat)) (most : Int) : Bool := decide ((xss.length : Int) ≤ most) && xss.all fun r => decide (r.length ≤ 4)
/-- may r be a row of a matrix of n? -/
def fitsR (r : List Nat) (n : Int) : Bool := decide ((r.length : Int) = wordsZ n) && (List.range (64 * r.length)).all fun j : Nat => decide ((j : Int) < n) || !hasR r (j : Int)
/-- may a matrix be? -/
def rightM (N : Int) (xss : List (List Nat)) : Bool := decide (0 ≤ N) && decide (N ≤ 4096) && decide ((xss.length : Int) = N) && xss.all fun r => fitsR r N
def inM (N i j : Int) : Bool := decide (0 ≤ i) && decide (i < N) && decide (0 ≤ j) && decide (j < N)
def hasM (xss : List (List Nat)) (i j : Int) : Bool := decide (0 ≤ i) && hasR (xss.getD i.toNat []) j
def setM (xss : List (List Nat)) (i j : Int) : List (List Nat) := xss.set i.toNat (setR (xss.getD i.toNat []) j)
def newM (n : Nat) : List (List Nat) := List.replicate n (List.replicate (wordsZ n).toNat 0)
def orM (a b : List (List Nat)) : List (List Nat) := (List.range a.length).map fun i => orR (a.getD i []) (b.getD i [])
def subM (a b : List (List Nat)) : Bool := (List.range a.length).all fun i => subR (a.getD i []) (b.getD i [])
def sameM (a b : List (List Nat)) : Bool := a == b

def belowZ (i n : Int) : Bool := decide (0 ≤ i) && decide (i < n)
theorem belowZ_yes {i n : Int} (h0 : 0 ≤ i) (h1 : i < n) : belowZ i n = true := by unfold belowZ; simp [h0, h1]
theorem belowZ_no {i n : Int} (h : i < 0 ∨ n ≤ i) : belowZ i n = false := by
  unfold belowZ
  rcases h with h | h
  · rw [decide_eq_false (by omega)]; rfl
  · rw [decide_eq_false (p := i < n) (by omega), Bool.and_false]
theorem hasM_out {xss : List (List Nat)} {i j : Int} (h : i < 0 ∨ (xss.length : Int) ≤ i) : hasM xss i j = false := by
  unfold hasM
  by_cases h0 : 0 ≤ i
  · have : xss.getD i.toNat [] = [] := by
      rw [List.getD_eq_getElem?_getD, List.getElem?_eq_none (by omega)]; rfl
    rw [this, hasR_out [] j (by simp; omega), Bool.and_false]
  · rw [decide_eq_false h0]; rfl
theorem getD_at {α : Type} {xss : List α} {k : Nat} {xs d : α} (h : xss[k]? = some xs) : xss.getD k d = xs := by rw [List.getD_eq_getElem?_getD, h]; rfl
theorem hasM_in {xss : List (List Nat)} {k : Nat} {xs : List Nat} {j : Int} (h : xss[k]? = some xs) : hasM xss (k : Int) j = hasR xs j := by
  unfold hasM
  rw [decide_eq_true (by omega), Int.toNat_natCast, getD_at h]; rfl

theorem setM_nat {xss : List (List Nat)} {k : Nat} {xs : List Nat} {j : Int} (h : xss[k]? = some xs) : setM xss (k : Int) j = xss.set k (setR xs j) := by
  unfold setM
  rw [Int.toNat_natCast, getD_at h]
theorem smallM_len {xss : List (List Nat)} {most : Int} (h : smallM xss most = true) : (xss.length : Int) ≤ most ∧ ∀ r ∈ xss, r.length ≤ 4 := by
  unfold smallM at h
  rw [Bool.and_eq_true, decide_eq_true_eq, List.all_eq_true] at h
  exact ⟨h.1, fun r hr => of_decide_eq_true (h.2 r hr)⟩

/-! ### matrices of pairs -/
def okP (n : Int) (p : Int × Int) : Bool := inM n p.1 p.2
def setP (m : List (List Nat)) (p : Int × Int) : List (List Nat) := setM m p.1 p.2
def foldP (n : Nat) (ps : List (Int × Int)) : List (List Nat) := ps.foldl setP (newM n)
theorem foldP_nil (n : Nat) : foldP n [] = newM n := rfl
theorem foldP_snoc (n : Nat) (ps : List (Int × Int)) (k : Nat) (p : Int × Int) (h : ps[k]? = some p) : foldP n (ps.take (k + 1)) = setM (foldP n (ps.take k)) p.1 p.2 := by
  unfold foldP
  have hk : k < ps.length := (List.getElem?_eq_some_iff.1 h).1
  rw [List.take_succ_eq_append_getElem hk, List.foldl_append, (List.getElem?_eq_some_iff.1 h).2]; rfl
/-- as many rows as n, each of as many words as n bits take -/
def DimM (n : Nat) (xss : List (List Nat)) : Prop := xss.length = n ∧ ∀ (i : Nat) (r : List Nat), xss[i]? = some r → r.length = (wordsZ (n : Int)).toNat
theorem DimM.new (n : Nat) : DimM n (newM n) := ⟨by simp [newM], fun i r h => by
  unfold newM at h
  rw [List.getElem?_replicate] at h
  split at h
  · injection h with h; subst h; simp
  · cases h⟩
theorem DimM.set {n : Nat} {xss : List (List Nat)} (h : DimM n xss) (i j : Int) : DimM n (setM xss i j) := by
  unfold setM
  refine ⟨by rw [List.length_set]; exact h.1, fun k r hk => ?_⟩
  rw [List.getElem?_set] at hk
  split at hk
  · rename_i e
    split at hk
    · rename_i hl
      injection hk with hk
      subst hk
      rw [setR_len, getD_at (List.getElem?_eq_getElem hl)]
      exact h.2 _ _ (List.getElem?_eq_getElem hl)
    · cases hk
  · exact h.2 _ _ hk
theorem DimM.fold (n : Nat) (ps : List (Int × Int)) : DimM n (foldP n ps) := by
  unfold foldP
  have : ∀ (ps : List (Int × Int)) (m : List (List Nat)), DimM n m → DimM n (ps.foldl setP m) := by
    intro ps
    induction ps with
    | nil => intro m h; exact h
    | cons p ps ih => intro m h; exact ih _ (h.set _ _)
  exact this ps _ (DimM.new n)
theorem words_pos {n : Nat} (h : 0 < n) : 0 < (wordsZ (n : Int)).toNat ∧ n ≤ 64 * (wordsZ (n : Int)).toNat := by
  unfold wordsZ; rw [if_neg (by omega)]; omega
theorem words_le {n : Nat} (h : n ≤ 4096) : (wordsZ (n : Int)).toNat ≤ 64 := by
  unfold wordsZ; rw [if_neg (by omega)]; omega

end Go.Proofs.Ytjmkpoignnbcpaa

namespace Go.Proofs.Ytjmkpoignnbcpaa
set_option linter.unusedVariables false

/-- does one item stand ahead of another one? -/
def aheadF (is : List It) (i j : Int) : Bool :=
  decide (0 ≤ i) && (decide (0 ≤ j) && (match is[i.toNat]?, is[j.toNat]? with | some x, some y => decide (x.se = y.se) && decide (x.pl < y.pl) | _, _ => false))
theorem aheadF_at {is : List It} {i j : Int} {x y : It} (hi : 0 ≤ i) (hj : 0 ≤ j) (hx : is[i.toNat]? = some x) (hy : is[j.toNat]? = some y) : aheadF is i j = (decide (x.se = y.se) && decide (x.pl < y.pl)) := by
  unfold aheadF; rw [decide_eq_true hi, decide_eq_true hj, hx, hy]; rfl
theorem aheadF_out {is : List It} {i j : Int} (h : i < 0 ∨ j < 0 ∨ (is.length : Int) ≤ i ∨ (is.length : Int) ≤ j) : aheadF is i j = false := by
  unfold aheadF
  rcases h with h | h | h | h
  · rw [decide_eq_false (by omega : ¬ 0 ≤ i)]; rfl
  · rw [decide_eq_false (by omega : ¬ 0 ≤ j)]; simp
  · rw [List.getElem?_eq_none (by omega : is.length ≤ i.toNat)]; simp
  · rw [List.getElem?_eq_none (by omega : is.length ≤ j.toNat)]
    cases is[i.toNat]? <;> simp
theorem aheadF_in {is : List It} {i j : Int} (h : aheadF is i j = true) : 0 ≤ i ∧ 0 ≤ j ∧ i < (is.length : Int) ∧ j < (is.length : Int) := by
  rcases Classical.em (0 ≤ i ∧ 0 ≤ j ∧ i < (is.length : Int) ∧ j < (is.length : Int)) with h1 | h1
  · exact h1
  · rw [aheadF_out (by omega)] at h; cases h
/-- one, and those ahead of it -/
def pastN (is : List It) (o : Int) (n : Nat) : List Nat := (List.range n).filter fun i => decide ((i : Int) = o) || aheadF is i o
def pastF (is : List It) (o : Int) (n : Nat) : List Int := (pastN is o n).map fun (i : Nat) => (i : Int)
theorem pastF_succ (is : List It) (o : Int) (n : Nat) : pastF is o (n + 1) = if (decide ((n : Int) = o) || aheadF is n o) = true then pastF is o n ++ [(n : Int)] else pastF is o n := by
  unfold pastF pastN
  rw [List.range_succ, List.filter_append]
  split
  · rename_i h; rw [List.filter_cons_of_pos (by exact h)]; simp
  · rename_i h; rw [List.filter_cons_of_neg (by exact h)]; simp
theorem pastF_len (is : List It) (o : Int) (n : Nat) : (pastF is o n).length ≤ n := by
  unfold pastF pastN
  rw [List.length_map]
  exact Nat.le_trans (List.length_filter_le _ _) (by simp)
theorem pastF_ok (is : List It) (o : Int) (n : Nat) : ∀ z ∈ pastF is o n, 0 ≤ z ∧ z < (n : Int) := fun z hz => by
  unfold pastF at hz
  obtain ⟨i, hi, rfl⟩ := List.mem_map.1 hz
  unfold pastN at hi
  have := List.mem_range.1 (List.mem_filter.1 hi).1
  omega
/-- the pairs of one item, up to number j; of those up to item i -/
def rowPo (is : List It) (i j : Nat) : List (Int × Int) := ((List.range j).filter fun (k : Nat) => aheadF is i k).map fun (k : Nat) => ((i : Int), (k : Int))
def uptoPo (is : List It) (n i : Nat) : List (Int × Int) := (List.range i).flatMap fun i => rowPo is i n
def poM (is : List It) : List (List Nat) := foldP is.length (uptoPo is is.length is.length)
theorem rowPo_succ (is : List It) (i j : Nat) : rowPo is i (j + 1) = if aheadF is i j = true then rowPo is i j ++ [((i : Int), (j : Int))] else rowPo is i j := by
  unfold rowPo
  rw [List.range_succ, List.filter_append]
  split
  · rename_i h; rw [List.filter_cons_of_pos (by exact h)]; simp
  · rename_i h; rw [List.filter_cons_of_neg (by exact h)]; simp
theorem uptoPo_succ (is : List It) (n i : Nat) : uptoPo is n (i + 1) = uptoPo is n i ++ rowPo is i n := by
  unfold uptoPo; rw [List.range_succ, List.flatMap_append]; simp
theorem foldP_last (n : Nat) (ps : List (Int × Int)) (p : Int × Int) : foldP n (ps ++ [p]) = setM (foldP n ps) p.1 p.2 := by
  unfold foldP; rw [List.foldl_append]; rfl
end Go.Proofs.Ytjmkpoignnbcpaa

namespace Go.Proofs.Ytjmkpoignnbcpaa
open Go.RowKit
set_option linter.unusedVariables false

/-- facts f, told by the slices v, lie in the variable g; of what was there in w nothing has turned -/
structure FBox (w : World) (g : Nat) (v : FV) (f : Fac) (wr : World) : Prop where
  f : FactsAt wr v f
  k : Blk wr g 30 [.slice v.A v.n v.c, .slice v.B v.m v.d, .slice v.C v.k v.e]
  o : Below w.heap.size w wr
section
variable {w wr w' : World} {g : Nat} {v : FV} {f : Fac}
theorem FBox.later (h : FBox w g v f wr) (hb : Below wr.heap.size wr w') : FBox w g v f w' := ⟨h.f.below hb, h.k.below hb h.k.lt, below_trans2 h.o hb⟩
theorem FBox.new (h : FactsAt w v f) : FBox w w.heap.size v f (w.alloc (.cells #[.slice v.A v.n v.c, .slice v.B v.m v.d, .slice v.C v.k v.e] 30)) :=
  ⟨h.below ((Below.refl _ _).alloc (Nat.le_refl _) _), Blk.new w _ _, (Below.refl _ _).alloc (Nat.le_refl _) _⟩
theorem FBox.c0 (h : FBox w g v f wr) : wr.cell? ⟨g, 0, none⟩ = some (.slice v.A v.n v.c) := h.k.cell 0
theorem FBox.c1 (h : FBox w g v f wr) : wr.cell? ⟨g, 1, none⟩ = some (.slice v.B v.m v.d) := h.k.cell 1
theorem FBox.c2 (h : FBox w g v f wr) : wr.cell? ⟨g, 2, none⟩ = some (.slice v.C v.k v.e) := h.k.cell 2
theorem FBox.drewN (h : FBox w g v f wr) (q : Nat) : FBox w g v f (wr.drewN q) := h.later (below_drewN (Below.refl _ _) q)
/-- .. and all that was told from an earlier world on -/
theorem FBox.from_ {w0 : World} (h : FBox w g v f wr) (hb : Below w0.heap.size w0 w) : FBox w0 g v f wr := ⟨h.f, h.k, below_trans2 hb h.o⟩
end

/-! ### facts stored into a variable of facts -/
def zF : List Value := [.slice none 0 0, .slice none 0 0, .slice none 0 0]
def FV.vals (v : FV) : List Value := [.slice v.A v.n v.c, .slice v.B v.m v.d, .slice v.C v.k v.e]
def putF (w : World) (g : Nat) (v : FV) : World := ((w.setCell ⟨g, 0, none⟩ (.slice v.A v.n v.c)).setCell ⟨g, 1, none⟩ (.slice v.B v.m v.d)).setCell ⟨g, 2, none⟩ (.slice v.C v.k v.e)
section
variable {w w0 : World} {g k : Nat} {t : TypeId} {cs : List Value} {v u : FV} {f : Fac}
theorem putF_facts (h : FactsAt w u f) (hk : Blk w g t zF) (v : FV) : FactsAt (putF w g v) u f := by
  unfold putF
  refine ((h.setBlk hk (fun x hx => ?_) _).setBlk (hk.set_ 0 _) (fun x hx => ?_) _).setBlk ((hk.set_ 0 _).set_ 1 _) (fun x hx => ?_) _
  · simp only [zF, List.mem_cons, List.not_mem_nil, or_false] at hx; rcases hx with rfl | rfl | rfl <;> exact ⟨_, _, _, rfl⟩
  · simp only [zF, List.set_cons_zero, List.mem_cons, List.not_mem_nil, or_false] at hx; rcases hx with rfl | rfl | rfl <;> exact ⟨_, _, _, rfl⟩
  · simp only [zF, List.set_cons_zero, List.set_cons_succ, List.mem_cons, List.not_mem_nil, or_false] at hx; rcases hx with rfl | rfl | rfl <;> exact ⟨_, _, _, rfl⟩
theorem putF_blk (h : Blk w g t zF) (v : FV) : Blk (putF w g v) g t v.vals := Blk.set_ (Blk.set_ (Blk.set_ h 0 _) 1 _) 2 _
theorem putF_far (h : Blk w k t cs) (hne : k ≠ g) (v : FV) : Blk (putF w g v) k t cs :=
  Blk.far (Blk.far (Blk.far h (p := ⟨g, 0, none⟩) hne _) (p := ⟨g, 1, none⟩) hne _) (p := ⟨g, 2, none⟩) hne _
theorem putF_below (h : Below w0.heap.size w0 w) (hg : w0.heap.size ≤ g) (v : FV) : Below w0.heap.size w0 (putF w g v) :=
  ((h.setCell (p := ⟨g, 0, none⟩) hg _).setCell (p := ⟨g, 1, none⟩) hg _).setCell (p := ⟨g, 2, none⟩) hg _
end
/-- facts in a variable -/
def InVar (w : World) (g : Nat) (v : FV) (f : Fac) : Prop := FactsAt w v f ∧ Blk w g 30 v.vals
theorem InVar.below {w w' : World} {g : Nat} {v : FV} {f : Fac} (h : InVar w g v f) (hb : Below w.heap.size w w') : InVar w' g v f := ⟨h.1.below hb, h.2.below hb h.2.lt⟩
theorem InVar.c0 {w : World} {g : Nat} {v : FV} {f : Fac} (h : InVar w g v f) : w.cell? ⟨g, 0, none⟩ = some (.slice v.A v.n v.c) := h.2.cell 0
theorem InVar.c1 {w : World} {g : Nat} {v : FV} {f : Fac} (h : InVar w g v f) : w.cell? ⟨g, 1, none⟩ = some (.slice v.B v.m v.d) := h.2.cell 1
theorem InVar.c2 {w : World} {g : Nat} {v : FV} {f : Fac} (h : InVar w g v f) : w.cell? ⟨g, 2, none⟩ = some (.slice v.C v.k v.e) := h.2.cell 2

/-! ### an item in a variable -/
def It.cells (i : It) : List Value := [.int .i64 i.se, .int .i64 i.pl, .bool i.wr, .int .i64 i.va, .int .i64 i.vl]
def itZ : It := ⟨0, 0, false, 0, 0⟩
/-- an item stored into a variable -/
def putIt (w : World) (g : Nat) (i : It) : World := ((((w.setCell ⟨g, 0, none⟩ (.int .i64 i.se)).setCell ⟨g, 1, none⟩ (.int .i64 i.pl)).setCell ⟨g, 2, none⟩ (.bool i.wr)).setCell ⟨g, 3, none⟩ (.int .i64 i.va)).setCell ⟨g, 4, none⟩ (.int .i64 i.vl)
theorem putIt_blk {w : World} {g : Nat} {t : TypeId} {j : It} (h : Blk w g t j.cells) (i : It) : Blk (putIt w g i) g t i.cells :=
  Blk.set_ (Blk.set_ (Blk.set_ (Blk.set_ (Blk.set_ h 0 _) 1 _) 2 _) 3 _) 4 _
theorem putIt_far {w : World} {g k : Nat} {t : TypeId} {cs : List Value} (h : Blk w k t cs) (hne : k ≠ g) (i : It) : Blk (putIt w g i) k t cs :=
  Blk.far (Blk.far (Blk.far (Blk.far (Blk.far h (p := ⟨g, 0, none⟩) hne _) (p := ⟨g, 1, none⟩) hne _) (p := ⟨g, 2, none⟩) hne _) (p := ⟨g, 3, none⟩) hne _) (p := ⟨g, 4, none⟩) hne _
theorem putIt_below {w0 w : World} {g : Nat} (h : Below w0.heap.size w0 w) (hg : w0.heap.size ≤ g) (i : It) : Below w0.heap.size w0 (putIt w g i) :=
  ((((h.setCell (p := ⟨g, 0, none⟩) hg _).setCell (p := ⟨g, 1, none⟩) hg _).setCell (p := ⟨g, 2, none⟩) hg _).setCell (p := ⟨g, 3, none⟩) hg _).setCell (p := ⟨g, 4, none⟩) hg _
end Go.Proofs.Ytjmkpoignnbcpaa

namespace Go.Proofs.Ytjmkpoignnbcpaa
set_option linter.unusedVariables false

/-- is it a write of this value to this variable? -/
def hitW (v val : Int) (x : It) : Bool := x.wr && (decide (x.va = v) && decide (x.vl = val))
/-- the first write of a value to a variable -/
def writeF (is : List It) (v val : Int) : Option Nat := is.findIdx? (hitW v val)
theorem writeF_at {is : List It} {v val : Int} {k : Nat} {x : It} (hx : is[k]? = some x) (h : hitW v val x = true) (hn : ∀ j, j < k → ∀ y, is[j]? = some y → hitW v val y = false) : writeF is v val = some k := by
  obtain ⟨hk, he⟩ := List.getElem?_eq_some_iff.1 hx
  unfold writeF
  rw [List.findIdx?_eq_some_iff_getElem]
  exact ⟨hk, by rw [he]; exact h, fun j hj => by rw [hn j hj _ (List.getElem?_eq_getElem (by omega))]; simp⟩
theorem writeF_none {is : List It} {v val : Int} (hn : ∀ (j : Nat) (y : It), is[j]? = some y → hitW v val y = false) : writeF is v val = none := by
  unfold writeF
  rw [List.findIdx?_eq_none_iff]
  intro x hx
  obtain ⟨j, hj, e⟩ := List.mem_iff_getElem.1 hx
  exact hn j x (by rw [← e]; exact List.getElem?_eq_getElem hj)
theorem writeF_some {is : List It} {v val : Int} {k : Nat} (h : writeF is v val = some k) : ∃ x, is[k]? = some x ∧ hitW v val x = true ∧ ∀ (j : Nat) (y : It), j < k → is[j]? = some y → hitW v val y = false := by
  unfold writeF at h
  rw [List.findIdx?_eq_some_iff_getElem] at h
  obtain ⟨hk, h1, h2⟩ := h
  refine ⟨is[k], List.getElem?_eq_getElem hk, h1, fun j y hj hy => ?_⟩
  obtain ⟨hjl, e⟩ := List.getElem?_eq_some_iff.1 hy
  have := h2 j hj
  rw [e] at this
  simpa using this
theorem writeF_own {is : List It} {j : Nat} {x : It} (hx : is[j]? = some x) (hw : x.wr = true) : ∃ i, writeF is x.va x.vl = some i ∧ i ≤ j := by
  cases h : writeF is x.va x.vl with
  | none =>
    unfold writeF at h
    rw [List.findIdx?_eq_none_iff] at h
    have := h x (List.mem_of_getElem? hx)
    simp [hitW, hw] at this
  | some i =>
    refine ⟨i, rfl, ?_⟩
    obtain ⟨_, _, _, h3⟩ := writeF_some h
    rcases Nat.lt_or_ge j i with h4 | h4
    · have := h3 j x h4 hx
      simp [hitW, hw] at this
    · exact h4
theorem writeF_append {is l : List It} {v val : Int} {k : Nat} (h : writeF is v val = some k) : writeF (is ++ l) v val = some k := by
  obtain ⟨x, h1, h2, h3⟩ := writeF_some h
  have hk := (List.getElem?_eq_some_iff.1 h1).1
  exact writeF_at (by rw [List.getElem?_append_left hk]; exact h1) h2 (fun j hj y hy => h3 j y hj (by rw [List.getElem?_append_left (by omega)] at hy; exact hy))
/-- what item j says of it -/
def stepC (is : List It) (j : Nat) : Option (Int × Int × Int) :=
  match is[j]? with
  | none => none
  | some x => if x.wr = false then none else if x.vl = 0 then some (j, j, 5) else if (writeF is x.va x.vl).getD 0 < j then some (((writeF is x.va x.vl).getD 0 : Nat), j, 4) else none
/-- is a history differentiated? -/
def checkF (is : List It) : Int × Int × Int := ((List.range is.length).findSome? (stepC is)).getD (0, 0, 0)
theorem range_first {n j : Nat} {α : Type} {f : Nat → Option α} {a : α} (hj : j < n) (h : f j = some a) (hn : ∀ i, i < j → f i = none) : (List.range n).findSome? f = some a := by
  rw [List.findSome?_eq_some_iff]
  refine ⟨List.range j, j, List.range' (j + 1) (n - j - 1), ?_, h, fun x hx => hn x (by simpa using hx)⟩
  rw [List.range_eq_range', List.range_eq_range', show n = j + (n - j) by omega, ← List.range'_append_1, show j + (n - j) - j - 1 = n - j - 1 by omega]
  congr 1
  rw [show n - j = (n - j - 1) + 1 by omega, List.range'_succ]
  simp
theorem checkF_at {is : List It} {j : Nat} {r : Int × Int × Int} (h : stepC is j = some r) (hn : ∀ i, i < j → stepC is i = none) : checkF is = r := by
  have hj : j < is.length := by
    rcases Nat.lt_or_ge j is.length with h1 | h1
    · exact h1
    · unfold stepC at h; rw [List.getElem?_eq_none h1] at h; cases h
  unfold checkF
  rw [range_first hj h hn]; rfl
theorem checkF_none {is : List It} (hn : ∀ i, i < is.length → stepC is i = none) : checkF is = (0, 0, 0) := by
  unfold checkF
  have : (List.range is.length).findSome? (stepC is) = none := by
    rw [List.findSome?_eq_none_iff]
    exact fun x hx => hn x (by simpa using hx)
  rw [this]; rfl
theorem least_none {α : Type} (f : Nat → Option α) (j : Nat) (h : f j ≠ none) : ∃ j, f j ≠ none ∧ ∀ i, i < j → f i = none := by
  induction j using Nat.strongRecOn with
  | ind j ih =>
    rcases Classical.em (∃ i, i < j ∧ f i ≠ none) with ⟨i, h1, h2⟩ | hn
    · exact ih i h1 h2
    · exact ⟨j, h, fun i hi => Classical.byContradiction fun h' => hn ⟨i, hi, h'⟩⟩
theorem checkF_cases (is : List It) : ((∀ i, stepC is i = none) ∧ checkF is = (0, 0, 0)) ∨ ∃ j r, stepC is j = some r ∧ (∀ i, i < j → stepC is i = none) ∧ checkF is = r := by
  rcases Classical.em (∃ j, stepC is j ≠ none) with h | h
  · obtain ⟨j, hj⟩ := h
    have : ∃ j, stepC is j ≠ none ∧ ∀ i, i < j → stepC is i = none := least_none (stepC is) j hj
    obtain ⟨j, hj, hn⟩ := this
    cases hs : stepC is j with
    | none => exact absurd hs hj
    | some r => exact .inr ⟨j, r, hs, hn, checkF_at hs hn⟩
  · have h' : ∀ i, stepC is i = none := fun i => Classical.byContradiction fun hi => h ⟨i, hi⟩
    exact .inl ⟨h', checkF_none fun i _ => h' i⟩
/-- what is told of facts that aren't differentiated -/
theorem stepC_some {is : List It} {j : Nat} {r : Int × Int × Int} (h : stepC is j = some r) : ∃ (i : Nat) (a b : It), is[i]? = some a ∧ is[j]? = some b ∧ r.1 = (i : Int) ∧ r.2.1 = (j : Int) ∧ a.wr = true ∧ b.wr = true ∧ a.va = b.va ∧ a.vl = b.vl ∧
    ((r.2.2 = 5 ∧ i = j ∧ a.vl = 0) ∨ (r.2.2 = 4 ∧ i < j ∧ a.vl ≠ 0)) := by
  unfold stepC at h
  split at h
  · cases h
  · rename_i x hx
    split at h
    · cases h
    · rename_i hw
      have hw' : x.wr = true := by cases hx : x.wr with | true => rfl | false => exact absurd hx hw
      split at h
      · rename_i h0
        injection h with h
        subst h
        exact ⟨j, x, x, hx, hx, rfl, rfl, hw', hw', rfl, rfl, .inl ⟨rfl, rfl, h0⟩⟩
      · rename_i h0
        split at h
        · rename_i hlt
          injection h with h
          subst h
          obtain ⟨i, hi, hij⟩ := writeF_own hx hw'
          rw [hi] at hlt
          obtain ⟨a, h1, h2, _⟩ := writeF_some hi
          simp only [hitW, Bool.and_eq_true, decide_eq_true_eq] at h2
          rw [hi]
          exact ⟨i, a, x, h1, hx, rfl, rfl, h2.1, hw', h2.2.1, h2.2.2, .inr ⟨rfl, hlt, by rw [h2.2.2]; exact h0⟩⟩
        · cases h
/-- of differentiated ones each write is the first of its value, and no write of 0 -/
theorem stepC_none {is : List It} {j : Nat} {x : It} (h : stepC is j = none) (hx : is[j]? = some x) (hw : x.wr = true) : writeF is x.va x.vl = some j ∧ x.vl ≠ 0 := by
  unfold stepC at h
  rw [hx] at h
  simp only at h
  rw [if_neg (by rw [hw]; simp)] at h
  split at h
  · cases h
  · rename_i h0
    split at h
    · cases h
    · rename_i hlt
      obtain ⟨i, hi, hij⟩ := writeF_own hx hw
      rw [hi] at hlt
      have : i = j := by simp at hlt; omega
      rw [hi, this]
      exact ⟨rfl, h0⟩
theorem stepC_append {is l : List It} {j : Nat} (hj : j < is.length) : stepC (is ++ l) j = stepC is j := by
  unfold stepC
  rw [List.getElem?_append_left hj]
  cases hx : is[j]? with
  | none => rfl
  | some x =>
    simp only
    cases hw : x.wr with
    | false => rfl
    | true =>
      obtain ⟨i, hi, _⟩ := writeF_own hx hw
      rw [hi, writeF_append hi]
/-- what isn't differentiated stays so with more behind; what is is so up to there -/
theorem checkF_append (is l : List It) : ((checkF is).2.2 = 0 ∧ ((checkF (is ++ l)).2.2 = 0 ∨ (is.length : Int) ≤ (checkF (is ++ l)).2.1)) ∨ ((checkF is).2.2 ≠ 0 ∧ checkF (is ++ l) = checkF is) := by
  rcases checkF_cases is with ⟨h, e⟩ | ⟨j, r, hs, hn, e⟩
  · left
    rw [e]
    refine ⟨rfl, ?_⟩
    rcases checkF_cases (is ++ l) with ⟨h2, e2⟩ | ⟨j, r, hs, hn, e2⟩
    · rw [e2]; exact .inl rfl
    · right
      rw [e2]
      obtain ⟨i, a, b, _, _, _, hj, _⟩ := stepC_some hs
      rw [hj]
      rcases Nat.lt_or_ge j is.length with h1 | h1
      · rw [stepC_append h1, h j] at hs; cases hs
      · omega
  · right
    have hj : j < is.length := by
      rcases Nat.lt_or_ge j is.length with h1 | h1
      · exact h1
      · unfold stepC at hs; rw [List.getElem?_eq_none h1] at hs; cases hs
    rw [e]
    obtain ⟨i, a, b, _, _, _, _, _, _, _, _, h5⟩ := stepC_some hs
    refine ⟨by rcases h5 with h | h <;> (rw [h.1]; decide), ?_⟩
    exact checkF_at (by rw [stepC_append hj]; exact hs) (fun i hi => by rw [stepC_append (by omega)]; exact hn i hi)
/-- a history's items are those of its beginning, and more -/
theorem hisF_append (xs ys : List (List OpT)) : ∃ l, (hisF (xs ++ ys)).2 = (hisF xs).2 ++ l := by
  induction ys using snoc_ind with
  | h0 => exact ⟨[], by simp⟩
  | h1 ys os ih =>
    obtain ⟨l, h⟩ := ih
    rw [← List.append_assoc, hisF_snoc]
    obtain ⟨l', h', _⟩ := sesF_items (xs ++ ys).length os (hisF (xs ++ ys))
    exact ⟨l ++ l', by rw [h', h, List.append_assoc]⟩
end Go.Proofs.Ytjmkpoignnbcpaa
