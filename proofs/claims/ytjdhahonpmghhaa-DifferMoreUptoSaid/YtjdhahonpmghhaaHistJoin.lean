/- Words for memory: histories put together. No function of the program is named here. -/
import Derived.Test.YtjdhahonpmghhaaHistMemB
namespace Go.Proofs.Ytjdhahonpmghhaa
open Go.RowKit
set_option linter.unusedVariables false

theorem HistAt.rd {w : World} {A : Option Addr} {n : Nat} {hs : List (List OpT)} (h : HistAt w A n hs) : ∃ vs, Rd w A n vs ∧ vs.length = hs.length ∧ (∀ u ∈ vs, u.oneCell' = true) ∧ ∀ (i : Nat) (v : Value) (os : List OpT), vs[i]? = some v → hs[i]? = some os → SessV w v os := by
  obtain ⟨vs, h1, h2, h3⟩ := h
  refine ⟨vs, h1, h2, fun u hu => ?_, h3⟩
  obtain ⟨i, hi⟩ := List.getElem?_of_mem hu
  have hl : i < hs.length := by rw [← h2]; exact (List.getElem?_eq_some_iff.1 hi).1
  obtain ⟨A', n', c', e, _⟩ := h3 i u hs[i] hi (List.getElem?_eq_getElem hl)
  rw [e]; rfl
theorem HistAt.okO {w : World} {A : Option Addr} {n : Nat} {hs : List (List OpT)} (h : HistAt w A n hs) : OkO (allO hs) := fun o ho => by
  obtain ⟨os, hos, ho'⟩ := List.mem_flatten.1 ho
  obtain ⟨i, hi⟩ := List.getElem?_of_mem hos
  obtain ⟨vs, h1, h2, h3⟩ := h
  have hl : i < vs.length := by rw [h2]; exact (List.getElem?_eq_some_iff.1 hi).1
  obtain ⟨_, _, _, _, _, _, hO⟩ := h3 i vs[i] os (List.getElem?_eq_getElem hl) hi
  exact hO.2.1 o ho'
theorem HistAt.joined {w : World} {base : Nat} {e : TypeId} {v : Value} {n m : Nat} {vs us : List Value} {xs ys : List (List OpT)} (h : w.ownsRow base e 1 v (n + m) (vs ++ us)) (hn : vs.length = n) (hm : us.length = m) (hx : vs.length = xs.length) (hy : us.length = ys.length)
    (h1 : ∀ (i : Nat) (v : Value) (os : List OpT), vs[i]? = some v → xs[i]? = some os → SessV w v os) (h2 : ∀ (i : Nat) (v : Value) (os : List OpT), us[i]? = some v → ys[i]? = some os → SessV w v os) : ∃ A c, v = .slice A (n + m) c ∧ n + m ≤ c ∧ c ≤ 9223372036854775807 ∧ HistAt w A (n + m) (xs ++ ys) := by
  obtain ⟨A, c, e, hr⟩ := Rd.of_own h
  subst e
  refine ⟨A, c, rfl, OwnsRow.cap_le h, OwnsRow.cap_max h, vs ++ us, hr, by rw [List.length_append, List.length_append, hx, hy], fun i v os hv ho => ?_⟩
  by_cases hi : i < vs.length
  · rw [List.getElem?_append_left hi] at hv
    rw [List.getElem?_append_left (by omega)] at ho
    exact h1 i v os hv ho
  · rw [List.getElem?_append_right (by omega)] at hv
    rw [List.getElem?_append_right (by omega), ← hx] at ho
    exact h2 _ v os hv ho
/-- what a law over two histories keeps: both histories, and what was there -/
structure JoinI (w : World) (A : Option Addr) (n : Nat) (xs : List (List OpT)) (B : Option Addr) (m : Nat) (ys : List (List OpT)) (wr : World) : Prop where
  x : HistAt wr A n xs
  y : HistAt wr B m ys
  b : Below w.heap.size w wr
theorem JoinI.later {w : World} {A : Option Addr} {n : Nat} {xs : List (List OpT)} {B : Option Addr} {m : Nat} {ys : List (List OpT)} {wr w' : World} (h : JoinI w A n xs B m ys wr) (hb : Below wr.heap.size wr w') : JoinI w A n xs B m ys w' := ⟨h.x.below hb, h.y.below hb, below_trans2 h.b hb⟩
theorem rightL_append {xs ys : List (List OpT)} (hx : (allO xs).length ≤ 60) (hy : (allO ys).length ≤ 60) : rightL (xs ++ ys) = (rightL xs && rightL ys) := by
  unfold rightL
  rw [allO_append, List.all_append, decide_eq_true (by rw [List.length_append]; omega : (allO xs ++ allO ys).length ≤ 4096), decide_eq_true (by omega : (allO xs).length ≤ 4096), decide_eq_true (by omega : (allO ys).length ≤ 4096)]
  simp

end Go.Proofs.Ytjdhahonpmghhaa
