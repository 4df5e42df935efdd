/- The code's own contracts of layer 10: a map of first writes, Check, Write. -/
import Derived.Test.YtcdfpodhiogpiaaDiffRef
import Derived.Maps.OwnSet
import Derived.Maps.OwnOps
import Derived.DeepKeys4
namespace Go.Proofs.Ytcdfpodhiogpiaa
open Go.RowKit Go.Maps
set_option linter.unusedVariables false
theorem writeF_snoc (is : List It) (x : It) (a v : Int) : writeF (is ++ [x]) a v = (writeF is a v).or (if hitW a v x then some is.length else none) := by
  unfold writeF
  rw [List.findIdx?_append]
  congr 1
  simp [List.findIdx?_cons]
theorem writeF_skip {is : List It} {x : It} (h : x.wr = false) (a v : Int) : writeF (is ++ [x]) a v = writeF is a v := by
  rw [writeF_snoc]
  simp [hitW, h]
theorem writeF_old {is : List It} {x : It} {i : Nat} (h : writeF is x.va x.vl = some i) (a v : Int) : writeF (is ++ [x]) a v = writeF is a v := by
  rw [writeF_snoc]
  by_cases hh : hitW a v x = true
  · have h2 := hh
    simp only [hitW, Bool.and_eq_true, decide_eq_true_eq] at h2
    rw [← h2.2.1, ← h2.2.2, h]; rfl
  · rw [if_neg hh]; simp
theorem writeF_new {is : List It} {x : It} (hw : x.wr = true) (h : writeF is x.va x.vl = none) : writeF (is ++ [x]) x.va x.vl = some is.length := by
  rw [writeF_snoc, h]
  simp [hitW, hw]
theorem writeF_other {is : List It} {x : It} {a v : Int} (h : ¬ (a = x.va ∧ v = x.vl)) : writeF (is ++ [x]) a v = writeF is a v := by
  rw [writeF_snoc]
  have : hitW a v x = false := by
    cases hh : hitW a v x with
    | false => rfl
    | true =>
      simp only [hitW, Bool.and_eq_true, decide_eq_true_eq] at hh
      exact absurd ⟨hh.2.1.symm, hh.2.2.symm⟩ h
  rw [this]; simp
theorem take_snoc {α : Type} {l : List α} {k : Nat} {x : α} (h : l[k]? = some x) : l.take (k + 1) = l.take k ++ [x] := by
  rw [List.take_add_one, h]; rfl
theorem writeF_take {is : List It} {k i : Nat} {a v : Int} (h : writeF (is.take k) a v = some i) : writeF is a v = some i ∧ i < k := by
  have h1 := writeF_append (l := is.drop k) h
  rw [List.take_append_drop] at h1
  obtain ⟨x, h2, -⟩ := writeF_some h
  have := (List.getElem?_eq_some_iff.1 h2).1
  rw [List.length_take] at this
  exact ⟨h1, by omega⟩
theorem writeF_take_none {is : List It} {k : Nat} {x : It} (hx : is[k]? = some x) (hw : x.wr = true) (h : writeF (is.take k) x.va x.vl = none) : writeF is x.va x.vl = some k := by
  have h1 := writeF_new hw h
  rw [← take_snoc hx] at h1
  have := (writeF_take h1).1
  rw [this, List.length_take]
  have := (List.getElem?_eq_some_iff.1 hx).1
  rw [Nat.min_eq_left (by omega)]
end Go.Proofs.Ytcdfpodhiogpiaa
