/- Plain mathematics of layer 9: facts laid back into a history. Nothing of the program is named. -/
import Derived.Test.YtcdfpodhiogpiaaInternMath
namespace Go.Proofs.Ytcdfpodhiogpiaa
set_option linter.unusedVariables false

/-- with sessions behind, till there are n -/
def extH (h : List (List OpT)) (n : Nat) : List (List OpT) := h ++ List.replicate (n - h.length) []
/-- one operation more in a session -/
def putH (h : List (List OpT)) (i : Nat) (o : OpT) : List (List OpT) := h.modify i (fun s => s ++ [o])
def okX (vars : List ByteArray) (x : It) : Bool := decide (0 ≤ x.se) && decide (0 ≤ x.va) && decide (x.va < vars.length)
def opX (vars : List ByteArray) (x : It) : OpT := (x.wr, vars.getD x.va.toNat ⟨#[]⟩, x.vl)
def layF (vars : List ByteArray) : List It → List (List OpT) → Option (List (List OpT))
  | [], h => some h
  | x :: r, h => if okX vars x = true then layF vars r (putH (extH h (x.se.toNat + 1)) x.se.toNat (opX vars x)) else none
/-- the history of facts -/
def backF (f : Fac) : Option (List (List OpT)) := (layF f.vars f.items []).bind fun h => if (rightL h && decide ((facO h).vars = f.vars) && decide ((facO h).items = f.items)) = true then some h else none
theorem extH_len (h : List (List OpT)) (n : Nat) : (extH h n).length = max h.length n := by unfold extH; rw [List.length_append, List.length_replicate]; omega
theorem extH_done {h : List (List OpT)} {n : Nat} (hn : n ≤ h.length) : extH h n = h := by unfold extH; rw [show n - h.length = 0 from by omega]; simp
theorem extH_step {h : List (List OpT)} {n : Nat} (hn : h.length < n) : extH (h ++ [[]]) n = extH h n := by
  unfold extH
  rw [List.length_append, List.append_assoc]
  congr 1
  obtain ⟨m, hm⟩ : ∃ m, n - h.length = m + 1 := ⟨n - h.length - 1, by omega⟩
  rw [hm, show n - (h.length + [([] : List OpT)].length) = m from by simp; omega, List.replicate_succ]; rfl
theorem putH_len (h : List (List OpT)) (i : Nat) (o : OpT) : (putH h i o).length = h.length := by unfold putH; simp
theorem putH_at (h : List (List OpT)) (i : Nat) (o : OpT) (j : Nat) : (putH h i o)[j]? = (h[j]?).map (fun s => if i = j then s ++ [o] else s) := by
  unfold putH; rw [List.getElem?_modify]; cases h[j]? <;> simp
theorem layF_cons {vars : List ByteArray} {x : It} {r : List It} {h : List (List OpT)} (hx : okX vars x = true) : layF vars (x :: r) h = layF vars r (putH (extH h (x.se.toNat + 1)) x.se.toNat (opX vars x)) := by
  rw [layF, if_pos hx]
theorem layF_bad {vars : List ByteArray} {x : It} {r : List It} {h : List (List OpT)} (hx : okX vars x = false) : layF vars (x :: r) h = none := by
  rw [layF, hx]; rfl
theorem layF_drop {vars : List ByteArray} {l : List It} {q : Nat} {x : It} (hx : l[q]? = some x) (h : List (List OpT)) (hok : okX vars x = true) : layF vars (l.drop q) h = layF vars (l.drop (q + 1)) (putH (extH h (x.se.toNat + 1)) x.se.toNat (opX vars x)) := by
  rw [List.drop_eq_getElem_cons (List.getElem?_eq_some_iff.1 hx).1, (List.getElem?_eq_some_iff.1 hx).2, layF_cons hok]
theorem layF_dropbad {vars : List ByteArray} {l : List It} {q : Nat} {x : It} (hx : l[q]? = some x) (h : List (List OpT)) (hok : okX vars x = false) : layF vars (l.drop q) h = none := by
  rw [List.drop_eq_getElem_cons (List.getElem?_eq_some_iff.1 hx).1, (List.getElem?_eq_some_iff.1 hx).2, layF_bad hok]
theorem allO_ext (h : List (List OpT)) (n : Nat) : allO (extH h n) = allO h := by
  unfold extH; rw [allO_append]
  have : ∀ m, allO (List.replicate m ([] : List OpT)) = [] := fun m => by
    induction m with
    | zero => rfl
    | succ m ih => rw [List.replicate_succ, allO_cons, ih]; rfl
  rw [this]; simp
theorem allO_put : ∀ (h : List (List OpT)) (i : Nat) (o : OpT), (allO (putH h i o)).length ≤ (allO h).length + 1
  | [], i, o => by unfold putH; simp [allO]
  | s :: h, 0, o => by
    show (allO ((s ++ [o]) :: h)).length ≤ _
    rw [allO_cons, allO_cons, List.length_append, List.length_append, List.length_append]; simp; omega
  | s :: h, i + 1, o => by
    have := allO_put h i o
    show (allO (s :: putH h i o)).length ≤ _
    rw [allO_cons, allO_cons, List.length_append, List.length_append]; omega
/-- all sessions that are laid are few -/
theorem layF_len : ∀ (l : List It) (vars : List ByteArray) (h g : List (List OpT)) (N : Nat), layF vars l h = some g → h.length ≤ N → (∀ x ∈ l, x.se < N) → g.length ≤ N
  | [], vars, h, g, N, e, hn, _ => by rw [layF] at e; injection e with e; rw [← e]; exact hn
  | x :: l, vars, h, g, N, e, hn, hx => by
    cases hok : okX vars x with
    | false => rw [layF_bad hok] at e; cases e
    | true =>
      rw [layF_cons hok] at e
      refine layF_len l vars _ g N e ?_ (fun y hy => hx y (by simp [hy]))
      rw [putH_len, extH_len]
      have h1 := hx x (by simp)
      have h0 : 0 ≤ x.se := by
        unfold okX at hok
        simp only [Bool.and_eq_true, decide_eq_true_eq] at hok
        exact hok.1.1
      omega
end Go.Proofs.Ytcdfpodhiogpiaa
