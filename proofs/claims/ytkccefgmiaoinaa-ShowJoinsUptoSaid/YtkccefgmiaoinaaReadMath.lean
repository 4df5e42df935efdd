/- Plain mathematics of layer 7: histories of text. Nothing of the program is named. -/
import Derived.Test.YtkccefgmiaoinaaNumMath
import Derived.Test.YtkccefgmiaoinaaHistMemB
namespace Go.Proofs.Ytkccefgmiaoinaa
set_option linter.unusedVariables false

/-- what reading comes to: something, or a place and an error -/
inductive PRes (α : Type) where
  | ok (a : α)
  | bad (at_ : Nat) (e : Int)
def isAZ (c : UInt8) : Bool := decide (97 ≤ c.toNat) && decide (c.toNat ≤ 122)
def nameN (l : List UInt8) : Nat := min 8 (l.takeWhile isAZ).length
def numAt (l : List UInt8) : List UInt8 := l.take (spanN l)
def isW (c : UInt8) : Bool := decide (c.toNat = 119)
def isR (c : UInt8) : Bool := decide (c.toNat = 114)
def isWR : List UInt8 → Bool
  | [] => false
  | c :: _ => isW c || isR c
/-- behind the colon -/
def varL (w : Bool) (q : List UInt8) : PRes (OpT × Nat) :=
  if nameN q = 0 ∨ q[nameN q]? ≠ some 61 then .bad (2 + nameN q) 2
  else if getE (numAt (q.drop (nameN q + 1))) ≠ 0 then .bad (3 + nameN q) (getE (numAt (q.drop (nameN q + 1))))
  else .ok ((w, ⟨(q.take (nameN q)).toArray⟩, getV (numAt (q.drop (nameN q + 1)))), 3 + nameN q + spanN (q.drop (nameN q + 1)))
/-- an operation at a text's beginning -/
def oneL : List UInt8 → PRes (OpT × Nat)
  | [] => .bad 0 2
  | c :: r => if (isW c || isR c) = false then .bad 0 2 else
    match r with
    | [] => .bad 1 2
    | d :: q => if d.toNat = 58 then varL (isW c) q else .bad 1 2
def skN (first : Bool) : Nat := if first = true then 0 else 1
/-- the next operation of a line, and the blank ahead of it -/
def opS (first : Bool) (all : Nat) (l : List UInt8) : PRes (OpT × Nat) :=
  if first = false ∧ ∀ c, l[0]? = some c → c.toNat ≠ 32 then .bad 0 2
  else if all = 4096 ∧ isWR (l.drop (skN first)) = true then .bad (skN first) 3
  else match oneL (l.drop (skN first)) with
    | .bad k e => .bad (skN first + k) e
    | .ok (o, k) => .ok (o, skN first + k)
def addL (o : OpT) (k : Nat) : PRes (List OpT × Nat) → PRes (List OpT × Nat)
  | .bad m e => .bad (k + m) e
  | .ok (os, m) => .ok (o :: os, k + m)
/-- a line's rest -/
def lineT (l : List UInt8) (first : Bool) (all : Nat) : PRes (List OpT × Nat) :=
  match l with
  | [] => .bad 0 2
  | c :: r => if c.toNat = 10 then .ok ([], 1) else
    match opS first all (c :: r) with
    | .bad k e => .bad k e
    | .ok (o, k) => if h : 0 < k then addL o k (lineT ((c :: r).drop k) false (all + 1)) else .bad 0 0
termination_by l.length
decreasing_by simp only [List.length_drop, List.length_cons]; omega
def addT (os : List OpT) (k : Nat) : PRes (List (List OpT)) → PRes (List (List OpT))
  | .bad m e => .bad (k + m) e
  | .ok ls => .ok (os :: ls)
/-- a text's rest -/
def textT (l : List UInt8) (all : Nat) : PRes (List (List OpT)) :=
  match l with
  | [] => .ok []
  | c :: r => match lineT (c :: r) true all with
    | .bad k e => .bad k e
    | .ok (os, k) => if h : 0 < k then addT os k (textT ((c :: r).drop k) (all + os.length)) else .bad 0 0
termination_by l.length
decreasing_by simp only [List.length_drop, List.length_cons]; omega
def textL (l : List UInt8) : PRes (List (List OpT)) := textT l 0

theorem oneL_pos {l : List UInt8} {o : OpT} {k : Nat} (h : oneL l = .ok (o, k)) : 3 ≤ k := by
  unfold oneL at h
  split at h
  · simp at h
  · split at h
    · simp at h
    · split at h
      · simp at h
      · split at h
        · unfold varL at h
          split at h
          · simp at h
          · split at h
            · simp at h
            · injection h with h; injection h with h1 h2; omega
        · simp at h
theorem opS_pos {first : Bool} {all : Nat} {l : List UInt8} {o : OpT} {k : Nat} (h : opS first all l = .ok (o, k)) : 3 ≤ k := by
  unfold opS at h
  split at h
  · simp at h
  · split at h
    · simp at h
    · split at h
      · simp at h
      · rename_i o' k' h1
        have := oneL_pos h1
        injection h with h; injection h with h1 h2; omega
theorem lineT_pos {l : List UInt8} {first : Bool} {all : Nat} {os : List OpT} {k : Nat} (h : lineT l first all = .ok (os, k)) : 0 < k := by
  rw [lineT.eq_def] at h
  split at h
  · simp at h
  · split at h
    · injection h with h; injection h with h1 h2; omega
    · split at h
      · simp at h
      · rename_i o k' h1
        split at h
        · rename_i h0
          cases hr : lineT (List.drop k' (_ :: _)) false (all + 1) with
          | bad m e => rw [hr] at h; simp [addL] at h
          | ok x =>
            rw [hr] at h
            simp [addL] at h
            omega
        · simp at h
/-- a line, from where it is on -/
theorem lineT_nil (first : Bool) (all : Nat) : lineT [] first all = .bad 0 2 := by rw [lineT.eq_def]
theorem lineT_end {c : UInt8} {r : List UInt8} (h : c.toNat = 10) (first : Bool) (all : Nat) : lineT (c :: r) first all = .ok ([], 1) := by
  rw [lineT.eq_def]; simp only [h, if_true]
theorem lineT_bad {c : UInt8} {r : List UInt8} {first : Bool} {all k : Nat} {e : Int} (h : ¬ c.toNat = 10) (ho : opS first all (c :: r) = .bad k e) : lineT (c :: r) first all = .bad k e := by
  rw [lineT.eq_def]; simp only [h, if_false, ho]
theorem lineT_op {c : UInt8} {r : List UInt8} {first : Bool} {all k : Nat} {o : OpT} (h : ¬ c.toNat = 10) (ho : opS first all (c :: r) = .ok (o, k)) : lineT (c :: r) first all = addL o k (lineT ((c :: r).drop k) false (all + 1)) := by
  have := opS_pos ho
  rw [lineT.eq_def]; simp only [h, if_false, ho]
  rw [dif_pos (by omega)]
theorem textT_nil (all : Nat) : textT [] all = .ok [] := by rw [textT.eq_def]
theorem textT_bad {c : UInt8} {r : List UInt8} {all k : Nat} {e : Int} (h : lineT (c :: r) true all = .bad k e) : textT (c :: r) all = .bad k e := by
  rw [textT.eq_def]; simp only [h]
theorem textT_line {c : UInt8} {r : List UInt8} {all k : Nat} {os : List OpT} (h : lineT (c :: r) true all = .ok (os, k)) : textT (c :: r) all = addT os k (textT ((c :: r).drop k) (all + os.length)) := by
  have := lineT_pos h
  rw [textT.eq_def]; simp only [h]
  rw [dif_pos this]

/-! ### where a walk stands -/
def shiftT (at_ : Nat) (out : List (List OpT)) : PRes (List (List OpT)) → PRes (List (List OpT))
  | .bad k e => .bad (at_ + k) e
  | .ok ls => .ok (out ++ ls)
/-- what comes of the text s, from the place 'at' on, outside of lines -/
def fromT (s : List UInt8) (at_ : Nat) (out : List (List OpT)) (all : Nat) : PRes (List (List OpT)) := shiftT at_ out (textT (s.drop at_) all)
/-- .. within a line, of which the operations l are read -/
def fromL (s : List UInt8) (at_ : Nat) (l : List OpT) (out : List (List OpT)) (all : Nat) : PRes (List (List OpT)) :=
  match lineT (s.drop at_) l.isEmpty all with
  | .bad k e => .bad (at_ + k) e
  | .ok (os, k) => fromT s (at_ + k) (out ++ [l ++ os]) (all + os.length)
theorem fromT_start (s : List UInt8) : fromT s 0 [] 0 = textL s := by
  unfold fromT textL
  rw [List.drop_zero]
  cases textT s 0 <;> simp [shiftT]
theorem fromT_end {s : List UInt8} {at_ : Nat} (h : s.length ≤ at_) (out : List (List OpT)) (all : Nat) : fromT s at_ out all = .ok out := by
  unfold fromT
  rw [List.drop_eq_nil_of_le h, textT_nil]
  simp [shiftT]
theorem fromT_line {s : List UInt8} {at_ : Nat} (h : at_ < s.length) (out : List (List OpT)) (all : Nat) : fromT s at_ out all = fromL s at_ [] out all := by
  unfold fromT fromL
  cases hd : s.drop at_ with
  | nil => have := congrArg List.length hd; simp at this; omega
  | cons c r =>
    show shiftT at_ out (textT (c :: r) all) = match lineT (c :: r) true all with | .bad k e => .bad (at_ + k) e | .ok (os, k) => fromT s (at_ + k) (out ++ [[] ++ os]) (all + os.length)
    cases hl : lineT (c :: r) true all with
    | bad k e => rw [textT_bad hl]; rfl
    | ok x =>
      obtain ⟨os, k⟩ := x
      rw [textT_line hl]
      simp only
      unfold fromT
      rw [← List.drop_drop, hd]
      cases textT (List.drop k (c :: r)) (all + os.length) with
      | bad m e => simp [addT, shiftT]; omega
      | ok ls => simp [addT, shiftT]
theorem fromL_nil {s : List UInt8} {at_ : Nat} (h : s.length ≤ at_) (l : List OpT) (out : List (List OpT)) (all : Nat) : fromL s at_ l out all = .bad at_ 2 := by
  unfold fromL
  rw [List.drop_eq_nil_of_le h, lineT_nil]; rfl
theorem drop_cons {s : List UInt8} {at_ : Nat} {c : UInt8} (h : s[at_]? = some c) : s.drop at_ = c :: s.drop (at_ + 1) := by
  obtain ⟨hl, he⟩ := List.getElem?_eq_some_iff.1 h
  rw [List.drop_eq_getElem_cons hl, he]
theorem fromL_end {s : List UInt8} {at_ : Nat} {c : UInt8} (h : s[at_]? = some c) (hc : c.toNat = 10) (l : List OpT) (out : List (List OpT)) (all : Nat) : fromL s at_ l out all = fromT s (at_ + 1) (out ++ [l]) all := by
  unfold fromL
  rw [drop_cons h, lineT_end hc]; simp
theorem fromL_bad {s : List UInt8} {at_ : Nat} {c : UInt8} {l : List OpT} {all k : Nat} {e : Int} (h : s[at_]? = some c) (hc : ¬ c.toNat = 10) (ho : opS l.isEmpty all (s.drop at_) = .bad k e) (out : List (List OpT)) : fromL s at_ l out all = .bad (at_ + k) e := by
  unfold fromL
  rw [drop_cons h] at ho ⊢
  rw [lineT_bad hc ho]
theorem fromL_op {s : List UInt8} {at_ : Nat} {c : UInt8} {l : List OpT} {all k : Nat} {o : OpT} (h : s[at_]? = some c) (hc : ¬ c.toNat = 10) (ho : opS l.isEmpty all (s.drop at_) = .ok (o, k)) (out : List (List OpT)) : fromL s at_ l out all = fromL s (at_ + k) (l ++ [o]) out (all + 1) := by
  unfold fromL
  rw [← List.drop_drop]
  rw [drop_cons h] at ho ⊢
  rw [lineT_op hc ho]
  have e1 : (l ++ [o]).isEmpty = false := by cases l <;> rfl
  rw [e1]
  cases lineT (List.drop k (c :: List.drop (at_ + 1) s)) false (all + 1) with
  | bad m e => simp [addL]; omega
  | ok x =>
    obtain ⟨os, m⟩ := x
    simp only [addL]
    rw [show at_ + (k + m) = at_ + k + m by omega, List.length_cons, show all + (os.length + 1) = all + 1 + os.length by omega]
    simp

theorem takeWhile_ge {p : UInt8 → Bool} : ∀ (l : List UInt8) (q : Nat), (∀ j, j < q → ∃ c, l[j]? = some c ∧ p c = true) → q ≤ (l.takeWhile p).length
  | l, 0, _ => Nat.zero_le _
  | [], q + 1, h => by obtain ⟨c, hc, _⟩ := h 0 (by omega); simp at hc
  | c :: l, q + 1, h => by
    obtain ⟨d, hd, hp⟩ := h 0 (by omega)
    have hd' : c = d := by simpa using hd
    subst hd'
    rw [List.takeWhile_cons_of_pos hp, List.length_cons]
    have := takeWhile_ge (p := p) l q (fun j hj => by
      obtain ⟨e, he, hpe⟩ := h (j + 1) (by omega)
      exact ⟨e, by simpa using he, hpe⟩)
    omega
theorem nameN_is {Q : List UInt8} {n : Nat} (hn : n ≤ 8) (h1 : ∀ j, j < n → ∃ c, Q[j]? = some c ∧ isAZ c = true) (h2 : n < 8 → ∀ c, Q[n]? = some c → isAZ c = false) : nameN Q = n := by
  unfold nameN
  by_cases h8 : n < 8
  · rw [takeWhile_len Q n h1 (h2 h8)]
    exact Nat.min_eq_right (by omega)
  · have := takeWhile_ge Q n h1
    rw [Nat.min_eq_left (by omega)]
    omega
theorem varL_bad {w : Bool} {Q : List UInt8} {n : Nat} (hn : nameN Q = n) (h : n = 0 ∨ Q[n]? ≠ some 61) : varL w Q = .bad (2 + n) 2 := by
  unfold varL; rw [hn, if_pos h]
theorem varL_num {w : Bool} {Q : List UInt8} {n : Nat} (hn : nameN Q = n) (h0 : n ≠ 0) (h : Q[n]? = some 61) (he : getE (numAt (Q.drop (n + 1))) ≠ 0) : varL w Q = .bad (3 + n) (getE (numAt (Q.drop (n + 1)))) := by
  unfold varL; rw [hn, if_neg (by rintro (h1 | h1); exact h0 h1; exact h1 h), if_pos he]
theorem varL_ok {w : Bool} {Q : List UInt8} {n : Nat} (hn : nameN Q = n) (h0 : n ≠ 0) (h : Q[n]? = some 61) (he : getE (numAt (Q.drop (n + 1))) = 0) : varL w Q = .ok ((w, ⟨(Q.take n).toArray⟩, getV (numAt (Q.drop (n + 1)))), 3 + n + spanN (Q.drop (n + 1))) := by
  unfold varL; rw [hn, if_neg (by rintro (h1 | h1); exact h0 h1; exact h1 h), if_neg (by simpa using he)]

end Go.Proofs.Ytkccefgmiaoinaa
