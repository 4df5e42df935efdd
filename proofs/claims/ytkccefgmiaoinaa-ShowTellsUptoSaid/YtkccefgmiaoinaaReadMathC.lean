/- Plain mathematics of layer 7: texts put together, what is read, where one can't go on. -/
import Derived.Test.YtkccefgmiaoinaaReadMathB
namespace Go.Proofs.Ytkccefgmiaoinaa
set_option linter.unusedVariables false

theorem takeWhile_all {p : UInt8 → Bool} : ∀ (l : List UInt8) (j : Nat), j < (l.takeWhile p).length → ∃ c, l[j]? = some c ∧ p c = true
  | [], j, h => by simp at h
  | c :: l, j, h => by
    by_cases hp : p c = true
    · rw [List.takeWhile_cons_of_pos hp, List.length_cons] at h
      cases j with
      | zero => exact ⟨c, rfl, hp⟩
      | succ j =>
        obtain ⟨d, hd, hp'⟩ := takeWhile_all (p := p) l j (by omega)
        exact ⟨d, by simpa using hd, hp'⟩
    · rw [List.takeWhile_cons_of_neg hp] at h; simp at h
theorem takeWhile_stop {p : UInt8 → Bool} : ∀ (l : List UInt8), (l.takeWhile p).length < l.length → ∃ c, l[(l.takeWhile p).length]? = some c ∧ p c = false
  | [], h => by simp at h
  | c :: l, h => by
    by_cases hp : p c = true
    · rw [List.takeWhile_cons_of_pos hp, List.length_cons] at h ⊢
      obtain ⟨d, hd, hp'⟩ := takeWhile_stop (p := p) l (by simpa using h)
      exact ⟨d, by simpa using hd, hp'⟩
    · rw [List.takeWhile_cons_of_neg hp]
      exact ⟨c, rfl, by simpa using hp⟩
theorem digsN_append {l t : List UInt8} (h : digsN l < l.length) : digsN (l ++ t) = digsN l := by
  obtain ⟨c, hc, hp⟩ := takeWhile_stop l h
  refine takeWhile_len (l ++ t) (digsN l) (fun j hj => ?_) (fun d hd => ?_)
  · obtain ⟨e, he, hpe⟩ := takeWhile_all l j hj
    exact ⟨e, by rw [List.getElem?_append_left (by have : j < digsN l := hj; omega)]; exact he, hpe⟩
  · rw [List.getElem?_append_left h] at hd
    have : l[digsN l]? = some c := hc
    rw [this] at hd; injection hd with hd; subst hd; exact hp
theorem spanN_append {l t : List UInt8} (h : spanN l < l.length) : spanN (l ++ t) = spanN l := by
  cases l with
  | nil => simp at h
  | cons c r =>
    unfold spanN at h ⊢
    simp only [List.cons_append]
    by_cases h45 : c.toNat = 45
    · simp only [h45, if_true] at h ⊢
      rw [digsN_append (by simp at h; omega)]
    · simp only [h45, if_false] at h ⊢
      exact digsN_append (l := c :: r) h
theorem nameN_le (q : List UInt8) : nameN q ≤ q.length ∧ nameN q ≤ 8 := by
  have := (List.takeWhile_sublist (l := q) isAZ).length_le
  unfold nameN
  omega
theorem nameN_all (q : List UInt8) (j : Nat) (h : j < nameN q) : ∃ c, q[j]? = some c ∧ isAZ c = true := takeWhile_all q j (by unfold nameN at h; omega)
theorem varL_shape {w : Bool} {q : List UInt8} {o : OpT} {k : Nat} (h : varL w q = .ok (o, k)) : nameN q ≠ 0 ∧ q[nameN q]? = some 61 ∧ getE (numAt (q.drop (nameN q + 1))) = 0 ∧ o = (w, ⟨(q.take (nameN q)).toArray⟩, getV (numAt (q.drop (nameN q + 1)))) ∧ k = 3 + nameN q + spanN (q.drop (nameN q + 1)) := by
  unfold varL at h
  by_cases h1 : nameN q = 0 ∨ q[nameN q]? ≠ some 61
  · rw [if_pos h1] at h; simp at h
  · rw [if_neg h1] at h
    by_cases h2 : getE (numAt (q.drop (nameN q + 1))) ≠ 0
    · rw [if_pos h2] at h; simp at h
    · rw [if_neg h2] at h
      injection h with h
      injection h with h3 h4
      refine ⟨fun h0 => h1 (.inl h0), ?_, by simpa using h2, h3.symm, h4.symm⟩
      cases hq : decide (q[nameN q]? = some 61) with
      | true => exact of_decide_eq_true hq
      | false => exact absurd (.inr (of_decide_eq_false hq)) h1
theorem varL_append {w : Bool} {q t : List UInt8} {o : OpT} {k : Nat} (h : varL w q = .ok (o, k)) (hk : k < 2 + q.length) : varL w (q ++ t) = .ok (o, k) := by
  obtain ⟨h0, h61, he, ho, hkk⟩ := varL_shape h
  have hn : nameN q < q.length := (List.getElem?_eq_some_iff.1 h61).1
  have hname : nameN (q ++ t) = nameN q := by
    refine nameN_is (nameN_le q).2 (fun j hj => ?_) (fun _ c hc => ?_)
    · obtain ⟨e, he, hpe⟩ := nameN_all q j hj
      exact ⟨e, by rw [List.getElem?_append_left (by omega)]; exact he, hpe⟩
    · rw [List.getElem?_append_left hn, h61] at hc
      injection hc with hc; subst hc; decide
  have hdrop : (q ++ t).drop (nameN q + 1) = q.drop (nameN q + 1) ++ t := List.drop_append_of_le_length (by omega)
  have hspan : spanN (q.drop (nameN q + 1) ++ t) = spanN (q.drop (nameN q + 1)) := spanN_append (by rw [List.length_drop]; omega)
  have hnum : numAt (q.drop (nameN q + 1) ++ t) = numAt (q.drop (nameN q + 1)) := by
    unfold numAt
    rw [hspan, List.take_append_of_le_length (spanN_le _)]
  rw [varL_ok hname h0 (by rw [List.getElem?_append_left hn]; exact h61) (by rw [hdrop, hnum]; exact he), hdrop, hnum, hspan, ho, hkk, List.take_append_of_le_length (by omega)]
theorem oneL_two (c d : UInt8) (q : List UInt8) : oneL (c :: d :: q) = if (isW c || isR c) = false then .bad 0 2 else if d.toNat = 58 then varL (isW c) q else .bad 1 2 := by
  unfold oneL; rfl
theorem oneL_one (c : UInt8) : oneL [c] = if (isW c || isR c) = false then .bad 0 2 else .bad 1 2 := by
  unfold oneL; rfl
theorem oneL_shape {l : List UInt8} {o : OpT} {k : Nat} (h : oneL l = .ok (o, k)) : ∃ c d q, l = c :: d :: q ∧ ((isW c || isR c) = true) ∧ d.toNat = 58 ∧ varL (isW c) q = .ok (o, k) := by
  match l, h with
  | [], h => simp [oneL] at h
  | [c], h =>
    rw [oneL_one] at h
    split at h <;> cases h
  | c :: d :: q, h =>
    rw [oneL_two] at h
    by_cases hc : (isW c || isR c) = false
    · rw [if_pos hc] at h; cases h
    · rw [if_neg hc] at h
      by_cases hd : d.toNat = 58
      · rw [if_pos hd] at h
        exact ⟨c, d, q, rfl, (Bool.not_eq_false _).mp hc, hd, h⟩
      · rw [if_neg hd] at h; cases h
theorem oneL_mk {c d : UInt8} {q : List UInt8} (hc : (isW c || isR c) = true) (hd : d.toNat = 58) : oneL (c :: d :: q) = varL (isW c) q := by
  rw [oneL_two, if_neg (by rw [hc]; simp), if_pos hd]
theorem oneL_append {l t : List UInt8} {o : OpT} {k : Nat} (h : oneL l = .ok (o, k)) (hk : k < l.length) : oneL (l ++ t) = .ok (o, k) := by
  obtain ⟨c, d, q, rfl, hc, hd, hv⟩ := oneL_shape h
  rw [List.cons_append, List.cons_append, oneL_mk hc hd]
  exact varL_append hv (by simp at hk; omega)
theorem opS_shape {first : Bool} {all k : Nat} {o : OpT} {l : List UInt8} (h : opS first all l = .ok (o, k)) : (first = true ∨ ∃ c, l[0]? = some c ∧ c.toNat = 32) ∧ ¬ (all = 4096 ∧ isWR (l.drop (skN first)) = true) ∧ ∃ m, oneL (l.drop (skN first)) = .ok (o, m) ∧ k = skN first + m := by
  unfold opS at h
  by_cases h1 : first = false ∧ ∀ c, l[0]? = some c → c.toNat ≠ 32
  · rw [if_pos h1] at h; cases h
  · rw [if_neg h1] at h
    by_cases h2 : all = 4096 ∧ isWR (l.drop (skN first)) = true
    · rw [if_pos h2] at h; cases h
    · rw [if_neg h2] at h
      refine ⟨?_, h2, ?_⟩
      · cases first with
        | true => exact .inl rfl
        | false =>
          right
          cases l with
          | nil => exact absurd ⟨rfl, fun c hc => by simp at hc⟩ h1
          | cons c r =>
            by_cases h32 : c.toNat = 32
            · exact ⟨c, rfl, h32⟩
            · exact absurd ⟨rfl, fun d hd => by simp at hd; subst hd; exact h32⟩ h1
      · cases ho : oneL (l.drop (skN first)) with
        | bad m e => rw [ho] at h; cases h
        | ok x =>
          rw [ho] at h
          obtain ⟨o', m⟩ := x
          injection h with h; injection h with h3 h4
          subst h3
          exact ⟨m, rfl, h4.symm⟩
theorem opS_append {first : Bool} {all k : Nat} {o : OpT} {l t : List UInt8} (h : opS first all l = .ok (o, k)) (hk : k < l.length) : opS first all (l ++ t) = .ok (o, k) := by
  obtain ⟨hs, hw, m, ho, rfl⟩ := opS_shape h
  have hl : skN first ≤ l.length := by omega
  have hd : (l ++ t).drop (skN first) = l.drop (skN first) ++ t := List.drop_append_of_le_length hl
  have ho' : oneL ((l ++ t).drop (skN first)) = .ok (o, m) := by rw [hd]; exact oneL_append ho (by rw [List.length_drop]; omega)
  refine opS_one_ok ?_ ?_ ho'
  · rcases hs with h | ⟨c, hc, h32⟩
    · exact .inl h
    · exact .inr ⟨c, by rw [List.getElem?_append_left (List.getElem?_eq_some_iff.1 hc).1]; exact hc, h32⟩
  · rintro ⟨h1, h2⟩
    exact hw ⟨h1, (oneL_ok ho).2.1⟩
theorem lineT_append : ∀ (n : Nat) (l : List UInt8), l.length ≤ n → ∀ (first : Bool) (all : Nat) (os : List OpT) (k : Nat) (t : List UInt8), lineT l first all = .ok (os, k) → lineT (l ++ t) first all = .ok (os, k) ∧ k ≤ l.length
  | n, [], _, first, all, os, k, t, h => by rw [lineT_nil] at h; cases h
  | 0, c :: r, hn, _, _, _, _, _, _ => by simp at hn
  | n + 1, c :: r, hn, first, all, os, k, t, h => by
    by_cases hc : c.toNat = 10
    · rw [lineT_end hc] at h
      injection h with h; injection h with h1 h2
      subst h1; subst h2
      exact ⟨lineT_end hc first all, by simp⟩
    · cases ho : opS first all (c :: r) with
      | bad m e => rw [lineT_bad hc ho] at h; cases h
      | ok x =>
        obtain ⟨o, m⟩ := x
        rw [lineT_op hc ho] at h
        cases hr : lineT ((c :: r).drop m) false (all + 1) with
        | bad p e => rw [hr] at h; cases h
        | ok y =>
          obtain ⟨ps, p⟩ := y
          rw [hr] at h
          injection h with h; injection h with h1 h2
          subst h1; subst h2
          have hml : m < (c :: r).length := by
            rcases Nat.lt_or_ge m (c :: r).length with h | h
            · exact h
            · rw [List.drop_eq_nil_of_le h, lineT_nil] at hr; cases hr
          have hpos := opS_pos ho
          have ho' := opS_append (t := t) ho hml
          obtain ⟨ih, ihk⟩ := lineT_append n ((c :: r).drop m) (by rw [List.length_drop]; simp at hn ⊢; omega) false (all + 1) ps p t hr
          rw [List.length_drop] at ihk
          refine ⟨?_, by omega⟩
          rw [List.cons_append] at ho' ⊢
          rw [lineT_op hc ho']
          have hd : (c :: (r ++ t)).drop m = (c :: r).drop m ++ t := by
            rw [← List.cons_append]; exact List.drop_append_of_le_length (by omega)
          rw [hd, ih]
          rfl

theorem textT_append : ∀ (n : Nat) (l : List UInt8), l.length ≤ n → ∀ (all : Nat) (hs : List (List OpT)) (t : List UInt8), textT l all = .ok hs →
    textT (l ++ t) all = match textT t (all + (allO hs).length) with | .bad m e => .bad (l.length + m) e | .ok g => .ok (hs ++ g)
  | n, [], _, all, hs, t, h => by
    rw [textT_nil] at h
    injection h with h
    subst h
    show textT t all = match textT t (all + 0) with | .bad m e => .bad (0 + m) e | .ok g => .ok ([] ++ g)
    rw [Nat.add_zero]
    cases textT t all <;> simp
  | 0, c :: r, hn, _, _, _, _ => by simp at hn
  | n + 1, c :: r, hn, all, hs, t, h => by
    cases hl : lineT (c :: r) true all with
    | bad k e => rw [textT_bad hl] at h; cases h
    | ok x =>
      obtain ⟨os, k⟩ := x
      have hk := lineT_pos hl
      obtain ⟨hl', hkl⟩ := lineT_append _ (c :: r) (Nat.le_refl _) true all os k t hl
      rw [textT_line hl] at h
      cases ht : textT ((c :: r).drop k) (all + os.length) with
      | bad m e => rw [ht] at h; cases h
      | ok ls =>
        rw [ht] at h
        injection h with h
        subst h
        have ih := textT_append n ((c :: r).drop k) (by rw [List.length_drop]; simp at hn ⊢; omega) (all + os.length) ls t ht
        rw [List.cons_append] at hl' ⊢
        rw [textT_line hl']
        have hd : (c :: (r ++ t)).drop k = (c :: r).drop k ++ t := by
          rw [← List.cons_append]; exact List.drop_append_of_le_length hkl
        rw [hd, ih, allO_cons, List.length_append, List.length_drop, show all + (os.length + (allO ls).length) = all + os.length + (allO ls).length by omega]
        cases textT t (all + os.length + (allO ls).length) with
        | bad m e => simp only [addT]; congr 1; omega
        | ok g => rfl

end Go.Proofs.Ytkccefgmiaoinaa
