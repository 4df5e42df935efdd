/- Plain mathematics of layer 9: a history comes back of its facts, but for empty sessions at its end. Nothing of the program is named. -/
import Derived.Test.YtcdfpodhiogpiaaInternMathB
namespace Go.Proofs.Ytcdfpodhiogpiaa
set_option linter.unusedVariables false

/-- a history without the empty sessions at its end -/
def trimH (hs : List (List OpT)) : List (List OpT) := (hs.reverse.dropWhile List.isEmpty).reverse
theorem trimH_nil : trimH [] = [] := rfl
theorem trimH_empty (hs : List (List OpT)) : trimH (hs ++ [[]]) = trimH hs := by simp [trimH]
theorem trimH_snoc (hs : List (List OpT)) {os : List OpT} (h : os ≠ []) : trimH (hs ++ [os]) = hs ++ [os] := by
  cases os with
  | nil => exact absurd rfl h
  | cons o os => simp [trimH]
theorem trimH_len (hs : List (List OpT)) : (trimH hs).length ≤ hs.length := by
  unfold trimH
  rw [List.length_reverse]
  have := (List.dropWhile_sublist (l := hs.reverse) List.isEmpty).length_le
  rwa [List.length_reverse] at this
theorem trimH_ext (hs : List (List OpT)) : extH (trimH hs) hs.length = hs := by
  induction hs using snoc_ind with
  | h0 => rfl
  | h1 hs os ih =>
    by_cases h : os = []
    · subst h
      rw [trimH_empty, List.length_append]
      unfold extH at ih ⊢
      have hl := trimH_len hs
      rw [show hs.length + [([] : List OpT)].length - (trimH hs).length = (hs.length - (trimH hs).length) + 1 from by simp; omega, List.replicate_succ', ← List.append_assoc, ih]
    · rw [trimH_snoc hs h]; exact extH_done (Nat.le_refl _)
theorem trimH_take (hs : List (List OpT)) : hs.take (trimH hs).length = trimH hs := by
  have h := trimH_ext hs
  unfold extH at h
  have h2 : (trimH hs ++ List.replicate (hs.length - (trimH hs).length) []).take (trimH hs).length = trimH hs := List.take_left' rfl
  rwa [h] at h2
theorem hisF_trim (hs : List (List OpT)) : hisF (trimH hs) = hisF hs := by
  induction hs using snoc_ind with
  | h0 => rfl
  | h1 hs os ih =>
    by_cases h : os = []
    · subst h; rw [trimH_empty, ih, hisF_snoc, sesF_nil]
    · rw [trimH_snoc hs h]
theorem allO_trim (hs : List (List OpT)) : allO (trimH hs) = allO hs := by
  induction hs using snoc_ind with
  | h0 => rfl
  | h1 hs os ih =>
    by_cases h : os = []
    · subst h; rw [trimH_empty, ih, allO_append]; simp [allO]
    · rw [trimH_snoc hs h]
theorem layF_append (vars : List ByteArray) : ∀ (a b : List It) (h : List (List OpT)), layF vars (a ++ b) h = (layF vars a h).bind (layF vars b)
  | [], b, h => rfl
  | x :: a, b, h => by
    cases hok : okX vars x with
    | false => rw [List.cons_append, layF_bad hok, layF_bad hok]; rfl
    | true => rw [List.cons_append, layF_cons hok, layF_cons hok]; exact layF_append vars a b _
/-- one operation, laid -/
theorem layF_one {vars vs : List ByteArray} {r : List ByteArray} {o : OpT} (hv : vars = addV vs o.2.1 ++ r) (se pl : Nat) (h : List (List OpT)) :
    layF vars [⟨se, pl, o.1, findZ (addV vs o.2.1) o.2.1, o.2.2⟩] h = some (putH (extH h (se + 1)) se o) := by
  have hm := addV_mem vs o.2.1
  have h0 := findZ_mem.2 hm
  have h1 := (findZ_range (addV vs o.2.1) o.2.1).2
  have hg := findZ_get h0
  have hlt : (findZ (addV vs o.2.1) o.2.1).toNat < (addV vs o.2.1).length := by omega
  have hok : okX vars ⟨se, pl, o.1, findZ (addV vs o.2.1) o.2.1, o.2.2⟩ = true := by
    unfold okX
    simp only [Bool.and_eq_true, decide_eq_true_eq]
    refine ⟨⟨by omega, h0⟩, ?_⟩
    rw [hv, List.length_append]; omega
  have ho : opX vars ⟨se, pl, o.1, findZ (addV vs o.2.1) o.2.1, o.2.2⟩ = o := by
    unfold opX
    simp only
    rw [List.getD_eq_getElem?_getD, hv, List.getElem?_append_left hlt, hg]
    rfl
  rw [layF_cons hok, ho, layF]
  simp
theorem putH_last (hs : List (List OpT)) (os : List OpT) (o : OpT) : putH (hs ++ [os]) hs.length o = hs ++ [os ++ [o]] := by
  unfold putH
  apply List.ext_getElem?
  intro i
  rw [List.getElem?_modify]
  rcases Nat.lt_trichotomy i hs.length with h | h | h
  · rw [List.getElem?_append_left h, List.getElem?_append_left h]
    have : ¬ hs.length = i := by omega
    simp [this]
  · subst h; simp
  · rw [List.getElem?_eq_none (by simp; omega), List.getElem?_eq_none (by simp; omega)]; rfl
/-- a session's names stand at the front of what follows -/
theorem sesF_front (se : Nat) (os : List OpT) (o : OpT) (st : StF) : ∃ r, (sesF se (os ++ [o]) st).1 = (sesF se os st).1 ++ r := by
  rw [sesF_snoc]
  show ∃ r, addV _ _ = _
  by_cases h : findZ (sesF se os st).1 o.2.1 < 0
  · exact ⟨[o.2.1], addV_new h⟩
  · exact ⟨[], by rw [addV_old h]; simp⟩
theorem sesF_first (se : Nat) (os : List OpT) (st : StF) : ∃ r, (sesF se os st).1 = st.1 ++ r := by
  induction os using snoc_ind with
  | h0 => exact ⟨[], by simp [sesF_nil]⟩
  | h1 os o ih =>
    obtain ⟨r, hr⟩ := ih
    obtain ⟨q, hq⟩ := sesF_front se os o st
    exact ⟨r ++ q, by rw [hq, hr, List.append_assoc]⟩
/-- a session more, laid behind what is laid -/
theorem layF_ses (vars : List ByteArray) (hs : List (List OpT)) (os : List OpT) (st : StF) (g : List (List OpT)) (hg : extH g hs.length = hs) (hgl : g.length ≤ hs.length) (hl : layF vars st.2 [] = some g) :
    (∃ r, vars = (sesF hs.length os st).1 ++ r) → layF vars (sesF hs.length os st).2 [] = some (if os = [] then g else hs ++ [os]) := by
  induction os using snoc_ind with
  | h0 => intro _; rw [sesF_nil, if_pos rfl]; exact hl
  | h1 os o ih =>
    rintro ⟨r, hr⟩
    have ih' := ih (by
      obtain ⟨q, hq⟩ := sesF_front hs.length os o st
      exact ⟨q ++ r, by rw [hr, hq, List.append_assoc]⟩)
    rw [sesF_snoc] at hr ⊢
    show layF vars (_ ++ _) [] = _
    rw [layF_append, ih', if_neg (show ¬ os ++ [o] = [] by simp)]
    show layF vars _ _ = _
    rw [layF_one hr _ _]
    show some (putH _ hs.length o) = _
    by_cases h : os = []
    · subst h
      rw [if_pos rfl]
      have : extH g (hs.length + 1) = hs ++ [[]] := by
        unfold extH at hg ⊢
        rw [show hs.length + 1 - g.length = (hs.length - g.length) + 1 from by omega, List.replicate_succ', ← List.append_assoc, hg]
      show some (putH (extH g (hs.length + 1)) hs.length o) = _
      rw [this, putH_last]
    · rw [if_neg h, extH_done (by simp), putH_last]
theorem hisF_laid (hs : List (List OpT)) : ∀ (vars : List ByteArray), (∃ r, vars = (hisF hs).1 ++ r) → layF vars (hisF hs).2 [] = some (trimH hs) := by
  induction hs using snoc_ind with
  | h0 => intro vars _; rfl
  | h1 hs os ih =>
    rintro vars ⟨r, hr⟩
    have ih' := ih vars (by
      rw [hisF_snoc] at hr
      obtain ⟨q, hq⟩ := sesF_first hs.length os (hisF hs)
      exact ⟨q ++ r, by rw [hr, hq, List.append_assoc]⟩)
    rw [hisF_snoc] at hr ⊢
    rw [layF_ses vars hs os (hisF hs) (trimH hs) (trimH_ext hs) (trimH_len hs) ih' ⟨r, hr⟩]
    by_cases h : os = []
    · subst h; rw [if_pos rfl, trimH_empty]
    · rw [if_neg h, trimH_snoc hs h]
theorem facO_trim (hs : List (List OpT)) : facO (trimH hs) = facO hs := by unfold facO; rw [hisF_trim]
/-- what is asked of a history is asked of its front -/
theorem backF_facO {hs : List (List OpT)} (h0 : rightL hs = true) : backF (facO hs) = some (trimH hs) := by
  have h : rightL (trimH hs) = true := by unfold rightL at h0 ⊢; rw [allO_trim]; exact h0
  unfold backF
  have hl : layF (facO hs).vars (facO hs).items [] = some (trimH hs) := hisF_laid hs _ ⟨[], by simp [facO]⟩
  rw [hl]
  show (if _ then _ else _) = _
  rw [facO_trim, h]
  simp
theorem sesF_nodup (se : Nat) (os : List OpT) (st : StF) (h : st.1.Nodup) : (sesF se os st).1.Nodup := by
  induction os using snoc_ind with
  | h0 => exact h
  | h1 os o ih => rw [sesF_snoc]; exact addV_nodup _ ih
theorem hisF_nodup (hs : List (List OpT)) : (hisF hs).1.Nodup := by
  induction hs using snoc_ind with
  | h0 => exact List.nodup_nil
  | h1 hs os ih => rw [hisF_snoc]; exact sesF_nodup _ _ _ ih
end Go.Proofs.Ytcdfpodhiogpiaa
