/- Plain mathematics of layer 9: histories interned. Nothing of the program is named. -/
import Derived.Test.YtcdfpodhiogpiaaLMem
import Derived.Test.YtcdfpodhiogpiaaHistMemB
namespace Go.Proofs.Ytcdfpodhiogpiaa
set_option linter.unusedVariables false

/-- where a text first stands; -1: nowhere -/
def findZ : List ByteArray → ByteArray → Int
  | [], _ => -1
  | x :: r, s => if x = s then 0 else if findZ r s < 0 then -1 else findZ r s + 1
theorem findZ_range : ∀ (l : List ByteArray) (s : ByteArray), -1 ≤ findZ l s ∧ findZ l s < l.length
  | [], s => by simp [findZ]
  | x :: r, s => by
    have := findZ_range r s
    unfold findZ
    simp only [List.length_cons]
    split
    · omega
    · split <;> omega
theorem findZ_none {l : List ByteArray} {s : ByteArray} (h : ∀ i, i < l.length → l[i]? ≠ some s) : findZ l s = -1 := by
  induction l with
  | nil => rfl
  | cons x r ih =>
    have h0 := h 0 (by simp)
    have hr := ih (fun i hi e => h (i + 1) (by simp; omega) (by simpa using e))
    unfold findZ
    rw [if_neg (fun e => h0 (by rw [e]; rfl)), hr, if_pos (by omega)]
theorem findZ_at {l : List ByteArray} {s : ByteArray} {k : Nat} (hk : l[k]? = some s) (h : ∀ i, i < k → l[i]? ≠ some s) : findZ l s = k := by
  induction l generalizing k with
  | nil => simp at hk
  | cons x r ih =>
    unfold findZ
    cases k with
    | zero => simp at hk; rw [if_pos hk]; rfl
    | succ k =>
      have h0 := h 0 (by omega)
      have hr := ih (k := k) (by simpa using hk) (fun i hi e => h (i + 1) (by omega) (by simpa using e))
      rw [if_neg (fun e => h0 (by rw [e]; rfl)), hr, if_neg (by omega)]; omega
theorem findZ_append {l : List ByteArray} {s : ByteArray} (h : 0 ≤ findZ l s) (r : List ByteArray) : findZ (l ++ r) s = findZ l s := by
  induction l with
  | nil => simp [findZ] at h
  | cons x l ih =>
    unfold findZ at h
    rw [List.cons_append]
    unfold findZ
    by_cases hx : x = s
    · rw [if_pos hx, if_pos hx]
    · rw [if_neg hx] at h
      rw [if_neg hx, if_neg hx]
      have h0 : ¬ findZ l s < 0 := by
        intro hlt; rw [if_pos hlt] at h; omega
      rw [ih (by omega)]
theorem findZ_snoc {l : List ByteArray} {s : ByteArray} (h : findZ l s < 0) : findZ (l ++ [s]) s = l.length := by
  induction l with
  | nil => simp [findZ]
  | cons x l ih =>
    unfold findZ at h
    rw [List.cons_append]
    unfold findZ
    by_cases hx : x = s
    · rw [if_pos hx] at h; omega
    · rw [if_neg hx] at h ⊢
      have h0 : findZ l s < 0 := by
        rcases Int.lt_or_le (findZ l s) 0 with h' | h'
        · exact h'
        · rw [if_neg (by omega)] at h; omega
      rw [ih h0, if_neg (by omega), List.length_cons]; omega
theorem findZ_get {l : List ByteArray} {s : ByteArray} (h : 0 ≤ findZ l s) : l[(findZ l s).toNat]? = some s := by
  induction l with
  | nil => simp [findZ] at h
  | cons x l ih =>
    unfold findZ at h ⊢
    by_cases hx : x = s
    · rw [if_pos hx, hx]; rfl
    · rw [if_neg hx] at h ⊢
      have h0 : ¬ findZ l s < 0 := by
        intro hlt; rw [if_pos hlt] at h; omega
      rw [if_neg h0, show (findZ l s + 1).toNat = (findZ l s).toNat + 1 from by omega, List.getElem?_cons_succ]
      exact ih (by omega)
theorem findZ_mem {l : List ByteArray} {s : ByteArray} : 0 ≤ findZ l s ↔ s ∈ l := by
  constructor
  · intro h; exact List.mem_of_getElem? (findZ_get h)
  · intro h
    induction l with
    | nil => cases h
    | cons x l ih =>
      unfold findZ
      by_cases hx : x = s
      · rw [if_pos hx]; omega
      · rw [if_neg hx]
        have := ih ((List.mem_cons.1 h).resolve_left (fun e => hx e.symm))
        rw [if_neg (by omega)]; omega
/-- names, and one more, if it is new -/
def addV (vs : List ByteArray) (s : ByteArray) : List ByteArray := if findZ vs s < 0 then vs ++ [s] else vs
theorem addV_new {vs : List ByteArray} {s : ByteArray} (h : findZ vs s < 0) : addV vs s = vs ++ [s] := if_pos h
theorem addV_old {vs : List ByteArray} {s : ByteArray} (h : ¬ findZ vs s < 0) : addV vs s = vs := if_neg h
theorem addV_find (vs : List ByteArray) (s : ByteArray) : findZ (addV vs s) s = if findZ vs s < 0 then (vs.length : Int) else findZ vs s := by
  by_cases h : findZ vs s < 0
  · rw [addV_new h, if_pos h, findZ_snoc h]
  · rw [addV_old h, if_neg h]
theorem addV_mem (vs : List ByteArray) (s : ByteArray) : s ∈ addV vs s := by
  by_cases h : findZ vs s < 0
  · rw [addV_new h]; simp
  · rw [addV_old h]; exact findZ_mem.1 (by omega)
theorem addV_sub {vs : List ByteArray} {x : ByteArray} (s : ByteArray) (h : x ∈ vs) : x ∈ addV vs s := by
  by_cases hf : findZ vs s < 0
  · rw [addV_new hf]; simp [h]
  · rw [addV_old hf]; exact h
theorem addV_keep {vs : List ByteArray} {x : ByteArray} (s : ByteArray) (h : x ∈ vs) : findZ (addV vs s) x = findZ vs x := by
  by_cases hf : findZ vs s < 0
  · rw [addV_new hf]; exact findZ_append (findZ_mem.2 h) _
  · rw [addV_old hf]
theorem addV_nodup {vs : List ByteArray} (s : ByteArray) (h : vs.Nodup) : (addV vs s).Nodup := by
  by_cases hf : findZ vs s < 0
  · rw [addV_new hf]
    refine List.nodup_append.2 ⟨h, by simp, fun a ha b hb e => ?_⟩
    rw [List.mem_singleton.1 hb] at e
    subst e
    have := findZ_mem.2 ha
    omega
  · rw [addV_old hf]; exact h
theorem addV_len (vs : List ByteArray) (s : ByteArray) : vs.length ≤ (addV vs s).length ∧ (addV vs s).length ≤ vs.length + 1 := by
  by_cases hf : findZ vs s < 0
  · rw [addV_new hf]; simp
  · rw [addV_old hf]; omega

theorem snoc_ind {α : Type} {p : List α → Prop} (h0 : p []) (h1 : ∀ l x, p l → p (l ++ [x])) : ∀ l, p l := by
  intro l
  rw [← List.reverse_reverse l]
  induction l.reverse with
  | nil => exact h0
  | cons x r ih => rw [List.reverse_cons]; exact h1 _ _ ih
/-- what is built: names, items -/
abbrev StF := List ByteArray × List It
/-- one more operation: of the session se, at a place -/
def oneF (se : Nat) (st : StF) (x : OpT × Nat) : StF := (addV st.1 x.1.2.1, st.2 ++ [⟨se, x.2, x.1.1, findZ (addV st.1 x.1.2.1) x.1.2.1, x.1.2.2⟩])
def sesF (se : Nat) (os : List OpT) (st : StF) : StF := os.zipIdx.foldl (oneF se) st
def hisF (hs : List (List OpT)) : StF := hs.zipIdx.foldl (fun st x => sesF x.2 x.1 st) ([], [])
def facO (hs : List (List OpT)) : Fac := ⟨(hisF hs).1, (hisF hs).2, []⟩
theorem sesF_nil (se : Nat) (st : StF) : sesF se [] st = st := rfl
theorem sesF_snoc (se : Nat) (os : List OpT) (o : OpT) (st : StF) : sesF se (os ++ [o]) st = oneF se (sesF se os st) (o, os.length) := by
  unfold sesF; rw [List.zipIdx_append, List.foldl_append]; simp
theorem hisF_nil : hisF [] = ([], []) := rfl
theorem hisF_snoc (hs : List (List OpT)) (os : List OpT) : hisF (hs ++ [os]) = sesF hs.length os (hisF hs) := by
  unfold hisF; rw [List.zipIdx_append, List.foldl_append]; simp
theorem sesF_len (se : Nat) (os : List OpT) (st : StF) : (sesF se os st).2.length = st.2.length + os.length ∧ (sesF se os st).1.length ≤ st.1.length + os.length := by
  induction os using snoc_ind with
  | h0 => exact ⟨rfl, Nat.le_refl _⟩
  | h1 os o ih =>
    rw [sesF_snoc]
    have := (addV_len (sesF se os st).1 o.2.1).2
    simp only [oneF, List.length_append, List.length_cons, List.length_nil]
    omega
theorem hisF_len (hs : List (List OpT)) : (hisF hs).2.length = (allO hs).length := by
  induction hs using snoc_ind with
  | h0 => rfl
  | h1 hs os ih =>
    rw [hisF_snoc, (sesF_len hs.length os (hisF hs)).1, ih, allO_append, List.length_append]
    simp [allO]
end Go.Proofs.Ytcdfpodhiogpiaa
