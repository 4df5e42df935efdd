/- Plain mathematics of square matrices of bits. Nothing of the program is imported. -/
import Derived.Test.YtkikoniihmieiaaRowFacts
namespace Go.Proofs.Ytkikoniihmieiaa

def smallM (xss : List (List Nat)) (most : Int) : Bool := decide ((xss.length : Int) ≤ most) && xss.all fun r => decide (r.length ≤ 4)
/-- may r be a row of a matrix of n? -/
def fitsR (r : List Nat) (n : Int) : Bool := decide ((r.length : Int) = wordsZ n) && (List.range (64 * r.length)).all fun j : Nat => decide ((j : Int) < n) || !hasR r (j : Int)
/-- may a matrix be? -/
def rightM (N : Int) (xss : List (List Nat)) : Bool := decide (0 ≤ N) && decide (N ≤ 4096) && decide ((xss.length : Int) = N) && xss.all fun r => fitsR r N
def inM (N i j : Int) : Bool := decide (0 ≤ i) && decide (i < N) && decide (0 ≤ j) && decide (j < N)
def hasM (xss : List (List Nat)) (i j : Int) : Bool := decide (0 ≤ i) && hasR (xss.getD i.toNat []) j
def setM (xss : List (List Nat)) (i j : Int) : List (List Nat) := xss.set i.toNat (setR (xss.getD i.toNat []) j)
def newM (n : Nat) : List (List Nat) := List.replicate n (List.replicate (wordsZ n).toNat 0)
def orM (a b : List (List Nat)) : List (List Nat) := (List.range a.length).map fun i => orR (a.getD i []) (b.getD i [])
def subM (a b : List (List Nat)) : Bool := (List.range a.length).all fun i => subR (a.getD i []) (b.getD i [])
def sameM (a b : List (List Nat)) : Bool := a == b

def belowZ (i n : Int) : Bool := decide (0 ≤ i) && decide (i < n)
theorem belowZ_yes {i n : Int} (h0 : 0 ≤ i) (h1 : i < n) : belowZ i n = true := by unfold belowZ; simp [h0, h1]
theorem belowZ_no {i n : Int} (h : i < 0 ∨ n ≤ i) : belowZ i n = false := by
  unfold belowZ
  rcases h with h | h
  · rw [decide_eq_false (by omega)]; rfl
  · rw [decide_eq_false (p := i < n) (by omega), Bool.and_false]
theorem hasM_out {xss : List (List Nat)} {i j : Int} (h : i < 0 ∨ (xss.length : Int) ≤ i) : hasM xss i j = false := by
  unfold hasM
  by_cases h0 : 0 ≤ i
  · have : xss.getD i.toNat [] = [] := by
      rw [List.getD_eq_getElem?_getD, List.getElem?_eq_none (by omega)]; rfl
    rw [this, hasR_out [] j (by simp; omega), Bool.and_false]
  · rw [decide_eq_false h0]; rfl
theorem getD_at {α : Type} {xss : List α} {k : Nat} {xs d : α} (h : xss[k]? = some xs) : xss.getD k d = xs := by rw [List.getD_eq_getElem?_getD, h]; rfl
theorem hasM_in {xss : List (List Nat)} {k : Nat} {xs : List Nat} {j : Int} (h : xss[k]? = some xs) : hasM xss (k : Int) j = hasR xs j := by
  unfold hasM
  rw [decide_eq_true (by omega), Int.toNat_natCast, getD_at h]; rfl

theorem setM_nat {xss : List (List Nat)} {k : Nat} {xs : List Nat} {j : Int} (h : xss[k]? = some xs) : setM xss (k : Int) j = xss.set k (setR xs j) := by
  unfold setM
  rw [Int.toNat_natCast, getD_at h]
theorem smallM_len {xss : List (List Nat)} {most : Int} (h : smallM xss most = true) : (xss.length : Int) ≤ most ∧ ∀ r ∈ xss, r.length ≤ 4 := by
  unfold smallM at h
  rw [Bool.and_eq_true, decide_eq_true_eq, List.all_eq_true] at h
  exact ⟨h.1, fun r hr => of_decide_eq_true (h.2 r hr)⟩

/-! ### matrices of pairs -/
def okP (n : Int) (p : Int × Int) : Bool := inM n p.1 p.2
def setP (m : List (List Nat)) (p : Int × Int) : List (List Nat) := setM m p.1 p.2
def foldP (n : Nat) (ps : List (Int × Int)) : List (List Nat) := ps.foldl setP (newM n)
theorem foldP_nil (n : Nat) : foldP n [] = newM n := rfl
theorem foldP_snoc (n : Nat) (ps : List (Int × Int)) (k : Nat) (p : Int × Int) (h : ps[k]? = some p) : foldP n (ps.take (k + 1)) = setM (foldP n (ps.take k)) p.1 p.2 := by
  unfold foldP
  have hk : k < ps.length := (List.getElem?_eq_some_iff.1 h).1
  rw [List.take_succ_eq_append_getElem hk, List.foldl_append, (List.getElem?_eq_some_iff.1 h).2]; rfl
/-- as many rows as n, each of as many words as n bits take -/
def DimM (n : Nat) (xss : List (List Nat)) : Prop := xss.length = n ∧ ∀ (i : Nat) (r : List Nat), xss[i]? = some r → r.length = (wordsZ (n : Int)).toNat
theorem DimM.new (n : Nat) : DimM n (newM n) := ⟨by simp [newM], fun i r h => by
  unfold newM at h
  rw [List.getElem?_replicate] at h
  split at h
  · injection h with h; subst h; simp
  · cases h⟩
theorem DimM.set {n : Nat} {xss : List (List Nat)} (h : DimM n xss) (i j : Int) : DimM n (setM xss i j) := by
  unfold setM
  refine ⟨by rw [List.length_set]; exact h.1, fun k r hk => ?_⟩
  rw [List.getElem?_set] at hk
  split at hk
  · rename_i e
    split at hk
    · rename_i hl
      injection hk with hk
      subst hk
      rw [setR_len, getD_at (List.getElem?_eq_getElem hl)]
      exact h.2 _ _ (List.getElem?_eq_getElem hl)
    · cases hk
  · exact h.2 _ _ hk
theorem DimM.fold (n : Nat) (ps : List (Int × Int)) : DimM n (foldP n ps) := by
  unfold foldP
  have : ∀ (ps : List (Int × Int)) (m : List (List Nat)), DimM n m → DimM n (ps.foldl setP m) := by
    intro ps
    induction ps with
    | nil => intro m h; exact h
    | cons p ps ih => intro m h; exact ih _ (h.set _ _)
  exact this ps _ (DimM.new n)
theorem words_pos {n : Nat} (h : 0 < n) : 0 < (wordsZ (n : Int)).toNat ∧ n ≤ 64 * (wordsZ (n : Int)).toNat := by
  unfold wordsZ; rw [if_neg (by omega)]; omega
theorem words_le {n : Nat} (h : n ≤ 4096) : (wordsZ (n : Int)).toNat ≤ 64 := by
  unfold wordsZ; rw [if_neg (by omega)]; omega

end Go.Proofs.Ytkikoniihmieiaa
