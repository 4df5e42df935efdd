/- Plain mathematics of square matrices of bits. Nothing of the program is imported. Plain mathematics of layer 12: what stands ahead within a session. Nothing of the program is named. Plain mathematics of layer 12: the past of an operation of a history. Nothing of the program is named. Words for memory: slices of rows (matrices), pairs. No function of the program is named here. Contracts of package mat: below, fits, Has; and of the document's own answers: in, Has, Small. Contracts of package mat: Set (with slices.Clone of rows). Contracts of package mat: Set (refused). Contracts of package mat: New. Contracts of package mat: New (refused), put. Contracts of package mat: Of. Words for memory: rows that lie apart from a span of blocks; mathematics of 'or'. A region that draws its order: walked in an order of one's own ('plan'): what only reads (copies, addresses, arithmetic, loads) is taken as soon as it may come up; a call comes up alone; behind the plan a tail, one operation behind the other. What a call makes of memory may be anything that leaves the blocks that were there as they were ('Below'). No function of the program is named here. -/
import Derived.Test.YtpbiilhclmcehaaClashMorePk2
import Derived.Test.YtpbiilhclmcehaaClashMorePk1
import Derived.Deep.RegionHeld3
import Derived.Deep.DrawnRows
import Derived.OrdersHeld
import Derived.StillTail
import Derived.Below
import Derived.WalkKit
import Derived.Lib.Hide
namespace Go.Proofs.Ytpbiilhclmcehaa

/-- may r be a row of a matrix of n? -/
def fitsR (r : List Nat) (n : Int) : Bool := decide ((r.length : Int) = wordsZ n) && (List.range (64 * r.length)).all fun j : Nat => decide ((j : Int) < n) || !hasR r (j : Int)
/-- may a matrix be? -/
def rightM (N : Int) (xss : List (List Nat)) : Bool := decide (0 ≤ N) && decide (N ≤ 4096) && decide ((xss.length : Int) = N) && xss.all fun r => fitsR r N
def inM (N i j : Int) : Bool := decide (0 ≤ i) && decide (i < N) && decide (0 ≤ j) && decide (j < N)
def hasM (xss : List (List Nat)) (i j : Int) : Bool := decide (0 ≤ i) && hasR (xss.getD i.toNat []) j
def setM (xss : List (List Nat)) (i j : Int) : List (List Nat) := xss.set i.toNat (setR (xss.getD i.toNat []) j)
def newM (n : Nat) : List (List Nat) := List.replicate n (List.replicate (wordsZ n).toNat 0)
def orM (a b : List (List Nat)) : List (List Nat) := (List.range a.length).map fun i => orR (a.getD i []) (b.getD i [])
def subM (a b : List (List Nat)) : Bool := (List.range a.length).all fun i => subR (a.getD i []) (b.getD i [])

def belowZ (i n : Int) : Bool := decide (0 ≤ i) && decide (i < n)
theorem belowZ_yes {i n : Int} (h0 : 0 ≤ i) (h1 : i < n) : belowZ i n = true := by unfold belowZ; simp [h0, h1]
theorem belowZ_no {i n : Int} (h : i < 0 ∨ n ≤ i) : belowZ i n = false := by
  unfold belowZ
  rcases h with h | h
  · rw [decide_eq_false (by omega)]; rfl
  · rw [decide_eq_false (p := i < n) (by omega), Bool.and_false]
theorem hasM_out {xss : List (List Nat)} {i j : Int} (h : i < 0 ∨ (xss.length : Int) ≤ i) : hasM xss i j = false := by
  unfold hasM
  by_cases h0 : 0 ≤ i
  · have : xss.getD i.toNat [] = [] := by
      rw [List.getD_eq_getElem?_getD, List.getElem?_eq_none (by omega)]; rfl
    rw [this, hasR_out [] j (by simp; omega), Bool.and_false]
  · rw [decide_eq_false h0]; rfl
theorem getD_at {α : Type} {xss : List α} {k : Nat} {xs d : α} (h : xss[k]? = some xs) : xss.getD k d = xs := by rw [List.getD_eq_getElem?_getD, h]; rfl
theorem hasM_in {xss : List (List Nat)} {k : Nat} {xs : List Nat} {j : Int} (h : xss[k]? = some xs) : hasM xss (k : Int) j = hasR xs j := by
  unfold hasM
  rw [decide_eq_true (by omega), Int.toNat_natCast, getD_at h]; rfl

theorem setM_nat {xss : List (List Nat)} {k : Nat} {xs : List Nat} {j : Int} (h : xss[k]? = some xs) : setM xss (k : Int) j = xss.set k (setR xs j) := by
  unfold setM
  rw [Int.toNat_natCast, getD_at h]

/-! ### matrices of pairs -/
def okP (n : Int) (p : Int × Int) : Bool := inM n p.1 p.2
def setP (m : List (List Nat)) (p : Int × Int) : List (List Nat) := setM m p.1 p.2
def foldP (n : Nat) (ps : List (Int × Int)) : List (List Nat) := ps.foldl setP (newM n)
theorem foldP_nil (n : Nat) : foldP n [] = newM n := rfl
theorem foldP_snoc (n : Nat) (ps : List (Int × Int)) (k : Nat) (p : Int × Int) (h : ps[k]? = some p) : foldP n (ps.take (k + 1)) = setM (foldP n (ps.take k)) p.1 p.2 := by
  unfold foldP
  have hk : k < ps.length := (List.getElem?_eq_some_iff.1 h).1
  rw [List.take_succ_eq_append_getElem hk, List.foldl_append, (List.getElem?_eq_some_iff.1 h).2]; rfl
/-- as many rows as n, each of as many words as n bits take -/
def DimM (n : Nat) (xss : List (List Nat)) : Prop := xss.length = n ∧ ∀ (i : Nat) (r : List Nat), xss[i]? = some r → r.length = (wordsZ (n : Int)).toNat
theorem DimM.new (n : Nat) : DimM n (newM n) := ⟨by simp [newM], fun i r h => by
  unfold newM at h
  rw [List.getElem?_replicate] at h
  split at h
  · injection h with h; subst h; simp
  · cases h⟩
theorem DimM.set {n : Nat} {xss : List (List Nat)} (h : DimM n xss) (i j : Int) : DimM n (setM xss i j) := by
  unfold setM
  refine ⟨by rw [List.length_set]; exact h.1, fun k r hk => ?_⟩
  rw [List.getElem?_set] at hk
  split at hk
  · rename_i e
    split at hk
    · rename_i hl
      injection hk with hk
      subst hk
      rw [setR_len, getD_at (List.getElem?_eq_getElem hl)]
      exact h.2 _ _ (List.getElem?_eq_getElem hl)
    · cases hk
  · exact h.2 _ _ hk
theorem DimM.fold (n : Nat) (ps : List (Int × Int)) : DimM n (foldP n ps) := by
  unfold foldP
  have : ∀ (ps : List (Int × Int)) (m : List (List Nat)), DimM n m → DimM n (ps.foldl setP m) := by
    intro ps
    induction ps with
    | nil => intro m h; exact h
    | cons p ps ih => intro m h; exact ih _ (h.set _ _)
  exact this ps _ (DimM.new n)
theorem words_pos {n : Nat} (h : 0 < n) : 0 < (wordsZ (n : Int)).toNat ∧ n ≤ 64 * (wordsZ (n : Int)).toNat := by
  unfold wordsZ; rw [if_neg (by omega)]; omega
theorem words_le {n : Nat} (h : n ≤ 4096) : (wordsZ (n : Int)).toNat ≤ 64 := by
  unfold wordsZ; rw [if_neg (by omega)]; omega

end Go.Proofs.Ytpbiilhclmcehaa

namespace Go.Proofs.Ytpbiilhclmcehaa
set_option linter.unusedVariables false

/-- does one item stand ahead of another one? -/
def aheadF (is : List It) (i j : Int) : Bool :=
  decide (0 ≤ i) && (decide (0 ≤ j) && (match is[i.toNat]?, is[j.toNat]? with | some x, some y => decide (x.se = y.se) && decide (x.pl < y.pl) | _, _ => false))
theorem aheadF_at {is : List It} {i j : Int} {x y : It} (hi : 0 ≤ i) (hj : 0 ≤ j) (hx : is[i.toNat]? = some x) (hy : is[j.toNat]? = some y) : aheadF is i j = (decide (x.se = y.se) && decide (x.pl < y.pl)) := by
  unfold aheadF; rw [decide_eq_true hi, decide_eq_true hj, hx, hy]; rfl
theorem aheadF_out {is : List It} {i j : Int} (h : i < 0 ∨ j < 0 ∨ (is.length : Int) ≤ i ∨ (is.length : Int) ≤ j) : aheadF is i j = false := by
  unfold aheadF
  rcases h with h | h | h | h
  · rw [decide_eq_false (by omega : ¬ 0 ≤ i)]; rfl
  · rw [decide_eq_false (by omega : ¬ 0 ≤ j)]; simp
  · rw [List.getElem?_eq_none (by omega : is.length ≤ i.toNat)]; simp
  · rw [List.getElem?_eq_none (by omega : is.length ≤ j.toNat)]
    cases is[i.toNat]? <;> simp
theorem aheadF_in {is : List It} {i j : Int} (h : aheadF is i j = true) : 0 ≤ i ∧ 0 ≤ j ∧ i < (is.length : Int) ∧ j < (is.length : Int) := by
  rcases Classical.em (0 ≤ i ∧ 0 ≤ j ∧ i < (is.length : Int) ∧ j < (is.length : Int)) with h1 | h1
  · exact h1
  · rw [aheadF_out (by omega)] at h; cases h
/-- the pairs of one item, up to number j; of those up to item i -/
def rowPo (is : List It) (i j : Nat) : List (Int × Int) := ((List.range j).filter fun (k : Nat) => aheadF is i k).map fun (k : Nat) => ((i : Int), (k : Int))
def uptoPo (is : List It) (n i : Nat) : List (Int × Int) := (List.range i).flatMap fun i => rowPo is i n
def poM (is : List It) : List (List Nat) := foldP is.length (uptoPo is is.length is.length)
theorem rowPo_succ (is : List It) (i j : Nat) : rowPo is i (j + 1) = if aheadF is i j = true then rowPo is i j ++ [((i : Int), (j : Int))] else rowPo is i j := by
  unfold rowPo
  rw [List.range_succ, List.filter_append]
  split
  · rename_i h; rw [List.filter_cons_of_pos (by exact h)]; simp
  · rename_i h; rw [List.filter_cons_of_neg (by exact h)]; simp
theorem uptoPo_succ (is : List It) (n i : Nat) : uptoPo is n (i + 1) = uptoPo is n i ++ rowPo is i n := by
  unfold uptoPo; rw [List.range_succ, List.flatMap_append]; simp
theorem foldP_last (n : Nat) (ps : List (Int × Int)) (p : Int × Int) : foldP n (ps ++ [p]) = setM (foldP n ps) p.1 p.2 := by
  unfold foldP; rw [List.foldl_append]; rfl
end Go.Proofs.Ytpbiilhclmcehaa

namespace Go.Proofs.Ytpbiilhclmcehaa
set_option linter.unusedVariables false

end Go.Proofs.Ytpbiilhclmcehaa

namespace Go.Proofs.Ytpbiilhclmcehaa
open Go.RowKit

/-- a value that is a slice that reads as the words xs -/
def RowV (w : World) (v : Value) (xs : List Nat) : Prop := ∃ A n c, v = .slice A n c ∧ Row w A n xs
/-- cells that read as rows -/
def RowsC (w : World) (vs : List Value) (xss : List (List Nat)) : Prop := vs.length = xss.length ∧ ∀ (i : Nat) (v : Value) (xs : List Nat), vs[i]? = some v → xss[i]? = some xs → RowV w v xs
/-- the slice '.slice A n c' of rows reads as xss -/
def RowsAt (w : World) (A : Option Addr) (n : Nat) (xss : List (List Nat)) : Prop := ∃ vs, Rd w A n vs ∧ RowsC w vs xss
section
variable {w w' : World} {A : Option Addr} {n : Nat} {vs : List Value} {xss : List (List Nat)} {v : Value} {xs : List Nat}
theorem RowV.below (h : RowV w v xs) (hb : Below w.heap.size w w') : RowV w' v xs := by
  obtain ⟨A, n, c, e, hr⟩ := h; exact ⟨A, n, c, e, hr.below hb⟩
theorem RowsC.below (h : RowsC w vs xss) (hb : Below w.heap.size w w') : RowsC w' vs xss := ⟨h.1, fun i v xs h1 h2 => (h.2 i v xs h1 h2).below hb⟩
theorem RowsC.nil (w : World) : RowsC w [] [] := ⟨rfl, fun i v xs h => by simp at h⟩
theorem RowsC.set (h : RowsC w vs xss) (hv : RowV w v xs) (k : Nat) : RowsC w (vs.set k v) (xss.set k xs) := by
  refine ⟨by simp [h.1], fun i u ys h1 h2 => ?_⟩
  rw [List.getElem?_set] at h1 h2
  by_cases hk : k = i
  · rw [if_pos hk] at h1 h2
    by_cases hl : k < vs.length
    · rw [if_pos hl] at h1
      rw [if_pos (by rw [← h.1]; exact hl)] at h2
      injection h1 with h1
      injection h2 with h2
      subst h1 h2
      exact hv
    · rw [if_neg hl] at h1; cases h1
  · rw [if_neg hk] at h1 h2
    exact h.2 i u ys h1 h2
theorem RowsAt.len (h : RowsAt w A n xss) : xss.length = n := by
  obtain ⟨vs, h1, h2⟩ := h; rw [← h2.1, h1.1]
theorem RowsAt.below (h : RowsAt w A n xss) (hb : Below w.heap.size w w') : RowsAt w' A n xss := by
  obtain ⟨vs, h1, h2⟩ := h; exact ⟨vs, h1.below hb, h2.below hb⟩
theorem RowsAt.nil (w : World) (A : Option Addr) : RowsAt w A 0 [] := ⟨[], Rd.nil _ _, RowsC.nil _⟩
theorem RowsAt.at_ {k : Nat} (h : RowsAt w A n xss) (hk : k < n) : ∃ b off B m c xs, A = some ⟨b, off, none⟩ ∧ b < w.heap.size ∧ xss[k]? = some xs ∧ w.cell? ⟨b, off + k, none⟩ = some (.slice B m c) ∧ Row w B m xs := by
  obtain ⟨vs, h1, h2⟩ := h
  obtain ⟨b, off, u, hA, hb, hu, hc⟩ := h1.at_ hk
  have hl : k < xss.length := by rw [← h2.1, h1.1]; exact hk
  obtain ⟨B, m, c, e, hr⟩ := h2.2 k u xss[k] hu (List.getElem?_eq_getElem hl)
  subst e
  exact ⟨b, off, B, m, c, xss[k], hA, hb, List.getElem?_eq_getElem hl, hc, hr⟩
theorem RowsAt.w64 (h : RowsAt w A n xss) : ∀ xs ∈ xss, W64 xs := by
  intro xs hx
  obtain ⟨k, hk⟩ := List.getElem?_of_mem hx
  have hl : k < xss.length := (List.getElem?_eq_some_iff.1 hk).1
  obtain ⟨b, off, B, m, c, xs', _, _, hx', _, hr⟩ := h.at_ (k := k) (by rw [← h.len]; exact hl)
  rw [hk] at hx'
  injection hx' with hx'
  subst hx'
  exact hr.2
end

section
variable {w w' : World} {A : Option Addr} {n : Nat} {vs : List Value} {xs : List Nat} {p : Addr}
theorem Rd.setCell (h : Rd w A n vs) (hne : ∀ ad, A = some ad → ad.block ≠ p.block) (u : Value) : Rd (w.setCell p u) A n vs :=
  ⟨h.1, fun hn => by
    obtain ⟨b, off, e, hb, hc⟩ := h.2 hn
    have hbp := hne _ e
    refine ⟨b, off, e, by simpa using hb, fun j x hx => ?_⟩
    rw [World.cell?_setCell_other w p ⟨b, off + j, none⟩ u (fun e => hbp (by rw [e]))]
    exact hc j x hx⟩
theorem Row.setCell (h : Row w A n xs) (hne : ∀ ad, A = some ad → ad.block ≠ p.block) (u : Value) : Row (w.setCell p u) A n xs := ⟨h.1.setCell hne u, h.2⟩
theorem own_far {base : Nat} {e : TypeId} {size : Nat} {v : Value} (h : w.ownsRow base e size v n vs) (hne : v.ownBlock ≠ some p.block) (u : Value) : (w.setCell p u).ownsRow base e size v n vs := by
  refine ⟨h.1, ?_⟩
  rcases h.2 with ⟨h1, h2⟩ | ⟨g, cap, cur, rfl, hbg, hg, r⟩
  · exact .inl ⟨h1, h2⟩
  · refine .inr ⟨g, cap, cur, rfl, hbg, ?_, r⟩
    rw [Below.heap_setCell w p u g (fun e => hne (by rw [← e]; rfl))]; exact hg
end

theorem own_drewN {w : World} {base : Nat} {e : TypeId} {size : Nat} {v : Value} {n : Nat} {xs : List Value} (h : w.ownsRow base e size v n xs) (q : Nat) : (w.drewN q).ownsRow base e size v n xs := h
theorem own_base {w : World} {base base' : Nat} {e : TypeId} {size n : Nat} {v : Value} {vs : List Value} (h : w.ownsRow base e size v n vs) (hb : base' ≤ base) : w.ownsRow base' e size v n vs :=
  ⟨h.1, h.2.imp id fun ⟨g, cap, cur, hv, hg, r⟩ => ⟨g, cap, cur, hv, Nat.le_trans hb hg, r⟩⟩

theorem own_cap {w : World} {base : Nat} {e : TypeId} {size n c : Nat} {A : Option Addr} {vs : List Value} (h : w.ownsRow base e size (.slice A n c) n vs) : n ≤ c := by
  rcases h.2 with ⟨h1, h2⟩ | ⟨g, cap, cur, hv, _, _, hnc, _⟩
  · omega
  · injection hv with _ _ h3
    omega
/-- rows of the call's own, no two in one block -/
def OwnRows (t : TypeId) (w : World) (base : Nat) (vs : List Value) (xss : List (List Nat)) : Prop :=
  vs.length = xss.length ∧
  (∀ (i : Nat) (v : Value) (xs : List Nat), vs[i]? = some v → xss[i]? = some xs → ∃ A m c, v = .slice A m c ∧ w.ownsRow base t 1 (.slice A m c) m (xs.map u64v) ∧ W64 xs) ∧
  (∀ (i j : Nat) (v v' : Value) (g : Nat), i ≠ j → vs[i]? = some v → vs[j]? = some v' → v.ownBlock = some g → v'.ownBlock ≠ some g)
section
variable {t : TypeId} {w w' : World} {base : Nat} {vs : List Value} {xss : List (List Nat)}
theorem OwnRows.nil (t : TypeId) (w : World) (base : Nat) : OwnRows t w base [] [] := ⟨rfl, fun i v xs h => by simp at h, fun i j v v' g _ h => by simp at h⟩
theorem OwnRows.below (h : OwnRows t w base vs xss) (hb : Below w.heap.size w w') : OwnRows t w' base vs xss :=
  ⟨h.1, fun i v xs h1 h2 => by
    obtain ⟨A, m, c, e, ho, hx⟩ := h.2.1 i v xs h1 h2
    exact ⟨A, m, c, e, own_below ho hb, hx⟩, h.2.2⟩
theorem OwnRows.rows (h : OwnRows t w base vs xss) : RowsC w vs xss :=
  ⟨h.1, fun i v xs h1 h2 => by
    obtain ⟨A, m, c, e, ho, hx⟩ := h.2.1 i v xs h1 h2
    exact ⟨A, m, c, e, Row.of_own ho hx⟩⟩
theorem OwnRows.base_ {base' : Nat} (h : OwnRows t w base vs xss) (hb : base' ≤ base) : OwnRows t w base' vs xss :=
  ⟨h.1, fun i v xs h1 h2 => by
    obtain ⟨A, m, c, e, ho, hx⟩ := h.2.1 i v xs h1 h2
    exact ⟨A, m, c, e, own_base ho hb, hx⟩, h.2.2⟩
theorem OwnRows.lt (h : OwnRows t w base vs xss) : ∀ v ∈ vs, ∀ g, v.ownBlock = some g → base ≤ g ∧ g < w.heap.size := by
  intro v hv g hg
  obtain ⟨k, hk⟩ := List.getElem?_of_mem hv
  have hl : k < xss.length := by rw [← h.1]; exact (List.getElem?_eq_some_iff.1 hk).1
  obtain ⟨A, m, c, rfl, ho, _⟩ := h.2.1 k v xss[k] hk (List.getElem?_eq_getElem hl)
  exact ho.lt g hg
theorem OwnRows.far (h : OwnRows t w base vs xss) {p : Addr} (hp : p.block < base) (u : Value) : OwnRows t (w.setCell p u) base vs xss :=
  ⟨h.1, fun i v xs h1 h2 => by
    obtain ⟨A, m, c, e, ho, hx⟩ := h.2.1 i v xs h1 h2
    exact ⟨A, m, c, e, own_far ho (fun hh => by have := own_lt_block ho _ hh; omega) u, hx⟩, h.2.2⟩
theorem own_block_lt {e : TypeId} {size n : Nat} {v : Value} (h : w.ownsRow base e size v n vs) : ∀ g, v.ownBlock = some g → g < w.heap.size := fun g hg => (h.lt g hg).2
theorem OwnRows.snoc (h : OwnRows t w base vs xss) (hb : Below w.heap.size w w') {A : Option Addr} {m c : Nat} {xs : List Nat} (ho : w'.ownsRow w.heap.size t 1 (.slice A m c) m (xs.map u64v)) (hx : W64 xs) (hbase : base ≤ w.heap.size) :
    OwnRows t w' base (vs ++ [.slice A m c]) (xss ++ [xs]) := by
  have h' := h.below hb
  refine ⟨by simp [h.1], fun i v ys h1 h2 => ?_, fun i j v v' g hij h1 h2 h3 h4 => ?_⟩
  · rcases Nat.lt_or_ge i vs.length with hi | hi
    · rw [List.getElem?_append_left hi] at h1
      rw [List.getElem?_append_left (by rw [← h.1]; exact hi)] at h2
      exact h'.2.1 i v ys h1 h2
    · rw [List.getElem?_append_right hi] at h1
      rw [List.getElem?_append_right (by rw [← h.1]; exact hi)] at h2
      rw [← h.1] at h2
      rcases Nat.eq_zero_or_pos (i - vs.length) with h0 | h0
      · rw [h0] at h1 h2
        simp at h1 h2
        subst h1 h2
        exact ⟨A, m, c, rfl, own_base ho hbase, hx⟩
      · rw [List.getElem?_eq_none (by simp; omega)] at h1; cases h1
  · have old : ∀ k u g, k < vs.length → vs[k]? = some u → u.ownBlock = some g → g < w.heap.size := fun k u g hk hu hg => by
      obtain ⟨A', m', c', rfl, ho', _⟩ := h.2.1 k u (xss[k]'(by rw [← h.1]; exact hk)) hu (List.getElem?_eq_getElem (by rw [← h.1]; exact hk))
      exact own_block_lt ho' g hg
    have new : ∀ k u g, vs.length ≤ k → (vs ++ [Value.slice A m c])[k]? = some u → u.ownBlock = some g → k = vs.length ∧ w.heap.size ≤ g := fun k u g hk hu hg => by
      rw [List.getElem?_append_right hk] at hu
      rcases Nat.eq_zero_or_pos (k - vs.length) with h0 | h0
      · rw [h0] at hu
        simp at hu
        subst hu
        exact ⟨by omega, own_lt_block ho g hg⟩
      · rw [List.getElem?_eq_none (by simp; omega)] at hu; cases hu
    rcases Nat.lt_or_ge i vs.length with hi | hi <;> rcases Nat.lt_or_ge j vs.length with hj | hj
    · rw [List.getElem?_append_left hi] at h1
      rw [List.getElem?_append_left hj] at h2
      exact h.2.2 i j v v' g hij h1 h2 h3 h4
    · rw [List.getElem?_append_left hi] at h1
      have a := old i v g hi h1 h3
      have b := (new j v' g hj h2 h4).2
      omega
    · rw [List.getElem?_append_left hj] at h2
      have a := old j v' g hj h2 h4
      have b := (new i v g hi h1 h3).2
      omega
    · have a := (new i v g hi h1 h3).1
      have b := (new j v' g hj h2 h4).1
      omega
theorem OwnRows.put (h : OwnRows t w base vs xss) {i : Nat} {g m c : Nat} {xs : List Nat} (hv : vs[i]? = some (.slice (some ⟨g, 0, none⟩) m c)) (hx : xss[i]? = some xs) (q y : Nat) (hy : y < 18446744073709551616) :
    OwnRows t (w.setCell ⟨g, q, none⟩ (u64v y)) base vs (xss.set i (xs.set q y)) := by
  refine ⟨by simp [h.1], fun k v ys h1 h2 => ?_, h.2.2⟩
  rw [List.getElem?_set] at h2
  by_cases hk : i = k
  · subst hk
    rw [if_pos rfl, if_pos (by exact (List.getElem?_eq_some_iff.1 hx).1)] at h2
    injection h2 with h2
    rw [hv] at h1
    injection h1 with h1
    obtain ⟨A, m', c', e, ho, hw⟩ := h.2.1 i _ xs hv hx
    injection e with e1 e2 e3
    subst e1 e2 e3 h1 h2
    refine ⟨_, _, _, rfl, ?_, fun x hx' => ?_⟩
    · rw [List.map_set]; exact (ho.stored q (u64v y)).1
    · rcases List.mem_or_eq_of_mem_set hx' with h5 | h5
      · exact hw x h5
      · rw [h5]; exact hy
  · rw [if_neg hk] at h2
    obtain ⟨A, m', c', e, ho, hw⟩ := h.2.1 k v ys h1 h2
    subst e
    exact ⟨A, m', c', rfl, own_far ho (h.2.2 i k _ _ g hk hv h1 rfl) _, hw⟩
end

/-- the slice '.slice A n c' of pairs of numbers reads as ps -/
def PairsAt (w : World) (A : Option Addr) (n : Nat) (ps : List (Int × Int)) : Prop :=
  ps.length = n ∧ (∀ p ∈ ps, (-9223372036854775808 ≤ p.1 ∧ p.1 < 9223372036854775808) ∧ (-9223372036854775808 ≤ p.2 ∧ p.2 < 9223372036854775808)) ∧
  (0 < n → ∃ b off, A = some ⟨b, off, none⟩ ∧ b < w.heap.size ∧ ∀ (j : Nat) (p : Int × Int), ps[j]? = some p → w.cell? ⟨b, off + j * 2, none⟩ = some (.int .i64 p.1) ∧ w.cell? ⟨b, off + j * 2 + 1, none⟩ = some (.int .i64 p.2))
section
variable {w w' : World} {A : Option Addr} {n : Nat} {ps : List (Int × Int)}
theorem PairsAt.below (h : PairsAt w A n ps) (hb : Below w.heap.size w w') : PairsAt w' A n ps :=
  ⟨h.1, h.2.1, fun hn => by
    obtain ⟨b, off, e, hbl, hc⟩ := h.2.2 hn
    exact ⟨b, off, e, Nat.lt_of_lt_of_le hbl hb.size, fun j p hp => by
      obtain ⟨h1, h2⟩ := hc j p hp
      exact ⟨(hb.cell (p := ⟨b, off + j * 2, none⟩) hbl).trans h1, (hb.cell (p := ⟨b, off + j * 2 + 1, none⟩) hbl).trans h2⟩⟩⟩
theorem PairsAt.at_ {k : Nat} (h : PairsAt w A n ps) (hk : k < n) : ∃ b off p, A = some ⟨b, off, none⟩ ∧ b < w.heap.size ∧ ps[k]? = some p ∧ ((-9223372036854775808 ≤ p.1 ∧ p.1 < 9223372036854775808) ∧ (-9223372036854775808 ≤ p.2 ∧ p.2 < 9223372036854775808)) ∧
    w.cell? ⟨b, off + k * 2, none⟩ = some (.int .i64 p.1) ∧ w.cell? ⟨b, off + k * 2 + 1, none⟩ = some (.int .i64 p.2) := by
  obtain ⟨b, off, e, hb, hc⟩ := h.2.2 (by omega)
  have hl : k < ps.length := by rw [h.1]; exact hk
  exact ⟨b, off, ps[k], e, hb, List.getElem?_eq_getElem hl, h.2.1 _ (List.getElem_mem hl), (hc k _ (List.getElem?_eq_getElem hl)).1, (hc k _ (List.getElem?_eq_getElem hl)).2⟩
end

/-- block g is the matrix that a variable holds -/
def MatB (w : World) (g : Nat) (t : TypeId) (N : Int) (A : Option Addr) (n c : Nat) : Prop := Blk w g t [.int .i64 N, .slice A n c]
section
variable {w w' : World} {g : Nat} {t : TypeId} {N : Int} {A : Option Addr} {n c : Nat}
theorem MatB.c0 (h : MatB w g t N A n c) : w.cell? ⟨g, 0, none⟩ = some (.int .i64 N) := Blk.cell h 0
theorem MatB.c1 (h : MatB w g t N A n c) : w.cell? ⟨g, 1, none⟩ = some (.slice A n c) := Blk.cell h 1
theorem MatB.new (w : World) (t : TypeId) : MatB (w.alloc (.cells #[.int .i64 N, .slice A n c] t)) w.heap.size t N A n c := Blk.new w t _
theorem MatB.new1 (w : World) (o : Obj) (t : TypeId) : MatB ((w.alloc o).alloc (.cells #[.int .i64 N, .slice A n c] t)) (w.heap.size + 1) t N A n c := by
  have h := MatB.new (N := N) (A := A) (n := n) (c := c) (w.alloc o) t
  rwa [show (w.alloc o).heap.size = w.heap.size + 1 from by simp] at h
theorem MatB.two (h : MatB w g t N A n c) (x y : Value) : ((w.setCell ⟨g, 0, none⟩ x).setCell ⟨g, 1, none⟩ y).cell? ⟨g, 0, none⟩ = some x ∧ ((w.setCell ⟨g, 0, none⟩ x).setCell ⟨g, 1, none⟩ y).cell? ⟨g, 1, none⟩ = some y := by
  have h2 := (Blk.set_ (Blk.set_ h 0 x) 1 y)
  exact ⟨by rw [h2.cell 0]; rfl, by rw [h2.cell 1]; rfl⟩
theorem MatB.put (h : MatB w g t N A n c) (N' : Int) (A' : Option Addr) (n' c' : Nat) : MatB ((w.setCell ⟨g, 0, none⟩ (.int .i64 N')).setCell ⟨g, 1, none⟩ (.slice A' n' c')) g t N' A' n' c' :=
  Blk.set_ (Blk.set_ h 0 (.int .i64 N')) 1 (.slice A' n' c')
theorem MatB.below_ (h : MatB w g t N A n c) (hb : Below w.heap.size w w') : MatB w' g t N A n c := Blk.below h hb h.lt
end

/-- what a call that answers a matrix and an error ends in -/
def RetMat (N : Int) (xss : List (List Nat)) (er : Int) (w : World) (e : Ending) (w' : World) : Prop :=
  ∃ A n c, e = .returned (.tuple #[.agg #[.int .i64 N, .slice A n c], .int .i64 er]) ∧ RowsAt w' A n xss ∧ n ≤ c ∧ Below w.heap.size w w'
/-- .. a matrix of the call's own, rows and all (te: the type of rows, tw: of words) -/
def RetMatO (te tw : TypeId) (N : Int) (xss : List (List Nat)) (w : World) (e : Ending) (w' : World) : Prop :=
  ∃ A n c vs, e = .returned (.tuple #[.agg #[.int .i64 N, .slice A n c], .int .i64 0]) ∧ w'.ownsRow w.heap.size te 1 (.slice A n c) n vs ∧ OwnRows tw w' w.heap.size vs xss ∧ (∀ v ∈ vs, ∀ g, v.ownBlock = some g → (Value.slice A n c).ownBlock ≠ some g) ∧ Below w.heap.size w w'
/-- what a call that answers a matrix ends in -/
def RetMat1 (N : Int) (xss : List (List Nat)) (w : World) (e : Ending) (w' : World) : Prop :=
  ∃ A n c, e = .returned (.agg #[.int .i64 N, .slice A n c]) ∧ RowsAt w' A n xss ∧ n ≤ c ∧ Below w.heap.size w w'
/-- a call that answers a bool, and leaves what was there -/
def RetB (b : Bool) (w : World) (e : Ending) (w' : World) : Prop := e = .returned (.bool b) ∧ Below w.heap.size w w'

end Go.Proofs.Ytpbiilhclmcehaa

namespace Go.Proofs.Ytpbiilhclmcehaa
open Go.RowKit
set_option linter.unusedVariables false

set_option maxHeartbeats 400000 in
theorem mat_below (i n : Int) (w : World) :
    Calls Try.prog 52 #[.int .i64 i, .int .i64 n] w fun e w' => e = .returned (.bool (belowZ i n)) ∧ w = w' := by
  by_cases h0 : 0 ≤ i
  · by_cases h1 : i < n
    · have H := Lib.hid (belowZ_yes h0 h1)
      go_enter Try.func52, Try.ntmps52
      go_wp2
      go_ret
      rw [H.out]; exact ⟨rfl, rfl⟩
    · have H := Lib.hid (belowZ_no (i := i) (n := n) (by omega))
      go_enter Try.func52, Try.ntmps52
      go_wp2
      go_ret
      rw [H.out]; exact ⟨rfl, rfl⟩
  · have H := Lib.hid (belowZ_no (i := i) (n := n) (by omega))
    go_enter Try.func52, Try.ntmps52
    go_wp2
    go_ret
    rw [H.out]; exact ⟨rfl, rfl⟩

set_option maxHeartbeats 400000 in
theorem mat_Has (N : Int) (A : Option Addr) (n c : Nat) (xss : List (List Nat)) (i j : Int) (w : World) (hr : RowsAt w A n xss) (hn : n ≤ 1073741824) (hl : ∀ xs ∈ xss, xs.length ≤ 1073741824)
    (h1 : -9223372036854775808 ≤ i) (h2 : i < 9223372036854775808) (h3 : -9223372036854775808 ≤ j) (h4 : j < 9223372036854775808) :
    Calls Try.prog 58 #[.agg #[.int .i64 N, .slice A n c], .int .i64 i, .int .i64 j] w (RetB (hasM xss i j) w) := by
  have hlen := hr.len
  by_cases h : 0 ≤ i ∧ i < (n : Int)
  · obtain ⟨k, rfl⟩ := Int.eq_ofNat_of_zero_le h.1
    have hk : k < n := by omega
    have hb := Lib.hid (belowZ_yes (i := (k : Int)) (n := (n : Int)) (by omega) (by omega))
    have ha : Below w.heap.size w (w.alloc (.cells #[.int .i64 N, .slice A n c] 35)) := (Below.refl _ _).alloc (Nat.le_refl _) _
    obtain ⟨b, off, B, m, d, xs, rfl, hbl, hx, hc, hxr⟩ := (hr.below ha).at_ hk
    have hm : m ≤ 1073741824 := by have := hxr.len; have := hl xs (List.mem_of_getElem? hx); omega
    have H := Lib.hid (hasM_in (j := j) hx)
    have hR := Lib.hid (fun W (hW : Row W B m xs) => row_Has B m d xs j W hW (by omega) h3 h4)
    replace hxr := Lib.hid hxr
    have hk0 : (0 : Int) ≤ (k : Int) := by omega
    have hkn : (k : Int) < (n : Int) := by omega
    clear h hx hr hlen hl
    replace ha := Lib.hid ha
    go_enter Try.func58, Try.ntmps58
    go_wp2_with fail
    refine (mat_below _ _ _).mono ?_; rintro e w' ⟨rfl, rfl⟩
    rw [hb.out]
    go_wp2_with fail
    refine (hR.out _ hxr.out).mono ?_; rintro e w' ⟨rfl, rfl⟩
    go_wp2
    go_ret
    rw [H.out]; exact ⟨rfl, ha.out⟩
  · have hb := Lib.hid (belowZ_no (i := i) (n := (n : Int)) (by omega))
    have H := Lib.hid (hasM_out (xss := xss) (i := i) (j := j) (by omega))
    have ha : Below w.heap.size w (w.alloc (.cells #[.int .i64 N, .slice A n c] 35)) := (Below.refl _ _).alloc (Nat.le_refl _) _
    clear h hlen hr hl
    replace ha := Lib.hid ha
    go_enter Try.func58, Try.ntmps58
    go_wp2_with fail
    refine (mat_below _ _ _).mono ?_; rintro e w' ⟨rfl, rfl⟩
    rw [hb.out]
    go_wp2
    go_ret
    rw [H.out]; exact ⟨rfl, ha.out⟩

end Go.Proofs.Ytpbiilhclmcehaa

namespace Go.Proofs.Ytpbiilhclmcehaa
open Go.RowKit
set_option linter.unusedVariables false

theorem info_row : (Try.prog.info? 79).map (fun i => (i.zero, i.size, i.bytes)) = some (some (.slice none 0 0), 1, 24) := by kernel_rfl
theorem one_rows {w : World} {vs : List Value} {xss : List (List Nat)} (h : RowsC w vs xss) : ∀ u ∈ vs, u.oneCell' = true := by
  intro u hu
  obtain ⟨k, hk⟩ := List.getElem?_of_mem hu
  have hl : k < vs.length := (List.getElem?_eq_some_iff.1 hk).1
  have hl2 : k < xss.length := by rw [← h.1]; exact hl
  obtain ⟨A, n, c, rfl, _⟩ := h.2 k u xss[k] hk (List.getElem?_eq_getElem hl2)
  rfl

end Go.Proofs.Ytpbiilhclmcehaa

namespace Go.Proofs.Ytpbiilhclmcehaa
open Go.RowKit
set_option linter.unusedVariables false

theorem inM_cases {N i j : Int} (h : inM N i j = false) : (i < 0 ∨ N ≤ i) ∨ (belowZ i N = true ∧ (j < 0 ∨ N ≤ j)) := by
  unfold inM at h
  unfold belowZ
  by_cases a : 0 ≤ i <;> by_cases b : i < N <;> by_cases c : 0 ≤ j <;> by_cases d : j < N <;> simp [a, b, c, d] at h ⊢ <;> omega

end Go.Proofs.Ytpbiilhclmcehaa

namespace Go.Proofs.Ytpbiilhclmcehaa
open Go.RowKit
set_option linter.unusedVariables false

theorem mk_rows (kl kc : IntKind) (n c : Nat) (hnc : n ≤ c) (hc : c ≤ 1099511627776) (W : World) :
    (Instr.makeSlice 33 (.int kl (n : Int)) (.int kc (c : Int))).run Try.prog W = .ok (.slice (some ⟨W.heap.size, 0, none⟩) n c) (W.alloc (.cells (zeros c (.slice none 0 0)) 79)) := by
  obtain ⟨i, hi, hz0, hz1, hz2⟩ := info_parts info_row
  exact run_make_one _ _ i _ Try.underlying33 hi hz0 hz1 rfl kl kc n c hnc (by rw [hz2]; omega) (by omega) W
/-- rows that are laid one by one: those laid, then nils -/
def filled (vs : List Value) (n : Nat) : List Value := vs ++ List.replicate (n - vs.length) (.slice none 0 0)
theorem filled_nil (n : Nat) : filled [] n = List.replicate n (.slice none 0 0) := by simp [filled]
theorem filled_all {vs : List Value} {n : Nat} (h : vs.length = n) : filled vs n = vs := by simp [filled, h]
theorem filled_set {vs : List Value} {n : Nat} (h : vs.length < n) (v : Value) : (filled vs n).set vs.length v = filled (vs ++ [v]) n := by
  unfold filled
  obtain ⟨d, hd⟩ : ∃ d, n - vs.length = d + 1 := ⟨n - vs.length - 1, by omega⟩
  rw [List.set_append_right _ _ (Nat.le_refl _), hd, List.length_append, show n - (vs.length + [v].length) = d from by simp; omega]
  simp [List.replicate_succ]
theorem filled_get {vs : List Value} {n : Nat} (h : vs.length < n) : (filled vs n)[vs.length]? = some (.slice none 0 0) := by
  unfold filled
  rw [List.getElem?_append_right (Nat.le_refl _), Nat.sub_self, List.getElem?_replicate, if_pos (by omega)]

set_option maxHeartbeats 1000000 in
theorem mat_New (n : Nat) (hn : n ≤ 4096) (w : World) :
    Calls Try.prog 51 #[.int .i64 (n : Int)] w (RetMatO 79 92 (n : Int) (newM n) w) := by
  have hb := Lib.hid (belowZ_yes (i := (n : Int)) (n := 4097) (by omega) (by omega))
  have hmk := mk_rows .i64 .i64 n n (Nat.le_refl _) (by omega)
  obtain ⟨W0, hW0⟩ : ∃ W0, W0 = w.alloc (.cells #[.int .i64 0, .slice none 0 0] 35) := ⟨_, rfl⟩
  have ha : Below w.heap.size w W0 := by rw [hW0]; exact (Below.refl _ _).alloc (Nat.le_refl _) _
  have hB : MatB W0 w.heap.size 35 0 none 0 0 := by rw [hW0]; exact MatB.new w _
  have hs0 : W0.heap.size = w.heap.size + 1 := by rw [hW0]; simp
  obtain ⟨W1, hW1⟩ : ∃ W1, W1 = W0.alloc (.cells (zeros n (.slice none 0 0)) 79) := ⟨_, rfl⟩
  have ha1 : Below w.heap.size w W1 := by rw [hW1]; exact ha.alloc (by omega) _
  have hB1 : MatB W1 w.heap.size 35 0 none 0 0 := by rw [hW1]; exact hB.below_ ((Below.refl _ _).alloc (Nat.le_refl _) _)
  have hs1 : W1.heap.size = w.heap.size + 2 := by rw [hW1]; simp [hs0]
  have hown0 : W1.ownsRow (w.heap.size + 1) 79 1 (.slice (some ⟨w.heap.size + 1, 0, none⟩) n n) n (filled [] n) := by
    have h := own_zeros W0 n (.slice none 0 0) 79 (by unfold maxLen; omega)
    rw [← hW1, hs0] at h
    rw [filled_nil]; exact h
  have hrow := Lib.hid (fun W => row_NewO (n : Int) (by omega) (by omega) W)
  have hs0' := Lib.hid hs0
  have hs1' := Lib.hid hs1
  replace hB1 := Lib.hid hB1
  replace hown0 := Lib.hid hown0
  replace ha1 := Lib.hid ha1
  clear ha hB hs0 hs1
  go_enter Try.func51, Try.ntmps51
  go_wp2_with fail
  rw [← hW0]
  have hp : W0.heap.size = w.heap.size + 1 := hs0'.out
  clear hW0
  refine (mat_below _ _ _).mono ?_; rintro e w' ⟨rfl, rfl⟩
  rw [hb.out]
  go_wp2_with fail
  rw [← hW1]
  clear hW1 hmk hp
  go_loopw [14] (fun i wr => ∃ vs : List Value, vs.length ≤ n ∧ i = .int .i64 vs.length ∧ Hid (wr.ownsRow (w.heap.size + 1) 79 1 (.slice (some ⟨w.heap.size + 1, 0, none⟩) n n) n (filled vs n)) ∧ Hid (OwnRows 92 wr (w.heap.size + 2) vs (List.replicate vs.length (List.replicate (wordsZ (n : Int)).toNat 0))) ∧ Hid (MatB wr w.heap.size 35 0 none 0 0) ∧ Hid (Below w.heap.size w wr) ∧ Hid (w.heap.size + 2 ≤ wr.heap.size)) (fun i _ => n - (intOf i).toNat)
  case atStart => exact ⟨[], Nat.zero_le _, rfl, hown0, Lib.hid (OwnRows.nil _ _ _), hB1, ha1, Lib.hid (by rw [hs1'.out]; exact Nat.le_refl _)⟩
  case round =>
    obtain ⟨vs, hk, rfl, hown, hrows, hBr, hbr, hsr⟩ := hrel
    clear hown0 hB1 ha1
    obtain ⟨k, hke⟩ : ∃ k, k = vs.length := ⟨_, rfl⟩
    rw [← hke] at hk
    rw [← hke]
    by_cases hlt : k < n
    · have hke' := Lib.hid hke
      clear hke
      go_wp2_with fail
      refine (hrow.out _).mono ?_; rintro e w1 ⟨C, p, q, rfl, ho, hx64, hb1⟩
      have hown1 := own_below hown.out hb1
      have hget := filled_get (vs := vs) (n := n) (by rw [← hke'.out]; exact hlt)
      have hcg := hown1.cellAt k (by omega)
      rw [hke'.out, hget, ← hke'.out] at hcg
      have hfg := hown1.frozenAt k
      have hrows1 := Lib.hid (hrows.out.snoc hb1 ho hx64 (hsr.out))
      have hBr1 := Lib.hid (hBr.out.below_ hb1)
      have hbr1 := Lib.hid (below_trans2 hbr.out hb1)
      have hsr1 := Lib.hid (Nat.le_trans hsr.out hb1.size)
      replace hown1 := Lib.hid hown1
      clear ho hx64 hget hown hrows hBr hbr hsr hb1
      go_wp2_with fail
      go_roundw
      case rel =>
        refine ⟨vs ++ [.slice C p q], by have := hke'.out; simp; omega, by rw [List.length_append, ← hke'.out]; simp; try omega, ?_, ?_, ?_, ?_, ?_⟩
        · refine Lib.hid ?_
          rw [← filled_set (by rw [← hke'.out]; exact hlt), ← hke'.out]
          exact (hown1.out.stored k (.slice C p q)).1
        · refine Lib.hid ?_
          have h := hrows1.out.far (p := ⟨w.heap.size + 1, k, none⟩) (by simp) (.slice C p q)
          rw [List.length_append, List.length_singleton, List.replicate_succ']
          exact h
        · exact Lib.hid (hBr1.out.far (by simp) _)
        · exact Lib.hid (hbr1.out.setCell (by simp) _)
        · exact Lib.hid (by simpa using hsr1.out)
      case measure => simp [intOf]; omega
    · have hkn : k = n := by omega
      have hvn : vs.length = n := by rw [← hke, hkn]
      clear hlt
      have f20 := hBr.out.cell 0
      have f21 := hBr.out.cell 1
      have g20 := hBr.out.frozen 0
      have g21 := hBr.out.frozen 1
      simp only [List.getElem?_cons_zero, List.getElem?_cons_succ] at f20 f21
      replace hvn := Lib.hid hvn
      replace hke := Lib.hid hke
      obtain rfl := hkn
      go_wp2_with fail
      have hcc := hBr.out.two (.int .i64 k) (.slice (some ⟨w.heap.size + 1, 0, none⟩) k k)
      have hc1 := hcc.1
      have hc2 := hcc.2
      clear hcc f20 f21 g20 g21
      refine bodyPost_ret (v := .tuple #[.agg #[.int .i64 k, .slice (some ⟨w.heap.size + 1, 0, none⟩) k k], .int .i64 0]) (by simp [results, Try.results51, go_sem, hc1, hc2]) rfl ⟨_, _, _, vs, rfl, ?_, ?_, ?_, ?_⟩
      · have h := hown.out
        rw [filled_all hvn.out] at h
        exact own_base (own_far (own_far h (p := ⟨w.heap.size, 0, none⟩) (by simp [Value.ownBlock]) _) (p := ⟨w.heap.size, 1, none⟩) (by simp [Value.ownBlock]) _) (by omega)
      · have h := (hrows.out.far (p := ⟨w.heap.size, 0, none⟩) (by simp) (.int .i64 k)).far (p := ⟨w.heap.size, 1, none⟩) (by simp) (.slice (some ⟨w.heap.size + 1, 0, none⟩) k k)
        rw [hvn.out] at h
        exact h.base_ (by omega)
      · intro v hv g hg hh
        have := (hrows.out.lt v hv g hg).1
        simp [Value.ownBlock] at hh
        omega
      · exact (hbr.out.setCell (by simp) _).setCell (by simp) _

end Go.Proofs.Ytpbiilhclmcehaa

namespace Go.Proofs.Ytpbiilhclmcehaa
open Go.RowKit
set_option linter.unusedVariables false

set_option maxHeartbeats 400000 in
theorem mat_New_no (n : Int) (h : n < 0 ∨ 4097 ≤ n) (w : World) :
    Calls Try.prog 51 #[.int .i64 n] w (RetMat 0 [] 1 w) := by
  have hb := Lib.hid (belowZ_no (i := n) (n := 4097) h)
  have ha : Below w.heap.size w (w.alloc (.cells #[.int .i64 0, .slice none 0 0] 35)) := (Below.refl _ _).alloc (Nat.le_refl _) _
  replace ha := Lib.hid ha
  clear h
  go_enter Try.func51, Try.ntmps51
  go_wp2_with fail
  refine (mat_below _ _ _).mono ?_; rintro e w' ⟨rfl, rfl⟩
  rw [hb.out]
  go_wp2_with fail
  exact bodyPost_ret (v := .tuple #[.agg #[.int .i64 0, .slice none 0 0], .int .i64 1]) (by simp [results, Try.results51, go_sem]) rfl ⟨none, 0, 0, rfl, RowsAt.nil _ _, Nat.le_refl _, ha.out⟩

/-- what 'put' ends in -/
def Put (g q y : Nat) (w : World) (e : Ending) (w' : World) : Prop := e = .returned (.tuple #[]) ∧ ∃ k, w' = (w.drewN k).setCell ⟨g, q, none⟩ (u64v y)
set_option maxHeartbeats 400000 in
theorem mat_put (g m c : Nat) (j : Nat) (x : Nat) (w : World) (hm : m ≤ 17592186044416) (hj : j < 64 * m) (hx64 : x < 18446744073709551616) (hc : w.cell? ⟨g, j / 64, none⟩ = some (.int .u64 (x : Int))) (hf : w.frozen? ⟨g, j / 64, none⟩ = false) :
    Calls Try.prog 53 #[.slice (some ⟨g, 0, none⟩) m c, .int .i64 (j : Int)] w (Put g (j / 64) (x ||| p2 (j % 64)) w) := by
  obtain ⟨r, hre⟩ : ∃ r, r = j % 64 := ⟨_, rfl⟩
  have hr64 : r < 64 := by omega
  have hE := u64_or_nat x (p2 r) hx64 (by have := p2_lt r hr64; omega)
  replace hE := Lib.hid hE
  have hA1 : (0 : Int) ≤ (j : Int) / 64 := by omega
  have hA2 : (j : Int) / 64 < (m : Int) := by omega
  have hA3 : ((j : Int) / 64).toNat = j / 64 := by omega
  have hj0 : (0 : Int) ≤ (j : Int) := by omega
  have hrem : (j : Int) % 64 = (r : Int) := by omega
  have hjb : (j : Int) < 9223372036854775807 := by omega
  rw [← hre]
  clear hre
  go_enter Try.func53, Try.ntmps53
  go_wp2_with fail
  refine still_tail 10 (by kernel_rfl) (by kernel_rfl) (fun W hW => ?_)
  have hc' : W.cell? ⟨g, j / 64, none⟩ = some (.int .u64 (x : Int)) := by rw [hW.out]; exact hc
  have hf' : W.frozen? ⟨g, j / 64, none⟩ = false := by rw [hW.out]; exact hf
  clear hc hf
  simp only [List.take_succ_cons, List.take_zero, List.drop_succ_cons, List.drop_zero]
  have htd : (j : Int).tdiv 64 = (j : Int) / 64 := Int.tdiv_eq_ediv_of_nonneg hj0
  have htm : (j : Int).tmod 64 = (r : Int) := by rw [Int.tmod_eq_emod_of_nonneg hj0]; exact hrem
  have hw1 : IntKind.i64.wrap ((j : Int) / 64) = (j : Int) / 64 := by rw [IntKind.wrap_i64]; omega
  have hw2 : IntKind.i64.wrap (r : Int) = (r : Int) := by rw [IntKind.wrap_i64]; omega
  clear hrem
  repeat
    refine @wpStill_step _ _ _ _ _ _ _ ?_
    intro K hK
    go_simp
    refine hK _ ?_
    clear hK K
  refine wpStill_step (fun K hK => ?_)
  go_simp
  refine ⟨_, still_call (word_BitN r hr64 _), hK _ ?_⟩
  clear hK K
  repeat
    refine @wpStill_step _ _ _ _ _ _ _ ?_
    intro K hK
    go_simp
    refine hK _ ?_
    clear hK K
  refine wpStill_nil ?_
  clear htd htm hw1 hw2
  go_wp2
  go_end0
  rw [hE.out, hW.out]
  exact ⟨rfl, 1, rfl⟩

end Go.Proofs.Ytpbiilhclmcehaa

namespace Go.Proofs.Ytpbiilhclmcehaa
open Go.RowKit
set_option linter.unusedVariables false

set_option maxHeartbeats 400000 in
theorem mat_Of_big (n : Int) (h : n < 0 ∨ 4097 ≤ n) (A : Option Addr) (m c : Nat) (w : World) :
    Calls Try.prog 29 #[.int .i64 n, .slice A m c] w (RetMat 0 [] 1 w) := by
  have hN := Lib.hid (mat_New_no n h)
  obtain ⟨W0, hW0⟩ : ∃ W0, W0 = w.alloc (.cells #[.int .i64 0, .slice none 0 0] 35) := ⟨_, rfl⟩
  have ha : Below w.heap.size w W0 := by rw [hW0]; exact (Below.refl _ _).alloc (Nat.le_refl _) _
  have hB : MatB W0 w.heap.size 35 0 none 0 0 := by rw [hW0]; exact MatB.new w _
  replace ha := Lib.hid ha
  replace hB := Lib.hid hB
  clear h
  go_enter Try.func29, Try.ntmps29
  go_wp2_with fail
  rw [← hW0]
  clear hW0
  refine (hN.out _).mono ?_; rintro e w1 ⟨C, p, q, rfl, _, _, hb1⟩
  have hbb := Lib.hid (below_trans2 ha.out hb1)
  have hB1 := hB.out.below_ hb1
  have f20 := hB1.c0
  have f21 := hB1.c1
  have g20 := hB1.frozen 0
  have g21 := hB1.frozen 1
  have hlt := hB1.lt
  clear hb1
  go_wp2_with fail
  have hcc := (hB1.put 0 none 0 0).below_ ((Below.refl _ _).alloc (Nat.le_refl _) (.cells #[.int .i64 0, .slice C p q] 35))
  have hc1 := hcc.c0
  have hc2 := hcc.c1
  refine bodyPost_ret (v := .tuple #[.agg #[.int .i64 0, .slice none 0 0], .int .i64 1]) (by simp [results, Try.results29, go_sem, hc1, hc2]) rfl ⟨none, 0, 0, rfl, RowsAt.nil _ _, Nat.le_refl _, ?_⟩
  exact ((hbb.out.setCell (by simp) _).setCell (by simp) _).alloc (by simpa using hbb.out.size) _

/-- what is known at each round's head -/
structure OfI (w : World) (n : Nat) (ps : List (Int × Int)) (A : Option Addr) (c M : Nat) (vs : List Value) (k : Nat) (wr : World) : Prop where
  res : MatB wr w.heap.size 35 0 none 0 0
  loc : MatB wr M 35 (n : Int) A n c
  out : wr.ownsRow (w.heap.size + 1) 79 1 (.slice A n c) n vs
  rows : OwnRows 92 wr (w.heap.size + 1) vs (foldP n (ps.take k))
  below : Below w.heap.size w wr
theorem OfI.keep {w : World} {n : Nat} {ps : List (Int × Int)} {A : Option Addr} {c M : Nat} {vs : List Value} {k : Nat} {wr w' : World} (h : OfI w n ps A c M vs k wr) (hb : Below wr.heap.size wr w') : OfI w n ps A c M vs k w' :=
  ⟨h.res.below_ hb, h.loc.below_ hb, own_below h.out hb, h.rows.below hb, below_trans2 h.below hb⟩
theorem OfI.put {w : World} {n : Nat} {ps : List (Int × Int)} {A : Option Addr} {c M : Nat} {vs : List Value} {k : Nat} {wr : World} (h : OfI w n ps A c M vs k wr) (hsep : ∀ v ∈ vs, ∀ g, v.ownBlock = some g → (Value.slice A n c).ownBlock ≠ some g ∧ g ≠ M) {i j : Nat} {g m d : Nat} {xs : List Nat} {x : Nat}
    (hp : ps[k]? = some ((i : Int), (j : Int))) (hv : vs[i]? = some (.slice (some ⟨g, 0, none⟩) m d)) (hx : (foldP n (ps.take k))[i]? = some xs) (hj : j < 64 * xs.length) (hxq : xs[j / 64]? = some x) (q : Nat) :
    OfI w n ps A c M vs (k + 1) ((wr.drewN q).setCell ⟨g, j / 64, none⟩ (u64v (x ||| p2 (j % 64)))) := by
  have hs := hsep _ (List.mem_of_getElem? hv) g rfl
  have hx64 : x < 18446744073709551616 := by
    obtain ⟨_, _, _, e, ho, hw⟩ := h.rows.2.1 i _ xs hv hx
    exact hw x (List.mem_of_getElem? hxq)
  have hg := h.rows.lt _ (List.mem_of_getElem? hv) g rfl
  have hr := (h.rows.put hv hx (j / 64) (x ||| p2 (j % 64)) (or_p2_lt hx64 (by omega)))
  have he : foldP n (ps.take (k + 1)) = (foldP n (ps.take k)).set i (xs.set (j / 64) (x ||| p2 (j % 64))) := by
    rw [foldP_snoc n ps k _ hp]
    show setM _ (i : Int) (j : Int) = _
    rw [setM_nat hx, setR_in hj hxq]
  refine ⟨?_, ?_, ?_, ?_, ?_⟩
  · exact (Blk.drewN h.res q).far (by show w.heap.size ≠ g; omega) _
  · exact (Blk.drewN h.loc q).far (fun e => hs.2 e.symm) _
  · exact own_far (p := ⟨g, j / 64, none⟩) (own_drewN h.out q) hs.1 _
  · rw [he]; exact hr
  · exact (below_drewN h.below q).setCell (by show w.heap.size ≤ g; omega) _
def ofOk (n : Int) (ps : List (Int × Int)) : Bool := belowZ n 4097 && ps.all (okP n)
def ofN (n : Int) (ps : List (Int × Int)) : Int := if ofOk n ps = true then n else 0
def ofM (n : Int) (ps : List (Int × Int)) : List (List Nat) := if ofOk n ps = true then foldP n.toNat ps else []
def ofE (n : Int) (ps : List (Int × Int)) : Int := if ofOk n ps = true then 0 else 1
theorem okP_no {n : Int} {i j : Int} (h : okP n (i, j) = false) : belowZ i n = false ∨ (belowZ i n = true ∧ belowZ j n = false) := by
  rcases inM_cases h with h | ⟨h1, h2⟩
  · exact .inl (belowZ_no h)
  · exact .inr ⟨h1, belowZ_no h2⟩
theorem okP_yes {n : Int} {i j : Int} (h : okP n (i, j) = true) : belowZ i n = true ∧ belowZ j n = true ∧ 0 ≤ i ∧ i < n ∧ 0 ≤ j ∧ j < n := by
  have h' : inM n i j = true := h
  unfold inM at h'
  simp only [Bool.and_eq_true, decide_eq_true_eq] at h'
  obtain ⟨⟨⟨a, b⟩, c⟩, d⟩ := h'
  exact ⟨belowZ_yes a b, belowZ_yes c d, a, b, c, d⟩
set_option maxHeartbeats 2000000 in
theorem mat_Of_in (n : Nat) (hn : n ≤ 4096) (A : Option Addr) (m c : Nat) (ps : List (Int × Int)) (w : World) (hp : PairsAt w A m ps) (hm : m ≤ 1073741824) :
    Calls Try.prog 29 #[.int .i64 (n : Int), .slice A m c] w (RetMat (ofN n ps) (ofM n ps) (ofE n ps) w) := by
  have hN := Lib.hid (mat_New n hn)
  have hin : belowZ (n : Int) 4097 = true := belowZ_yes (by omega) (by omega)
  obtain ⟨W0, hW0⟩ : ∃ W0, W0 = w.alloc (.cells #[.int .i64 0, .slice none 0 0] 35) := ⟨_, rfl⟩
  have ha : Below w.heap.size w W0 := by rw [hW0]; exact (Below.refl _ _).alloc (Nat.le_refl _) _
  have hB : MatB W0 w.heap.size 35 0 none 0 0 := by rw [hW0]; exact MatB.new w _
  have hs0 : W0.heap.size = w.heap.size + 1 := by rw [hW0]; simp
  have hyes : Hid (ps.all (okP n) = true → ofN n ps = n ∧ ofM n ps = foldP n ps ∧ ofE n ps = 0) := Lib.hid (fun h => by unfold ofN ofM ofE ofOk; rw [hin, h]; simp)
  have hno : Hid (∀ p ∈ ps, okP n p = false → ofN n ps = 0 ∧ ofM n ps = [] ∧ ofE n ps = 1) := Lib.hid (fun p hp h => by
    have : ps.all (okP n) = false := List.all_eq_false.2 ⟨p, hp, by rw [h]; simp⟩
    unfold ofN ofM ofE ofOk; rw [hin, this]; simp)
  replace ha := Lib.hid ha
  replace hB := Lib.hid hB
  replace hs0 := Lib.hid hs0
  replace hp := Lib.hid hp
  clear hin
  go_enter Try.func29, Try.ntmps29
  go_wp2_with fail
  rw [← hW0]
  clear hW0
  refine (hN.out _).mono ?_; rintro e w1 ⟨C, p, q, vs, rfl, hown, hrows, hsep, hb1⟩
  have hpn : p = n := by
    have h1 := hown.1
    have h2 := hrows.1
    have h3 := (DimM.new n).1
    omega
  subst hpn
  rw [hs0.out] at hown hrows
  obtain ⟨W2, hW2⟩ : ∃ W2, W2 = w1.alloc (.cells #[.int .i64 p, .slice C p q] 35) := ⟨_, rfl⟩
  have hb2 : Below w1.heap.size w1 W2 := by rw [hW2]; exact (Below.refl _ _).alloc (Nat.le_refl _) _
  have hI : OfI w p ps C q w1.heap.size vs 0 W2 := by
    refine ⟨(hB.out.below_ hb1).below_ hb2, ?_, own_below hown hb2, ?_, below_trans2 (below_trans2 ha.out hb1) hb2⟩
    · rw [hW2]; exact MatB.new w1 _
    · rw [List.take_zero, foldP_nil]; exact hrows.below hb2
  have hsep' : ∀ v ∈ vs, ∀ g, v.ownBlock = some g → (Value.slice C p q).ownBlock ≠ some g ∧ g ≠ w1.heap.size := fun v hv g hg => ⟨hsep v hv g hg, by have := (hrows.lt v hv g hg).2; omega⟩
  obtain ⟨M, hM⟩ : ∃ M, M = w1.heap.size := ⟨_, rfl⟩
  rw [← hM] at hI hsep'
  replace hI := Lib.hid hI
  replace hsep' := Lib.hid hsep'
  have hpW : Hid (PairsAt W2 A m ps) := Lib.hid (hp.out.below (below_trans2 (below_trans2 ha.out hb1) hb2))
  clear hown hrows hsep hb1 hb2 hN
  go_wp2_with fail
  rw [← hW2, ← hM]
  clear hW2 hM
  go_loopw [21] (fun i wr => ∃ k : Nat, k ≤ m ∧ i = .int .i64 k ∧ Hid (OfI w p ps C q M vs k wr) ∧ Hid (∀ x ∈ ps.take k, okP p x = true)) (fun i _ => m - (intOf i).toNat)
  case atStart => exact ⟨0, Nat.zero_le _, rfl, hI, Lib.hid (by simp)⟩
  case round =>
    obtain ⟨k, hk, rfl, hIr, hall⟩ := hrel
    clear hI
    by_cases hlt : k < m
    · obtain ⟨b, off, ⟨x, y⟩, rfl, hbl, hx, ⟨⟨x1, x2⟩, ⟨y1, y2⟩⟩, hc1, hc2⟩ := (hp.out.below hIr.out.below).at_ hlt
      simp only at x1 x2 y1 y2 hc1 hc2
      obtain ⟨W3, hW3⟩ : ∃ W3, W3 = wr.alloc (.cells #[.int .i64 x, .int .i64 y] 87) := ⟨_, rfl⟩
      have hb3 : Below wr.heap.size wr W3 := by rw [hW3]; exact (Below.refl _ _).alloc (Nat.le_refl _) _
      have hI3 := hIr.out.keep hb3
      obtain ⟨T, hT⟩ : ∃ T, T = wr.heap.size := ⟨_, rfl⟩
      have hBT : Blk W3 T 87 [.int .i64 x, .int .i64 y] := by rw [hW3, hT]; exact Blk.new wr _ _
      have e0 : W3.cell? ⟨T, 0, none⟩ = some (.int .i64 x) := hBT.cell 0
      have e1 : W3.cell? ⟨T, 1, none⟩ = some (.int .i64 y) := hBT.cell 1
      have hok1 : okP p (x, y) = true → Hid (∀ z ∈ ps.take (k + 1), okP p z = true) := fun h => Lib.hid (fun z hz => by
        rw [List.take_succ_eq_append_getElem (List.getElem?_eq_some_iff.1 hx).1, (List.getElem?_eq_some_iff.1 hx).2] at hz
        rcases List.mem_append.1 hz with h5 | h5
        · exact hall.out z h5
        · rw [List.mem_singleton.1 h5]; exact h)
      have hbad : okP p (x, y) = false → Hid (ofN p ps = 0 ∧ ofM p ps = [] ∧ ofE p ps = 1) := fun h => Lib.hid (hno.out _ (List.mem_of_getElem? hx) h)
      replace hx := Lib.hid hx
      have f20 := hI3.res.c0
      have f21 := hI3.res.c1
      have g20 := hI3.res.frozen 0
      have g21 := hI3.res.frozen 1
      have hl1 := hI3.loc.c1
      replace hI3 := Lib.hid hI3
      replace hBT := Lib.hid hBT
      clear hb3
      rcases Bool.eq_false_or_eq_true (okP p (x, y)) with hok | hok
      · have hokk := hok1 hok
        obtain ⟨o1, o2, o3, o4, o5, o6⟩ := okP_yes hok
        replace o1 := Lib.hid o1
        replace o2 := Lib.hid o2
        clear hok hok1 hbad
        obtain ⟨i, rfl⟩ := Int.eq_ofNat_of_zero_le o3
        obtain ⟨j, rfl⟩ := Int.eq_ofNat_of_zero_le o5
        have hi : i < p := by omega
        have hdim := DimM.fold p (ps.take k)
        obtain ⟨xs, hxs⟩ : ∃ xs, (foldP p (ps.take k))[i]? = some xs := ⟨_, List.getElem?_eq_getElem (by rw [hdim.1]; exact hi)⟩
        have hxl := hdim.2 i xs hxs
        have hwp := words_pos (n := p) (by omega)
        have hwl := words_le (n := p) hn
        obtain ⟨v, hv⟩ : ∃ v, vs[i]? = some v := ⟨_, List.getElem?_eq_getElem (by rw [hI3.out.rows.1, hdim.1]; exact hi)⟩
        obtain ⟨B, mm, d, rfl, hro, hr64⟩ := hI3.out.rows.2.1 i v xs hv hxs
        have hmm : mm = xs.length := by have := hro.1; simpa using this.symm
        obtain ⟨g, cap, hge, _⟩ := hro.form (by omega)
        injection hge with hg1 hg2 hg3
        subst hg1
        obtain ⟨xw, hxw⟩ : ∃ xw, xs[j / 64]? = some xw := ⟨_, List.getElem?_eq_getElem (by omega)⟩
        have hxw64 := hr64 _ (List.mem_of_getElem? hxw)
        have hout := hI3.out.out
        have hAf : ∃ G, C = some ⟨G, 0, none⟩ := by
          obtain ⟨G, cap', hh, _⟩ := hout.form (by omega)
          injection hh with h1 h2 h3
          exact ⟨G, h1⟩
        obtain ⟨G, rfl⟩ := hAf
        have hjm : j < 64 * mm := by omega
        have hmm2 : mm ≤ 64 := by omega
        have hcr : W3.cell? ⟨G, i, none⟩ = some (.slice (some ⟨g, 0, none⟩) mm d) := by rw [hout.cellAt _ (by omega)]; exact hv
        have hcw : W3.cell? ⟨g, j / 64, none⟩ = some (.int .u64 (xw : Int)) := by
          rw [hro.cellAt _ (by omega), List.getElem?_map, hxw]; rfl
        have hfw := hro.frozenAt (j / 64)
        have hi0 : (0 : Int) ≤ (i : Int) := by omega
        have hip : (i : Int) < (p : Int) := by omega
        have hput := Lib.hid (mat_put g mm d j xw)
        have hupd := Lib.hid (fun W (hI : OfI w p ps (some ⟨G, 0, none⟩) q M vs k W) (z : Nat) => hI.put hsep'.out hx.out hv hxs (j := j) (x := xw) (by omega) hxw z)
        clear hdim hxs hxl hwp hwl hv hro hr64 hmm hxw hout hg2 hg3
        go_wp2_with fail
        rw [← hW3, ← hT]
        clear hW3 hT
        refine (mat_below _ _ _).mono ?_; rintro e w' ⟨rfl, rfl⟩
        rw [o1.out]
        go_wp2_with fail
        refine (mat_below _ _ _).mono ?_; rintro e w' ⟨rfl, rfl⟩
        rw [o2.out]
        go_wp2_with fail
        refine still_tail 8 (by kernel_rfl) (by kernel_rfl) (fun W hW => ?_)
        have k0 : W.cell? ⟨T, 0, none⟩ = some (.int .i64 i) := by rw [hW.out]; exact e0
        have k1 : W.cell? ⟨T, 1, none⟩ = some (.int .i64 j) := by rw [hW.out]; exact e1
        have k2 : W.cell? ⟨M, 1, none⟩ = some (.slice (some ⟨G, 0, none⟩) p q) := by rw [hW.out]; exact hl1
        have k3 : W.cell? ⟨G, i, none⟩ = some (.slice (some ⟨g, 0, none⟩) mm d) := by rw [hW.out]; exact hcr
        have k4 := Lib.hid (show W.cell? ⟨g, j / 64, none⟩ = some (.int .u64 (xw : Int)) by rw [hW.out]; exact hcw)
        have k5 := Lib.hid (show W.frozen? ⟨g, j / 64, none⟩ = false by rw [hW.out]; exact hfw)
        have hIW := Lib.hid (show OfI w p ps (some ⟨G, 0, none⟩) q M vs k W by rw [hW.out]; exact hI3.out.keep (Below.refl _ _).drew)
        clear e0 e1 hl1 hcr hcw hfw f20 f21 g20 g21 hc1 hc2
        simp only [List.take_succ_cons, List.take_zero, List.drop_succ_cons, List.drop_zero]
        repeat
          refine @wpStill_step _ _ _ _ _ _ _ ?_
          intro K hK
          go_simp
          refine hK _ ?_
          clear hK K
        refine wpStill_nil ?_
        go_wp2_with fail
        refine (hput.out W (by omega) hjm hxw64 k4.out k5.out).mono ?_; rintro e w' ⟨rfl, z, rfl⟩
        go_wp2
        go_roundw
        case rel => exact ⟨k + 1, by omega, by go_num, Lib.hid (hupd.out W hIW.out z), hokk⟩
        case measure => simp [intOf]; omega
      · have hbb := hbad hok
        rcases okP_no hok with o1 | ⟨o1, o2⟩
        · replace o1 := Lib.hid o1
          clear hok hok1 hbad
          go_wp2_with fail
          rw [← hW3, ← hT]
          clear hW3 hT
          refine (mat_below _ _ _).mono ?_; rintro e w' ⟨rfl, rfl⟩
          rw [o1.out]
          go_wp2_with fail
          have hcc := hI3.out.res.two (.int .i64 0) (.slice none 0 0)
          have hc5 := hcc.1
          have hc6 := hcc.2
          obtain ⟨q1, q2, q3⟩ := hbb.out
          rw [q1, q2, q3]
          exact bodyPost_ret (v := .tuple #[.agg #[.int .i64 0, .slice none 0 0], .int .i64 1]) (by simp [results, Try.results29, go_sem, hc5, hc6]) rfl ⟨none, 0, 0, rfl, RowsAt.nil _ _, Nat.le_refl _, (hI3.out.below.setCell (by simp) _).setCell (by simp) _⟩
        · replace o1 := Lib.hid o1
          replace o2 := Lib.hid o2
          clear hok hok1 hbad
          go_wp2_with fail
          rw [← hW3, ← hT]
          clear hW3 hT
          refine (mat_below _ _ _).mono ?_; rintro e w' ⟨rfl, rfl⟩
          rw [o1.out]
          go_wp2_with fail
          refine (mat_below _ _ _).mono ?_; rintro e w' ⟨rfl, rfl⟩
          rw [o2.out]
          go_wp2_with fail
          have hcc := hI3.out.res.two (.int .i64 0) (.slice none 0 0)
          have hc5 := hcc.1
          have hc6 := hcc.2
          obtain ⟨q1, q2, q3⟩ := hbb.out
          rw [q1, q2, q3]
          exact bodyPost_ret (v := .tuple #[.agg #[.int .i64 0, .slice none 0 0], .int .i64 1]) (by simp [results, Try.results29, go_sem, hc5, hc6]) rfl ⟨none, 0, 0, rfl, RowsAt.nil _ _, Nat.le_refl _, (hI3.out.below.setCell (by simp) _).setCell (by simp) _⟩
    · have hkm : k = m := by omega
      have hall' : ps.all (okP p) = true := List.all_eq_true.2 (fun z hz => hall.out z (by rw [List.take_of_length_le (by rw [hp.out.1]; omega)]; exact hz))
      have hy := Lib.hid (hyes.out hall')
      have hfull : ps.take k = ps := List.take_of_length_le (by rw [hp.out.1]; omega)
      have hI3 := hIr.out
      have hrw := hI3.rows
      rw [hfull] at hrw
      replace hrw := Lib.hid hrw
      have f20 := hI3.res.c0
      have f21 := hI3.res.c1
      have g20 := hI3.res.frozen 0
      have g21 := hI3.res.frozen 1
      have hl0 := hI3.loc.c0
      have hl1 := hI3.loc.c1
      replace hI3 := Lib.hid hI3
      clear hfull hall' hkm
      go_wp2_with fail
      have hcc := hI3.out.res.two (.int .i64 p) (.slice C p q)
      have hc5 := hcc.1
      have hc6 := hcc.2
      obtain ⟨q1, q2, q3⟩ := hy.out
      rw [q1, q2, q3]
      refine bodyPost_ret (v := .tuple #[.agg #[.int .i64 p, .slice C p q], .int .i64 0]) (by simp [results, Try.results29, go_sem, hc5, hc6]) rfl ⟨_, _, _, rfl, ⟨vs, ?_, ?_⟩, own_cap hI3.out.out, (hI3.out.below.setCell (by simp) _).setCell (by simp) _⟩
      · have hne : (Value.slice C p q).ownBlock ≠ some w.heap.size := fun e => by have := own_lt_block hI3.out.out _ e; omega
        exact Rd.of_own' (own_far (own_far hI3.out.out (p := ⟨w.heap.size, 0, none⟩) hne _) (p := ⟨w.heap.size, 1, none⟩) hne _)
      · exact ((hrw.out.far (p := ⟨w.heap.size, 0, none⟩) (by simp) _).far (p := ⟨w.heap.size, 1, none⟩) (by simp) _).rows
theorem mat_Of (n : Int) (A : Option Addr) (m c : Nat) (ps : List (Int × Int)) (w : World) (hp : PairsAt w A m ps) (hm : m ≤ 1073741824) :
    Calls Try.prog 29 #[.int .i64 n, .slice A m c] w (RetMat (ofN n ps) (ofM n ps) (ofE n ps) w) := by
  by_cases h : 0 ≤ n ∧ n < 4097
  · obtain ⟨k, rfl⟩ := Int.eq_ofNat_of_zero_le h.1
    exact mat_Of_in k (by omega) A m c ps w hp hm
  · have hb := belowZ_no (i := n) (n := 4097) (by omega)
    have h0 : ofOk n ps = false := by unfold ofOk; rw [hb]; rfl
    have h1 : ofN n ps = 0 ∧ ofM n ps = [] ∧ ofE n ps = 1 := by unfold ofN ofM ofE; rw [h0]; simp
    rw [h1.1, h1.2.1, h1.2.2]
    exact mat_Of_big n (by omega) A m c w

end Go.Proofs.Ytpbiilhclmcehaa

namespace Go.Proofs.Ytpbiilhclmcehaa
open Go.RowKit

/-- a row whose block, if it has words, lies outside the blocks lo .. hi - 1 -/
def RowF (w : World) (lo hi : Nat) (v : Value) (xs : List Nat) : Prop := ∃ A n c, v = .slice A n c ∧ Row w A n xs ∧ (0 < n → ∀ ad, A = some ad → ad.block < lo ∨ hi ≤ ad.block)
def RowsF (w : World) (lo hi : Nat) (vs : List Value) (xss : List (List Nat)) : Prop := vs.length = xss.length ∧ ∀ (i : Nat) (v : Value) (xs : List Nat), vs[i]? = some v → xss[i]? = some xs → RowF w lo hi v xs
section
variable {w w' : World} {lo hi : Nat} {A : Option Addr} {n c : Nat} {vs : List Value} {xss : List (List Nat)} {v : Value} {xs : List Nat}
theorem Row.setCell' {p : Addr} (h : Row w A n xs) (hne : 0 < n → ∀ ad, A = some ad → ad.block ≠ p.block) (u : Value) : Row (w.setCell p u) A n xs := by
  rcases Nat.eq_zero_or_pos n with h0 | h0
  · subst h0
    have := h.len
    obtain rfl := List.eq_nil_of_length_eq_zero this
    exact Row.nil _ _
  · exact h.setCell (hne h0) u
theorem RowF.row (h : RowF w lo hi v xs) : RowV w v xs := by
  obtain ⟨A, n, c, e, hr, _⟩ := h; exact ⟨A, n, c, e, hr⟩
theorem RowF.below (h : RowF w lo hi v xs) (hb : Below w.heap.size w w') : RowF w' lo hi v xs := by
  obtain ⟨A, n, c, e, hr, hf⟩ := h; exact ⟨A, n, c, e, hr.below hb, hf⟩
theorem RowF.set {p : Addr} (h : RowF w lo hi v xs) (h1 : lo ≤ p.block) (h2 : p.block < hi) (u : Value) : RowF (w.setCell p u) lo hi v xs := by
  obtain ⟨A, n, c, e, hr, hf⟩ := h
  exact ⟨A, n, c, e, hr.setCell' (fun h0 ad he hh => by have := hf h0 ad he; omega) u, hf⟩
theorem RowsF.nil (w : World) : RowsF w lo hi [] [] := ⟨rfl, fun i v xs h => by simp at h⟩
theorem RowsF.rows (h : RowsF w lo hi vs xss) : RowsC w vs xss := ⟨h.1, fun i v xs h1 h2 => (h.2 i v xs h1 h2).row⟩
theorem RowsF.below (h : RowsF w lo hi vs xss) (hb : Below w.heap.size w w') : RowsF w' lo hi vs xss := ⟨h.1, fun i v xs h1 h2 => (h.2 i v xs h1 h2).below hb⟩
theorem RowsF.set {p : Addr} (h : RowsF w lo hi vs xss) (h1 : lo ≤ p.block) (h2 : p.block < hi) (u : Value) : RowsF (w.setCell p u) lo hi vs xss := ⟨h.1, fun i v xs h3 h4 => (h.2 i v xs h3 h4).set h1 h2 u⟩
theorem RowsF.snoc (h : RowsF w lo hi vs xss) (hv : RowF w lo hi v xs) : RowsF w lo hi (vs ++ [v]) (xss ++ [xs]) := by
  refine ⟨by simp [h.1], fun i u ys h1 h2 => ?_⟩
  rcases Nat.lt_or_ge i vs.length with hi' | hi'
  · rw [List.getElem?_append_left hi'] at h1
    rw [List.getElem?_append_left (by rw [← h.1]; exact hi')] at h2
    exact h.2 i u ys h1 h2
  · rw [List.getElem?_append_right hi'] at h1
    rw [List.getElem?_append_right (by rw [← h.1]; exact hi')] at h2
    rw [← h.1] at h2
    rcases Nat.eq_zero_or_pos (i - vs.length) with h0 | h0
    · rw [h0] at h1 h2
      simp at h1 h2
      subst h1 h2
      exact hv
    · rw [List.getElem?_eq_none (by simp; omega)] at h1; cases h1
end

theorem or_of_and {x y : Nat} (h : x &&& y = x) : y ||| x = y := by
  apply Nat.eq_of_testBit_eq
  intro i
  have := congrArg (·.testBit i) h
  simp only [Nat.testBit_and, Nat.testBit_or] at this ⊢
  revert this
  cases x.testBit i <;> cases y.testBit i <;> simp
theorem orR_of_sub {a b : List Nat} (hl : b.length = a.length) (h : subR b a = true) : orR a b = a := by
  unfold subR at h
  rw [List.all_eq_true] at h
  unfold orR
  apply List.ext_getElem?
  intro j
  rw [hl, Nat.max_self, List.getElem?_map]
  rcases Nat.lt_or_ge j a.length with hj | hj
  · rw [List.getElem?_range hj]
    have := h j (List.mem_range.2 (by omega))
    rw [beq_iff_eq] at this
    show some (a.getD j 0 ||| b.getD j 0) = _
    rw [or_of_and this, List.getD_eq_getElem?_getD, List.getElem?_eq_getElem hj]; rfl
  · rw [List.getElem?_eq_none (by simpa using hj), List.getElem?_eq_none hj]; rfl
def orPre (a b : List (List Nat)) (k : Nat) : List (List Nat) := (List.range k).map fun i => orR (a.getD i []) (b.getD i [])
theorem orPre_all (a b : List (List Nat)) : orPre a b a.length = orM a b := rfl
theorem orPre_succ (a b : List (List Nat)) (k : Nat) : orPre a b (k + 1) = orPre a b k ++ [orR (a.getD k []) (b.getD k [])] := by
  unfold orPre; rw [List.range_succ, List.map_append]; rfl

end Go.Proofs.Ytpbiilhclmcehaa

namespace Go.Proofs.Ytpbiilhclmcehaa
open Go.RowKit

section
variable {P : Program} {ops : Array Oper} {md : Region.Mode} {Q : Exit → Act → World → Prop}

/-- Whatever order is picked from here on, till the first n operations are done; each leaves what was there. -/
def wpAnyR (P : Program) (md : Region.Mode) (ops : Array Oper) (Q : Exit → Act → World → Prop) (n : Nat) (F : Array Bool → Act → World → Prop) : Nat → Array Bool → Act → World → Prop
  | 0, listed, a, w => F listed a w
  | f + 1, listed, a, w => Region.ready md ops listed ≠ [] ∧ ∀ i ∈ Region.ready md ops listed, i < n ∧ wpOp P ops Q i (fun a' w' => Below w.heap.size w w' ∧ wpAnyR P md ops Q n F f (listed.setIfInBounds i true) a' w') a w

theorem wpAny_of_R {n g : Nat} {F : Array Bool → Act → World → Prop} (hF : ∀ listed a w, F listed a w → wpAny P md ops Q g listed a w) :
    ∀ (f : Nat) (listed : Array Bool) (a : Act) (w : World), wpAnyR P md ops Q n F f listed a w → wpAny P md ops Q (f + g) listed a w
  | 0, _, _, _, h => by rw [Nat.zero_add]; exact hF _ _ _ h
  | f + 1, listed, a, w, h => by
    rw [show f + 1 + g = (f + g) + 1 by omega]
    exact ⟨fun h0 => absurd h0 h.1, fun i hi => wpOp_mono (fun a' w' h' => wpAny_of_R hF f _ a' w' h'.2) (h.2 i hi).2⟩

theorem below_of {w w' w'' : World} (h : Below w.heap.size w w') (h' : Below w'.heap.size w' w'') : Below w.heap.size w w'' := h.trans (h'.mono h.size)
theorem yields_later {w w' : World} {o : Oper} {v : Value} {a : Act} (hb : Below w.heap.size w w') (h : YieldsIf P ops (fun x => Below w.heap.size w x) o v a) : YieldsIf P ops (fun x => Below w'.heap.size w' x) o v a :=
  h.imp (fun ⟨h1, h2⟩ => ⟨h1, fun x hx => h2 x (below_of hb hx)⟩) id

theorem wpAnyR_first {n i : Nat} {oi : Oper} {v : Value} {F : Array Bool → Act → World → Prop} (hi : ops[i]? = some oi) (hsel : ∀ (j : Nat) (o : Oper) cs b, ops[j]? = some o → o.op ≠ .select cs b)
    (hQ : ∀ c a w, Q (.panic c) (a.put oi.dst v) w → Q (.panic c) a w)
    (hlate : ∀ listed, HeadInv md ops n listed → listed.getD i true = false → ∀ t, n ≤ t → t ∉ Region.ready md ops listed) (hin : i < n)
    (hdone : ∀ listed a w, F listed a w → ∀ j ∈ Region.ready md ops listed, n ≤ j) :
    ∀ (f : Nat) (listed : Array Bool) (a : Act) (w : World), HeadInv md ops n listed →
      (∀ j oj, ops[j]? = some oj → j ≠ i → listed.getD j true = false → (∀ e ∈ oj.after, Region.binds md e = true → e.on ≠ i) → oi.apart ops oj = true) →
      i ∈ Region.ready md ops listed → YieldsIf P ops (fun x => Below w.heap.size w x) oi v a →
      wpAnyR P md ops Q n F f (listed.setIfInBounds i true) (a.put oi.dst v) w → wpAnyR P md ops Q n F (f + 1) listed a w := by
  intro f
  induction f with
  | zero =>
    intro listed a w inv _ hr hy H
    have hun := (mem_ready.1 hr).1
    refine ⟨fun h => (by rw [h] at hr; cases hr), fun j hj => ?_⟩
    have hjn : j < n := by
      rcases Nat.lt_or_ge j n with h | h
      · exact h
      · exact absurd hj (hlate listed inv hun j h)
    refine ⟨hjn, ?_⟩
    by_cases hji : j = i
    · subst hji; exact hy.wpOp hi (Below.refl _ _) ⟨Below.refl _ _, H⟩
    · have := hdone _ _ _ H j (ready_mono hj hji)
      omega
  | succ f ih =>
    intro listed a w inv hfree hr hy H
    have hun := (mem_ready.1 hr).1
    refine ⟨fun h => (by rw [h] at hr; cases hr), fun j hj => ?_⟩
    have hjn : j < n := by
      rcases Nat.lt_or_ge j n with h | h
      · exact h
      · exact absurd hj (hlate listed inv hun j h)
    refine ⟨hjn, ?_⟩
    by_cases hji : j = i
    · subst hji; exact hy.wpOp hi (Below.refl _ _) ⟨Below.refl _ _, H⟩
    · have h1 := (H.2 j (ready_mono hj hji)).2
      obtain ⟨hjun, oj, hoj, hall⟩ := mem_ready.1 hj
      have hnot : ∀ e ∈ oj.after, Region.binds md e = true → e.on ≠ i := fun e he hb heq => by
        have h1 := hall e he hb
        rw [heq, getD_both hun] at h1
        cases h1
      have h2 := wpOp_putIf hoj (hfree j oj hoj hji hjun hnot) (fun cs b => hsel i oi cs b hi) (fun cs b => hsel j oj cs b hoj) hQ hy h1
      have hfree' : ∀ k ok, ops[k]? = some ok → k ≠ i → (listed.setIfInBounds j true).getD k true = false →
          (∀ e ∈ ok.after, Region.binds md e = true → e.on ≠ i) → oi.apart ops ok = true := fun k ok hk hki hun hno => by
        refine hfree k ok hk hki ?_ hno
        by_cases hjk : j = k
        · subst hjk; exact hjun
        · rw [getD_set_ne true hjk] at hun; exact hun
      refine wpOp_mono (fun a' w' h3 => ⟨h3.2.1, ih (listed.setIfInBounds j true) a' w' (inv.set hj hjn) hfree' (ready_mono hr (Ne.symm hji)) (yields_later h3.2.1 h3.1) ?_⟩) h2
      rw [Array.setIfInBounds_comm _ _ hji]
      exact h3.2.2

/-- the plan's check: b: it may come up, and no other that may come up looks at its slot; not b: it alone may come up -/
def planB (md : Region.Mode) (ops : Array Oper) (n : Nat) : List (Bool × Nat) → Array Bool → Bool
  | [], listed => Region.seqB md ops (ops.size - n) n listed
  | (b, i) :: rest, listed => decide (i < n) && (if b then (Region.ready md ops listed).contains i && Region.free md ops listed i else decide (Region.ready md ops listed = [i])) && planB md ops n rest (listed.setIfInBounds i true)
def planAll (md : Region.Mode) (ops : Array Oper) (n : Nat) (pl : List (Bool × Nat)) : Bool :=
  Region.noSelect ops && decide (pl.length = n) && decide (n ≤ ops.size) && (decide (n = ops.size) || (Region.sinkB md ops n && Region.chainB md ops n)) && planB md ops n pl (Array.replicate ops.size false)

/-- the walk of the plan -/
def wpPlan (P : Program) (ops : Array Oper) (Q : Exit → Act → World → Prop) (tail : List Oper) : List (Bool × Nat) → Act → World → Prop
  | [], a, w => wpList P ops Q tail a w
  | (true, i) :: rest, a, w => ∃ o v, ops[i]? = some o ∧ YieldsIf P ops (fun x => Below w.heap.size w x) o v a ∧ wpPlan P ops Q tail rest (a.put o.dst v) w
  | (false, i) :: rest, a, w => wpOp P ops Q i (fun a' w' => Below w.heap.size w w' ∧ wpPlan P ops Q tail rest a' w') a w

theorem wpAnyR_plan {n : Nat} {tail : List Oper} (hsel : Region.noSelect ops = true) (hQ : ∀ c a d v w, Q (.panic c) (a.put d v) w → Q (.panic c) a w)
    (hlate : ∀ listed, HeadInv md ops n listed → ∀ i, i < n → listed.getD i true = false → ∀ t, n ≤ t → t ∉ Region.ready md ops listed) :
    ∀ (pl : List (Bool × Nat)) (listed : Array Bool) (a : Act) (w : World), HeadInv md ops n listed → planB md ops n pl listed = true → wpPlan P ops Q tail pl a w →
    wpAnyR P md ops Q n (fun listed' a' w' => Region.seqB md ops (ops.size - n) n listed' = true ∧ wpList P ops Q tail a' w') pl.length listed a w
  | [], listed, a, w, _, hB, h => ⟨hB, h⟩
  | (true, i) :: rest, listed, a, w, inv, hB, h => by
    simp only [planB, if_true, Bool.and_eq_true, decide_eq_true_eq] at hB
    obtain ⟨⟨hin, hr, hf⟩, hB'⟩ := hB
    obtain ⟨o, v, ho, hy, h'⟩ := h
    have hr' : i ∈ Region.ready md ops listed := by simpa using hr
    exact wpAnyR_first ho (Region.noSelect_spec hsel) (fun c a w => hQ c a o.dst v w) (fun l hl hu => hlate l hl i hin hu) hin (fun listed' a' w' hL => seqB_ready hL.1) rest.length listed a w inv (Region.free_spec ho hf) hr' hy
      (wpAnyR_plan hsel hQ hlate rest _ _ _ (inv.set hr' hin) hB' h')
  | (false, i) :: rest, listed, a, w, inv, hB, h => by
    simp only [planB, Bool.false_eq_true, if_false, Bool.and_eq_true, decide_eq_true_eq] at hB
    obtain ⟨⟨hin, hr⟩, hB'⟩ := hB
    have hr' : i ∈ Region.ready md ops listed := by rw [hr]; simp
    refine ⟨by rw [hr]; simp, fun j hj => ?_⟩
    rw [hr] at hj
    have hji : j = i := by simpa using hj
    subst hji
    exact ⟨hin, wpOp_mono (fun a' w' h3 => ⟨h3.1, wpAnyR_plan hsel hQ hlate rest _ a' w' (inv.set hr' hin) hB' h3.2⟩) h⟩

theorem wpAny_plan {a : Act} {w : World} {l : List Oper} (n : Nat) (pl : List (Bool × Nat)) (hB : planAll .any l.toArray n pl = true)
    (h : ∀ W : World, Hid (W = w.drew) → wpPlan P l.toArray (NoPanic Q) (l.drop n) pl a W) : wpAny P .any l.toArray (NoPanic Q) l.toArray.size (Array.replicate l.toArray.size false) a { w with drawn := w.drawn + 1 } := by
  have hQ : ∀ c a d v w, NoPanic Q (.panic c) (a.put d v) w → NoPanic Q (.panic c) a w := fun _ _ _ _ _ h => h
  simp only [planAll, Bool.and_eq_true, decide_eq_true_eq] at hB
  obtain ⟨⟨⟨⟨hsel, hlen⟩, hn⟩, hsc⟩, hpl⟩ := hB
  have hn' : n ≤ l.length := by simpa using hn
  have hdl : (l.drop n).length = l.toArray.size - n := by simp
  have inv0 : HeadInv .any l.toArray n (Array.replicate l.toArray.size false) :=
    ⟨by simp, fun j oj _ hl => (by rw [getD_replicate_false] at hl; cases hl), fun t _ ht => getD_in (by simpa using ht) (getD_replicate_false _ _)⟩
  have hlate : ∀ listed, HeadInv .any l.toArray n listed → ∀ i, i < n → listed.getD i true = false → ∀ t, n ≤ t → t ∉ Region.ready .any l.toArray listed := by
    intro listed inv i hin hun t ht hr
    rw [Bool.or_eq_true, decide_eq_true_eq, Bool.and_eq_true] at hsc
    obtain ⟨_, ot, hot, _⟩ := mem_ready.1 hr
    have htl := (Array.getElem?_eq_some_iff.1 hot).1
    rcases hsc with h0 | ⟨hs, hc⟩
    · omega
    · exact tail_waits hs hc (by omega) inv _ i rfl hin hun t ht hr
  have H := wpAnyR_plan (md := .any) hsel hQ hlate pl _ a w.drew inv0 hpl (h w.drew (Lib.hid rfl))
  have := wpAny_of_R (Q := NoPanic Q) (g := l.toArray.size - n) (fun listed a' w' hL => by
    have := wpAny_of_seq (md := .any) (Q' := NoPanic Q) (l.drop n) n listed a' w' (fun j => by simp [List.getElem?_drop]) (by rw [hdl]; exact hL.1) hL.2
    rwa [hdl] at this) _ _ _ _ H
  rw [hlen, show n + (l.toArray.size - n) = l.toArray.size by omega] at this
  exact this
theorem wp_region_plan {id : Nat} {a : Act} {w : World} {l : List Oper} (n : Nat) (pl : List (Bool × Nat)) (hm : P.follows .mixedOrders = true) (hB : planAll .any l.toArray n pl = true)
    (h : ∀ W : World, Hid (W = w.drew) → wpPlan P l.toArray (NoPanic Q) (l.drop n) pl a W) : (Code.region id l.toArray true).wp P Q a w :=
  wp_region_noPanic (wp_region_any hm (wpAny_plan n pl hB h))

/-! ### the steps -/
section
variable {tail : List Oper} {rest : List (Bool × Nat)} {a : Act} {w : World} {i : Nat} {o : Oper}
/-- what only reads: its value, in every world whose cells are those of w, where w has any -/
theorem wpPlan_float {v : Value} (hi : ops[i]? = some o) (hw : Region.wanted o (yielded ops a.tmps) = true)
    (hy : ∀ w' : World, (∀ p, (w.cell? p).isSome = true → w'.cell? p = w.cell? p) → (execOp a.eval o).run P w' = .ok (.value v) w') (h : ∀ K : Act → Prop, (∀ a', wpPlan P ops Q tail rest a' w → K a') → K (a.put o.dst v)) : wpPlan P ops Q tail ((true, i) :: rest) a w :=
  ⟨o, v, hi, .inl ⟨hw, fun w' hb => hy w' (fun p hp => by
    have hlt : p.block < w.heap.size := by
      cases hc : w.cell? p with
      | none => rw [hc] at hp; cases hp
      | some u => exact block_lt_of_cell hc
    exact hb.cell hlt)⟩, h _ (fun _ h => h)⟩
/-- what comes up alone: a call -/
theorem wpPlan_only (hi : ops[i]? = some o) (hw : Region.wanted o (yielded ops a.tmps) = true)
    (h : ∀ K : Act → World → Prop, (∀ a' w', Below w.heap.size w w' → wpPlan P ops Q tail rest a' w' → K a' w') → o.wp P a w K Q) : wpPlan P ops Q tail ((false, i) :: rest) a w := by
  show wpOp P ops Q i _ a w
  unfold wpOp
  simp only [hi, hw, if_true]
  exact .inl (h _ (fun a' w' hb hp => ⟨hb, hp⟩))
theorem wpPlan_nil (h : wpList P ops Q tail a w) : wpPlan P ops Q tail [] a w := h
end
end
end Go.Proofs.Ytpbiilhclmcehaa
