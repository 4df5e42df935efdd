/- Words for memory: slices of rows (matrices), pairs. No function of the program is named here. -/
import Derived.Test.YtkikoniihmieiaaMem
import Derived.Test.YtkikoniihmieiaaRowFacts
namespace Go.Proofs.Ytkikoniihmieiaa
open Go.RowKit

/-- a value that is a slice that reads as the words xs -/
def RowV (w : World) (v : Value) (xs : List Nat) : Prop := ∃ A n c, v = .slice A n c ∧ Row w A n xs
/-- cells that read as rows -/
def RowsC (w : World) (vs : List Value) (xss : List (List Nat)) : Prop := vs.length = xss.length ∧ ∀ (i : Nat) (v : Value) (xs : List Nat), vs[i]? = some v → xss[i]? = some xs → RowV w v xs
/-- the slice '.slice A n c' of rows reads as xss -/
def RowsAt (w : World) (A : Option Addr) (n : Nat) (xss : List (List Nat)) : Prop := ∃ vs, Rd w A n vs ∧ RowsC w vs xss
section
variable {w w' : World} {A : Option Addr} {n : Nat} {vs : List Value} {xss : List (List Nat)} {v : Value} {xs : List Nat}
theorem RowV.below (h : RowV w v xs) (hb : Below w.heap.size w w') : RowV w' v xs := by
  obtain ⟨A, n, c, e, hr⟩ := h; exact ⟨A, n, c, e, hr.below hb⟩
theorem RowsC.below (h : RowsC w vs xss) (hb : Below w.heap.size w w') : RowsC w' vs xss := ⟨h.1, fun i v xs h1 h2 => (h.2 i v xs h1 h2).below hb⟩
theorem RowsC.nil (w : World) : RowsC w [] [] := ⟨rfl, fun i v xs h => by simp at h⟩
theorem RowsC.snoc (h : RowsC w vs xss) (hv : RowV w v xs) : RowsC w (vs ++ [v]) (xss ++ [xs]) := by
  refine ⟨by simp [h.1], fun i u ys h1 h2 => ?_⟩
  rcases Nat.lt_or_ge i vs.length with hi | hi
  · rw [List.getElem?_append_left hi] at h1
    rw [List.getElem?_append_left (by rw [← h.1]; exact hi)] at h2
    exact h.2 i u ys h1 h2
  · rw [List.getElem?_append_right hi] at h1
    rw [List.getElem?_append_right (by rw [← h.1]; exact hi)] at h2
    rw [← h.1] at h2
    rcases Nat.eq_zero_or_pos (i - vs.length) with h0 | h0
    · rw [h0] at h1 h2
      simp at h1 h2
      subst h1 h2
      exact hv
    · rw [List.getElem?_eq_none (by simp; omega)] at h1; cases h1
theorem RowsC.set (h : RowsC w vs xss) (hv : RowV w v xs) (k : Nat) : RowsC w (vs.set k v) (xss.set k xs) := by
  refine ⟨by simp [h.1], fun i u ys h1 h2 => ?_⟩
  rw [List.getElem?_set] at h1 h2
  by_cases hk : k = i
  · rw [if_pos hk] at h1 h2
    by_cases hl : k < vs.length
    · rw [if_pos hl] at h1
      rw [if_pos (by rw [← h.1]; exact hl)] at h2
      injection h1 with h1
      injection h2 with h2
      subst h1 h2
      exact hv
    · rw [if_neg hl] at h1; cases h1
  · rw [if_neg hk] at h1 h2
    exact h.2 i u ys h1 h2
theorem RowsAt.len (h : RowsAt w A n xss) : xss.length = n := by
  obtain ⟨vs, h1, h2⟩ := h; rw [← h2.1, h1.1]
theorem RowsAt.below (h : RowsAt w A n xss) (hb : Below w.heap.size w w') : RowsAt w' A n xss := by
  obtain ⟨vs, h1, h2⟩ := h; exact ⟨vs, h1.below hb, h2.below hb⟩
theorem RowsAt.nil (w : World) (A : Option Addr) : RowsAt w A 0 [] := ⟨[], Rd.nil _ _, RowsC.nil _⟩
theorem RowsAt.at_ {k : Nat} (h : RowsAt w A n xss) (hk : k < n) : ∃ b off B m c xs, A = some ⟨b, off, none⟩ ∧ b < w.heap.size ∧ xss[k]? = some xs ∧ w.cell? ⟨b, off + k, none⟩ = some (.slice B m c) ∧ Row w B m xs := by
  obtain ⟨vs, h1, h2⟩ := h
  obtain ⟨b, off, u, hA, hb, hu, hc⟩ := h1.at_ hk
  have hl : k < xss.length := by rw [← h2.1, h1.1]; exact hk
  obtain ⟨B, m, c, e, hr⟩ := h2.2 k u xss[k] hu (List.getElem?_eq_getElem hl)
  subst e
  exact ⟨b, off, B, m, c, xss[k], hA, hb, List.getElem?_eq_getElem hl, hc, hr⟩
theorem RowsAt.w64 (h : RowsAt w A n xss) : ∀ xs ∈ xss, W64 xs := by
  intro xs hx
  obtain ⟨k, hk⟩ := List.getElem?_of_mem hx
  have hl : k < xss.length := (List.getElem?_eq_some_iff.1 hk).1
  obtain ⟨b, off, B, m, c, xs', _, _, hx', _, hr⟩ := h.at_ (k := k) (by rw [← h.len]; exact hl)
  rw [hk] at hx'
  injection hx' with hx'
  subst hx'
  exact hr.2
theorem RowsAt.of_own {base : Nat} {e : TypeId} (h : w.ownsRow base e 1 v n vs) (hr : RowsC w vs xss) : ∃ A c, v = .slice A n c ∧ RowsAt w A n xss := by
  obtain ⟨A, c, hv, hd⟩ := Rd.of_own h
  exact ⟨A, c, hv, vs, hd, hr⟩
end

section
variable {w w' : World} {A : Option Addr} {n : Nat} {vs : List Value} {xs : List Nat} {p : Addr}
theorem Rd.setCell (h : Rd w A n vs) (hne : ∀ ad, A = some ad → ad.block ≠ p.block) (u : Value) : Rd (w.setCell p u) A n vs :=
  ⟨h.1, fun hn => by
    obtain ⟨b, off, e, hb, hc⟩ := h.2 hn
    have hbp := hne _ e
    refine ⟨b, off, e, by simpa using hb, fun j x hx => ?_⟩
    rw [World.cell?_setCell_other w p ⟨b, off + j, none⟩ u (fun e => hbp (by rw [e]))]
    exact hc j x hx⟩
theorem Row.setCell (h : Row w A n xs) (hne : ∀ ad, A = some ad → ad.block ≠ p.block) (u : Value) : Row (w.setCell p u) A n xs := ⟨h.1.setCell hne u, h.2⟩
theorem own_far {base : Nat} {e : TypeId} {size : Nat} {v : Value} (h : w.ownsRow base e size v n vs) (hne : v.ownBlock ≠ some p.block) (u : Value) : (w.setCell p u).ownsRow base e size v n vs := by
  refine ⟨h.1, ?_⟩
  rcases h.2 with ⟨h1, h2⟩ | ⟨g, cap, cur, rfl, hbg, hg, r⟩
  · exact .inl ⟨h1, h2⟩
  · refine .inr ⟨g, cap, cur, rfl, hbg, ?_, r⟩
    rw [Below.heap_setCell w p u g (fun e => hne (by rw [← e]; rfl))]; exact hg
end

theorem own_drewN {w : World} {base : Nat} {e : TypeId} {size : Nat} {v : Value} {n : Nat} {xs : List Value} (h : w.ownsRow base e size v n xs) (q : Nat) : (w.drewN q).ownsRow base e size v n xs := h
theorem own_base {w : World} {base base' : Nat} {e : TypeId} {size n : Nat} {v : Value} {vs : List Value} (h : w.ownsRow base e size v n vs) (hb : base' ≤ base) : w.ownsRow base' e size v n vs :=
  ⟨h.1, h.2.imp id fun ⟨g, cap, cur, hv, hg, r⟩ => ⟨g, cap, cur, hv, Nat.le_trans hb hg, r⟩⟩

theorem own_cap {w : World} {base : Nat} {e : TypeId} {size n c : Nat} {A : Option Addr} {vs : List Value} (h : w.ownsRow base e size (.slice A n c) n vs) : n ≤ c := by
  rcases h.2 with ⟨h1, h2⟩ | ⟨g, cap, cur, hv, _, _, hnc, _⟩
  · omega
  · injection hv with _ _ h3
    omega
/-- rows of the call's own, no two in one block -/
def OwnRows (t : TypeId) (w : World) (base : Nat) (vs : List Value) (xss : List (List Nat)) : Prop :=
  vs.length = xss.length ∧
  (∀ (i : Nat) (v : Value) (xs : List Nat), vs[i]? = some v → xss[i]? = some xs → ∃ A m c, v = .slice A m c ∧ w.ownsRow base t 1 (.slice A m c) m (xs.map u64v) ∧ W64 xs) ∧
  (∀ (i j : Nat) (v v' : Value) (g : Nat), i ≠ j → vs[i]? = some v → vs[j]? = some v' → v.ownBlock = some g → v'.ownBlock ≠ some g)
section
variable {t : TypeId} {w w' : World} {base : Nat} {vs : List Value} {xss : List (List Nat)}
theorem OwnRows.nil (t : TypeId) (w : World) (base : Nat) : OwnRows t w base [] [] := ⟨rfl, fun i v xs h => by simp at h, fun i j v v' g _ h => by simp at h⟩
theorem OwnRows.below (h : OwnRows t w base vs xss) (hb : Below w.heap.size w w') : OwnRows t w' base vs xss :=
  ⟨h.1, fun i v xs h1 h2 => by
    obtain ⟨A, m, c, e, ho, hx⟩ := h.2.1 i v xs h1 h2
    exact ⟨A, m, c, e, own_below ho hb, hx⟩, h.2.2⟩
theorem OwnRows.rows (h : OwnRows t w base vs xss) : RowsC w vs xss :=
  ⟨h.1, fun i v xs h1 h2 => by
    obtain ⟨A, m, c, e, ho, hx⟩ := h.2.1 i v xs h1 h2
    exact ⟨A, m, c, e, Row.of_own ho hx⟩⟩
theorem OwnRows.base_ {base' : Nat} (h : OwnRows t w base vs xss) (hb : base' ≤ base) : OwnRows t w base' vs xss :=
  ⟨h.1, fun i v xs h1 h2 => by
    obtain ⟨A, m, c, e, ho, hx⟩ := h.2.1 i v xs h1 h2
    exact ⟨A, m, c, e, own_base ho hb, hx⟩, h.2.2⟩
theorem OwnRows.lt (h : OwnRows t w base vs xss) : ∀ v ∈ vs, ∀ g, v.ownBlock = some g → base ≤ g ∧ g < w.heap.size := by
  intro v hv g hg
  obtain ⟨k, hk⟩ := List.getElem?_of_mem hv
  have hl : k < xss.length := by rw [← h.1]; exact (List.getElem?_eq_some_iff.1 hk).1
  obtain ⟨A, m, c, rfl, ho, _⟩ := h.2.1 k v xss[k] hk (List.getElem?_eq_getElem hl)
  exact ho.lt g hg
theorem OwnRows.far (h : OwnRows t w base vs xss) {p : Addr} (hp : p.block < base) (u : Value) : OwnRows t (w.setCell p u) base vs xss :=
  ⟨h.1, fun i v xs h1 h2 => by
    obtain ⟨A, m, c, e, ho, hx⟩ := h.2.1 i v xs h1 h2
    exact ⟨A, m, c, e, own_far ho (fun hh => by have := own_lt_block ho _ hh; omega) u, hx⟩, h.2.2⟩
theorem own_block_lt {e : TypeId} {size n : Nat} {v : Value} (h : w.ownsRow base e size v n vs) : ∀ g, v.ownBlock = some g → g < w.heap.size := fun g hg => (h.lt g hg).2
theorem OwnRows.snoc (h : OwnRows t w base vs xss) (hb : Below w.heap.size w w') {A : Option Addr} {m c : Nat} {xs : List Nat} (ho : w'.ownsRow w.heap.size t 1 (.slice A m c) m (xs.map u64v)) (hx : W64 xs) (hbase : base ≤ w.heap.size) :
    OwnRows t w' base (vs ++ [.slice A m c]) (xss ++ [xs]) := by
  have h' := h.below hb
  refine ⟨by simp [h.1], fun i v ys h1 h2 => ?_, fun i j v v' g hij h1 h2 h3 h4 => ?_⟩
  · rcases Nat.lt_or_ge i vs.length with hi | hi
    · rw [List.getElem?_append_left hi] at h1
      rw [List.getElem?_append_left (by rw [← h.1]; exact hi)] at h2
      exact h'.2.1 i v ys h1 h2
    · rw [List.getElem?_append_right hi] at h1
      rw [List.getElem?_append_right (by rw [← h.1]; exact hi)] at h2
      rw [← h.1] at h2
      rcases Nat.eq_zero_or_pos (i - vs.length) with h0 | h0
      · rw [h0] at h1 h2
        simp at h1 h2
        subst h1 h2
        exact ⟨A, m, c, rfl, own_base ho hbase, hx⟩
      · rw [List.getElem?_eq_none (by simp; omega)] at h1; cases h1
  · have old : ∀ k u g, k < vs.length → vs[k]? = some u → u.ownBlock = some g → g < w.heap.size := fun k u g hk hu hg => by
      obtain ⟨A', m', c', rfl, ho', _⟩ := h.2.1 k u (xss[k]'(by rw [← h.1]; exact hk)) hu (List.getElem?_eq_getElem (by rw [← h.1]; exact hk))
      exact own_block_lt ho' g hg
    have new : ∀ k u g, vs.length ≤ k → (vs ++ [Value.slice A m c])[k]? = some u → u.ownBlock = some g → k = vs.length ∧ w.heap.size ≤ g := fun k u g hk hu hg => by
      rw [List.getElem?_append_right hk] at hu
      rcases Nat.eq_zero_or_pos (k - vs.length) with h0 | h0
      · rw [h0] at hu
        simp at hu
        subst hu
        exact ⟨by omega, own_lt_block ho g hg⟩
      · rw [List.getElem?_eq_none (by simp; omega)] at hu; cases hu
    rcases Nat.lt_or_ge i vs.length with hi | hi <;> rcases Nat.lt_or_ge j vs.length with hj | hj
    · rw [List.getElem?_append_left hi] at h1
      rw [List.getElem?_append_left hj] at h2
      exact h.2.2 i j v v' g hij h1 h2 h3 h4
    · rw [List.getElem?_append_left hi] at h1
      have a := old i v g hi h1 h3
      have b := (new j v' g hj h2 h4).2
      omega
    · rw [List.getElem?_append_left hj] at h2
      have a := old j v' g hj h2 h4
      have b := (new i v g hi h1 h3).2
      omega
    · have a := (new i v g hi h1 h3).1
      have b := (new j v' g hj h2 h4).1
      omega
theorem OwnRows.put (h : OwnRows t w base vs xss) {i : Nat} {g m c : Nat} {xs : List Nat} (hv : vs[i]? = some (.slice (some ⟨g, 0, none⟩) m c)) (hx : xss[i]? = some xs) (q y : Nat) (hy : y < 18446744073709551616) :
    OwnRows t (w.setCell ⟨g, q, none⟩ (u64v y)) base vs (xss.set i (xs.set q y)) := by
  refine ⟨by simp [h.1], fun k v ys h1 h2 => ?_, h.2.2⟩
  rw [List.getElem?_set] at h2
  by_cases hk : i = k
  · subst hk
    rw [if_pos rfl, if_pos (by exact (List.getElem?_eq_some_iff.1 hx).1)] at h2
    injection h2 with h2
    rw [hv] at h1
    injection h1 with h1
    obtain ⟨A, m', c', e, ho, hw⟩ := h.2.1 i _ xs hv hx
    injection e with e1 e2 e3
    subst e1 e2 e3 h1 h2
    refine ⟨_, _, _, rfl, ?_, fun x hx' => ?_⟩
    · rw [List.map_set]; exact (ho.stored q (u64v y)).1
    · rcases List.mem_or_eq_of_mem_set hx' with h5 | h5
      · exact hw x h5
      · rw [h5]; exact hy
  · rw [if_neg hk] at h2
    obtain ⟨A, m', c', e, ho, hw⟩ := h.2.1 k v ys h1 h2
    subst e
    exact ⟨A, m', c', rfl, own_far ho (h.2.2 i k _ _ g hk hv h1 rfl) _, hw⟩
end

/-- the slice '.slice A n c' of pairs of numbers reads as ps -/
def PairsAt (w : World) (A : Option Addr) (n : Nat) (ps : List (Int × Int)) : Prop :=
  ps.length = n ∧ (∀ p ∈ ps, (-9223372036854775808 ≤ p.1 ∧ p.1 < 9223372036854775808) ∧ (-9223372036854775808 ≤ p.2 ∧ p.2 < 9223372036854775808)) ∧
  (0 < n → ∃ b off, A = some ⟨b, off, none⟩ ∧ b < w.heap.size ∧ ∀ (j : Nat) (p : Int × Int), ps[j]? = some p → w.cell? ⟨b, off + j * 2, none⟩ = some (.int .i64 p.1) ∧ w.cell? ⟨b, off + j * 2 + 1, none⟩ = some (.int .i64 p.2))
section
variable {w w' : World} {A : Option Addr} {n : Nat} {ps : List (Int × Int)}
theorem PairsAt.below (h : PairsAt w A n ps) (hb : Below w.heap.size w w') : PairsAt w' A n ps :=
  ⟨h.1, h.2.1, fun hn => by
    obtain ⟨b, off, e, hbl, hc⟩ := h.2.2 hn
    exact ⟨b, off, e, Nat.lt_of_lt_of_le hbl hb.size, fun j p hp => by
      obtain ⟨h1, h2⟩ := hc j p hp
      exact ⟨(hb.cell (p := ⟨b, off + j * 2, none⟩) hbl).trans h1, (hb.cell (p := ⟨b, off + j * 2 + 1, none⟩) hbl).trans h2⟩⟩⟩
theorem PairsAt.at_ {k : Nat} (h : PairsAt w A n ps) (hk : k < n) : ∃ b off p, A = some ⟨b, off, none⟩ ∧ b < w.heap.size ∧ ps[k]? = some p ∧ ((-9223372036854775808 ≤ p.1 ∧ p.1 < 9223372036854775808) ∧ (-9223372036854775808 ≤ p.2 ∧ p.2 < 9223372036854775808)) ∧
    w.cell? ⟨b, off + k * 2, none⟩ = some (.int .i64 p.1) ∧ w.cell? ⟨b, off + k * 2 + 1, none⟩ = some (.int .i64 p.2) := by
  obtain ⟨b, off, e, hb, hc⟩ := h.2.2 (by omega)
  have hl : k < ps.length := by rw [h.1]; exact hk
  exact ⟨b, off, ps[k], e, hb, List.getElem?_eq_getElem hl, h.2.1 _ (List.getElem_mem hl), (hc k _ (List.getElem?_eq_getElem hl)).1, (hc k _ (List.getElem?_eq_getElem hl)).2⟩
end

/-- block g is the matrix that a variable holds -/
def MatB (w : World) (g : Nat) (t : TypeId) (N : Int) (A : Option Addr) (n c : Nat) : Prop := Blk w g t [.int .i64 N, .slice A n c]
section
variable {w w' : World} {g : Nat} {t : TypeId} {N : Int} {A : Option Addr} {n c : Nat}
theorem MatB.c0 (h : MatB w g t N A n c) : w.cell? ⟨g, 0, none⟩ = some (.int .i64 N) := Blk.cell h 0
theorem MatB.c1 (h : MatB w g t N A n c) : w.cell? ⟨g, 1, none⟩ = some (.slice A n c) := Blk.cell h 1
theorem MatB.new (w : World) (t : TypeId) : MatB (w.alloc (.cells #[.int .i64 N, .slice A n c] t)) w.heap.size t N A n c := Blk.new w t _
theorem MatB.new1 (w : World) (o : Obj) (t : TypeId) : MatB ((w.alloc o).alloc (.cells #[.int .i64 N, .slice A n c] t)) (w.heap.size + 1) t N A n c := by
  have h := MatB.new (N := N) (A := A) (n := n) (c := c) (w.alloc o) t
  rwa [show (w.alloc o).heap.size = w.heap.size + 1 from by simp] at h
theorem MatB.two (h : MatB w g t N A n c) (x y : Value) : ((w.setCell ⟨g, 0, none⟩ x).setCell ⟨g, 1, none⟩ y).cell? ⟨g, 0, none⟩ = some x ∧ ((w.setCell ⟨g, 0, none⟩ x).setCell ⟨g, 1, none⟩ y).cell? ⟨g, 1, none⟩ = some y := by
  have h2 := (Blk.set_ (Blk.set_ h 0 x) 1 y)
  exact ⟨by rw [h2.cell 0]; rfl, by rw [h2.cell 1]; rfl⟩
theorem MatB.put (h : MatB w g t N A n c) (N' : Int) (A' : Option Addr) (n' c' : Nat) : MatB ((w.setCell ⟨g, 0, none⟩ (.int .i64 N')).setCell ⟨g, 1, none⟩ (.slice A' n' c')) g t N' A' n' c' :=
  Blk.set_ (Blk.set_ h 0 (.int .i64 N')) 1 (.slice A' n' c')
theorem MatB.below_ (h : MatB w g t N A n c) (hb : Below w.heap.size w w') : MatB w' g t N A n c := Blk.below h hb h.lt
end

/-- what a call that answers a matrix and an error ends in -/
def RetMat (N : Int) (xss : List (List Nat)) (er : Int) (w : World) (e : Ending) (w' : World) : Prop :=
  ∃ A n c, e = .returned (.tuple #[.agg #[.int .i64 N, .slice A n c], .int .i64 er]) ∧ RowsAt w' A n xss ∧ n ≤ c ∧ Below w.heap.size w w'
/-- .. a matrix of the call's own, rows and all (te: the type of rows, tw: of words) -/
def RetMatO (te tw : TypeId) (N : Int) (xss : List (List Nat)) (w : World) (e : Ending) (w' : World) : Prop :=
  ∃ A n c vs, e = .returned (.tuple #[.agg #[.int .i64 N, .slice A n c], .int .i64 0]) ∧ w'.ownsRow w.heap.size te 1 (.slice A n c) n vs ∧ OwnRows tw w' w.heap.size vs xss ∧ (∀ v ∈ vs, ∀ g, v.ownBlock = some g → (Value.slice A n c).ownBlock ≠ some g) ∧ Below w.heap.size w w'
theorem RetMatO.ret {te tw : TypeId} {N : Int} {xss : List (List Nat)} {w w' : World} {e : Ending} (h : RetMatO te tw N xss w e w') : RetMat N xss 0 w e w' := by
  obtain ⟨A, n, c, vs, he, ho, hr, _, hb⟩ := h
  exact ⟨A, n, c, he, ⟨vs, Rd.of_own' ho, hr.rows⟩, own_cap ho, hb⟩
/-- what a call that answers a matrix ends in -/
def RetMat1 (N : Int) (xss : List (List Nat)) (w : World) (e : Ending) (w' : World) : Prop :=
  ∃ A n c, e = .returned (.agg #[.int .i64 N, .slice A n c]) ∧ RowsAt w' A n xss ∧ n ≤ c ∧ Below w.heap.size w w'
/-- a call that answers a bool, and leaves what was there -/
def RetB (b : Bool) (w : World) (e : Ending) (w' : World) : Prop := e = .returned (.bool b) ∧ Below w.heap.size w w'

end Go.Proofs.Ytkikoniihmieiaa
