/- Contracts of package mat: lay. -/
import Derived.Test.YtkikoniihmieiaaMatTurn
namespace Go.Proofs.Ytkikoniihmieiaa
open Go.RowKit
set_option linter.unusedVariables false

/-- what was there is as it was, but for the rows' own blocks -/
structure RowsOnly (vs : List Value) (w w' : World) : Prop where
  os : w'.os = w.os
  tape : w'.tape = w.tape
  output : w'.output = w.output
  size : w.heap.size ≤ w'.heap.size
  block : ∀ k, k < w.heap.size → (∀ v ∈ vs, v.ownBlock ≠ some k) → w'.heap[k]? = w.heap[k]?
theorem RowsOnly.refl (vs : List Value) (w : World) : RowsOnly vs w w := ⟨rfl, rfl, rfl, Nat.le_refl _, fun _ _ _ => rfl⟩
theorem RowsOnly.of_below {vs : List Value} {w w' : World} (h : Below w.heap.size w w') : RowsOnly vs w w' := ⟨h.os, h.tape, h.output, h.size, fun k hk _ => h.block k hk⟩
theorem RowsOnly.trans {vs : List Value} {a b c : World} (h : RowsOnly vs a b) (k : RowsOnly vs b c) : RowsOnly vs a c :=
  ⟨k.os.trans h.os, k.tape.trans h.tape, k.output.trans h.output, Nat.le_trans h.size k.size, fun i hi hv => (k.block i (Nat.lt_of_lt_of_le hi h.size) hv).trans (h.block i hi hv)⟩
theorem RowsOnly.set {vs : List Value} {w w' : World} (h : RowsOnly vs w w') {g : Nat} (hg : ∃ v ∈ vs, v.ownBlock = some g) (o : Nat) (u : Value) : RowsOnly vs w (w'.setCell ⟨g, o, none⟩ u) :=
  ⟨h.os, h.tape, h.output, by simpa using h.size, fun k hk hv => by
    obtain ⟨v, hm, e⟩ := hg
    have hne : k ≠ g := fun e' => hv v hm (by rw [e'.symm] at e; exact e)
    exact (Below.heap_setCell w' ⟨g, o, none⟩ u k (by simpa using hne)).trans (h.block k hk hv)⟩
theorem RowsOnly.rd {vs us : List Value} {w w' : World} {A : Option Addr} {n : Nat} (h : RowsOnly vs w w') (hr : Rd w A n us) (hne : ∀ ad, A = some ad → ∀ v ∈ vs, v.ownBlock ≠ some ad.block) : Rd w' A n us :=
  ⟨hr.1, fun hn => by
    obtain ⟨b, off, e, hb, hc⟩ := hr.2 hn
    exact ⟨b, off, e, Nat.lt_of_lt_of_le hb h.size, fun j u hu => (World.cell?_of_block (h.block b hb (hne _ e))).trans (hc j u hu)⟩⟩
theorem RowsOnly.blk {vs : List Value} {w w' : World} {g : Nat} {t : TypeId} {cs : List Value} (h : RowsOnly vs w w') (hB : Blk w g t cs) (hne : ∀ v ∈ vs, v.ownBlock ≠ some g) : Blk w' g t cs := (h.block g hB.lt hne).trans hB
theorem RowsOnly.own {vs us : List Value} {w w' : World} {base n s : Nat} {e : TypeId} {v : Value} (h : RowsOnly vs w w') (ho : w.ownsRow base e s v n us) (hne : ∀ u ∈ vs, ∀ g, u.ownBlock = some g → v.ownBlock ≠ some g) : w'.ownsRow base e s v n us :=
  ⟨ho.1, ho.2.imp id fun ⟨g, cap, cur, hv, hg, hh, r⟩ => ⟨g, cap, cur, hv, hg, (h.block g (Array.getElem?_eq_some_iff.1 hh).1 (fun u hu e => hne u hu g e (by rw [hv]; rfl))).trans hh, r⟩⟩
theorem RowsOnly.below {vs : List Value} {w w' : World} {B : Nat} (h : RowsOnly vs w w') (hB : B ≤ w.heap.size) (hv : ∀ v ∈ vs, ∀ g, v.ownBlock = some g → B ≤ g) : Below B w w' :=
  ⟨h.os, h.tape, h.output, h.size, fun k hk => h.block k (by omega) (fun v hm e => by have := hv v hm k e; omega)⟩

def layK (n : Nat) (b : List Nat) (k : Nat) : List (List Nat) := (List.range n).map fun i => if i < k then [b.getD i 0] else [0]
theorem layK_len (n : Nat) (b : List Nat) (k : Nat) : (layK n b k).length = n := by simp [layK]
theorem layK_get {n : Nat} (b : List Nat) (k : Nat) {i : Nat} (h : i < n) : (layK n b k)[i]? = some (if i < k then [b.getD i 0] else [0]) := by
  unfold layK; rw [List.getElem?_map, List.getElem?_range h]; rfl
theorem layK_zero {n : Nat} (h0 : 0 < n) (h : n ≤ 64) (b : List Nat) : layK n b 0 = newM n := by
  unfold layK newM
  have hw : (wordsZ (n : Int)).toNat = 1 := by unfold wordsZ; rw [if_neg (by omega)]; omega
  rw [hw]
  apply List.ext_getElem
  · simp
  · intro i h1 h2
    simp
theorem layK_succ {n k : Nat} (h : k < n) (b : List Nat) : layK n b (k + 1) = (layK n b k).set k (([0] : List Nat).set 0 (b.getD k 0)) := by
  apply List.ext_getElem?
  intro i
  rw [List.getElem?_set, layK_len]
  rcases Nat.lt_or_ge i n with hi | hi
  · rw [layK_get b (k + 1) hi, layK_get b k hi]
    by_cases e : k = i
    · subst e
      rw [if_pos (by omega), if_pos rfl, if_pos h]; rfl
    · rw [if_neg e]
      by_cases h1 : i < k
      · rw [if_pos h1, if_pos (by omega)]
      · rw [if_neg h1, if_neg (by omega)]
  · rw [List.getElem?_eq_none (by rw [layK_len]; exact hi)]
    by_cases e : k = i
    · omega
    · rw [if_neg e, List.getElem?_eq_none (by rw [layK_len]; exact hi)]

/-- what 'lay' ends in -/
def Laid (n : Nat) (b : List Nat) (base : Nat) (vs : List Value) (w : World) (e : Ending) (w' : World) : Prop := e = .returned (.tuple #[]) ∧ OwnRows 56 w' base vs (layK n b n) ∧ RowsOnly vs w w'
set_option maxRecDepth 100000 in
set_option maxHeartbeats 2000000 in
theorem mat_lay (A : Option Addr) (n c : Nat) (vs : List Value) (b : List Nat) (base : Nat) (w : World) (hr : Rd w A n vs) (hsep : ∀ ad, A = some ad → ∀ v ∈ vs, v.ownBlock ≠ some ad.block) (hrows : OwnRows 56 w base vs (layK n b 0)) (hn0 : 0 < n) (hn : n < 64) (hc : n ≤ c) (hb : b.length = 64) (hb64 : W64 b) :
    Calls Try.prog 61 #[.slice A n c, .int .i64 0, .int .i64 0, .agg (b.map u64v).toArray] w (Laid n b base vs w) := by
  obtain ⟨W0, hW0⟩ : ∃ W0, W0 = w.alloc (.cells (b.map u64v).toArray 67) := ⟨_, rfl⟩
  have ha : Below w.heap.size w W0 := by rw [hW0]; exact (Below.refl _ _).alloc (Nat.le_refl _) _
  have hB : Blk W0 w.heap.size 67 (b.map u64v) := by rw [hW0]; exact Blk.new w _ _
  have hlt : ∀ v ∈ vs, ∀ g, v.ownBlock = some g → g < w.heap.size := fun v hv g hg => (hrows.lt v hv g hg).2
  have hR := hrows.below ha
  have hr0 := hr.below ha
  have hro : RowsOnly vs w W0 := RowsOnly.of_below ha
  replace hR := Lib.hid hR
  replace hr0 := Lib.hid hr0
  replace hro := Lib.hid hro
  replace hB := Lib.hid hB
  replace hsep := Lib.hid hsep
  replace hlt := Lib.hid hlt
  replace hb := Lib.hid hb
  replace hb64 := Lib.hid hb64
  clear ha hrows hr
  go_enter Try.func61, Try.ntmps61
  go_wp2_with fail
  rw [← hW0]
  clear hW0
  go_loopw [22] (fun i wr => ∃ k : Nat, k ≤ n ∧ i = .int .i64 k ∧ Hid (OwnRows 56 wr base vs (layK n b k)) ∧ Hid (RowsOnly vs w wr) ∧ Hid (Blk wr w.heap.size 67 (b.map u64v)) ∧ Hid (Rd wr A n vs)) (fun i _ => n - (intOf i).toNat)
  case atStart => exact ⟨0, Nat.zero_le _, rfl, hR, hro, hB, hr0⟩
  case round =>
    obtain ⟨k, hk, rfl, hRk, hok, hBk, hrk⟩ := hrel
    clear hR hro hB hr0
    by_cases hlk : k < n
    · obtain ⟨b1, o1, v, rfl, hbl, hv, hc1⟩ := hrk.out.at_ hlk
      obtain ⟨B, m, d, rfl, hown, hw64⟩ := hRk.out.2.1 k v [0] hv (by rw [layK_get b k hlk, if_neg (by omega)])
      have hm1 : m = 1 := by have := hown.1; simpa using this.symm
      subst hm1
      obtain ⟨g, cap, hge, _⟩ := hown.form (by omega)
      injection hge with hg1 hg2 hg3
      subst hg1
      have hcw : wr.cell? ⟨g, 0, none⟩ = some (.int .u64 0) := by rw [hown.cellAt 0 (by omega)]; rfl
      have hfw := hown.frozenAt 0
      have hcb : wr.cell? ⟨w.heap.size, k, none⟩ = some (.int .u64 (b.getD k 0 : Nat)) := by
        rw [hBk.out.cell, List.getElem?_map, List.getD_eq_getElem?_getD, List.getElem?_eq_getElem (by rw [hb.out]; omega)]; rfl
      have hput := Lib.hid (hRk.out.put hv (by rw [layK_get b k hlk, if_neg (by omega)]) 0 (b.getD k 0) (getD_w64 hb64.out k))
      have hst := Lib.hid (layK_succ hlk b)
      have hmem := List.mem_of_getElem? hv
      have hok2 := Lib.hid (hok.out.set ⟨_, hmem, rfl⟩ 0 (u64v (b.getD k 0)))
      have hgl : g < w.heap.size := hlt.out _ hmem g rfl
      have hB2 := Lib.hid (hBk.out.far (p := ⟨g, 0, none⟩) (by show w.heap.size ≠ g; omega) (u64v (b.getD k 0)))
      have hr2 := Lib.hid (hrk.out.setCell (p := ⟨g, 0, none⟩) (fun ad e hh => hsep.out ad e _ hmem (by rw [hh]; rfl)) (u64v (b.getD k 0)))
      obtain ⟨x, hx⟩ : ∃ x, x = b.getD k 0 := ⟨_, rfl⟩
      rw [← hx] at hcb hput hok2 hB2 hr2 hst
      replace hx := Lib.hid hx
      have hk0 : (0 : Int) ≤ (k : Int) := by omega
      have hkn : (k : Int) < (n : Int) := by omega
      have hk64 : (k : Int) < 64 := by omega
      clear hv hown hw64 hmem hg2 hg3
      go_wp2_with fail
      go_roundw
      case rel => exact ⟨k + 1, by omega, by go_num, Lib.hid (by rw [hst.out]; exact hput.out), hok2, hB2, hr2⟩
      case measure => simp [intOf]; omega
    · obtain rfl : k = n := by omega
      go_wp2_with fail
      go_end0
      exact ⟨rfl, hRk.out, hok.out⟩

end Go.Proofs.Ytkikoniihmieiaa
