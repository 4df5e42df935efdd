/- Words for memory: lists of anything, each in a block of its own, in a row of slices that is written in place; what lies apart from them stays. No function of the program is named. Plain mathematics of layer 12: items of a session are neighbours; what follows for their order and the rows of the matrix. Nothing of the program is named. The code's own contracts of layer 12: known, first, fill, Ahead, Past, Po. -/
import Derived.Test.YtjhjojklfdjmdaaGreatBadLevelsPk7
import Derived.Test.YtjhjojklfdjmdaaGreatBadLevelsPk1
import Derived.Test.YtjhjojklfdjmdaaGreatBadLevelsPk4
import Derived.Test.YtjhjojklfdjmdaaGreatBadLevelsPk5
import Derived.Test.YtjhjojklfdjmdaaGreatBadLevelsPk2
import Derived.Test.YtjhjojklfdjmdaaGreatBadLevelsPk6
import Derived.Test.YtjhjojklfdjmdaaGreatBadLevelsPk3
namespace Go.Proofs.YtjhjojklfdjmdaaGreat
open Go.RowKit
set_option linter.unusedVariables false

/-- lists of a call's own, each in a block of its own -/
structure OwnN {α : Type} (E : Enc α) (T : TypeId) (w : World) (base : Nat) (vs : List Value) (ls : List (List α)) : Prop where
  len : vs.length = ls.length
  row : ∀ (i : Nat) (v : Value) (l : List α), vs[i]? = some v → ls[i]? = some l → (∀ x ∈ l, E.ok x) ∧ w.ownsRow base T E.sz v l.length (E.all l)
  dis : ∀ (i j : Nat) (v u : Value) (b : Nat), vs[i]? = some v → vs[j]? = some u → v.ownBlock = some b → u.ownBlock = some b → i = j
/-- the row of them, n slices at go -/
structure SlotsM {α : Type} (E : Enc α) (tS tE : TypeId) (B go n : Nat) (w : World) (vs : List Value) (ls : List (List α)) : Prop where
  o : w.ownsRow B tS 1 (.slice (some ⟨go, 0, none⟩) n n) n vs
  s : OwnN E tE w B vs ls
/-- block k is neither the row's nor a list's -/
def Apart (go : Nat) (vs : List Value) (k : Nat) : Prop := k ≠ go ∧ ∀ v ∈ vs, v.ownBlock ≠ some k
/-- from w0 to w nothing has changed but the row and its lists -/
structure Mv (go : Nat) (w0 : World) (vs0 : List Value) (w : World) (vs : List Value) : Prop where
  os : w.os = w0.os
  tape : w.tape = w0.tape
  output : w.output = w0.output
  size : w0.heap.size ≤ w.heap.size
  block : ∀ k, k < w0.heap.size → Apart go vs0 k → w.heap[k]? = w0.heap[k]? ∧ Apart go vs k
section
variable {go : Nat} {w0 w w' : World} {vs0 vs vs' : List Value}
theorem Mv.refl (go : Nat) (w : World) (vs : List Value) : Mv go w vs w vs := ⟨rfl, rfl, rfl, Nat.le_refl _, fun k _ h => ⟨rfl, h⟩⟩
theorem Mv.trans (h : Mv go w0 vs0 w vs) (k : Mv go w vs w' vs') : Mv go w0 vs0 w' vs' :=
  ⟨k.os.trans h.os, k.tape.trans h.tape, k.output.trans h.output, Nat.le_trans h.size k.size, fun i hi ha => by
    obtain ⟨h1, h2⟩ := h.block i hi ha
    obtain ⟨h3, h4⟩ := k.block i (Nat.lt_of_lt_of_le hi h.size) h2
    exact ⟨h3.trans h1, h4⟩⟩
theorem Mv.of (go : Nat) (vs : List Value) (h : Below w.heap.size w w') : Mv go w vs w' vs := ⟨h.os, h.tape, h.output, h.size, fun k hk ha => ⟨h.block k hk, ha⟩⟩
theorem Mv.later (h : Mv go w0 vs0 w vs) (hb : Below w.heap.size w w') : Mv go w0 vs0 w' vs := h.trans (Mv.of go vs hb)
theorem Mv.blk {k : Nat} {t : TypeId} {cs : List Value} (h : Mv go w0 vs0 w vs) (hk : Blk w0 k t cs) (ha : Apart go vs0 k) : Blk w k t cs := (h.block k hk.lt ha).1.trans hk
theorem Mv.apart {k : Nat} (h : Mv go w0 vs0 w vs) (hk : k < w0.heap.size) (ha : Apart go vs0 k) : Apart go vs k := (h.block k hk ha).2
theorem Mv.lat {α : Type} {E : Enc α} {A : Option Addr} {n : Nat} {xs : List α} (h : Mv go w0 vs0 w vs) (hL : LAt E w0 A n xs) (ha : ∀ ad, A = some ad → Apart go vs0 ad.block) : LAt E w A n xs :=
  ⟨hL.1, hL.2.1, fun hn => by
    obtain ⟨b, off, e, hb, hc⟩ := hL.2.2 hn
    exact ⟨b, off, e, Nat.lt_of_lt_of_le hb h.size, fun j u hu => (World.cell?_of_block (w := w0) (h.block b hb (ha _ e)).1).trans (hc j u hu)⟩⟩
end
section
variable {α : Type} {E : Enc α} {tS tE : TypeId} {B go n : Nat} {w w' : World} {vs : List Value} {ls : List (List α)}
theorem OwnN.nils (E : Enc α) (T : TypeId) (w : World) (base n : Nat) : OwnN E T w base (List.replicate n (.slice none 0 0)) (List.replicate n []) := by
  refine ⟨by simp, fun i v l h1 h2 => ?_, fun i j v u b h1 h2 h3 h4 => ?_⟩
  · have e1 := List.eq_of_mem_replicate (List.mem_of_getElem? h1)
    have e2 := List.eq_of_mem_replicate (List.mem_of_getElem? h2)
    subst e1; subst e2
    exact ⟨fun x hx => by simp at hx, World.ownsRow_nil _ _ _ _⟩
  · rw [List.eq_of_mem_replicate (List.mem_of_getElem? h1)] at h3
    cases h3
theorem OwnN.below {base : Nat} {T : TypeId} (h : OwnN E T w base vs ls) (hb : Below w.heap.size w w') : OwnN E T w' base vs ls :=
  ⟨h.len, fun i v l h1 h2 => ⟨(h.row i v l h1 h2).1, own_below (h.row i v l h1 h2).2 hb⟩, h.dis⟩
theorem SlotsM.later (h : SlotsM E tS tE B go n w vs ls) (hb : Below w.heap.size w w') : SlotsM E tS tE B go n w' vs ls := ⟨own_below h.o hb, h.s.below hb⟩
theorem SlotsM.fresh (h : SlotsM E tS tE B go n w vs ls) {k : Nat} (hk : w.heap.size ≤ k) : Apart go vs k := by
  refine ⟨fun e => ?_, fun v hv e => ?_⟩
  · have := (h.o.lt go rfl).2; omega
  · obtain ⟨i, hi, hv⟩ := List.getElem_of_mem hv
    have hil : i < ls.length := by rw [← h.s.len]; exact hi
    have := ((h.s.row i v ls[i] (by rw [← hv]; exact List.getElem?_eq_getElem hi) (List.getElem?_eq_getElem hil)).2.lt k e).2
    omega
theorem SlotsM.vlen (h : SlotsM E tS tE B go n w vs ls) : vs.length = n := by simpa using h.o.1
/-- list s and its slice -/
theorem SlotsM.get (h : SlotsM E tS tE B go n w vs ls) {s : Nat} (hs : s < n) : ∃ A m c l, vs[s]? = some (.slice A m c) ∧ ls[s]? = some l ∧ l.length = m ∧ w.cell? ⟨go, s, none⟩ = some (.slice A m c) ∧ w.frozen? ⟨go, s, none⟩ = false ∧
    w.ownsRow B tE E.sz (.slice A m c) m (E.all l) ∧ (∀ x ∈ l, E.ok x) ∧ m ≤ c ∧ c ≤ 9223372036854775807 ∧ LAt E w A m l := by
  have hvl : s < vs.length := by rw [h.vlen]; exact hs
  have hll : s < ls.length := by rw [← h.s.len]; exact hvl
  have hv := List.getElem?_eq_getElem hvl
  have hl := List.getElem?_eq_getElem hll
  obtain ⟨hok, hr⟩ := h.s.row s _ _ hv hl
  obtain ⟨A, c, e, h1, h2, h3⟩ := LAt.of_own hr hok rfl
  obtain ⟨b', off', u', e', _, hu', hc'⟩ := (Rd.of_own' h.o).at_ hs
  injection e' with e'
  injection e' with e1 e2
  rw [hv] at hu'
  injection hu' with hu'
  subst e1; subst e2
  rw [Nat.zero_add, ← hu', e] at hc'
  refine ⟨A, _, c, ls[s], by rw [hv, e], hl, rfl, hc', ?_, by rw [← e]; exact hr, hok, h1, h2, h3⟩
  rcases h.o.2 with ⟨k1, _⟩ | ⟨k, cap, cur, k1, _, k2, _⟩
  · cases k1
  · injection k1 with k1
    injection k1 with k1
    injection k1 with k1
    subst k1
    simp [World.frozen?, k2]
/-- list s has grown, and its slice is laid in place -/
theorem SlotsM.put {w4 : World} {s : Nat} {v v' : Value} {l l' : List α} (h : SlotsM E tS tE B go n w vs ls) (hne : tS ≠ tE) (hv : vs[s]? = some v) (hl : ls[s]? = some l) (hg : w.grownBy w4 v.ownBlock)
    (hr : w4.ownsRow B tE E.sz v' l'.length (E.all l')) (hok : ∀ x ∈ l', E.ok x) (hb : v'.ownBlock = v.ownBlock ∨ v'.ownBlock = some w.heap.size) :
    SlotsM E tS tE B go n (w4.setCell ⟨go, s, none⟩ v') (vs.set s v') (ls.set s l') ∧ Mv go w vs (w4.setCell ⟨go, s, none⟩ v') (vs.set s v') ∧ w4.cell? ⟨go, s, none⟩ = some v ∧ w4.frozen? ⟨go, s, none⟩ = false := by
  have hsn : s < n := by rw [← h.vlen]; exact (List.getElem?_eq_some_iff.1 hv).1
  have hsv : s < vs.length := (List.getElem?_eq_some_iff.1 hv).1
  have hsl : s < ls.length := (List.getElem?_eq_some_iff.1 hl).1
  obtain ⟨A, m, c, l0, q1, -, -, q2, q3, -⟩ := h.get hsn
  have hrow := (h.s.row s v l hv hl).2
  have hgo := (h.o.lt go rfl).2
  have hgoB : B ≤ go := (h.o.lt go rfl).1
  have hvgo : v.ownBlock ≠ some go := rows_apart h.o hrow hne rfl
  have hgo4 : w4.heap[go]? = w.heap[go]? := hg.block go hgo (fun e => hvgo e.symm)
  have ho4 : w4.ownsRow B tS 1 (.slice (some ⟨go, 0, none⟩) n n) n vs := own_grown h.o hrow hne hg
  have hv'go : v'.ownBlock ≠ some go := by
    rcases hb with e | e
    · rw [e]; exact hvgo
    · rw [e]; intro e2; injection e2 with e2; omega
  have hfresh : ∀ (k : Nat) (x : Value) (b : Nat), vs[k]? = some x → x.ownBlock = some b → b < w.heap.size ∧ b ≠ go := by
    intro k x b hk hx
    have hkl : k < ls.length := by rw [← h.s.len]; exact (List.getElem?_eq_some_iff.1 hk).1
    have h2 := (h.s.row k x ls[k] hk (List.getElem?_eq_getElem hkl)).2
    exact ⟨(h2.lt b hx).2, fun e => rows_apart h.o h2 hne rfl (by rw [hx, e])⟩
  have key : ∀ (k : Nat) (x : Value), k ≠ s → (vs.set s v')[k]? = some x → vs[k]? = some x := fun k x hk h => by rwa [List.getElem?_set_ne (fun e => hk e.symm)] at h
  have self : ∀ (x : Value), (vs.set s v')[s]? = some x → x = v' := fun x h => by rw [List.getElem?_set_self hsv] at h; injection h with h; exact h.symm
  refine ⟨⟨own_put ho4 hsn v', by simp [h.s.len], fun k x p h1 h2 => ?_, fun k j x u b h1 h2 hx hu => ?_⟩, ⟨hg.os, hg.tape, hg.output, by simpa using hg.size, fun k hk ha => ⟨?_, ha.1, fun x hx => ?_⟩⟩, ?_, by
    have q4 := q3
    unfold World.frozen? at q4 ⊢
    rw [show (⟨go, s, none⟩ : Addr).block = go from rfl, hgo4]
    exact q4⟩
  · by_cases hk : s = k
    · subst hk
      rw [List.getElem?_set_self hsv] at h1
      rw [List.getElem?_set_self hsl] at h2
      injection h1 with h1
      injection h2 with h2
      subst h1; subst h2
      exact ⟨hok, ownsRow_setCell_other (a := ⟨go, s, none⟩) hr hv'go v'⟩
    · rw [List.getElem?_set_ne hk] at h1 h2
      obtain ⟨h3, h4⟩ := h.s.row k x p h1 h2
      refine ⟨h3, ownsRow_setCell_other (a := ⟨go, s, none⟩) (h4.kept hg ?_) (rows_apart h.o h4 hne rfl) v'⟩
      cases hxb : x.ownBlock with
      | none => exact .inl rfl
      | some b => exact .inr (fun e => hk (h.s.dis s k v x b hv h1 (by rw [← e]) hxb))
  · by_cases hk : k = s
    · by_cases hj : j = s
      · rw [hk, hj]
      · subst hk
        have e1 := self x h1
        subst e1
        have h2' := key j u hj h2
        rcases hb with hb | hb
        · exact (h.s.dis k j v u b hv h2' (by rw [← hb]; exact hx) hu)
        · have := hfresh j u b h2' hu
          rw [hb] at hx; injection hx with hx
          omega
    · have h1' := key k x hk h1
      by_cases hj : j = s
      · subst hj
        have e1 := self u h2
        subst e1
        rcases hb with hb | hb
        · exact (h.s.dis k j x v b h1' hv hx (by rw [← hb]; exact hu))
        · have := hfresh k x b h1' hx
          rw [hb] at hu; injection hu with hu
          omega
      · exact h.s.dis k j x u b h1' (key j u hj h2) hx hu
  · rw [Below.heap_setCell _ _ _ _ (show k ≠ (⟨go, s, none⟩ : Addr).block from ha.1)]
    exact hg.block k hk (fun e => ha.2 v (List.mem_of_getElem? hv) e.symm)
  · rcases List.mem_or_eq_of_mem_set hx with h1 | h1
    · exact ha.2 x h1
    · subst h1
      rcases hb with e | e
      · rw [e]; exact ha.2 v (List.mem_of_getElem? hv)
      · rw [e]; intro e2; injection e2 with e2; omega
  · rw [World.cell?_of_block (w := w) (a := ⟨go, s, none⟩) hgo4, q2, ← q1, hv]
theorem SlotsM.start (w : World) (tE : TypeId) (hn : n ≤ maxLen) : SlotsM E tS tE w.heap.size w.heap.size n (w.alloc (.cells (zeros n (.slice none 0 0)) tS)) (List.replicate n (.slice none 0 0)) (List.replicate n []) :=
  ⟨own_zeros w n _ _ hn, OwnN.nils E tE _ _ n⟩
end
end Go.Proofs.YtjhjojklfdjmdaaGreat

namespace Go.Proofs.YtjhjojklfdjmdaaGreat
set_option linter.unusedVariables false

/-- items of a session are neighbours, and their places rise by one -/
def Nbr (is : List It) : Prop := ∀ (i : Nat) (x y : It), is[i]? = some x → is[i + 1]? = some y → (x.se = y.se ∧ y.pl = x.pl + 1) ∨ x.se < y.se
theorem nbr_hist (hs : List (List OpT)) : Nbr (hisF hs).2 := fun i x y hx hy => by
  have hi : i + 1 < (allO hs).length := by rw [← hisF_len hs]; exact (List.getElem?_eq_some_iff.1 hy).1
  obtain ⟨s, p, x', x1, x2, x3, x4, x5, x6, x7⟩ := items_at (hs := hs) (i := i) (by omega)
  obtain ⟨t, q, y', y1, y2, y3, y4, y5, y6, y7⟩ := items_at (hs := hs) (i := i + 1) hi
  rw [hx] at x2; injection x2 with x2; subst x2
  rw [hy] at y2; injection y2 with y2; subst y2
  rcases Nat.lt_trichotomy s t with h | h | h
  · exact .inr (by omega)
  · subst h; exact .inl ⟨by omega, by omega⟩
  · exfalso
    obtain ⟨os, hos⟩ : ∃ os, hs[t]? = some os := ⟨_, List.getElem?_eq_getElem y7⟩
    have hgd : hs.getD t [] = os := by rw [List.getD_eq_getElem?_getD, hos]; rfl
    rw [hgd] at y6
    have b1 := baseO_succ hos
    have := baseO_mono (hs := hs) (show t + 1 ≤ s by omega)
    omega
theorem Nbr.chain {is : List It} (h : Nbr is) : ∀ (d i : Nat) (x y : It), is[i]? = some x → is[i + d]? = some y → (x.se = y.se ∧ y.pl = x.pl + (d : Int)) ∨ x.se < y.se
  | 0, i, x, y, hx, hy => by
    rw [Nat.add_zero, hx] at hy; injection hy with hy; subst hy
    exact .inl ⟨rfl, by omega⟩
  | d + 1, i, x, y, hx, hy => by
    obtain ⟨z, hz⟩ : ∃ z, is[i + d]? = some z := ⟨_, List.getElem?_eq_getElem (by have := (List.getElem?_eq_some_iff.1 hy).1; omega)⟩
    have h1 := h.chain d i x z hx hz
    have h2 := h (i + d) z y hz (by rw [Nat.add_assoc]; exact hy)
    omega
theorem Nbr.le {is : List It} (h : Nbr is) {i j : Nat} {x y : It} (hij : i ≤ j) (hx : is[i]? = some x) (hy : is[j]? = some y) : (x.se = y.se ∧ y.pl = x.pl + ((j - i : Nat) : Int)) ∨ x.se < y.se :=
  h.chain (j - i) i x y hx (by rw [show i + (j - i) = j by omega]; exact hy)
theorem Nbr.ahead {is : List It} (h : Nbr is) {i j : Nat} {x y : It} (hx : is[i]? = some x) (hy : is[j]? = some y) : aheadF is i j = (decide (x.se = y.se) && decide (i < j)) := by
  rw [aheadF_at (by omega) (by omega) (by rw [Int.toNat_natCast]; exact hx) (by rw [Int.toNat_natCast]; exact hy), Bool.eq_iff_iff, Bool.and_eq_true, Bool.and_eq_true, decide_eq_true_eq, decide_eq_true_eq, decide_eq_true_eq]
  rcases Nat.le_total i j with hij | hij
  · have := h.le hij hx hy
    omega
  · have := h.le hij hy hx
    omega
/-- b is the first item of o's session -/
structure FirstIs (is : List It) (o b : Nat) : Prop where
  le : b ≤ o
  same : ∀ (i : Nat) (x y : It), b ≤ i → i ≤ o → is[i]? = some x → is[o]? = some y → x.se = y.se
  new : 0 < b → ∀ x y, is[b - 1]? = some x → is[o]? = some y → x.se ≠ y.se
theorem FirstIs.lower {is : List It} {o b : Nat} (hN : Nbr is) (h : FirstIs is o b) {i : Nat} {x y : It} (hi : i < b) (hx : is[i]? = some x) (hy : is[o]? = some y) : x.se ≠ y.se := by
  have hob : o < is.length := (List.getElem?_eq_some_iff.1 hy).1
  have hle := h.le
  obtain ⟨z, hz⟩ : ∃ z, is[b - 1]? = some z := ⟨_, List.getElem?_eq_getElem (by omega)⟩
  have h1 := h.new (by omega) z y hz hy
  have h2 := hN.le (show i ≤ b - 1 by omega) hx hz
  have h3 := hN.le (show b - 1 ≤ o by omega) hz hy
  omega
theorem FirstIs.ahead {is : List It} {o b : Nat} (hN : Nbr is) (h : FirstIs is o b) (ho : o < is.length) {i : Nat} (hi : i < is.length) : aheadF is i o = decide (b ≤ i ∧ i < o) := by
  obtain ⟨x, hx⟩ : ∃ z, is[i]? = some z := ⟨_, List.getElem?_eq_getElem hi⟩
  obtain ⟨y, hy⟩ : ∃ z, is[o]? = some z := ⟨_, List.getElem?_eq_getElem ho⟩
  rw [hN.ahead hx hy, Bool.eq_iff_iff, Bool.and_eq_true, decide_eq_true_eq, decide_eq_true_eq, decide_eq_true_eq]
  constructor
  · rintro ⟨h1, h2⟩
    refine ⟨?_, h2⟩
    rcases Nat.lt_or_ge i b with hb | hb
    · exact absurd h1 (h.lower hN hb hx hy)
    · exact hb
  · rintro ⟨h1, h2⟩
    exact ⟨h.same i x y h1 (by omega) hx hy, h2⟩
def spanI (b n : Nat) : List Int := (List.range' b n).map fun (i : Nat) => (i : Int)
theorem spanI_succ (b n : Nat) : spanI b (n + 1) = spanI b n ++ [((b + n : Nat) : Int)] := by
  unfold spanI; rw [List.range'_1_concat, List.map_append]; rfl
theorem spanI_len (b n : Nat) : (spanI b n).length = n := by unfold spanI; simp
theorem spanI_ok (b n : Nat) : ∀ z ∈ spanI b n, 0 ≤ z ∧ z < ((b + n : Nat) : Int) := fun z hz => by
  unfold spanI at hz
  obtain ⟨i, hi, rfl⟩ := List.mem_map.1 hz
  have := List.mem_range'_1.1 hi
  omega
theorem FirstIs.past {is : List It} {o b : Nat} (hN : Nbr is) (h : FirstIs is o b) (ho : o < is.length) : pastF is (o : Int) is.length = spanI b (o + 1 - b) := by
  unfold pastF pastN spanI
  rw [filter_span h.le ho _ (fun i hi => by
    rw [h.ahead hN ho hi, Bool.eq_iff_iff, Bool.or_eq_true, decide_eq_true_eq, decide_eq_true_eq, decide_eq_true_eq]; have := h.le; omega)]
theorem past_none {is : List It} {o : Int} (h : o < 0 ∨ (is.length : Int) ≤ o) : pastF is o is.length = [] := by
  unfold pastF pastN
  rw [List.filter_eq_nil_iff.2 (fun a ha => by
    have := List.mem_range.1 ha
    rw [aheadF_out (by omega), decide_eq_false (by omega)]; simp)]
  rfl
/-- a session ends ahead of e -/
def EndAt (is : List It) (e : Nat) : Prop := 0 < e → ∀ x y, is[e - 1]? = some x → is[e]? = some y → x.se ≠ y.se
theorem EndAt.all (is : List It) : EndAt is is.length := fun h x y _ hy => by
  rw [List.getElem?_eq_none (Nat.le_refl _)] at hy; cases hy
/-- the items from s to below e are one session -/
structure Seg (is : List It) (s e : Nat) : Prop where
  lt : s < e
  le : e ≤ is.length
  at_ : ∀ i j : Nat, s ≤ i → i < e → aheadF is i j = decide (i < j ∧ j < e)
theorem FirstIs.seg {is : List It} {s e : Nat} (hN : Nbr is) (he : 0 < e) (hl : e ≤ is.length) (hE : EndAt is e) (h : FirstIs is (e - 1) s) : Seg is s e ∧ EndAt is s := by
  have hle := h.le
  obtain ⟨z, hz⟩ : ∃ z, is[e - 1]? = some z := ⟨_, List.getElem?_eq_getElem (by omega)⟩
  refine ⟨⟨by omega, hl, fun i j hi hie => ?_⟩, fun h0 x y hx hy => ?_⟩
  · obtain ⟨x, hx⟩ : ∃ z, is[i]? = some z := ⟨_, List.getElem?_eq_getElem (by omega)⟩
    have hxz := h.same i x z hi (by omega) hx hz
    rcases Nat.lt_or_ge j is.length with hj | hj
    · obtain ⟨y, hy⟩ : ∃ z, is[j]? = some z := ⟨_, List.getElem?_eq_getElem hj⟩
      rw [hN.ahead hx hy, Bool.eq_iff_iff, Bool.and_eq_true, decide_eq_true_eq, decide_eq_true_eq, decide_eq_true_eq]
      constructor
      · rintro ⟨h1, h2⟩
        refine ⟨h2, ?_⟩
        rcases Nat.lt_or_ge j e with hje | hje
        · exact hje
        · exfalso
          obtain ⟨u, hu⟩ : ∃ z, is[e]? = some z := ⟨_, List.getElem?_eq_getElem (by omega)⟩
          have h3 := hE he z u hz hu
          have h4 := hN.le (show e - 1 ≤ e by omega) hz hu
          have h5 := hN.le hje hu hy
          omega
      · rintro ⟨h1, h2⟩
        exact ⟨by rw [hxz]; exact (h.same j y z (by omega) (by omega) hy hz).symm, h1⟩
    · rw [aheadF_out (by omega)]
      symm; rw [decide_eq_false_iff_not]; omega
  · have := h.same s y z (Nat.le_refl _) hle hy hz
    rw [this]
    exact h.new h0 x z hx hz
/-- the rows of the last items, those ahead of them empty -/
def partM (is : List It) (e : Nat) : List (List Nat) := (List.range is.length).map fun i => if i < e then [] else (poM is).getD i []
theorem partM_len (is : List It) (e : Nat) : (partM is e).length = is.length := by simp [partM]
theorem partM_none (is : List It) : partM is is.length = List.replicate is.length [] := by
  unfold partM
  apply List.ext_getElem?
  intro i
  rw [List.getElem?_map, List.getElem?_range_eq, List.getElem?_replicate]
  by_cases h : i < is.length
  · rw [if_pos h, if_pos h]; simp [h]
  · rw [if_neg h, if_neg h]; rfl
where
  List.getElem?_range_eq {n i : Nat} : (List.range n)[i]? = if i < n then some i else none := by
    by_cases h : i < n
    · rw [if_pos h, List.getElem?_range h]
    · rw [if_neg h, List.getElem?_eq_none (by simp; omega)]
theorem poM_len' (is : List It) : (poM is).length = is.length := (DimM.fold is.length _).1
theorem partM_all (is : List It) : partM is 0 = poM is := by
  unfold partM
  apply List.ext_getElem?
  intro i
  rw [List.getElem?_map]
  by_cases h : i < is.length
  · rw [List.getElem?_range h]
    have := List.getElem?_eq_getElem (l := poM is) (i := i) (by rw [poM_len']; exact h)
    rw [this]; simp [List.getD_eq_getElem?_getD, this]
  · rw [List.getElem?_eq_none (by simp; omega), List.getElem?_eq_none (by rw [poM_len']; omega)]; rfl
theorem partM_get {is : List It} {e i : Nat} (h1 : e ≤ i) (h2 : i < is.length) : (partM is e)[i]? = some ((poM is).getD i []) := by
  unfold partM
  rw [List.getElem?_map, List.getElem?_range h2]
  simp; omega
theorem partM_set {is : List It} {e : Nat} (h : e < is.length) : (partM is (e + 1)).set e ((poM is).getD e []) = partM is e := by
  unfold partM
  rw [map_range_set]
  apply List.map_congr_left
  intro j hj
  by_cases hje : j = e
  · subst hje; simp
  · simp only [if_neg hje]
    by_cases h1 : j < e
    · rw [if_pos h1, if_pos (by omega)]
    · rw [if_neg h1, if_neg (by omega)]
theorem poM_row {is : List It} (h : is.length ≤ 4096) {i : Nat} (hi : i < is.length) : ((poM is).getD i []).length = (wordsZ (is.length : Int)).toNat ∧ W64 ((poM is).getD i []) ∧ ∀ j : Nat, hasR ((poM is).getD i []) (j : Int) = aheadF is i j := by
  obtain ⟨hG, hh⟩ := poM_good h
  obtain ⟨r, hr⟩ : ∃ r, (poM is)[i]? = some r := ⟨_, List.getElem?_eq_getElem (by rw [poM_len']; exact hi)⟩
  have hd : (poM is).getD i [] = r := getD_at hr
  rw [hd]
  refine ⟨(DimM.fold is.length _).2 i r hr, (hG.row r (List.mem_of_getElem? hr)).1, fun j => ?_⟩
  rw [← hh i j, hasM_in hr]
/-- the row of a session's last item -/
theorem Seg.last {is : List It} {s e : Nat} (h : Seg is s e) (hn : is.length ≤ 4096) : (poM is).getD (e - 1) [] = List.replicate (wordsZ (is.length : Int)).toNat 0 := by
  have hlt := h.lt
  have hle := h.le
  obtain ⟨r1, r2, r3⟩ := poM_row hn (i := e - 1) (by omega)
  refine row_ext r2 (fun x hx => by rw [(List.mem_replicate.1 hx).2]; omega) (by rw [r1, List.length_replicate]) (fun i _ => ?_)
  rw [r3, hasR_zeros, h.at_ (e - 1) i (by omega) (by omega), decide_eq_false (by omega)]
/-- .. and of one ahead of it: the next one, and what stands behind that -/
theorem Seg.step {is : List It} {s e i : Nat} (h : Seg is s e) (hn : is.length ≤ 4096) (hs : s ≤ i) (hi : i + 1 < e) : setR ((poM is).getD (i + 1) []) ((i + 1 : Nat) : Int) = (poM is).getD i [] := by
  have hle := h.le
  obtain ⟨r1, r2, r3⟩ := poM_row hn (i := i) (by omega)
  obtain ⟨q1, q2, q3⟩ := poM_row hn (i := i + 1) (by omega)
  have hw := words_pos (n := is.length) (by omega)
  refine row_ext (setR_w64 q2 _) r2 (by rw [setR_len, r1, q1]) (fun j _ => ?_)
  rw [hasR_setR _ _ _ (by rw [q1]; omega), r3, q3, h.at_ i j hs (by omega), h.at_ (i + 1) j (by omega) hi, Bool.eq_iff_iff, Bool.or_eq_true, decide_eq_true_eq, decide_eq_true_eq, decide_eq_true_eq]
  omega
end Go.Proofs.YtjhjojklfdjmdaaGreat

namespace Go.Proofs.YtjhjojklfdjmdaaGreat
open Go.RowKit
set_option linter.unusedVariables false
theorem session_known (B : Option Addr) (m d : Nat) (i : Int) (w : World) :
    Calls Tryz.prog 133 #[.slice B m d, .int .i64 i] w fun e w' => e = .returned (.bool (decide (0 ≤ i) && decide (i < (m : Int)))) ∧ w = w' := by
  by_cases hi : 0 ≤ i
  · have d1 : decide (0 ≤ i) = true := decide_eq_true hi
    rw [d1, Bool.true_and]
    go_enter Tryz.func133, Tryz.ntmps133
    go_wp2
    go_ret
    exact ⟨rfl, rfl⟩
  · have d1 : decide (0 ≤ i) = false := decide_eq_false hi
    rw [d1, Bool.false_and]
    go_enter Tryz.func133, Tryz.ntmps133
    go_wp2
    go_ret
    exact ⟨rfl, rfl⟩
set_option maxRecDepth 100000 in
set_option maxHeartbeats 1000000 in
theorem session_first (B : Option Addr) (m d : Nat) (is : List It) (o : Nat) (w : World) (hI : LAt encT w B m is) (ho : o < m) (hm : m ≤ 1048576) :
    Calls Tryz.prog 80 #[.slice B m d, .int .i64 (o : Int)] w fun e w' => ∃ b : Nat, e = .returned (.int .i64 (b : Int)) ∧ FirstIs is o b ∧ Below w.heap.size w w' := by
  have hil := Lib.hid hI.len
  obtain ⟨jb, jo, y, rfl, hjb, hy, hyo, -⟩ := hI.item ho
  replace hI := Lib.hid hI
  replace hyo := Lib.hid hyo
  replace hy := Lib.hid hy
  obtain ⟨oz, hoz⟩ : ∃ z : Int, z = (o : Int) := ⟨_, rfl⟩
  rw [← hoz]
  have bo : 0 ≤ oz ∧ oz < (m : Int) := by omega
  go_enter Tryz.func80, Tryz.ntmps80
  go_wp2
  go_loopw [5] (fun t wr => ∃ k : Nat, k ≤ o ∧ t = .int .i64 k ∧ Hid (∀ (i : Nat) (x : It), k ≤ i → i ≤ o → is[i]? = some x → x.se = y.se) ∧ Hid (Below w.heap.size w wr)) (fun t _ => (intOf t).toNat)
  case atStart =>
    refine ⟨o, Nat.le_refl _, by rw [hoz], Lib.hid (fun i x h1 h2 hx => ?_), Lib.hid (Below.refl _ _)⟩
    have e : i = o := by omega
    rw [e, hy.out] at hx
    injection hx with hx
    rw [hx]
  case round =>
    obtain ⟨k, hk, ht, hall, hb⟩ := hrel
    have hIr := Lib.hid (hI.out.below hb.out)
    obtain ⟨jb', jo', y', hjB, hjb', hy', -, j0, -⟩ := hIr.out.item ho
    injection hjB with hjB
    injection hjB with e1 e2
    subst e1; subst e2
    rw [hy.out] at hy'; injection hy' with hy'; subst hy'
    rw [show o = oz.toNat by omega] at j0
    obtain ⟨kz, hkz⟩ : ∃ z : Int, z = (k : Int) := ⟨_, rfl⟩
    rw [← hkz] at ht
    subst ht
    by_cases hk0 : k = 0
    · have d1 : decide (0 < kz) = false := decide_eq_false (by omega)
      have hF : Hid (FirstIs is o k) := Lib.hid ⟨hk, fun i x z h1 h2 hx hz => by
        rw [hy.out] at hz; injection hz with hz; subst hz; exact hall.out i x h1 h2 hx, fun h => absurd h (by omega)⟩
      replace hkz := Lib.hid hkz
      replace hoz := Lib.hid hoz
      clear hall hIr hI
      go_wp2_with fail
      go_quiet (fail)
      go_wp2_with fail
      go_ret
      exact ⟨k, by rw [hkz.out]; rfl, hF.out, below_drewN hb.out _⟩
    · have d1 : decide (0 < kz) = true := decide_eq_true (by omega)
      obtain ⟨pz, hpz⟩ : ∃ z : Int, z = ((k - 1 : Nat) : Int) := ⟨_, rfl⟩
      have hw1 : IntKind.i64.wrap (kz - 1) = pz := by rw [IntKind.wrap_i64]; omega
      have hw2 : wrap64 (kz - 1) = pz := by unfold wrap64; omega
      obtain ⟨ib, io, x, hiB, hib, hx, -, i0, -⟩ := hIr.out.item (show k - 1 < m by omega)
      injection hiB with hiB
      injection hiB with e1 e2
      subst e1; subst e2
      rw [show k - 1 = pz.toNat by omega] at i0
      have bp : 0 ≤ pz ∧ pz < (m : Int) := by omega
      by_cases hse : x.se = y.se
      · have e1 : (x.se == y.se) = true := by simp [hse]
        have hall' : Hid (∀ (i : Nat) (x : It), k - 1 ≤ i → i ≤ o → is[i]? = some x → x.se = y.se) := Lib.hid (fun i z h1 h2 hz => by
          rcases Nat.lt_or_ge i k with h | h
          · rw [show i = k - 1 by omega, hx] at hz; injection hz with hz; subst hz; exact hse
          · exact hall.out i z h h2 hz)
        replace hkz := Lib.hid hkz
        replace hoz := Lib.hid hoz
        replace hpz := Lib.hid hpz
        replace hse := Lib.hid hse
        clear hall hIr hI hx
        go_wp2_with fail
        go_quiet (fail)
        go_wp2_with fail
        exact ⟨⟨k - 1, by omega, by rw [← hpz.out], hall', Lib.hid (below_drewN hb.out _)⟩, by have := hkz.out; have := hpz.out; simp [intOf]; omega⟩
      · have e1 : (x.se == y.se) = false := by simpa using hse
        have hF : Hid (FirstIs is o k) := Lib.hid ⟨hk, fun i x z h1 h2 hx hz => by
          rw [hy.out] at hz; injection hz with hz; subst hz; exact hall.out i x h1 h2 hx, fun _ u z hu hz => by
          rw [hy.out] at hz; injection hz with hz; subst hz
          rw [hx] at hu; injection hu with hu; subst hu; exact hse⟩
        replace hkz := Lib.hid hkz
        replace hoz := Lib.hid hoz
        replace hpz := Lib.hid hpz
        replace hse := Lib.hid hse
        clear hall hIr hI hx
        go_wp2_with fail
        go_quiet (fail)
        go_wp2_with fail
        go_ret
        exact ⟨k, by rw [hkz.out]; rfl, hF.out, below_drewN hb.out _⟩
theorem both_no {i : Int} {m : Nat} (h : ¬ (0 ≤ i ∧ i < (m : Int))) : (decide (0 ≤ i) && decide (i < (m : Int))) = false := by
  rw [Bool.eq_false_iff]; simpa using h
theorem info_int12 : (Tryz.prog.info? 3).map (fun i => (i.zero, i.size, i.bytes)) = some (some (.int .i64 0), 1, 8) := by kernel_rfl
set_option maxRecDepth 100000 in
set_option maxHeartbeats 1000000 in
theorem session_Past (v : FV) (f : Fac) (o : Int) (w : World) (hF : FactsAt w v f) (hm : v.m ≤ 1048576) (hN : Nbr f.items) :
    Calls Tryz.prog 116 #[.agg #[.slice v.A v.n v.c, .slice v.B v.m v.d, .slice v.C v.k v.e], .int .i64 o] w (RetIL (pastF f.items o f.items.length) w) := by
  have hil := hF.is.len
  have ck := Lib.hid (fun W => session_known v.B v.m v.d o W)
  obtain ⟨i0, hi, hz0, hz1, hz2⟩ := info_parts info_int12
  replace hi := Lib.hid hi
  replace hz0 := Lib.hid hz0
  replace hz1 := Lib.hid hz1
  replace hz2 := Lib.hid hz2
  -- a call with facts v: they are boxed at g, the world is W0 then
  have hB0 := Lib.hid (FBox.new hF)
  obtain ⟨g, hg⟩ : ∃ g, g = w.heap.size := ⟨_, rfl⟩
  obtain ⟨W0, hW0⟩ : ∃ W, W = w.alloc (.cells #[.slice v.A v.n v.c, .slice v.B v.m v.d, .slice v.C v.k v.e] 29) := ⟨_, rfl⟩
  rw [← hW0, ← hg] at hB0
  clear hF
  have p0 := hB0.out.c0
  have p1 := hB0.out.c1
  have p2 := hB0.out.c2
  by_cases ho : 0 ≤ o ∧ o < (v.m : Int)
  · rw [decide_eq_true ho.1, decide_eq_true ho.2] at ck
    obtain ⟨oN, hoe⟩ := Int.eq_ofNat_of_zero_le ho.1
    have hoN : oN < v.m := by omega
    have cF := session_first v.B v.m v.d f.items oN W0 hB0.out.f.is hoN hm
    have hpast := Lib.hid (fun b (h : FirstIs f.items oN b) => h.past hN (by omega))
    rw [← hoe] at cF hpast
    have hom : o < 1048576 := by omega
    replace hoe := Lib.hid hoe
    replace cF := Lib.hid cF
    replace ck := Lib.hid ck
    replace hil := Lib.hid hil
    clear ho hN
    go_enter Tryz.func116, Tryz.ntmps116
    go_wp2_with (rw [← hW0, ← hg]; clear hW0 hg)
    refine (ck.out _).mono ?_; rintro e w' ⟨rfl, rfl⟩
    go_wp2_with fail
    refine cF.out.mono ?_; rintro e w2 ⟨b, rfl, hfi, b2⟩
    have hpl := Lib.hid (hpast.out b hfi)
    have hbo := hfi.le
    have hBW := Lib.hid (below_trans2 hB0.out.o b2)
    clear hB0 p0 p1 p2 hpast hfi b2 cF ck
    go_wp2_with fail
    go_loopw [5, 6] (fun u t wr => ∃ k : Nat, k ≤ oN + 1 - b ∧ t = .int .i64 ((b + k : Nat) : Int) ∧ Hid (Below w2.heap.size w2 wr) ∧ Hid (wr.ownsRow w2.heap.size 3 1 u k (encI.all (spanI b k)))) (fun _ t _ => oN + 1 - (intOf t).toNat)
    case atStart => exact ⟨0, Nat.zero_le _, rfl, Lib.hid (Below.refl _ _), Lib.hid (World.ownsRow_nil _ _ _ _)⟩
    case round =>
      obtain ⟨k, hk, ht, hb, hown⟩ := hrel
      obtain ⟨iz, hiz⟩ : ∃ z : Int, z = ((b + k : Nat) : Int) := ⟨_, rfl⟩
      rw [← hiz] at ht
      subst ht
      have hss := spanI_succ b k
      rw [← hiz] at hss
      have hoe' := hoe.out
      have i64 : -9223372036854775808 ≤ iz ∧ iz < 9223372036854775808 := by omega
      by_cases hlt : iz ≤ o
      · have d1 : decide (iz ≤ o) = true := decide_eq_true hlt
        have hw : wrap64 (iz + 1) = iz + 1 := by unfold wrap64; omega
        have hwh := Lib.hid hw
        obtain ⟨gl, hgl⟩ : ∃ g, g = wr.heap.size := ⟨_, rfl⟩
        obtain ⟨VL, hVL⟩ : ∃ W, W = World.alloc wr (.cells #[.int .i64 iz] 3) := ⟨_, rfl⟩
        have bL : Below wr.heap.size wr VL := by rw [hVL]; exact (Below.refl _ _).alloc (Nat.le_refl _) _
        have hlit := Lib.hid (show LAt encI VL (some ⟨gl, 0, none⟩) 1 [iz] from by rw [hVL, hgl]; exact LAt.lit1 (E := encI) wr 3 iz i64)
        have hownL := Lib.hid (own_below hown.out bL)
        have bWL := Lib.hid (below_trans2 hb.out bL)
        have hbase := Lib.hid bWL.out.size
        have hk1 : k + 1 ≤ oN + 1 - b := by omega
        have hmea : oN + 1 - ((iz + 1).toNat) < oN + 1 - iz.toNat := by omega
        replace hmea := Lib.hid hmea
        replace hiz := Lib.hid hiz
        replace hss := Lib.hid hss
        clear bL hoe' i64 hlt
        go_wp2_with (first
          | (rw [← hVL, ← hgl]; clear hVL hgl)
          | (at_builtin; refine wpList_append_L (E := encI) rfl (.tmp 21) (.tmp 23) _ rfl w2.heap.size 3 i0 _ 8 Tryz.underlying27 hi.out hz0.out hz1.out hz2.out rfl _ k (spanI b k) (by rfl) hownL.out _ 1 1 _ rfl hlit.out (by unfold maxLen; omega) (by omega) hbase.out ?_; intro v' w7 hown' hb7 _ _))
        refine ⟨⟨k + 1, hk1, ?_, Lib.hid (bWL.out.trans hb7), Lib.hid (by rw [hss.out]; exact hown')⟩, ?_⟩
        · have := hiz.out; congr 1; omega
        · have := hmea.out; simpa [intOf, show wrap64 (iz + 1) = iz + 1 from hwh.out] using this
      · have d1 : decide (iz ≤ o) = false := decide_eq_false hlt
        have hkk : k = oN + 1 - b := by omega
        rw [← hkk] at hpl
        obtain ⟨A, c, rfl, hnc, hcm, hLA⟩ := LAt.of_own hown.out (fun z hz => by
          have := spanI_ok b k z hz
          exact ⟨by omega, by omega⟩) (spanI_len b k)
        replace hkk := Lib.hid hkk
        replace hiz := Lib.hid hiz
        replace hss := Lib.hid hss
        replace hLA := Lib.hid hLA
        replace hoe := Lib.hid hoe'
        clear hlt hoe' i64
        go_wp2_with fail
        go_ret
        rw [hpl.out]
        exact ⟨A, k, c, rfl, hLA.out, hnc, hcm, below_trans2 hBW.out hb.out⟩
  · rw [both_no ho] at ck
    have hpl := Lib.hid (past_none (is := f.items) (o := o) (by omega))
    replace ck := Lib.hid ck
    clear ho hN
    go_enter Tryz.func116, Tryz.ntmps116
    go_wp2_with (rw [← hW0, ← hg]; clear hW0 hg)
    refine (ck.out _).mono ?_; rintro e w' ⟨rfl, rfl⟩
    go_wp2_with fail
    go_ret
    rw [hpl.out]
    exact ⟨none, 0, 0, rfl, LAt.nil _ _ _, Nat.le_refl _, by omega, hB0.out.o⟩
theorem Row.setBlk {w : World} {A : Option Addr} {n G i : Nat} {t : TypeId} {xs : List Nat} {cs : List Value} (h : Row w A n xs) (k : Blk w G t cs) (hcs : ∀ x ∈ cs, ∃ A n c, x = .slice A n c) (u : Value) : Row (w.setCell ⟨G, i, none⟩ u) A n xs := by
  rcases Nat.eq_zero_or_pos n with h0 | h0
  · subst h0
    have hx : xs = [] := List.eq_nil_of_length_eq_zero h.len
    subst hx
    exact Row.nil _ _
  · obtain ⟨b, off, x, hA, hb, hx, hx64, hc⟩ := h.at_ h0
    refine h.setCell (fun ad e => ?_) u
    rw [hA] at e
    injection e with e
    subst e
    intro hbG
    have hbG : b = G := hbG
    subst hbG
    rw [Nat.add_zero, k.cell] at hc
    obtain ⟨_, _, _, e⟩ := hcs _ (List.mem_of_getElem? hc)
    cases e
theorem RowsC.setBlk {w : World} {G i : Nat} {t : TypeId} {vs cs : List Value} {xss : List (List Nat)} (h : RowsC w vs xss) (k : Blk w G t cs) (hcs : ∀ x ∈ cs, ∃ A n c, x = .slice A n c) (u : Value) : RowsC (w.setCell ⟨G, i, none⟩ u) vs xss :=
  ⟨h.1, fun j v xs h1 h2 => by
    obtain ⟨A, n, c, e, hr⟩ := h.2 j v xs h1 h2
    exact ⟨A, n, c, e, hr.setBlk k hcs u⟩⟩
theorem RowsC.slices {w : World} {vs : List Value} {xss : List (List Nat)} (h : RowsC w vs xss) : ∀ x ∈ vs, ∃ A n c, x = .slice A n c := fun x hx => by
  obtain ⟨i, hi⟩ := List.getElem?_of_mem hx
  have hl : i < xss.length := by rw [← h.1]; exact (List.getElem?_eq_some_iff.1 hi).1
  obtain ⟨A, n, c, e, -⟩ := h.2 i x _ hi (List.getElem?_eq_getElem hl)
  exact ⟨A, n, c, e⟩
theorem belowB_set {w w' : World} {g : Nat} (h : BelowB g w w') (o : Nat) (u : Value) : BelowB g w (w'.setCell ⟨g, o, none⟩ u) :=
  ⟨h.os, h.tape, h.output, by simpa using h.size, fun k hk hg => (Below.heap_setCell w' ⟨g, o, none⟩ u k (by simpa using hg)).trans (h.block k hk hg)⟩
/-- the rows' block G, of which the last ones, from e on, are laid -/
structure PartAt (t : TypeId) (w : World) (G n e : Nat) (is : List It) (vs : List Value) : Prop where
  k : Blk w G t vs
  r : RowsC w vs (partM is e)
  l : vs.length = n
theorem PartAt.below {t : TypeId} {w w' : World} {G n e : Nat} {is : List It} {vs : List Value} (h : PartAt t w G n e is vs) (hb : Below w.heap.size w w') : PartAt t w' G n e is vs := ⟨h.k.below hb h.k.lt, h.r.below hb, h.l⟩
theorem PartAt.put {t : TypeId} {w : World} {G n e : Nat} {is : List It} {vs : List Value} (h : PartAt t w G n (e + 1) is vs) (he : e < is.length) {A : Option Addr} {m c : Nat} (hr : Row w A m ((poM is).getD e [])) : PartAt t (w.setCell ⟨G, e, none⟩ (.slice A m c)) G n e is (vs.set e (.slice A m c)) := by
  refine ⟨h.k.set_ e _, ?_, by rw [List.length_set]; exact h.l⟩
  rw [← partM_set he]
  exact (h.r.setBlk h.k h.r.slices _).set ⟨A, m, c, rfl, hr.setBlk h.k h.r.slices _⟩ e
theorem PartAt.row {t : TypeId} {w : World} {G n e i : Nat} {is : List It} {vs : List Value} (h : PartAt t w G n e is vs) (h1 : e ≤ i) (h2 : i < is.length) : ∃ A m c, vs[i]? = some (.slice A m c) ∧ Row w A m ((poM is).getD i []) := by
  have hl : i < vs.length := by rw [h.r.1, partM_len]; exact h2
  obtain ⟨A, m, c, e, hr⟩ := h.r.2 i _ _ (List.getElem?_eq_getElem hl) (partM_get h1 h2)
  exact ⟨A, m, c, by rw [List.getElem?_eq_getElem hl, e], hr⟩
theorem PartAt.any {t : TypeId} {w : World} {G n e i : Nat} {is : List It} {vs : List Value} (h : PartAt t w G n e is vs) (h2 : i < n) : ∃ A m c, vs[i]? = some (.slice A m c) := by
  have hl : i < vs.length := by rw [h.l]; exact h2
  obtain ⟨A, m, c, e⟩ := h.r.slices _ (List.getElem_mem hl)
  exact ⟨A, m, c, by rw [List.getElem?_eq_getElem hl, e]⟩
set_option maxRecDepth 100000 in
set_option maxHeartbeats 1000000 in
theorem session_fill (G n c : Nat) (is : List It) (s e : Nat) (vs : List Value) (w : World) (hP : PartAt 88 w G n e is vs) (hn : n ≤ 4096) (hil : is.length = n) (hS : Seg is s e) :
    Calls Tryz.prog 81 #[.slice (some ⟨G, 0, none⟩) n c, .int .i64 (s : Int), .int .i64 (e : Int)] w fun en w' => en = .returned (.tuple #[]) ∧ (∃ vs', PartAt 88 w' G n s is vs') ∧ BelowB G w w' := by
  have hlt := hS.lt
  have hle := hS.le
  rw [hil] at hle
  obtain ⟨l, hl⟩ : ∃ l, e = l + 1 := ⟨e - 1, by omega⟩
  subst hl
  have hlast := hS.last (by omega)
  rw [hil, Nat.add_sub_cancel] at hlast
  have hNew := Lib.hid (fun W => row_NewO (n : Int) (by omega) (by omega) W)
  have hstep := Lib.hid (fun i h1 h2 => hS.step (i := i) (by omega) h1 h2)
  have hrw := Lib.hid (fun i (hi : i < is.length) => poM_row (is := is) (by omega) hi)
  obtain ⟨ez, hez⟩ : ∃ z : Int, z = ((l + 1 : Nat) : Int) := ⟨_, rfl⟩
  rw [← hez]
  have hw : wrap64 (ez - 1) = (l : Int) := by unfold wrap64; omega
  have hln : l < n := by omega
  replace hlast := Lib.hid hlast
  replace hil := Lib.hid hil
  replace hP := Lib.hid hP
  replace hS := Lib.hid hS
  replace hez := Lib.hid hez
  go_enter Tryz.func81, Tryz.ntmps81
  go_wp2_with fail
  rw [hw]
  refine (hNew.out _).mono ?_; rintro en w1 ⟨C, p, q, rfl, ho, hx64, hb1⟩
  have hP1 := hP.out.below hb1
  have hrow : Row w1 C p ((poM is).getD l []) := by rw [hlast.out]; exact Row.of_own ho hx64
  obtain ⟨A1, m1, c1, hv1⟩ := hP1.any hln
  have hc1 := hP1.k.cell l
  rw [hv1] at hc1
  have hf1 := hP1.k.frozen l
  have hP2 := Lib.hid (hP1.put (c := q) (by rw [hil.out]; exact hln) hrow)
  have hb2 := Lib.hid (belowB_set (BelowB.of (g := G) hb1) l (.slice C p q))
  clear ho hx64 hrow hv1 hP1 hb1 hNew hw
  go_wp2_with fail
  go_loopw [7] (fun t wr => ∃ (i : Nat) (vs' : List Value), s ≤ i ∧ i ≤ l ∧ t = .int .i64 (i : Int) ∧ Hid (PartAt 88 wr G n i is vs') ∧ Hid (BelowB G w wr)) (fun t _ => (intOf t).toNat)
  case atStart => exact ⟨l, _, by omega, Nat.le_refl _, rfl, hP2, hb2⟩
  case round =>
    clear hP2 hb2 hc1 hf1
    obtain ⟨i, vs', hsi, hil', ht, hPi, hbi⟩ := hrel
    obtain ⟨iz, hiz⟩ : ∃ z : Int, z = (i : Int) := ⟨_, rfl⟩
    rw [← hiz] at ht
    subst ht
    by_cases hgt : s < i
    · have d1 : decide ((s : Int) < iz) = true := decide_eq_true (by omega)
      obtain ⟨k, hk⟩ : ∃ k, i = k + 1 := ⟨i - 1, by omega⟩
      subst hk
      have hw1 : wrap64 (iz - 1) = (k : Int) := by unfold wrap64; omega
      have hkn : k < n := by omega
      have hsk : s ≤ k := by omega
      have bi : 0 ≤ iz ∧ iz < (n : Int) := by omega
      have hst := Lib.hid (hstep.out k (by omega) (by omega))
      obtain ⟨A2, m2, c2, hv2, hr2⟩ := hPi.out.row (i := k + 1) (Nat.le_refl _) (by rw [hil.out]; omega)
      have hc2 := hPi.out.k.cell iz.toNat
      rw [show iz.toNat = k + 1 by omega, hv2, ← show iz.toNat = k + 1 by omega] at hc2
      have hm2 : m2 ≤ 64 := by
        have h1 := hr2.len
        have h2 := (hrw.out (k + 1) (by rw [hil.out]; omega)).1
        have h3 := words_le hn
        rw [hil.out] at h2
        omega
      have cS := Lib.hid (fun W hW => row_Set A2 m2 c2 ((poM is).getD (k + 1) []) iz W hW (by omega) (by omega) (by omega))
      have hset := Lib.hid (show setR ((poM is).getD (k + 1) []) iz = (poM is).getD k [] from by rw [hiz]; exact hst.out)
      replace hr2 := Lib.hid hr2
      replace hiz := Lib.hid hiz
      clear hst hv2 hgt
      go_wp2_with fail
      refine (cS.out wr hr2.out).mono ?_; rintro en w3 ⟨C3, p3, q3, rfl, hr3, hb3⟩
      rw [hset.out] at hr3
      have hP3 := hPi.out.below hb3
      obtain ⟨A4, m4, c4, hv4⟩ := hP3.any hkn
      have hc4 := hP3.k.cell k
      rw [hv4] at hc4
      have hf4 := hP3.k.frozen k
      have ek : iz.toNat - 1 = k := by have := hiz.out; omega
      have bp : 1 ≤ iz ∧ iz - 1 < (n : Int) := by have := hiz.out; omega
      have hP4 := Lib.hid (show PartAt 88 (w3.setCell ⟨G, iz.toNat - 1, none⟩ (.slice C3 p3 q3)) G n k is (vs'.set k (.slice C3 p3 q3)) from by rw [ek]; exact hP3.put (c := q3) (by rw [hil.out]; exact hkn) hr3)
      have hb4 := Lib.hid (show BelowB G w (w3.setCell ⟨G, iz.toNat - 1, none⟩ (.slice C3 p3 q3)) from belowB_set (hbi.out.trans (BelowB.of hb3)) _ (.slice C3 p3 q3))
      rw [← ek] at hc4 hf4
      clear hr3 hv4 hP3 hb3 cS hset hr2 hc2 hw1 ek
      go_wp2_with fail
      exact ⟨⟨k, _, by omega, by omega, by have := hiz.out; congr 1; omega, hP4, hb4⟩, by have := hiz.out; simp [intOf]; omega⟩
    · have d1 : decide ((s : Int) < iz) = false := decide_eq_false (by omega)
      have his : i = s := by omega
      subst his
      replace hiz := Lib.hid hiz
      clear hgt
      go_wp2_with fail
      go_end0
      exact ⟨rfl, ⟨_, hPi.out⟩, hbi.out⟩
theorem PartAt.start {t : TypeId} {w : World} {G : Nat} {is : List It} (h : Blk w G t (List.replicate is.length (.slice none 0 0))) : PartAt t w G is.length is.length is (List.replicate is.length (.slice none 0 0)) := by
  refine ⟨h, ⟨by rw [partM_len, List.length_replicate], fun i v xs h1 h2 => ?_⟩, List.length_replicate⟩
  rw [partM_none] at h2
  have e1 := (List.mem_replicate.1 (List.mem_of_getElem? h1)).2
  have e2 := (List.mem_replicate.1 (List.mem_of_getElem? h2)).2
  subst e1; subst e2
  exact ⟨none, 0, 0, rfl, Row.nil _ _⟩
set_option maxRecDepth 100000 in
set_option maxHeartbeats 2000000 in
theorem session_PoF (v : FV) (f : Fac) (w : World) (hF : FactsAt w v f) (hm : v.m ≤ 4096) (hN : Nbr f.items) :
    Calls Tryz.prog 51 #[.agg #[.slice v.A v.n v.c, .slice v.B v.m v.d, .slice v.C v.k v.e]] w (RetMat1F (v.m : Int) (poM f.items) w) := by
  have hil := hF.is.len
  have hmk := mk_rows .i64 .i64 v.m v.m (Nat.le_refl _) (by omega)
  -- a call with facts v: they are boxed at g, the world is W0 then
  have hB0 := Lib.hid (FBox.new hF)
  obtain ⟨g, hg⟩ : ∃ g, g = w.heap.size := ⟨_, rfl⟩
  obtain ⟨W0, hW0⟩ : ∃ W, W = w.alloc (.cells #[.slice v.A v.n v.c, .slice v.B v.m v.d, .slice v.C v.k v.e] 29) := ⟨_, rfl⟩
  rw [← hW0, ← hg] at hB0
  clear hF
  obtain ⟨gr, hgr⟩ : ∃ g, g = W0.heap.size := ⟨_, rfl⟩
  obtain ⟨W1, hW1⟩ : ∃ W, W = W0.alloc (.cells #[.int .i64 0, .slice none 0 0] 57) := ⟨_, rfl⟩
  have b1 : Below W0.heap.size W0 W1 := by rw [hW1]; exact (Below.refl _ _).alloc (Nat.le_refl _) _
  have kR : MatB W1 gr 57 0 none 0 0 := by rw [hW1, hgr]; exact MatB.new W0 _
  have hB1 := Lib.hid (hB0.out.later b1)
  have hgw : w.heap.size ≤ gr := by rw [hgr]; exact hB0.out.o.size
  obtain ⟨G, hG⟩ : ∃ g, g = W1.heap.size := ⟨_, rfl⟩
  obtain ⟨W2, hW2⟩ : ∃ W, W = W1.alloc (.cells (zeros v.m (.slice none 0 0)) 88) := ⟨_, rfl⟩
  have b2 : Below W1.heap.size W1 W2 := by rw [hW2]; exact (Below.refl _ _).alloc (Nat.le_refl _) _
  have hP0 := Lib.hid (show ∃ vs, PartAt 88 W2 G v.m v.m f.items vs from ⟨_, by
    rw [← hil]; refine PartAt.start ?_; rw [hW2, hG, hil]; exact Blk.new W1 _ _⟩)
  have hgG := Lib.hid (show gr < G from by rw [hG]; exact kR.lt)
  have hF1 := Lib.hid (fun o wr (h : Below W1.heap.size W1 wr) (ho : o < v.m) => session_first v.B v.m v.d f.items o wr (hB1.out.later h).f.is ho (by omega))
  have hfill := Lib.hid (fun s e vs wr (hP : PartAt 88 wr G v.m e f.items vs) (hS : Seg f.items s e) => session_fill G v.m v.m f.items s e vs wr hP hm hil hS)
  have hEnd := Lib.hid (show EndAt f.items v.m from by rw [← hil]; exact EndAt.all _)
  have b2h := Lib.hid b2
  replace hil := Lib.hid hil
  replace hN := Lib.hid hN
  have p0 := hB1.out.c0
  have p1 := hB1.out.c1
  have p2 := hB1.out.c2
  clear b1 b2
  replace kR := Lib.hid kR
  go_enter Tryz.func51, Tryz.ntmps51
  go_wp2_with (first | (rw [← hW0, ← hg]; clear hW0 hg) | (rw [← hW1, ← hgr]; clear hW1; replace hgr := Lib.hid hgr) | (rw [← hW2, ← hG]; clear hW2; replace hG := Lib.hid hG))
  go_loopw [5] (fun t wr => ∃ e : Nat, e ≤ v.m ∧ t = .int .i64 (e : Int) ∧ Hid (∃ vs, PartAt 88 wr G v.m e f.items vs) ∧ Hid (EndAt f.items e) ∧ Hid (Below W1.heap.size W1 wr)) (fun t _ => (intOf t).toNat)
  case atStart => exact ⟨v.m, Nat.le_refl _, rfl, hP0, hEnd, b2h⟩
  case round =>
    clear hP0 hEnd b2h p0 p1 p2
    obtain ⟨e, hem, ht, hP, hE, hb⟩ := hrel
    have hBr := Lib.hid (hB1.out.later hb.out)
    obtain ⟨ez, hez⟩ : ∃ z : Int, z = (e : Int) := ⟨_, rfl⟩
    rw [← hez] at ht
    subst ht
    by_cases he0 : 0 < e
    · have d1 : decide (0 < ez) = true := decide_eq_true (by omega)
      obtain ⟨l, hl⟩ : ∃ l, e = l + 1 := ⟨e - 1, by omega⟩
      subst hl
      have hw1 : wrap64 (ez - 1) = ez - 1 := by unfold wrap64; omega
      have cF := hF1.out l wr hb.out (by omega)
      rw [show (l : Int) = ez - 1 by omega] at cF
      replace cF := Lib.hid cF
      replace hez := Lib.hid hez
      have p0 := hBr.out.c0
      have p1 := hBr.out.c1
      have p2 := hBr.out.c2
      go_wp2_with fail
      refine cF.out.mono ?_; rintro en w3 ⟨s, rfl, hfi, b3⟩
      obtain ⟨vs, hPv⟩ := hP.out
      obtain ⟨hSeg, hEs⟩ := hfi.seg (e := l + 1) hN.out (by omega) (by rw [hil.out]; exact hem) hE.out
      have hsl := hSeg.lt
      have cL := hfill.out s (l + 1) vs w3 (hPv.below b3) hSeg
      rw [← hez.out] at cL
      replace cL := Lib.hid cL
      replace hEs := Lib.hid hEs
      have hb3 := Lib.hid (hb.out.trans (b3.mono hb.out.size))
      clear p0 p1 p2 cF hSeg hfi hPv b3
      go_wp2_with fail
      refine cL.out.mono ?_; rintro en w4 ⟨rfl, hP4, b4⟩
      replace hP4 := Lib.hid hP4
      have hb4 := Lib.hid (hb3.out.trans (b4.below hb3.out.size (by rw [hG.out]; exact Nat.le_refl _)))
      clear b4 cL
      go_wp2_with fail
      exact ⟨⟨s, by omega, rfl, hP4, hEs, hb4⟩, by have := hez.out; simp [intOf]; omega⟩
    · have d1 : decide (0 < ez) = false := decide_eq_false (by omega)
      have h0 : e = 0 := by omega
      subst h0
      replace hez := Lib.hid hez
      obtain ⟨vs, hPv⟩ := hP.out
      have hrows : RowsAt wr (some ⟨G, 0, none⟩) v.m (poM f.items) := ⟨vs, by have := hPv.k.rd; rwa [hPv.l] at this, by rw [← partM_all]; exact hPv.r⟩
      have kR3 := kR.out.below_ (show Below W1.heap.size W1 wr from hb.out)
      have f0 := kR3.c0
      have f1 := kR3.c1
      have g0 := kR3.frozen 0
      have g1 := kR3.frozen 1
      have hcc := kR3.two (.int .i64 (v.m : Int)) (.slice (some ⟨G, 0, none⟩) v.m v.m)
      have hc1 := Lib.hid hcc.1
      have hc2 := Lib.hid hcc.2
      have hrf := Lib.hid (hrows.putB kR3 (fun _ ad e => by injection e with e; subst e; have := hgG.out; show G ≠ gr; omega) (.int .i64 (v.m : Int)) (.slice (some ⟨G, 0, none⟩) v.m v.m))
      have hbf := Lib.hid (((below_trans2 hB1.out.o hb.out).setCell (p := ⟨gr, 0, none⟩) hgw (.int .i64 (v.m : Int))).setCell (p := ⟨gr, 1, none⟩) hgw (.slice (some ⟨G, 0, none⟩) v.m v.m))
      clear hcc hrows kR3 hPv hP
      go_wp2_with fail
      exact bodyPost_ret (v := .agg #[.int .i64 (v.m : Int), .slice (some ⟨G, 0, none⟩) v.m v.m]) (by simp [results, Tryz.results51, go_sem, hc1.out, hc2.out]) rfl ⟨some ⟨G, 0, none⟩, v.m, v.m, rfl, hrf.out, Nat.le_refl _, hbf.out, fun ad e => by injection e with e; subst e; have := hgG.out; show w.heap.size ≤ G; omega⟩
theorem session_Po (v : FV) (f : Fac) (w : World) (hF : FactsAt w v f) (hm : v.m ≤ 4096) (hN : Nbr f.items) :
    Calls Tryz.prog 51 #[.agg #[.slice v.A v.n v.c, .slice v.B v.m v.d, .slice v.C v.k v.e]] w (RetMat1 (v.m : Int) (poM f.items) w) :=
  (session_PoF v f w hF hm hN).mono fun _ _ ⟨A, n, c, he, hr, hc, hb, _⟩ => ⟨A, n, c, he, hr, hc, hb⟩
end Go.Proofs.YtjhjojklfdjmdaaGreat
