/- Words for memory: lists of anything, each in a block of its own, in a row of slices that is written in place; what lies apart from them stays. No function of the program is named. The code's own contracts of layer 10: a map of first writes, Check, Write. The code's own contracts of layer 6, first half: names, slices.Grow, slices.Concat, slices.Equal, slices.EqualFunc at operations; Flat, Same. The contracts of slices.Equal at the parts of facts, and of the code's own Same. The code's own contracts of layer 11: copies of lists, a map of writes whose keys are arrays, what each item reads from, Fill, Whole, Readers. Plain mathematics of layer 12: items of a session are neighbours; what follows for their order and the rows of the matrix. Nothing of the program is named. The code's own contracts of layer 12: known, first, fill, Ahead, Past, Po. The code's own contracts of layer 16: column, chosen (by a function), Of, With, Writes, Kept. The code's own contracts of layer 17, first half: slices.Grow and slices.Concat at conflicts; Edges. -/
import Derived.Test.YtpbiilhclmcehaaClashTellsPk8
import Derived.Test.YtpbiilhclmcehaaClashTellsPk1
import Derived.Test.YtpbiilhclmcehaaClashTellsPk5
import Derived.Maps.OwnSet
import Derived.Maps.OwnOps
import Derived.DeepKeys4
import Derived.Lib.AppendZeros
import Derived.RangeFuncRecord
import Derived.Test.YtpbiilhclmcehaaClashTellsPk6
import Derived.Test.YtpbiilhclmcehaaClashTellsPk2
import Derived.Test.YtpbiilhclmcehaaClashTellsPk3
namespace Go.Proofs.Ytpbiilhclmcehaa
open Go.RowKit
set_option linter.unusedVariables false

/-- lists of a call's own, each in a block of its own -/
structure OwnN {α : Type} (E : Enc α) (T : TypeId) (w : World) (base : Nat) (vs : List Value) (ls : List (List α)) : Prop where
  len : vs.length = ls.length
  row : ∀ (i : Nat) (v : Value) (l : List α), vs[i]? = some v → ls[i]? = some l → (∀ x ∈ l, E.ok x) ∧ w.ownsRow base T E.sz v l.length (E.all l)
  dis : ∀ (i j : Nat) (v u : Value) (b : Nat), vs[i]? = some v → vs[j]? = some u → v.ownBlock = some b → u.ownBlock = some b → i = j
/-- the row of them, n slices at go -/
structure SlotsM {α : Type} (E : Enc α) (tS tE : TypeId) (B go n : Nat) (w : World) (vs : List Value) (ls : List (List α)) : Prop where
  o : w.ownsRow B tS 1 (.slice (some ⟨go, 0, none⟩) n n) n vs
  s : OwnN E tE w B vs ls
/-- block k is neither the row's nor a list's -/
def Apart (go : Nat) (vs : List Value) (k : Nat) : Prop := k ≠ go ∧ ∀ v ∈ vs, v.ownBlock ≠ some k
/-- from w0 to w nothing has changed but the row and its lists -/
structure Mv (go : Nat) (w0 : World) (vs0 : List Value) (w : World) (vs : List Value) : Prop where
  os : w.os = w0.os
  tape : w.tape = w0.tape
  output : w.output = w0.output
  size : w0.heap.size ≤ w.heap.size
  block : ∀ k, k < w0.heap.size → Apart go vs0 k → w.heap[k]? = w0.heap[k]? ∧ Apart go vs k
section
variable {go : Nat} {w0 w w' : World} {vs0 vs vs' : List Value}
theorem Mv.refl (go : Nat) (w : World) (vs : List Value) : Mv go w vs w vs := ⟨rfl, rfl, rfl, Nat.le_refl _, fun k _ h => ⟨rfl, h⟩⟩
theorem Mv.trans (h : Mv go w0 vs0 w vs) (k : Mv go w vs w' vs') : Mv go w0 vs0 w' vs' :=
  ⟨k.os.trans h.os, k.tape.trans h.tape, k.output.trans h.output, Nat.le_trans h.size k.size, fun i hi ha => by
    obtain ⟨h1, h2⟩ := h.block i hi ha
    obtain ⟨h3, h4⟩ := k.block i (Nat.lt_of_lt_of_le hi h.size) h2
    exact ⟨h3.trans h1, h4⟩⟩
theorem Mv.of (go : Nat) (vs : List Value) (h : Below w.heap.size w w') : Mv go w vs w' vs := ⟨h.os, h.tape, h.output, h.size, fun k hk ha => ⟨h.block k hk, ha⟩⟩
theorem Mv.later (h : Mv go w0 vs0 w vs) (hb : Below w.heap.size w w') : Mv go w0 vs0 w' vs := h.trans (Mv.of go vs hb)
theorem Mv.blk {k : Nat} {t : TypeId} {cs : List Value} (h : Mv go w0 vs0 w vs) (hk : Blk w0 k t cs) (ha : Apart go vs0 k) : Blk w k t cs := (h.block k hk.lt ha).1.trans hk
theorem Mv.lat {α : Type} {E : Enc α} {A : Option Addr} {n : Nat} {xs : List α} (h : Mv go w0 vs0 w vs) (hL : LAt E w0 A n xs) (ha : ∀ ad, A = some ad → Apart go vs0 ad.block) : LAt E w A n xs :=
  ⟨hL.1, hL.2.1, fun hn => by
    obtain ⟨b, off, e, hb, hc⟩ := hL.2.2 hn
    exact ⟨b, off, e, Nat.lt_of_lt_of_le hb h.size, fun j u hu => (World.cell?_of_block (w := w0) (h.block b hb (ha _ e)).1).trans (hc j u hu)⟩⟩
end
section
variable {α : Type} {E : Enc α} {tS tE : TypeId} {B go n : Nat} {w w' : World} {vs : List Value} {ls : List (List α)}
theorem OwnN.nils (E : Enc α) (T : TypeId) (w : World) (base n : Nat) : OwnN E T w base (List.replicate n (.slice none 0 0)) (List.replicate n []) := by
  refine ⟨by simp, fun i v l h1 h2 => ?_, fun i j v u b h1 h2 h3 h4 => ?_⟩
  · have e1 := List.eq_of_mem_replicate (List.mem_of_getElem? h1)
    have e2 := List.eq_of_mem_replicate (List.mem_of_getElem? h2)
    subst e1; subst e2
    exact ⟨fun x hx => by simp at hx, World.ownsRow_nil _ _ _ _⟩
  · rw [List.eq_of_mem_replicate (List.mem_of_getElem? h1)] at h3
    cases h3
theorem OwnN.below {base : Nat} {T : TypeId} (h : OwnN E T w base vs ls) (hb : Below w.heap.size w w') : OwnN E T w' base vs ls :=
  ⟨h.len, fun i v l h1 h2 => ⟨(h.row i v l h1 h2).1, own_below (h.row i v l h1 h2).2 hb⟩, h.dis⟩
theorem SlotsM.later (h : SlotsM E tS tE B go n w vs ls) (hb : Below w.heap.size w w') : SlotsM E tS tE B go n w' vs ls := ⟨own_below h.o hb, h.s.below hb⟩
theorem SlotsM.fresh (h : SlotsM E tS tE B go n w vs ls) {k : Nat} (hk : w.heap.size ≤ k) : Apart go vs k := by
  refine ⟨fun e => ?_, fun v hv e => ?_⟩
  · have := (h.o.lt go rfl).2; omega
  · obtain ⟨i, hi, hv⟩ := List.getElem_of_mem hv
    have hil : i < ls.length := by rw [← h.s.len]; exact hi
    have := ((h.s.row i v ls[i] (by rw [← hv]; exact List.getElem?_eq_getElem hi) (List.getElem?_eq_getElem hil)).2.lt k e).2
    omega
theorem SlotsM.vlen (h : SlotsM E tS tE B go n w vs ls) : vs.length = n := by simpa using h.o.1
/-- list s and its slice -/
theorem SlotsM.get (h : SlotsM E tS tE B go n w vs ls) {s : Nat} (hs : s < n) : ∃ A m c l, vs[s]? = some (.slice A m c) ∧ ls[s]? = some l ∧ l.length = m ∧ w.cell? ⟨go, s, none⟩ = some (.slice A m c) ∧ w.frozen? ⟨go, s, none⟩ = false ∧
    w.ownsRow B tE E.sz (.slice A m c) m (E.all l) ∧ (∀ x ∈ l, E.ok x) ∧ m ≤ c ∧ c ≤ 9223372036854775807 ∧ LAt E w A m l := by
  have hvl : s < vs.length := by rw [h.vlen]; exact hs
  have hll : s < ls.length := by rw [← h.s.len]; exact hvl
  have hv := List.getElem?_eq_getElem hvl
  have hl := List.getElem?_eq_getElem hll
  obtain ⟨hok, hr⟩ := h.s.row s _ _ hv hl
  obtain ⟨A, c, e, h1, h2, h3⟩ := LAt.of_own hr hok rfl
  obtain ⟨b', off', u', e', _, hu', hc'⟩ := (Rd.of_own' h.o).at_ hs
  injection e' with e'
  injection e' with e1 e2
  rw [hv] at hu'
  injection hu' with hu'
  subst e1; subst e2
  rw [Nat.zero_add, ← hu', e] at hc'
  refine ⟨A, _, c, ls[s], by rw [hv, e], hl, rfl, hc', ?_, by rw [← e]; exact hr, hok, h1, h2, h3⟩
  rcases h.o.2 with ⟨k1, _⟩ | ⟨k, cap, cur, k1, _, k2, _⟩
  · cases k1
  · injection k1 with k1
    injection k1 with k1
    injection k1 with k1
    subst k1
    simp [World.frozen?, k2]
/-- list s has grown, and its slice is laid in place -/
theorem SlotsM.put {w4 : World} {s : Nat} {v v' : Value} {l l' : List α} (h : SlotsM E tS tE B go n w vs ls) (hne : tS ≠ tE) (hv : vs[s]? = some v) (hl : ls[s]? = some l) (hg : w.grownBy w4 v.ownBlock)
    (hr : w4.ownsRow B tE E.sz v' l'.length (E.all l')) (hok : ∀ x ∈ l', E.ok x) (hb : v'.ownBlock = v.ownBlock ∨ v'.ownBlock = some w.heap.size) :
    SlotsM E tS tE B go n (w4.setCell ⟨go, s, none⟩ v') (vs.set s v') (ls.set s l') ∧ Mv go w vs (w4.setCell ⟨go, s, none⟩ v') (vs.set s v') ∧ w4.cell? ⟨go, s, none⟩ = some v ∧ w4.frozen? ⟨go, s, none⟩ = false := by
  have hsn : s < n := by rw [← h.vlen]; exact (List.getElem?_eq_some_iff.1 hv).1
  have hsv : s < vs.length := (List.getElem?_eq_some_iff.1 hv).1
  have hsl : s < ls.length := (List.getElem?_eq_some_iff.1 hl).1
  obtain ⟨A, m, c, l0, q1, -, -, q2, q3, -⟩ := h.get hsn
  have hrow := (h.s.row s v l hv hl).2
  have hgo := (h.o.lt go rfl).2
  have hgoB : B ≤ go := (h.o.lt go rfl).1
  have hvgo : v.ownBlock ≠ some go := rows_apart h.o hrow hne rfl
  have hgo4 : w4.heap[go]? = w.heap[go]? := hg.block go hgo (fun e => hvgo e.symm)
  have ho4 : w4.ownsRow B tS 1 (.slice (some ⟨go, 0, none⟩) n n) n vs := own_grown h.o hrow hne hg
  have hv'go : v'.ownBlock ≠ some go := by
    rcases hb with e | e
    · rw [e]; exact hvgo
    · rw [e]; intro e2; injection e2 with e2; omega
  have hfresh : ∀ (k : Nat) (x : Value) (b : Nat), vs[k]? = some x → x.ownBlock = some b → b < w.heap.size ∧ b ≠ go := by
    intro k x b hk hx
    have hkl : k < ls.length := by rw [← h.s.len]; exact (List.getElem?_eq_some_iff.1 hk).1
    have h2 := (h.s.row k x ls[k] hk (List.getElem?_eq_getElem hkl)).2
    exact ⟨(h2.lt b hx).2, fun e => rows_apart h.o h2 hne rfl (by rw [hx, e])⟩
  have key : ∀ (k : Nat) (x : Value), k ≠ s → (vs.set s v')[k]? = some x → vs[k]? = some x := fun k x hk h => by rwa [List.getElem?_set_ne (fun e => hk e.symm)] at h
  have self : ∀ (x : Value), (vs.set s v')[s]? = some x → x = v' := fun x h => by rw [List.getElem?_set_self hsv] at h; injection h with h; exact h.symm
  refine ⟨⟨own_put ho4 hsn v', by simp [h.s.len], fun k x p h1 h2 => ?_, fun k j x u b h1 h2 hx hu => ?_⟩, ⟨hg.os, hg.tape, hg.output, by simpa using hg.size, fun k hk ha => ⟨?_, ha.1, fun x hx => ?_⟩⟩, ?_, by
    have q4 := q3
    unfold World.frozen? at q4 ⊢
    rw [show (⟨go, s, none⟩ : Addr).block = go from rfl, hgo4]
    exact q4⟩
  · by_cases hk : s = k
    · subst hk
      rw [List.getElem?_set_self hsv] at h1
      rw [List.getElem?_set_self hsl] at h2
      injection h1 with h1
      injection h2 with h2
      subst h1; subst h2
      exact ⟨hok, ownsRow_setCell_other (a := ⟨go, s, none⟩) hr hv'go v'⟩
    · rw [List.getElem?_set_ne hk] at h1 h2
      obtain ⟨h3, h4⟩ := h.s.row k x p h1 h2
      refine ⟨h3, ownsRow_setCell_other (a := ⟨go, s, none⟩) (h4.kept hg ?_) (rows_apart h.o h4 hne rfl) v'⟩
      cases hxb : x.ownBlock with
      | none => exact .inl rfl
      | some b => exact .inr (fun e => hk (h.s.dis s k v x b hv h1 (by rw [← e]) hxb))
  · by_cases hk : k = s
    · by_cases hj : j = s
      · rw [hk, hj]
      · subst hk
        have e1 := self x h1
        subst e1
        have h2' := key j u hj h2
        rcases hb with hb | hb
        · exact (h.s.dis k j v u b hv h2' (by rw [← hb]; exact hx) hu)
        · have := hfresh j u b h2' hu
          rw [hb] at hx; injection hx with hx
          omega
    · have h1' := key k x hk h1
      by_cases hj : j = s
      · subst hj
        have e1 := self u h2
        subst e1
        rcases hb with hb | hb
        · exact (h.s.dis k j x v b h1' hv hx (by rw [← hb]; exact hu))
        · have := hfresh k x b h1' hx
          rw [hb] at hu; injection hu with hu
          omega
      · exact h.s.dis k j x u b h1' (key j u hj h2) hx hu
  · rw [Below.heap_setCell _ _ _ _ (show k ≠ (⟨go, s, none⟩ : Addr).block from ha.1)]
    exact hg.block k hk (fun e => ha.2 v (List.mem_of_getElem? hv) e.symm)
  · rcases List.mem_or_eq_of_mem_set hx with h1 | h1
    · exact ha.2 x h1
    · subst h1
      rcases hb with e | e
      · rw [e]; exact ha.2 v (List.mem_of_getElem? hv)
      · rw [e]; intro e2; injection e2 with e2; omega
  · rw [World.cell?_of_block (w := w) (a := ⟨go, s, none⟩) hgo4, q2, ← q1, hv]
theorem SlotsM.start (w : World) (tE : TypeId) (hn : n ≤ maxLen) : SlotsM E tS tE w.heap.size w.heap.size n (w.alloc (.cells (zeros n (.slice none 0 0)) tS)) (List.replicate n (.slice none 0 0)) (List.replicate n []) :=
  ⟨own_zeros w n _ _ hn, OwnN.nils E tE _ _ n⟩
end
end Go.Proofs.Ytpbiilhclmcehaa

namespace Go.Proofs.Ytpbiilhclmcehaa
open Go.RowKit Go.Maps
set_option linter.unusedVariables false
end Go.Proofs.Ytpbiilhclmcehaa

namespace Go.Proofs.Ytpbiilhclmcehaa
open Go.RowKit
set_option linter.unusedVariables false
set_option linter.unusedSectionVars false

end Go.Proofs.Ytpbiilhclmcehaa

namespace Go.Proofs.Ytpbiilhclmcehaa
open Go.RowKit
set_option linter.unusedVariables false
end Go.Proofs.Ytpbiilhclmcehaa

namespace Go.Proofs.Ytpbiilhclmcehaa
open Go.RowKit Go.Maps
set_option linter.unusedVariables false
theorem readF_none {frm : List Int} {w : Int} {n : Nat} (h : ∀ i, i < n → ¬ (0 ≤ w ∧ frm.getD i 0 = w)) : readF frm w n = [] := by
  unfold readF readN
  rw [List.filter_eq_nil_iff.2 (fun i hi => by
    have := h i (List.mem_range.1 hi)
    simp only [Bool.and_eq_true, decide_eq_true_eq]
    exact this)]
  rfl
theorem fromF_writes {is : List It} {i : Nat} {w : Int} (hi : i < is.length) (h0 : 0 ≤ w) (h : (fromF is).getD i 0 = w) : ∃ x, is[w.toNat]? = some x ∧ x.wr = true := by
  rw [List.getD_eq_getElem?_getD, fromF_at (List.getElem?_eq_getElem hi)] at h
  have h : fromOne is is[i] = w := h
  unfold fromOne at h
  split at h
  · omega
  · split at h
    · omega
    · cases ho : writeF is (is[i]).va (is[i]).vl with
      | none => rw [ho] at h; simp only at h; omega
      | some k =>
        rw [ho] at h
        simp only at h
        obtain ⟨x, h1, h2, _⟩ := writeF_some ho
        simp only [hitW, Bool.and_eq_true, decide_eq_true_eq] at h2
        exact ⟨x, by rw [← h, Int.toNat_natCast]; exact h1, h2.1⟩
set_option maxRecDepth 100000 in
set_option maxHeartbeats 2000000 in
theorem origin_ReadersF (v : FV) (f : Fac) (x : Int) (w : World) (hF : FactsAt w v f) (hm : v.m ≤ 1048576) (hfr : f.frm = fromF f.items) :
    Calls Try.prog 35 #[.agg #[.slice v.A v.n v.c, .slice v.B v.m v.d, .slice v.C v.k v.e], .int .i64 x] w (fun e w' => ∃ A n c, e = .returned (.slice A n c) ∧ LAt encI w' A n (readF f.frm x f.items.length) ∧ n ≤ c ∧ c ≤ 9223372036854775807 ∧ Below w.heap.size w w' ∧ ∀ ad, A = some ad → w.heap.size ≤ ad.block) := by
  have hil := hF.is.len
  have hfl := hF.fs.len
  have hk : v.k = v.m := by rw [← hfl, ← hil, hfr, fromF_len]
  have hno1 : (∀ y, f.items[x.toNat]? = some y → y.wr = true → 0 ≤ x → False) → readF f.frm x f.items.length = [] := fun h => readF_none (fun i hi hh => by
    rw [hfr] at hh
    obtain ⟨y, h1, h2⟩ := fromF_writes hi hh.1 hh.2
    exact h y h1 h2 hh.1)
  rw [hil] at hno1 ⊢
  obtain ⟨i0, hi, hz0, hz1, hz2⟩ := info_parts info_int2
  have hkv := Lib.hid hk
  replace hi := Lib.hid hi
  replace hz0 := Lib.hid hz0
  replace hz1 := Lib.hid hz1
  replace hz2 := Lib.hid hz2
  clear hk hfr
  replace hil := Lib.hid hil
  replace hfl := Lib.hid hfl
  -- a call with facts v: they are boxed at g, the world is W0 then
  have hB0 := Lib.hid (FBox.new hF)
  obtain ⟨g, hg⟩ : ∃ g, g = w.heap.size := ⟨_, rfl⟩
  obtain ⟨W0, hW0⟩ : ∃ W, W = w.alloc (.cells #[.slice v.A v.n v.c, .slice v.B v.m v.d, .slice v.C v.k v.e] 30) := ⟨_, rfl⟩
  rw [← hW0, ← hg] at hB0
  clear hF
  have p0 := hB0.out.c0
  have p1 := hB0.out.c1
  have p2 := hB0.out.c2
  by_cases hx0 : x < 0
  · have hr := Lib.hid (hno1 (fun y _ _ h => by omega))
    have e0 : decide (x < 0) = true := decide_eq_true hx0
    clear hno1
    go_enter Try.func35, Try.ntmps35
    go_wp2_with (rw [← hW0, ← hg]; clear hW0 hg)
    go_ret
    rw [hr.out]
    exact ⟨none, 0, 0, rfl, LAt.nil _ _ _, Nat.le_refl _, by omega, hB0.out.o, fun ad e => by cases e⟩
  · have e0 : decide (x < 0) = false := decide_eq_false hx0
    by_cases hxm : (v.m : Int) ≤ x
    · have hr := Lib.hid (hno1 (fun y h _ _ => by
        have := (List.getElem?_eq_some_iff.1 h).1
        have := hil.out
        omega))
      have e1 : decide ((v.m : Int) ≤ x) = true := decide_eq_true hxm
      clear hno1
      go_enter Try.func35, Try.ntmps35
      go_wp2_with (rw [← hW0, ← hg]; clear hW0 hg)
      go_ret
      rw [hr.out]
      exact ⟨none, 0, 0, rfl, LAt.nil _ _ _, Nat.le_refl _, by omega, hB0.out.o, fun ad e => by cases e⟩
    · have e1 : decide ((v.m : Int) ≤ x) = false := decide_eq_false hxm
      obtain ⟨m, rfl⟩ : ∃ m : Nat, x = (m : Int) := ⟨x.toNat, by omega⟩
      obtain ⟨ib, io, y, hyB, hib, hy, hyo, i0', i1, i2, i3, i4⟩ := hB0.out.f.is.item (show m < v.m by omega)
      rw [hyB] at p1
      cases hyw : y.wr with
      | false =>
        rw [hyw] at i2
        have hr := Lib.hid (hno1 (fun y' h hw _ => by
          rw [Int.toNat_natCast, hy] at h
          injection h with h
          subst h
          rw [hyw] at hw; cases hw))
        clear hno1 hyB hy hyo hyw
        go_enter Try.func35, Try.ntmps35
        go_wp2_with (rw [← hW0, ← hg]; clear hW0 hg)
        go_ret
        rw [hr.out]
        exact ⟨none, 0, 0, rfl, LAt.nil _ _ _, Nat.le_refl _, by omega, hB0.out.o, fun ad e => by cases e⟩
      | true =>
        rw [hyw] at i2
        clear hno1 hyB hy hyo hyw
        go_enter Try.func35, Try.ntmps35
        go_wp2_with (rw [← hW0, ← hg]; clear hW0 hg)
        clear i0' i1 i2 i3 i4 p0 p1 p2 hib
        go_loopw [5, 29] (fun u t wr => ∃ k : Nat, k ≤ v.k ∧ t = .int .i64 k ∧ Hid (Below W0.heap.size W0 wr) ∧ Hid (wr.ownsRow W0.heap.size 3 1 u (readF f.frm m k).length (encI.all (readF f.frm m k)))) (fun _ t _ => v.k - (intOf t).toNat)
        case atStart => exact ⟨0, Nat.zero_le _, rfl, Lib.hid (Below.refl _ _), Lib.hid (World.ownsRow_nil _ _ _ _)⟩
        case round =>
          obtain ⟨k, hkm, rfl, hb, hown⟩ := hrel
          have hB := Lib.hid (hB0.out.later hb.out)
          have hrl := readF_len f.frm m k
          have hrs := readF_succ f.frm m k
          obtain ⟨L, hL⟩ : ∃ L, L = (readF f.frm m k).length := ⟨_, rfl⟩
          rw [← hL] at hown hrl
          have hkv2 := hkv.out
          by_cases hlt : k < v.k
          · have hlt' : (k : Int) < (v.k : Int) := by omega
            have hkw : (k : Int) + 1 < 9223372036854775808 := by omega
            obtain ⟨ic, jo, z, hzC, hic, hz, hzo, j0⟩ := hB.out.f.fs.int hlt
            rw [hzC]
            have hgd : f.frm.getD k 0 = z := by rw [List.getD_eq_getElem?_getD, hz]; rfl
            rw [hgd] at hrs
            replace hgd := Lib.hid hgd
            replace hkv2 := Lib.hid hkv2
            by_cases hzx : z = (m : Int)
            · rw [if_pos (by simp [hzx])] at hrs
              have e1 : (z == (m : Int)) = true := by simp [hzx]
              obtain ⟨gl, hgl⟩ : ∃ g, g = wr.heap.size := ⟨_, rfl⟩
              obtain ⟨VL, hVL⟩ : ∃ W, W = wr.alloc (.cells #[.int .i64 (k : Int)] 3) := ⟨_, rfl⟩
              have bL : Below wr.heap.size wr VL := by rw [hVL]; exact (Below.refl _ _).alloc (Nat.le_refl _) _
              have hlit := Lib.hid (show LAt encI VL (some ⟨gl, 0, none⟩) 1 [(k : Int)] from by rw [hVL, hgl]; exact LAt.lit1 (E := encI) wr 3 (k : Int) ⟨by omega, by omega⟩)
              have hownL := Lib.hid (own_below hown.out bL)
              have bWL := Lib.hid (below_trans2 hb.out bL)
              have hbase := Lib.hid bWL.out.size
              replace hzx := Lib.hid hzx
              replace hrs := Lib.hid hrs
              replace hL := Lib.hid hL
              have hL22 : L ≤ 1048576 := by have := hkv2.out; omega
              replace hzC := Lib.hid hzC
              clear hz hzo bL hown hlt
              go_wp2_with (first
                | (rw [← hVL, ← hgl]; clear hVL hgl)
                | (at_builtin; refine wpList_append_L (E := encI) rfl (.tmp 37) (.tmp 39) _ rfl W0.heap.size 3 i0 _ 8 Try.underlying28 hi.out hz0.out hz1.out hz2.out rfl _ L (readF f.frm m k) (by rfl) hownL.out _ 1 1 _ rfl hlit.out (by unfold maxLen; omega) (by omega) hbase.out ?_; intro v' w7 hown' hb7 _ _))
              refine ⟨⟨k + 1, by omega, by go_num, Lib.hid (bWL.out.trans hb7), Lib.hid (by rw [hrs.out, List.length_append, ← hL.out]; exact hown')⟩, by simp [intOf]; omega⟩
            · rw [if_neg (by simp [hzx])] at hrs
              have e1 : (z == (m : Int)) = false := by simp [hzx]
              replace hzx := Lib.hid hzx
              replace hrs := Lib.hid hrs
              replace hL := Lib.hid hL
              replace hzC := Lib.hid hzC
              clear hz hzo hlt
              go_wp2_with fail
              exact ⟨⟨k + 1, by omega, by go_num, hb, Lib.hid (by rw [hrs.out, ← hL.out]; exact hown.out)⟩, by simp [intOf]; omega⟩
          · have hlt' : ¬ (k : Int) < (v.k : Int) := by omega
            have hkm : k = v.m := by omega
            subst hkm
            have hfr := Lib.hid (own_lt_block hown.out)
            obtain ⟨A, c, rfl, hnc, hcm, hLA⟩ := LAt.of_own hown.out (fun z hz => by
              have := readF_ok f.frm m v.m z hz
              exact ⟨by omega, by omega⟩) hL.symm
            clear hlt hkv2
            replace hL := Lib.hid hL
            go_wp2_with fail
            go_ret
            exact ⟨A, _, c, rfl, hLA, hnc, hcm, hB.out.o, fun ad e => by subst e; exact Nat.le_trans hB0.out.o.size (hfr.out _ rfl)⟩
end Go.Proofs.Ytpbiilhclmcehaa

namespace Go.Proofs.Ytpbiilhclmcehaa
set_option linter.unusedVariables false

end Go.Proofs.Ytpbiilhclmcehaa

namespace Go.Proofs.Ytpbiilhclmcehaa
open Go.RowKit
set_option linter.unusedVariables false
end Go.Proofs.Ytpbiilhclmcehaa

namespace Go.Proofs.Ytpbiilhclmcehaa
open Go.RowKit
set_option linter.unusedVariables false
theorem filter_range_ext {p q : Nat → Bool} {n N : Nat} (hn : n ≤ N) (h1 : ∀ i, i < n → q i = p i) (h2 : ∀ i, n ≤ i → q i = false) : (List.range N).filter q = (List.range n).filter p := by
  obtain ⟨d, rfl⟩ : ∃ d, N = n + d := ⟨N - n, by omega⟩
  clear hn
  induction d with
  | zero => exact List.filter_congr fun i hi => h1 i (List.mem_range.1 hi)
  | succ d ih => rw [← Nat.add_assoc, List.range_succ, List.filter_append, ih, List.filter_cons_of_neg (by rw [h2 _ (by omega)]; decide)]; simp
theorem colN_mem {a : List (List Nat)} {o : Int} {n i : Nat} : i ∈ colN a o n ↔ i < n ∧ hasM a (i : Int) o = true := by
  unfold colN; rw [List.mem_filter, List.mem_range]
theorem colN_succ (a : List (List Nat)) (o : Int) (n : Nat) : colN a o (n + 1) = if hasM a (n : Int) o = true then colN a o n ++ [n] else colN a o n := by
  unfold colN
  rw [List.range_succ, List.filter_append]
  split
  · rename_i h; rw [List.filter_cons_of_pos (by exact h)]; simp
  · rename_i h; rw [List.filter_cons_of_neg (by exact h)]; simp
/-- the column o as a row of words; no word where there is no such column -/
def colW (a : List (List Nat)) (o : Int) (n : Nat) : List Nat := if 0 ≤ o ∧ o < (n : Int) then setAll (wordsN (n : Int)) (colN a o n) else []
theorem words_all16 (n : Nat) : n ≤ 64 * wordsN (n : Int) := by unfold wordsN wordsZ; split <;> omega
theorem words_small16 {n : Nat} (h : n ≤ 4096) : wordsN (n : Int) ≤ 64 := by unfold wordsN wordsZ; split <;> omega
theorem col_facts (a : List (List Nat)) (o : Int) {n k : Nat} (hk : k ≤ n) : (setAll (wordsN (n : Int)) (colN a o k)).length = wordsN (n : Int) ∧ W64 (setAll (wordsN (n : Int)) (colN a o k)) ∧ ∀ j : Nat, hasR (setAll (wordsN (n : Int)) (colN a o k)) (j : Int) = decide (j ∈ colN a o k) :=
  setAll_facts _ _ fun i hi => by have := (colN_mem.1 hi).1; have := words_all16 n; omega
theorem col_list (a : List (List Nat)) (o : Int) (n : Nat) : listR (setAll (wordsN (n : Int)) (colN a o n)) = colF a o n := by
  obtain ⟨h1, -, h3⟩ := col_facts a o (Nat.le_refl n)
  unfold listR listN colF
  rw [h1, filter_range_ext (p := fun i : Nat => hasM a (i : Int) o) (words_all16 n)]
  · rfl
  · intro i hi
    rw [h3 i, Bool.eq_iff_iff, decide_eq_true_iff, colN_mem]
    exact ⟨fun h => h.2, fun h => ⟨hi, h⟩⟩
  · intro i hi
    rw [h3 i, decide_eq_false_iff_not, colN_mem]
    omega
theorem col_none {a : List (List Nat)} {n : Nat} (hG : Good n a) {o : Int} (h : ¬ (0 ≤ o ∧ o < (n : Int))) : colF a o n = [] := by
  unfold colF colN
  rw [List.filter_eq_nil_iff.2 (fun i hi hh => ?_)]; · rfl
  have hh : hasM a (i : Int) o = true := hh
  have := hG.in_has (i : Int) o
  rw [hh, Bool.and_true] at this
  unfold inM at this
  simp only [Bool.and_eq_true, decide_eq_true_eq] at this
  omega
theorem all_i64v (zs : List Int) : encI.all zs = zs.map i64v := by
  unfold Enc.all encI
  induction zs with
  | nil => rfl
  | cons z zs ih => rw [List.flatMap_cons, ih]; rfl
theorem RetIntsO.il {t : TypeId} {zs : List Int} {w w' : World} {e : Ending} (h : RetIntsO t zs w e w') : RetILF zs w e w' := by
  obtain ⟨A, n, c, rfl, ho, hx, hb⟩ := h
  rw [← all_i64v] at ho
  have hl : zs.length = n := by have := ho.1; rw [Enc.all_len] at this; simpa [encI] using this
  obtain ⟨A2, c2, e, hnc, hcm, hL⟩ := LAt.of_own (E := encI) ho hx hl
  injection e with e1 e2 e3
  subst e1; subst e3
  exact ⟨A, n, c, rfl, hL, hnc, hcm, hb, fun ad e => by subst e; exact own_lt_block ho _ rfl⟩
theorem RetILF.past {zs : List Int} {w0 w w' : World} {e : Ending} (h : RetILF zs w e w') (hb : Below w0.heap.size w0 w) : RetILF zs w0 e w' := by
  obtain ⟨A, n, c, h1, h2, h3, h4, h5, h6⟩ := h
  exact ⟨A, n, c, h1, h2, h3, h4, below_trans2 hb h5, fun ad e => Nat.le_trans hb.size (h6 ad e)⟩
theorem wrap_nat16 {q : Nat} (h : q ≤ 4096) : IntKind.i64.wrap (q : Int) = (q : Int) := by rw [IntKind.wrap_i64]; omega
set_option maxRecDepth 100000 in
set_option maxHeartbeats 1000000 in
theorem past_column (A : Option Addr) (n c : Nat) (a : List (List Nat)) (o : Int) (w : World) (hr : RowsAt w A n a) (hG : Good n a) :
    Calls Try.prog 63 #[.agg #[.int .i64 (n : Int), .slice A n c], .int .i64 o] w (RetRow (colW a o n) w) := by
  have hnn := hG.le
  have hsm := Lib.hid hG.small
  -- a call with the matrix (A n c a): it is boxed at g, the world is W0 then
  have hM0 := Lib.hid (MatK.new (N := (n : Int)) (c := c) w 35 hr)
  obtain ⟨g, hg⟩ : ∃ g, g = w.heap.size := ⟨_, rfl⟩
  obtain ⟨W0, hW0⟩ : ∃ W, W = w.alloc (.cells #[.int .i64 (n : Int), .slice A n c] 35) := ⟨_, rfl⟩
  rw [← hW0, ← hg] at hM0
  have hbo := Lib.hid (show Below w.heap.size w W0 from by rw [hW0]; exact below_alloc _ _)
  by_cases hin : 0 ≤ o ∧ o < (n : Int)
  · have hcw := Lib.hid (show colW a o n = setAll (wordsN (n : Int)) (colN a o n) from if_pos hin)
    obtain ⟨h0, h1⟩ := hin
    have d1 : decide (o < 0) = false := decide_eq_false (by omega)
    have d2 : decide ((n : Int) ≤ o) = false := decide_eq_false (by omega)
    have cN := Lib.hid (row_NewO (n : Int) (by omega) (by omega) W0)
    have m0 := hM0.out.1.c0
    have m1 := hM0.out.1.c1
    go_enter Try.func63, Try.ntmps63
    go_wp2_with (rw [← hW0, ← hg]; clear hW0 hg)
    refine cN.out.mono ?_; rintro e w1 ⟨A1, n1, c1, rfl, hown, hx64, b1⟩
    have hn1 : n1 = wordsN (n : Int) := by have := hown.1; simpa using this.symm
    have hwa := words_all16 n
    have hws := words_small16 hnn
    obtain ⟨nw, hnw⟩ : ∃ nw, nw = wordsN (n : Int) := ⟨_, rfl⟩
    rw [← hnw] at hn1 hwa hws
    subst hn1
    obtain ⟨G, cap, hv, -⟩ := hown.form (by omega)
    injection hv with hv1 hv2 hv3
    subst hv1; subst hv3
    have hfa := Lib.hid (fun k (hk : k ≤ n) => col_facts a o (n := n) (k := k) hk)
    rw [← hnw] at hown hfa hcw
    replace hnw := Lib.hid hnw
    have hown0 := Lib.hid (show w1.ownsRow W0.heap.size 92 1 (.slice (some ⟨G, 0, none⟩) n1 c1) n1 ((setAll n1 (colN a o 0)).map u64v) from hown)
    have hM1 := Lib.hid (hM0.out.below b1)
    have hb1 := Lib.hid b1
    clear hown hx64 b1 m0 m1
    have m0 := hM1.out.1.c0
    have m1 := hM1.out.1.c1
    go_wp2_with fail
    clear m0 m1
    go_loopw [20] (fun t wr => ∃ k : Nat, k ≤ n ∧ t = .int .i64 (k : Int) ∧ Hid (Below W0.heap.size W0 wr) ∧ Hid (wr.ownsRow W0.heap.size 92 1 (.slice (some ⟨G, 0, none⟩) n1 c1) n1 ((setAll n1 (colN a o k)).map u64v))) (fun t _ => n - (intOf t).toNat)
    case atStart => exact ⟨0, Nat.zero_le _, rfl, hb1, hown0⟩
    case round =>
      clear hb1 hown0
      obtain ⟨k, hk, rfl, hb, hown⟩ := hrel
      have hM := Lib.hid (hM0.out.below hb.out)
      have m0 := hM.out.1.c0
      have m1 := hM.out.1.c1
      by_cases hlt : k < n
      · have hlt' : (k : Int) < (n : Int) := by omega
        have hrs := colN_succ a o k
        have cH := mat_Has (n : Int) A n c a (k : Int) o wr hM.out.2 (by omega) (fun r hr => by have := hsm.out r hr; omega) (by omega) (by omega) (by omega) (by omega)
        cases ha : hasM a (k : Int) o with
        | true =>
          rw [ha] at cH
          rw [if_pos ha] at hrs
          replace cH := Lib.hid cH
          obtain ⟨q, hq⟩ : ∃ q, q = k / 64 := ⟨_, rfl⟩
          obtain ⟨r, hre⟩ : ∃ r, r = k % 64 := ⟨_, rfl⟩
          have hql : q < n1 := by omega
          have hr64 : r < 64 := by omega
          obtain ⟨hl1, hl2, -⟩ := hfa.out k (by omega)
          obtain ⟨x, hx⟩ : ∃ x, (setAll n1 (colN a o k))[q]? = some x := ⟨_, List.getElem?_eq_getElem (by omega)⟩
          have hx64 : x < 18446744073709551616 := hl2 x (List.mem_of_getElem? hx)
          have hS := setR_in (m := k) (xs := setAll n1 (colN a o k)) (by rw [hl1]; omega) (by rw [← hq]; exact hx)
          rw [← hq, ← hre, ← setAll_snoc, ← hrs] at hS
          have hE := Lib.hid (u64_or_nat x (p2 r) hx64 (by have := p2_lt r hr64; omega))
          replace hS := Lib.hid hS
          replace hx := Lib.hid hx
          clear hlt ha hrs
          go_wp2_with fail
          refine cH.out.mono ?_; rintro e w3 ⟨rfl, b3⟩
          have hown3 := own_below hown.out b3
          have hb3 := below_trans2 hb.out b3
          have hc : w3.cell? ⟨G, q, none⟩ = some (.int .u64 (x : Int)) := by
            rw [hown3.cellAt _ (by omega), List.getElem?_map, hx.out]; rfl
          have hf := hown3.frozenAt q
          have hGl := Lib.hid (hown3.lt G rfl).1
          clear b3 cH m0 m1
          go_wp2_with fail
          have hq1 : (k : Int).tdiv 64 = (q : Int) := by rw [Int.tdiv_eq_ediv_of_nonneg (by omega)]; omega
          have hr1 : (k : Int).tmod 64 = (r : Int) := by rw [Int.tmod_eq_emod_of_nonneg (by omega)]; omega
          have hwq : IntKind.i64.wrap (q : Int) = (q : Int) := wrap_nat16 (by omega)
          have hwr : IntKind.i64.wrap (r : Int) = (r : Int) := wrap_nat16 (by omega)
          have hA1 : (0 : Int) ≤ (q : Int) := by omega
          have hA2 : (q : Int) < (n1 : Int) := by omega
          refine still_tail 10 (by kernel_rfl) (by kernel_rfl) (fun W hW => ?_)
          have hc' : W.cell? ⟨G, q, none⟩ = some (.int .u64 (x : Int)) := by rw [hW.out]; exact hc
          have hf' : W.frozen? ⟨G, q, none⟩ = false := by rw [hW.out]; exact hf
          have hown' := Lib.hid (show W.ownsRow W0.heap.size 92 1 (.slice (some ⟨G, 0, none⟩) n1 c1) n1 ((setAll n1 (colN a o k)).map u64v) from by rw [hW.out]; exact hown3.drew)
          have hb' := Lib.hid (show Below W0.heap.size W0 W from by rw [hW.out]; exact hb3.drew)
          replace hq := Lib.hid hq
          replace hre := Lib.hid hre
          clear hc hf hb3 hown3 hW
          simp only [List.take_succ_cons, List.take_zero, List.drop_succ_cons, List.drop_zero]
          repeat
            refine @wpStill_step _ _ _ _ _ _ _ ?_
            intro K hK
            go_simp
            refine hK _ ?_
            clear hK K
          refine wpStill_step (fun K hK => ?_)
          go_simp
          refine ⟨_, still_call (word_BitN _ hr64 _), hK _ ?_⟩
          clear hK K
          repeat
            refine @wpStill_step _ _ _ _ _ _ _ ?_
            intro K hK
            go_simp
            refine hK _ ?_
            clear hK K
          refine wpStill_nil ?_
          go_wp2
          go_roundw
          case rel =>
            refine ⟨k + 1, by omega, by go_num, Lib.hid (hb'.out.setCell hGl.out _), Lib.hid ?_⟩
            rw [hE.out, hS.out, List.map_set]
            exact (hown'.out.stored _ _).1
          case measure => simp [intOf]; omega
        | false =>
          rw [ha] at cH
          rw [if_neg (by simp [ha])] at hrs
          replace hrs := Lib.hid hrs
          replace cH := Lib.hid cH
          clear hlt ha
          go_wp2_with fail
          refine cH.out.mono ?_; rintro e w3 ⟨rfl, b3⟩
          have hown3 := Lib.hid (own_below hown.out b3)
          have hb3 := Lib.hid (below_trans2 hb.out b3)
          clear b3 cH m0 m1
          go_wp2_with fail
          exact ⟨⟨k + 1, by omega, by go_num, hb3, Lib.hid (by rw [hrs.out]; exact hown3.out)⟩, by simp [intOf]; omega⟩
      · have hlt' : ¬ (k : Int) < (n : Int) := by omega
        obtain rfl : k = n := by omega
        obtain ⟨hl1, hl2, -⟩ := hfa.out k (by omega)
        have hR := Row.of_own hown.out hl2
        clear hlt hl1 hl2
        go_wp2_with fail
        go_ret
        exact ⟨_, _, _, rfl, by rw [hcw.out]; exact hR, below_trans2 hbo.out hb.out⟩
  · have hcw := Lib.hid (show colW a o n = [] from if_neg hin)
    have m0 := hM0.out.1.c0
    by_cases h0 : o < 0
    · have d1 : decide (o < 0) = true := decide_eq_true h0
      go_enter Try.func63, Try.ntmps63
      go_wp2_with (rw [← hW0, ← hg]; clear hW0 hg)
      go_ret
      exact ⟨none, 0, 0, rfl, by rw [hcw.out]; exact Row.nil _ _, hbo.out⟩
    · have d1 : decide (o < 0) = false := decide_eq_false h0
      have d2 : decide ((n : Int) ≤ o) = true := decide_eq_true (by omega)
      go_enter Try.func63, Try.ntmps63
      go_wp2_with (rw [← hW0, ← hg]; clear hW0 hg)
      go_ret
      exact ⟨none, 0, 0, rfl, by rw [hcw.out]; exact Row.nil _ _, hbo.out⟩
theorem colW_len {a : List (List Nat)} {o : Int} {n : Nat} (h : n ≤ 4096) : (colW a o n).length ≤ 64 := by
  unfold colW
  split
  · rw [(col_facts a o (Nat.le_refl n)).1]; exact words_small16 h
  · exact Nat.zero_le _
theorem past_OfF (A : Option Addr) (n c : Nat) (a : List (List Nat)) (o : Int) (w : World) (hr : RowsAt w A n a) (hG : Good n a) :
    Calls Try.prog 37 #[.agg #[.int .i64 (n : Int), .slice A n c], .int .i64 o] w (RetILF (colF a o n) w) := by
  -- a call with the matrix (A n c a): it is boxed at g, the world is W0 then
  have hM0 := Lib.hid (MatK.new (N := (n : Int)) (c := c) w 35 hr)
  obtain ⟨g, hg⟩ : ∃ g, g = w.heap.size := ⟨_, rfl⟩
  obtain ⟨W0, hW0⟩ : ∃ W, W = w.alloc (.cells #[.int .i64 (n : Int), .slice A n c] 35) := ⟨_, rfl⟩
  rw [← hW0, ← hg] at hM0
  have hbo := Lib.hid (show Below w.heap.size w W0 from by rw [hW0]; exact below_alloc _ _)
  have m0 := hM0.out.1.c0
  have m1 := hM0.out.1.c1
  have cC := Lib.hid (past_column A n c a o W0 hM0.out.2 hG)
  have hl : Hid (listR (colW a o n) = colF a o n) := Lib.hid (by
    unfold colW
    split
    · exact col_list a o n
    · rename_i h; rw [col_none hG h]; rfl)
  have hwl := colW_len (a := a) (o := o) hG.le
  go_enter Try.func37, Try.ntmps37
  go_wp2_with (rw [← hW0, ← hg]; clear hW0 hg)
  refine cC.out.mono ?_; rintro e w1 ⟨A1, n1, c1, rfl, hR, b1⟩
  have hn1 : n1 ≤ 64 := by rw [← hR.len]; exact hwl
  have cL := Lib.hid (row_ListO A1 n1 c1 _ w1 hR (by omega))
  have hb1 := Lib.hid (below_trans2 hbo.out b1)
  clear b1 hR hwl m0 m1
  go_wp2_with fail
  refine cL.out.mono ?_; intro e w2 h2
  have h3 := h2.il
  rw [hl.out] at h3
  obtain ⟨A2, n2, c2, rfl, h4, h5, h6, h7, h8⟩ := h3.past hb1.out
  clear h2
  go_wp2_with fail
  go_ret
  exact ⟨A2, n2, c2, rfl, h4, h5, h6, h7, h8⟩
/-- the numbers of a list whose items fit -/
def chP (p : It → Bool) (is : List It) (z : Int) : Bool := decide (0 ≤ z) && (match is[z.toNat]? with | some x => p x | none => false)
def chF (p : It → Bool) (is : List It) (l : List Int) : List Int := l.filter (chP p is)
theorem chP_at {p : It → Bool} {is : List It} {z : Int} {x : It} (h0 : 0 ≤ z) (h : is[z.toNat]? = some x) : chP p is z = p x := by
  unfold chP; rw [decide_eq_true h0, h]; rfl
theorem chP_out {p : It → Bool} {is : List It} {z : Int} (h : z < 0 ∨ (is.length : Int) ≤ z) : chP p is z = false := by
  unfold chP
  by_cases h0 : 0 ≤ z
  · rw [List.getElem?_eq_none (by omega)]; simp
  · rw [decide_eq_false h0]; rfl
theorem chF_wrs (is : List It) (v : Int) (l : List Int) : chF (fun x => x.wr && decide (x.va = v)) is l = wrsF is v l := by
  unfold chF wrsF
  refine List.filter_congr fun z _ => ?_
  unfold chP wrOK
  cases is[z.toNat]? <;> rfl
set_option maxRecDepth 100000 in
set_option maxHeartbeats 2000000 in
/-- chosen by a function that has a variable of its own -/
theorem past_chosen1 (u : Value) (p : It → Bool) (v : FV) (f : Fac) (B : Option Addr) (m d : Nat) (l : List Int) (w : World) (hF : FactsAt w v f) (hL : LAt encI w B m l) (hm : m ≤ 1048576) (hvm : v.m ≤ 1048576)
    (hp : ∀ (x : It) (W : World), Below w.heap.size w W → Calls Try.prog 61 #[.agg #[.int .i64 x.se, .int .i64 x.pl, .bool x.wr, .int .i64 x.va, .int .i64 x.vl], u] W (RetBool (p x) W)) :
    Calls Try.prog 60 #[.agg #[.slice v.A v.n v.c, .slice v.B v.m v.d, .slice v.C v.k v.e], .slice B m d, .func (.func 61) #[] #[u]] w (RetILF (chF p f.items l) w) := by
  have hil := hF.is.len
  obtain ⟨i0, hi, hz0, hz1, hz2⟩ := info_parts info_int16
  replace hi := Lib.hid hi
  replace hz0 := Lib.hid hz0
  replace hz1 := Lib.hid hz1
  replace hz2 := Lib.hid hz2
  replace hil := Lib.hid hil
  replace hL := Lib.hid hL
  replace hp := Lib.hid hp
  -- a call with facts v: they are boxed at g, the world is W0 then
  have hB0 := Lib.hid (FBox.new hF)
  obtain ⟨g, hg⟩ : ∃ g, g = w.heap.size := ⟨_, rfl⟩
  obtain ⟨W0, hW0⟩ : ∃ W, W = w.alloc (.cells #[.slice v.A v.n v.c, .slice v.B v.m v.d, .slice v.C v.k v.e] 30) := ⟨_, rfl⟩
  rw [← hW0, ← hg] at hB0
  clear hF
  go_enter Try.func60, Try.ntmps60
  go_wp2_with (rw [← hW0, ← hg]; clear hW0 hg)
  go_loopw [7, 12] (fun u t wr => ∃ k : Nat, k ≤ m ∧ t = .int .i64 k ∧ Hid (Below W0.heap.size W0 wr) ∧ Hid (wr.ownsRow W0.heap.size 3 1 u (chF p f.items (l.take k)).length (encI.all (chF p f.items (l.take k))))) (fun _ t _ => m - (intOf t).toNat)
  case atStart => exact ⟨0, Nat.zero_le _, rfl, Lib.hid (Below.refl _ _), Lib.hid (World.ownsRow_nil _ _ _ _)⟩
  case round =>
    obtain ⟨k, hk, rfl, hb, hown⟩ := hrel
    have hB := Lib.hid (hB0.out.later hb.out)
    have hLr := (hL.out.below hB0.out.o).below hb.out
    have p0 := hB.out.c0
    have p1 := hB.out.c1
    have p2 := hB.out.c2
    have hrl : (chF p f.items (l.take k)).length ≤ k := Nat.le_trans (List.length_filter_le _ _) (List.length_take_le _ _)
    obtain ⟨L, hLl⟩ : ∃ L, L = (chF p f.items (l.take k)).length := ⟨_, rfl⟩
    rw [← hLl] at hown hrl
    replace hLl := Lib.hid hLl
    by_cases hlt : k < m
    · have hlt' : (k : Int) < (m : Int) := by omega
      have k0 : 0 ≤ (k : Int) ∧ (k : Int) < (m : Int) := ⟨by omega, hlt'⟩
      obtain ⟨lb, lo, z, rfl, hlb, hz, ⟨z0, z1⟩, j0⟩ := hLr.int hlt
      have hrs : chF p f.items (l.take (k + 1)) = if chP p f.items z = true then chF p f.items (l.take k) ++ [z] else chF p f.items (l.take k) := filter_take hz
      by_cases hzn : 0 ≤ z
      · have d1 : decide (0 ≤ z) = true := decide_eq_true hzn
        by_cases hzm : z < (v.m : Int)
        · have d2 : decide (z < (v.m : Int)) = true := decide_eq_true hzm
          have hzb : 0 ≤ z ∧ z < (v.m : Int) := ⟨hzn, hzm⟩
          obtain ⟨ib, io, it, hxB, hib, hq, -, i0, i1, i2, i3, i4⟩ := hB.out.f.is.item (show z.toNat < v.m by omega)
          rw [hxB] at p1
          rw [chP_at hzn hq] at hrs
          have cP := hp.out it wr (below_trans2 hB0.out.o hb.out)
          replace hzn := Lib.hid hzn
          replace hzm := Lib.hid hzm
          replace hxB := Lib.hid hxB
          cases hpi : p it with
          | true =>
            rw [if_pos hpi] at hrs
            rw [hpi] at cP
            replace hrs := Lib.hid hrs
            replace cP := Lib.hid cP
            clear hlt hz hlb hq hpi
            go_wp2_with fail
            refine cP.out.mono ?_; rintro e w3 ⟨rfl, b3⟩
            have hown3 := Lib.hid (own_below hown.out b3)
            have hb3 := Lib.hid (below_trans2 hb.out b3)
            clear b3 cP p0 p1 p2 i0 i1 i2 i3 i4 j0
            -- 'append(out, z)' (temps 34 36) in the world w3: hown : the row (chF p f.items (l.take k)) of length L (hL), hb : Below W0 .. w3; behind it: hown', hb7
            obtain ⟨gl, hgl⟩ : ∃ g, g = (w3).heap.size := ⟨_, rfl⟩
            obtain ⟨VL, hVL⟩ : ∃ W, W = World.alloc (w3) (.cells #[.int .i64 z] 3) := ⟨_, rfl⟩
            have bL : Below (w3).heap.size (w3) VL := by rw [hVL]; exact (Below.refl _ _).alloc (Nat.le_refl _) _
            have hlit := Lib.hid (show LAt encI VL (some ⟨gl, 0, none⟩) 1 [z] from by rw [hVL, hgl]; exact LAt.lit1 (E := encI) (w3) 3 z ⟨by omega, by omega⟩)
            have hownL := Lib.hid (own_below hown3.out bL)
            have bWL := Lib.hid (below_trans2 hb3.out bL)
            have hbase := Lib.hid bWL.out.size
            clear bL
            go_wp2_with (first
              | (rw [← hVL, ← hgl]; clear hVL hgl)
              | (at_builtin; refine wpList_append_L (E := encI) rfl (.tmp 34) (.tmp 36) _ rfl W0.heap.size 3 i0 _ 8 Try.underlying28 hi.out hz0.out hz1.out hz2.out rfl _ L (chF p f.items (l.take k)) (by rfl) hownL.out _ 1 1 _ rfl hlit.out (by unfold maxLen; omega) (by omega) hbase.out ?_; intro v' w7 hown' hb7 _ _))
            exact ⟨⟨k + 1, by omega, by go_num, Lib.hid (bWL.out.trans hb7), Lib.hid (by rw [hrs.out, List.length_append, ← hLl.out]; exact hown')⟩, by simp [intOf]; omega⟩
          | false =>
            rw [if_neg (by simp [hpi])] at hrs
            rw [hpi] at cP
            replace hrs := Lib.hid hrs
            replace cP := Lib.hid cP
            clear hlt hz hlb hq hpi
            go_wp2_with fail
            refine cP.out.mono ?_; rintro e w3 ⟨rfl, b3⟩
            have hown3 := Lib.hid (own_below hown.out b3)
            have hb3 := Lib.hid (below_trans2 hb.out b3)
            clear b3 cP p0 p1 p2 i0 i1 i2 i3 i4 j0
            go_wp2_with fail
            exact ⟨⟨k + 1, by omega, by go_num, hb3, Lib.hid (by rw [hrs.out, ← hLl.out]; exact hown3.out)⟩, by simp [intOf]; omega⟩
        · have d2 : decide (z < (v.m : Int)) = false := decide_eq_false hzm
          rw [if_neg (by rw [chP_out (.inr (by rw [hil.out]; omega))]; simp)] at hrs
          replace hrs := Lib.hid hrs
          replace hzn := Lib.hid hzn
          replace hzm := Lib.hid hzm
          clear hz hlb
          clear hlt
          go_wp2_with fail
          exact ⟨⟨k + 1, by omega, by go_num, hb, Lib.hid (by rw [hrs.out, ← hLl.out]; exact hown.out)⟩, by simp [intOf]; omega⟩
      · have d1 : decide (0 ≤ z) = false := decide_eq_false hzn
        rw [if_neg (by rw [chP_out (.inl (by omega))]; simp)] at hrs
        replace hrs := Lib.hid hrs
        replace hzn := Lib.hid hzn
        clear hz hlb
        clear hlt
        go_wp2_with fail
        exact ⟨⟨k + 1, by omega, by go_num, hb, Lib.hid (by rw [hrs.out, ← hLl.out]; exact hown.out)⟩, by simp [intOf]; omega⟩
    · have hlt' : ¬ (k : Int) < (m : Int) := by omega
      obtain rfl : k = m := by omega
      have hta : l.take k = l := List.take_of_length_le (by rw [hL.out.len]; omega)
      rw [hta] at hown hLl
      have hfr := Lib.hid (own_lt_block hown.out)
      obtain ⟨A2, c2, rfl, hnc, hcm, hLA⟩ := LAt.of_own hown.out (fun z hz => hL.out.okAll z (List.mem_filter.1 hz).1) hLl.out.symm
      clear hlt hta hLr
      go_wp2_with fail
      go_ret
      exact ⟨A2, L, c2, rfl, hLA, hnc, hcm, below_trans2 hB0.out.o hb.out, fun ad e => by subst e; exact Nat.le_trans hB0.out.o.size (hfr.out _ rfl)⟩
set_option maxRecDepth 100000 in
set_option maxHeartbeats 1000000 in
theorem past_isWrite (x : It) (gv : Nat) (vr : Int) (w : World) (hc : w.cell? ⟨gv, 0, none⟩ = some (.int .i64 vr)) (hl : gv < w.heap.size) :
    Calls Try.prog 61 #[.agg #[.int .i64 x.se, .int .i64 x.pl, .bool x.wr, .int .i64 x.va, .int .i64 x.vl], .pointer (some ⟨gv, 0, none⟩)] w (RetBool (x.wr && decide (x.va = vr)) w) := by
  -- a call with the item x: it is boxed at g, the world is W0 then
  obtain ⟨g, hg⟩ : ∃ g, g = w.heap.size := ⟨_, rfl⟩
  obtain ⟨W0, hW0⟩ : ∃ W, W = w.alloc (.cells #[.int .i64 x.se, .int .i64 x.pl, .bool x.wr, .int .i64 x.va, .int .i64 x.vl] 48) := ⟨_, rfl⟩
  have hbo := Lib.hid (show Below w.heap.size w W0 from by rw [hW0]; exact below_alloc _ _)
  have kI := Lib.hid (show Blk W0 g 48 [.int .i64 x.se, .int .i64 x.pl, .bool x.wr, .int .i64 x.va, .int .i64 x.vl] from by rw [hW0, hg]; exact Blk.new _ _ _)
  have i2 := kI.out.cell 2
  have i3 := kI.out.cell 3
  simp only [List.getElem?_cons_zero, List.getElem?_cons_succ] at i2 i3
  have hv : W0.cell? ⟨gv, 0, none⟩ = some (.int .i64 vr) := by rw [hW0, World.cell?_alloc_lt w _ _ hl]; exact hc
  obtain ⟨s, t, b, a, y⟩ := x
  simp only at i2 i3 ⊢
  have he : (a == vr) = decide (a = vr) := by rw [Bool.eq_iff_iff]; simp
  cases b with
  | true =>
    go_enter Try.func61, Try.ntmps61
    go_wp2_with (rw [← hW0, ← hg]; clear hW0 hg)
    go_ret
    exact ⟨by simp, hbo.out⟩
  | false =>
    go_enter Try.func61, Try.ntmps61
    go_wp2_with (rw [← hW0, ← hg]; clear hW0 hg)
    go_ret
    exact ⟨rfl, hbo.out⟩
set_option maxRecDepth 100000 in
set_option maxHeartbeats 1000000 in
theorem past_WritesF (v : FV) (f : Fac) (B : Option Addr) (m d : Nat) (l : List Int) (vr : Int) (w : World) (hF : FactsAt w v f) (hL : LAt encI w B m l) (hm : m ≤ 1048576) (hvm : v.m ≤ 1048576) :
    Calls Try.prog 36 #[.agg #[.slice v.A v.n v.c, .slice v.B v.m v.d, .slice v.C v.k v.e], .slice B m d, .int .i64 vr] w (RetILF (wrsF f.items vr l) w) := by
  replace hL := Lib.hid hL
  -- a call with facts v: they are boxed at g, the world is W0 then
  have hB0 := Lib.hid (FBox.new hF)
  obtain ⟨g, hg⟩ : ∃ g, g = w.heap.size := ⟨_, rfl⟩
  obtain ⟨W0, hW0⟩ : ∃ W, W = w.alloc (.cells #[.slice v.A v.n v.c, .slice v.B v.m v.d, .slice v.C v.k v.e] 30) := ⟨_, rfl⟩
  rw [← hW0, ← hg] at hB0
  clear hF
  obtain ⟨gv, hgv⟩ : ∃ g, g = W0.heap.size := ⟨_, rfl⟩
  obtain ⟨W1, hW1⟩ : ∃ W, W = W0.alloc (.cells #[.int .i64 vr] 3) := ⟨_, rfl⟩
  have b1 : Below W0.heap.size W0 W1 := by rw [hW1]; exact (Below.refl _ _).alloc (Nat.le_refl _) _
  have kV := Lib.hid (show Blk W1 gv 3 [.int .i64 vr] from by rw [hW1, hgv]; exact Blk.new _ _ _)
  have hB1 := Lib.hid (hB0.out.later b1)
  have hL1 := Lib.hid ((hL.out.below hB0.out.o).below b1)
  have cC := Lib.hid (past_chosen1 (.pointer (some ⟨gv, 0, none⟩)) (fun x => x.wr && decide (x.va = vr)) v f B m d l W1 hB1.out.f hL1.out hm hvm (fun x W hW => past_isWrite x gv vr W (by rw [hW.cell (p := ⟨gv, 0, none⟩) kV.out.lt]; exact kV.out.cell 0) (Nat.lt_of_lt_of_le kV.out.lt hW.size)))
  rw [chF_wrs] at cC
  clear b1
  have p0 := hB1.out.c0
  have p1 := hB1.out.c1
  have p2 := hB1.out.c2
  go_enter Try.func36, Try.ntmps36
  go_wp2_with (first | (rw [← hW0, ← hg]; clear hW0 hg) | (rw [← hW1, ← hgv]; clear hW1 hgv))
  refine cC.out.mono ?_; intro e w2 h2
  obtain ⟨A2, n2, c2, rfl, h4, h5, h6, h7, h8⟩ := h2.past hB1.out.o
  clear h2 p0 p1 p2
  go_wp2_with fail
  go_ret
  exact ⟨A2, n2, c2, rfl, h4, h5, h6, h7, h8⟩
end Go.Proofs.Ytpbiilhclmcehaa

namespace Go.Proofs.Ytpbiilhclmcehaa
open Go.RowKit
set_option linter.unusedVariables false
set_option maxRecDepth 100000 in
set_option maxHeartbeats 2000000 in
/-- slices.Grow(nil, n): no elements, room for n -/
theorem grow_edges (n : Nat) (hn : n ≤ 4398046511104) (w : World) :
    Calls Try.prog 64 #[.slice none 0 0, .int .i64 n] w fun e w' => ∃ v, e = .returned v ∧ w'.ownsRow w.heap.size 46 3 v 0 [] ∧ Below w.heap.size w w' := by
  obtain ⟨i0, hi, hz0, hz1, hz2⟩ := info_parts info_edge
  have h1 : ¬ ((n : Int) < 0) := by omega
  by_cases h0 : n = 0
  · subst h0
    go_enter Try.func64, Try.ntmps64
    go_wp2_with fail
    go_ret
    exact ⟨_, rfl, World.ownsRow_nil _ _ _ _, Below.refl _ _⟩
  · have h4 : (0 : Int) < (n : Int) := by omega
    have hrz : ∀ ty, (Builtin.append_ #[41, 3] ty #[.slice none 0 0, .int .i64 (n : Int)]).run Try.prog w =
        .ok (.slice (some ⟨w.heap.size, 0, none⟩) n (grownCap w n 0 46)) (w.drew.alloc (.cells (Builtin.zeroCells (Value.agg #[.int .i64 0, .int .i64 0, .int .i64 0]).cells n ++ Builtin.zeroCells (Value.agg #[.int .i64 0, .int .i64 0, .int .i64 0]).cells (grownCap w n 0 46 - n)) 46)) := fun ty =>
      Lib.run_append_nil_zeros w 41 3 ty 46 i0 _ .i64 .i64 Try.underlying41 Try.underlying3 hi hz0 n (by omega) (by rw [hz1]; decide) (by omega) (by rw [hz2]; omega)
    have hge : n ≤ grownCap w n 0 46 := grownCap_ge w _ _ _
    have hle : grownCap w n 0 46 ≤ maxLen := grownCap_le_maxLen w n 0 _ (by unfold maxLen; omega)
    obtain ⟨G, hG⟩ : ∃ G, G = grownCap w n 0 46 := ⟨_, rfl⟩
    rw [← hG] at hrz hge hle
    clear hG
    have hG63 : G ≤ 9223372036854775807 := by unfold maxLen at hle; omega
    obtain ⟨Z, hZ⟩ : ∃ Z, Z = Builtin.zeroCells (Value.agg #[.int .i64 0, .int .i64 0, .int .i64 0]).cells n ++ Builtin.zeroCells (Value.agg #[.int .i64 0, .int .i64 0, .int .i64 0]).cells (G - n) := ⟨_, rfl⟩
    have hZs : Z.size = G * 3 := by rw [hZ]; simp [size_zeroCells, Value.cells]; omega
    rw [← hZ] at hrz
    clear hZ
    go_enter Try.func64, Try.ntmps64
    go_wp2_with (at_builtin; refine Lib.wpList_append_run _ rfl _ _ _ _ rfl _ _ rfl rfl _ _ (hrz _) ?_)
    go_ret
    refine ⟨_, rfl, ?_, (((Below.refl _ w).drew).alloc (Nat.le_refl _) _)⟩
    exact ⟨rfl, .inr ⟨_, G, Z, rfl, Nat.le_refl _, World.alloc_heap_new _ _, Nat.zero_le _, hle, hZs, rfl⟩⟩
theorem flatten_take {α : Type} {ls : List (List α)} {k : Nat} {l : List α} (h : ls[k]? = some l) : (ls.take (k + 1)).flatten = (ls.take k).flatten ++ l := by
  rw [List.take_add_one, h, List.flatten_append]; simp
theorem flatten_take_le {α : Type} (ls : List (List α)) (k : Nat) : (ls.take k).flatten.length ≤ ls.flatten.length := by
  conv => rhs; rw [← List.take_append_drop k ls]
  rw [List.flatten_append, List.length_append]; omega
set_option maxRecDepth 100000 in
set_option maxHeartbeats 4000000 in
theorem concat_edges (B go n : Nat) (vs : List Value) (ls : List (List Ed)) (w : World) (hS : SlotsM encE 41 46 B go n w vs ls) (hn : n ≤ 1048576) (hF : ls.flatten.length ≤ 1048576) :
    Calls Try.prog 38 #[.slice (some ⟨go, 0, none⟩) n n] w (RetEL ls.flatten w) := by
  obtain ⟨i0, hi, hz0, hz1, hz2⟩ := info_parts info_edge
  have hll : Hid (ls.length = n) := Lib.hid (by rw [← hS.s.len, hS.vlen])
  have hok : Hid (∀ x ∈ ls.flatten, Ed.Ok x) := Lib.hid (fun x hx => by
    obtain ⟨l, hl, hxl⟩ := List.mem_flatten.1 hx
    obtain ⟨k, hk, rfl⟩ := List.getElem_of_mem hl
    obtain ⟨A, m, c, l, -, h2, -, -, -, -, h7, -⟩ := hS.get (s := k) (by rw [← hll.out]; exact hk)
    rw [List.getElem?_eq_getElem hk] at h2
    injection h2 with h2
    subst h2
    exact h7 x hxl)
  have cG := fun (k : Nat) (hk : k ≤ 4398046511104) (W : World) => grow_edges k hk W
  replace cG := Lib.hid cG
  replace hS := Lib.hid hS
  replace hi := Lib.hid hi
  replace hz0 := Lib.hid hz0
  replace hz1 := Lib.hid hz1
  replace hz2 := Lib.hid hz2
  obtain ⟨FL, hFL⟩ : ∃ z : Nat → List Ed, z = fun k => (ls.take k).flatten := ⟨_, rfl⟩
  have hst : Hid (∀ (k : Nat) (l : List Ed), ls[k]? = some l → FL (k + 1) = FL k ++ l) := Lib.hid (fun k l h => by rw [hFL]; exact flatten_take h)
  have hle : Hid (∀ k, (FL k).length ≤ 1048576) := Lib.hid (fun k => by rw [hFL]; exact Nat.le_trans (flatten_take_le ls k) hF)
  have hzero : Hid (FL 0 = []) := Lib.hid (by rw [hFL]; simp)
  have hend : Hid (FL n = ls.flatten) := Lib.hid (by rw [hFL]; simp only; rw [List.take_of_length_le (by rw [hll.out]; exact Nat.le_refl _)])
  clear hFL
  go_enter Try.func38, Try.ntmps38
  go_wp2_with fail
  go_loop [3, 11] (fun s i => ∃ k N : Nat, k ≤ n ∧ i = .int .i64 k ∧ s = .int .i64 N ∧ Hid (N = (FL k).length)) (fun _ i => n - (intOf i).toNat)
  case atStart => exact ⟨0, 0, Nat.zero_le _, rfl, rfl, Lib.hid (by rw [hzero.out]; rfl)⟩
  case round =>
    obtain ⟨k, N, hk, rfl, rfl, hN⟩ := hrel
    by_cases hlt : k < n
    · obtain ⟨A, m, c, l, -, hl, hlm, hcell, -, -, -, hmc, hm63, -⟩ := hS.out.get hlt
      have hlen := hst.out k l hl
      have hle1 := hle.out (k + 1)
      rw [hlen, List.length_append, hlm, ← hN.out] at hle1
      have hlt' : (k : Int) < (n : Int) := by omega
      have hnn : ¬ ((N : Int) + (m : Int) < 0) := by omega
      have hNm : Hid (N + m = (FL (k + 1)).length) := Lib.hid (by rw [hlen, List.length_append, hlm, ← hN.out])
      clear hlen
      replace hl := Lib.hid hl
      replace hlm := Lib.hid hlm
      replace hmc := Lib.hid hmc
      clear hlt
      go_wp2_with fail
      go_round
      case rel => exact ⟨k + 1, N + m, by omega, by go_num, by go_num, hNm⟩
      case measure => simp [intOf]; omega
    · have hkn : k = n := by omega
      subst hkn
      have hkn' : ¬ (k : Int) < (k : Int) := by omega
      have hN' : N ≤ 4398046511104 := by rw [hN.out]; exact Nat.le_trans (hle.out k) (by omega)
      clear hlt
      have cG1 := Lib.hid (cG.out N hN' w)
      go_wp2_with fail
      refine cG1.out.mono ?_; rintro e w1 ⟨v, rfl, hown1, b1⟩
      replace hown1 := Lib.hid hown1
      replace b1 := Lib.hid b1
      go_wp2_with fail
      go_loopw [6, 27] (fun v i wr => ∃ q : Nat, q ≤ k ∧ i = .int .i64 q ∧ Hid (wr.ownsRow w.heap.size 46 3 v (FL q).length (encE.all (FL q))) ∧ Hid (Below w.heap.size w wr)) (fun _ i _ => k - (intOf i).toNat)
      case atStart => exact ⟨0, Nat.zero_le _, rfl, Lib.hid (by rw [hzero.out]; exact hown1.out), b1⟩
      case round =>
        obtain ⟨q, hq, rfl, hown, hb⟩ := hrel
        have hLq := hle.out q
        obtain ⟨L, hLl⟩ : ∃ L, L = (FL q).length := ⟨_, rfl⟩
        rw [← hLl] at hown hLq
        replace hLl := Lib.hid hLl
        by_cases hlt : q < k
        · obtain ⟨A, m, c, l, -, hl, hlm, hcell, -, -, -, hmc, hm63, hLA⟩ := (hS.out.later hb.out).get hlt
          have hlen := hst.out q l hl
          have hle1 := hle.out (q + 1)
          rw [hlen, List.length_append, hlm, ← hLl.out] at hle1
          have hlt' : (q : Int) < (k : Int) := by omega
          have hbase := Lib.hid hb.out.size
          replace hlen := Lib.hid hlen
          replace hl := Lib.hid hl
          replace hlm := Lib.hid hlm
          replace hmc := Lib.hid hmc
          replace hLA := Lib.hid hLA
          clear hlt
          go_wp2_with (at_builtin; refine wpList_append_L (E := encE) rfl (.tmp 31) (.tmp 32) _ rfl w.heap.size 46 i0 _ 24 Try.underlying41 hi.out hz0.out hz1.out hz2.out rfl _ L (FL q) (by rfl) hown.out _ m c l rfl hLA.out (by unfold maxLen; omega) (by omega) hbase.out ?_; intro v' w7 hown' hb7 _ _)
          exact ⟨⟨q + 1, by omega, by go_num, Lib.hid (by rw [hlen.out, List.length_append, hlm.out, ← hLl.out]; exact hown'), Lib.hid (hb.out.trans hb7)⟩, by simp [intOf]; omega⟩
        · have hqk : q = k := by omega
          subst hqk
          have hlt' : ¬ (q : Int) < (q : Int) := by omega
          obtain ⟨A', c', rfl, hnc, hcm, hLA⟩ := LAt.of_own hown.out (fun z hz => by rw [hend.out] at hz; exact hok.out z hz) hLl.out.symm
          rw [hend.out] at hLA
          replace hLA := Lib.hid hLA
          clear hlt
          go_wp2_with fail
          go_ret
          exact ⟨A', L, c', rfl, hLA.out, hnc, hcm, hb.out⟩
theorem info_edges : (Try.prog.info? 41).map (fun i => (i.zero, i.size, i.bytes)) = some (some (.slice none 0 0), 1, 24) := by kernel_rfl
theorem mk_edges (kl kc : IntKind) (n : Nat) (hc : n ≤ 1099511627776) (W : World) :
    (Instr.makeSlice 73 (.int kl (n : Int)) (.int kc (n : Int))).run Try.prog W = .ok (.slice (some ⟨W.heap.size, 0, none⟩) n n) (W.alloc (.cells (zeros n (.slice none 0 0)) 41)) := by
  obtain ⟨i, hi, hz0, hz1, hz2⟩ := info_parts info_edges
  exact run_make_one _ _ i _ Try.underlying73 hi hz0 hz1 rfl kl kc n n (Nat.le_refl _) (by rw [hz2]; omega) (by omega) W
set_option maxRecDepth 100000 in
set_option maxHeartbeats 8000000 in
theorem clash_Edges (v : FV) (f : Fac) (A : Option Addr) (c : Nat) (a : List (List Nat)) (w : World) (hF : FactsAt w v f) (hr : RowsAt w A v.m a) (hG : Good v.m a) (hm : v.m < 64) (hvc : v.m ≤ c) (hw : WholeF f) (hfr : f.frm = fromF f.items) :
    Calls Try.prog 13 #[.agg #[.slice v.A v.n v.c, .slice v.B v.m v.d, .slice v.C v.k v.e], .agg #[.int .i64 (v.m : Int), .slice A v.m c]] w (RetEL (edgesF f a) w) := by
  have hil := hF.is.len
  have hflat := by0_flat f a
  have hEl := eA_len f a f.items.length f.items.length
  have hEq : edgesF f a = eA f a f.items.length f.items.length := rfl
  rw [← hEq] at hEl
  rw [hil] at hflat hEl
  have hEl2 : (edgesF f a).length ≤ 1048576 := by
    have q1 : v.m * (v.m * v.m) ≤ 64 * (64 * 64) := Nat.mul_le_mul (by omega) (Nat.mul_le_mul (by omega) (by omega))
    omega
  rw [← hflat] at hEl2 ⊢
  clear hflat hEl hEq
  have cO := Lib.hid (fun (i : Nat) (W : World) hW => origin_ReadersF v f (i : Int) W hW (by omega) hfr)
  have cP := Lib.hid (fun (z : Int) (W : World) hW => past_OfF A v.m c a z W hW hG)
  have cW := Lib.hid (fun (B : Option Addr) (m d : Nat) (l : List Int) (vr : Int) (W : World) hW hL hm' => past_WritesF v f B m d l vr W hW hL hm' (by omega))
  rw [hil] at cO
  have hwr : Hid (∀ (k z : Nat), z < v.m → f.frm.getD z 0 = (k : Int) → ∃ x, f.items[k]? = some x ∧ x.wr = true) := Lib.hid (fun k z hz h => by
    rw [hfr] at h
    have := fromF_writes (w := (k : Int)) (by omega) (by omega) h
    rwa [Int.toNat_natCast] at this)
  replace hil := Lib.hid hil
  clear hw hfr hG
  have mkS := mk_edges .i64 .i64 v.m (by omega)
  obtain ⟨i0, hi, hz0, hz1, hz2⟩ := info_parts info_edge
  replace hi := Lib.hid hi
  replace hz0 := Lib.hid hz0
  replace hz1 := Lib.hid hz1
  replace hz2 := Lib.hid hz2
  -- a call with facts v and the matrix (A v.m c a), hr : RowsAt w ..: boxed at g (W0), gm (W1): hB1, hM1
  -- a call with facts v: they are boxed at g, the world is W0 then
  have hB0 := Lib.hid (FBox.new hF)
  obtain ⟨g, hg⟩ : ∃ g, g = w.heap.size := ⟨_, rfl⟩
  obtain ⟨W0, hW0⟩ : ∃ W, W = w.alloc (.cells #[.slice v.A v.n v.c, .slice v.B v.m v.d, .slice v.C v.k v.e] 30) := ⟨_, rfl⟩
  rw [← hW0, ← hg] at hB0
  clear hF
  replace hr := hr.below hB0.out.o
  have hM1 := Lib.hid (MatK.new (N := (v.m : Int)) (c := c) W0 35 hr)
  obtain ⟨gm, hgm⟩ : ∃ g, g = W0.heap.size := ⟨_, rfl⟩
  obtain ⟨W1, hW1⟩ : ∃ W, W = W0.alloc (.cells #[.int .i64 (v.m : Int), .slice A v.m c] 35) := ⟨_, rfl⟩
  rw [← hW1, ← hgm] at hM1
  have hB1 := Lib.hid (hB0.out.later (show Below W0.heap.size W0 W1 from by rw [hW1]; exact below_alloc _ _))
  clear hr hB0
  obtain ⟨go, hgo⟩ : ∃ g, g = W1.heap.size := ⟨_, rfl⟩
  obtain ⟨W2, hW2⟩ : ∃ W, W = W1.alloc (.cells (zeros v.m (.slice none 0 0)) 41) := ⟨_, rfl⟩
  have b2 := Lib.hid (show Below W1.heap.size W1 W2 from by rw [hW2]; exact below_alloc _ _)
  have hS2 := Lib.hid (show SlotsM encE 41 46 W1.heap.size go v.m W2 (List.replicate v.m (.slice none 0 0)) (by0 f a v.m 0) from by rw [hW2, hgo, by0_zero]; exact SlotsM.start W1 _ (by unfold maxLen; omega))
  obtain ⟨vB, hvB⟩ : ∃ b, b = v.B := ⟨_, rfl⟩
  have hF1 : Hid (∀ W, FBox w g v f W → W.cell? ⟨g, 0, none⟩ = some (.slice v.A v.n v.c) ∧ W.cell? ⟨g, 1, none⟩ = some (.slice vB v.m v.d) ∧ W.cell? ⟨g, 2, none⟩ = some (.slice v.C v.k v.e)) := Lib.hid (fun W h => ⟨h.c0, by rw [hvB]; exact h.c1, h.c2⟩)
  rw [← hvB] at cO cW hW0 ⊢
  replace hvB := Lib.hid hvB
  obtain ⟨p0, p1, p2⟩ := hF1.out W1 hB1.out
  go_enter Try.func13, Try.ntmps13
  go_wp2_with (first | (rw [← hW0, ← hg]; clear hW0 hg) | (rw [← hW1, ← hgm]; clear hW1 hgm) | (rw [← hW2, ← hgo]; clear hW2; replace hgo := Lib.hid hgo; obtain ⟨q0, q1, q2⟩ := hF1.out W2 (hB1.out.later b2.out)))
  clear p0 p1 p2 q0 q1 q2 mkS
  go_loopw [19] (fun t wr => ∃ (k : Nat) (vs : List Value), k ≤ v.m ∧ t = .int .i64 (k : Int) ∧ Hid (Below W1.heap.size W1 wr) ∧ Hid (SlotsM encE 41 46 W1.heap.size go v.m wr vs (by0 f a v.m k))) (fun t _ => v.m - (intOf t).toNat)
  case atStart => exact ⟨0, _, Nat.zero_le _, rfl, b2, hS2⟩
  case round =>
    obtain ⟨k, vs, hk, rfl, hb, hS⟩ := hrel
    have hB := Lib.hid (hB1.out.later hb.out)
    by_cases hlt : k < v.m
    · have hlt' : (k : Int) < (v.m : Int) := by omega
      have k0 : 0 ≤ (k : Int) ∧ (k : Int) < (v.m : Int) := ⟨by omega, hlt'⟩
      obtain ⟨ib, io, x, hxB, hib, hx, -, i0', i1, i2, i3, i4⟩ := hB.out.f.is.item hlt
      have hvb : vB = some ⟨ib, io, none⟩ := hvB.out.trans hxB
      subst hvb
      obtain ⟨p0, p1, p2⟩ := hF1.out wr hB.out
      replace hxB := Lib.hid hxB
      obtain ⟨gx, hgx⟩ : ∃ g, g = wr.heap.size := ⟨_, rfl⟩
      obtain ⟨W3, hW3⟩ : ∃ W, W = wr.alloc (.cells #[.int .i64 x.se, .int .i64 x.pl, .bool x.wr, .int .i64 x.va, .int .i64 x.vl] 48) := ⟨_, rfl⟩
      have b3 : Below wr.heap.size wr W3 := by rw [hW3]; exact (Below.refl _ _).alloc (Nat.le_refl _) _
      have hX3 := Lib.hid (show Blk W3 gx 48 [.int .i64 x.se, .int .i64 x.pl, .bool x.wr, .int .i64 x.va, .int .i64 x.vl] from by rw [hW3, hgx]; exact Blk.new wr _ _)
      have hgx3 := Lib.hid (show Apart go vs gx from hS.out.fresh (by rw [hgx]; exact Nat.le_refl _))
      have hB3 := Lib.hid (hB.out.later b3)
      have hS3 := Lib.hid (hS.out.later b3)
      have hb3 := Lib.hid (below_trans2 hb.out b3)
      replace hx := Lib.hid hx
      clear hlt hib
      go_wp2_with (rw [← hW3, ← hgx]; clear hW3 hgx b3; obtain ⟨q0, q1, q2⟩ := hF1.out W3 hB3.out)
      clear p0 p1 p2 q0 q1 q2 i0' i1 i2 i3 i4
      refine (cO.out k W3 hB3.out.f).mono ?_; rintro e wR ⟨D, nr, dr, rfl, hL, hnd, hdm, bR, hDn⟩
      have hXR := Lib.hid (hX3.out.below bR hX3.out.lt)
      have hxa := Lib.hid (show Apart go vs gx from hgx3.out)
      have hDa := Lib.hid (show ∀ ad, D = some ad → Apart go vs ad.block from fun ad e => hS3.out.fresh (hDn ad e))
      have hSR := Lib.hid (hS3.out.later bR)
      have hbR := Lib.hid (below_trans2 hb3.out bR)
      have hLR := Lib.hid hL
      have hrl := Lib.hid (show (readF f.frm (k : Int) v.m).length = nr from hL.len)
      have hrn : nr ≤ v.m := by rw [← hrl.out]; exact readF_len _ _ _
      obtain ⟨rs, hrs⟩ : ∃ rs, rs = readF f.frm (k : Int) v.m := ⟨_, rfl⟩
      rw [← hrs] at hLR hrl
      replace hrs := Lib.hid hrs
      clear hL bR hDn hB hb hS hB3 hS3 hb3 hX3 hgx3
      go_wp2_with fail
      go_loopw [28] (fun t wr => ∃ (q : Nat) (vs' : List Value), q ≤ nr ∧ t = .int .i64 (q : Int) ∧ Hid (Below W1.heap.size W1 wr) ∧ Hid (SlotsM encE 41 46 W1.heap.size go v.m wr vs' (by1 f a v.m k (rs.take q))) ∧ Hid (Mv go wR vs wr vs')) (fun t _ => nr - (intOf t).toNat)
      case atStart => exact ⟨0, vs, Nat.zero_le _, rfl, hbR, Lib.hid (by rw [List.take_zero, by1_nil]; exact hSR.out), Lib.hid (Mv.refl _ _ _)⟩
      case round =>
        clear hbR hSR
        obtain ⟨q, vs1, hq, rfl, hb, hS, hMv⟩ := hrel
        have hB := Lib.hid (hB1.out.later hb.out)
        by_cases hlq : q < nr
        · have hlq' : (q : Int) < (nr : Int) := by omega
          have q0 : 0 ≤ (q : Int) ∧ (q : Int) < (nr : Int) := ⟨by omega, hlq'⟩
          obtain ⟨rb, ro, z, rfl, hrb, hz, -, r0⟩ := (hMv.out.lat hLR.out hDa.out).int hlq
          have hzz := readF_at (show (readF f.frm (k : Int) v.m)[q]? = some z by rw [← hrs.out]; exact hz)
          obtain ⟨r, rfl⟩ : ∃ r : Nat, z = (r : Int) := ⟨z.toNat, by omega⟩
          rw [Int.toNat_natCast] at hzz
          have hrm : r < v.m := by omega
          have hfrm := Lib.hid hzz.2.2.2
          obtain ⟨x', hx', hxw⟩ := hwr.out k r hrm hfrm.out
          obtain rfl : x' = x := by have h := hx.out; rw [hx'] at h; injection h
          have hxw' := Lib.hid hxw
          replace hx' := Lib.hid hx'
          replace hz := Lib.hid hz
          clear hzz hxw hlq hrb
          go_wp2_with fail
          refine wp_region_plan 9 [(true, 0), (true, 1), (true, 2), (true, 4), (true, 5), (true, 8), (false, 3), (false, 6), (true, 7)] (by kernel_rfl) (by kernel_rfl) (fun U hU => ?_)
          have hU' : Below wr.heap.size wr U := by rw [hU.out]; exact (Below.refl _ _).drew
          have hBU := Lib.hid (hB.out.later hU')
          have hSU := Lib.hid (hS.out.later hU')
          have hMU := Lib.hid (hMv.out.later hU')
          have hbU := Lib.hid (below_trans2 hb.out hU')
          have hmU := Lib.hid (hM1.out.below hbU.out)
          have hXU := Lib.hid (hMU.out.blk hXR.out hxa.out)
          clear hU hU' r0 hB hS hMv hb
          simp only [List.drop_succ_cons, List.drop_nil]
          obtain ⟨p0, p1, p2⟩ := hF1.out U hBU.out
          have m0 := hmU.out.1.c0
          have m1 := hmU.out.1.c1
          have x3 := hXU.out.cell 3
          simp only [List.getElem?_cons_zero, List.getElem?_cons_succ] at x3
          iterate 6
            refine wpPlan_float (v := ?_) rfl (by rfl) (fun w' hw' => ?_) (fun K hK => ?_)
            rotate_left
            · (go_simp; try with_reducible rfl)
            go_simp
            refine hK _ ?_
            clear hK K
          clear p0 p1 p2 m0 m1 x3
          refine wpPlan_only rfl (by rfl) (fun K hK => ?_)
          go_simp
          refine (cP.out (r : Int) U hmU.out.2).mono ?_
          rintro e y1 ⟨D1, n1, d1, rfl, hL1, hn1, hd1, b1, hD1⟩
          refine hK _ _ b1 ?_
          clear hK K
          have hl1 : n1 ≤ v.m := by rw [← hL1.len]; unfold colF colN; rw [List.length_map]; exact Nat.le_trans (List.length_filter_le _ _) (by simp)
          refine wpPlan_only rfl (by rfl) (fun K hK => ?_)
          go_simp
          refine (cW.out D1 n1 d1 _ x'.va y1 (hBU.out.later b1).f hL1 (by omega)).mono ?_
          rintro e y2 ⟨D2, n2, d2, rfl, hL2, hn2, hd2, b2', hD2⟩
          refine hK _ _ b2' ?_
          clear hK K
          have b12 := below_trans2 b1 b2'
          have hBy := Lib.hid (hBU.out.later b12)
          have hSy := Lib.hid (hSU.out.later b12)
          have hMy := Lib.hid (hMU.out.later b12)
          have hby := Lib.hid (below_trans2 hbU.out b12)
          have hDa2 := Lib.hid (show ∀ ad, D2 = some ad → Apart go vs1 ad.block from fun ad e => (hSU.out.later b1).fresh (hD2 ad e))
          have hnd := wrs_nodup f.items x'.va a (r : Int) v.m
          have hn2m : n2 ≤ v.m := by rw [← hL2.len]; exact wrs_len _ _ _ _ _
          obtain ⟨ws, hws⟩ : ∃ ws, ws = wrsF f.items x'.va (colF a (r : Int) v.m) := ⟨_, rfl⟩
          rw [← hws] at hL2 hnd
          have hwl := Lib.hid hL2.len
          have hws2 : Hid (∀ z ∈ ws, ∃ i : Nat, i < v.m ∧ z = (i : Int)) := Lib.hid (fun z hz => by
            rw [hws] at hz
            obtain ⟨i, y, h1, h2, -⟩ := mem_wrs.1 hz
            exact ⟨i, h1, h2⟩)
          replace hws := Lib.hid hws
          replace hL2 := Lib.hid hL2
          replace hnd := Lib.hid hnd
          clear hL1 hD1 hD2 b1 b2' b12 hBU hSU hMU hbU hmU hXU hl1 hn1 hd1
          iterate 1
            refine wpPlan_float (v := ?_) rfl (by rfl) (fun w' hw' => ?_) (fun K hK => ?_)
            rotate_left
            · (go_simp; try with_reducible rfl)
            go_simp
            refine hK _ ?_
            clear hK K
          refine wpPlan_nil (NoPanic.normal ?_)
          go_wp2_with fail
          go_loopw [40] (fun t wr => ∃ (j : Nat) (vs' : List Value), j ≤ n2 ∧ t = .int .i64 (j : Int) ∧ Hid (Below W1.heap.size W1 wr) ∧ Hid (SlotsM encE 41 46 W1.heap.size go v.m wr vs' (by2 f a v.m k (rs.take q) (r : Int) (ws.take j))) ∧ Hid (Mv go y2 vs1 wr vs')) (fun t _ => n2 - (intOf t).toNat)
          case atStart => exact ⟨0, vs1, Nat.zero_le _, rfl, hby, Lib.hid (by rw [List.take_zero, by2_nil]; exact hSy.out), Lib.hid (Mv.refl _ _ _)⟩
          case round =>
            clear hby hSy hBy
            obtain ⟨j, vs2, hj, rfl, hb, hS, hMv⟩ := hrel
            by_cases hlj : j < n2
            · have hlj' : (j : Int) < (n2 : Int) := by omega
              have j0 : 0 ≤ (j : Int) ∧ (j : Int) < (n2 : Int) := ⟨by omega, hlj'⟩
              obtain ⟨wb, wo, z, rfl, hwb, hz, -, s0⟩ := (hMv.out.lat hL2.out hDa2.out).int hlj
              obtain ⟨s, hsm, rfl⟩ := hws2.out z (List.mem_of_getElem? hz)
              have s1 : 0 ≤ (s : Int) ∧ (s : Int) < (v.m : Int) := by omega
              by_cases hsk : s = k
              · have e0 : ((s : Int) != (k : Int)) = false := by simp [hsk]
                have hst := Lib.hid (by2_skip (f := f) (M := a) (n := v.m) (rs := rs.take q) (z := (r : Int)) hnd.out (show ws[j]? = some (k : Int) by rw [← hsk]; exact hz))
                replace hz := Lib.hid hz
                replace hsk := Lib.hid hsk
                clear hlj hwb
                go_wp2_with fail
                exact ⟨⟨j + 1, vs2, by omega, by go_num, hb, Lib.hid (by rw [hst.out]; exact hS.out), hMv⟩, by simp [intOf]; omega⟩
              · have e0 : ((s : Int) != (k : Int)) = true := by simp; omega
                have hst := Lib.hid (by2_step (f := f) (M := a) (rs := rs.take q) (z := (r : Int)) hsm hnd.out hz hsk)
                have hat := by2_at (f := f) (M := a) (n := v.m) (k := k) (rs := rs.take q) (z := (r : Int)) (ws := ws.take j) hsm
                have hll := by2_len f a (n := v.m) (k := k) (s := s) (q := q) (j := j) (rs := rs) (z := (r : Int)) (ws := ws) (by omega) hk (by rw [hrl.out]; exact hrn)
                obtain ⟨Lv, hLv⟩ : ∃ l, l = ((eB f a s v.m k ++ eZ f a s k (rs.take q)) ++ oneE s k (r : Int) (ws.take j)) := ⟨_, rfl⟩
                rw [← hLv] at hat hll
                have hst2 := Lib.hid (show (by2 f a v.m k (rs.take q) (r : Int) (ws.take j)).set s (Lv ++ [⟨(s : Int), (k : Int), (r : Int)⟩]) = by2 f a v.m k (rs.take q) (r : Int) (ws.take (j + 1)) by rw [hLv]; exact hst.out)
                replace hLv := Lib.hid hLv
                obtain ⟨Ai, Mi, ci, l, hvi, hli, hlm, c0, fz0, hown, hokl, hmc, hc63, -⟩ := hS.out.get hsm
                obtain rfl : l = Lv := by rw [hat] at hli; injection hli with h; exact h.symm
                rw [hlm] at hll
                replace hz := Lib.hid hz
                replace hsk := Lib.hid hsk
                replace hat := Lib.hid hat
                replace hvi := Lib.hid hvi
                replace hokl := Lib.hid hokl
                replace hlm := Lib.hid hlm
                replace hmc := Lib.hid hmc
                clear hlj hwb hst hli fz0
                obtain ⟨gl, hgl⟩ : ∃ g, g = wr.heap.size := ⟨_, rfl⟩
                obtain ⟨VL, hVL⟩ : ∃ W, W = World.alloc wr (.cells #[.int .i64 (s : Int), .int .i64 (k : Int), .int .i64 (r : Int)] 46) := ⟨_, rfl⟩
                have bL : Below wr.heap.size wr VL := by rw [hVL]; exact (Below.refl _ _).alloc (Nat.le_refl _) _
                have hokn : Hid (Ed.Ok ⟨(s : Int), (k : Int), (r : Int)⟩) := Lib.hid ⟨by simp only; omega, by simp only; omega, by simp only; omega, by simp only; omega, by simp only; omega, by simp only; omega⟩
                have hlit := Lib.hid (show LAt encE VL (some ⟨gl, 0, none⟩) 1 [⟨(s : Int), (k : Int), (r : Int)⟩] from by rw [hVL, hgl]; exact LAt.lit1 (E := encE) wr 46 ⟨(s : Int), (k : Int), (r : Int)⟩ hokn.out)
                have hownL := Lib.hid (own_below hown bL)
                have hSL := Lib.hid (hS.out.later bL)
                have hML := Lib.hid (hMv.out.later bL)
                have bWL := Lib.hid (below_trans2 hb.out bL)
                have hbase := Lib.hid bWL.out.size
                have hgoB := Lib.hid (hS.out.o.lt go rfl).1
                clear bL hown
                go_wp2_with (first
                  | (rw [← hVL, ← hgl]; clear hVL hgl)
                  | (at_builtin; refine wpList_append_L (E := encE) rfl (.tmp 52) (.tmp 57) _ rfl W1.heap.size 46 i0 _ 24 Try.underlying41 hi.out hz0.out hz1.out hz2.out rfl _ Mi l (by rfl) hownL.out _ 1 1 _ rfl hlit.out (by unfold maxLen; omega) (by omega) hbase.out ?_; intro v' w7 hown' hb7 hg7 hob7; obtain ⟨A5, c5, rfl, h51, h52, -⟩ := LAt.of_own hown' (fun x hx => (List.mem_append.1 hx).elim (hokl.out x) (fun h => by rw [List.mem_singleton.1 h]; exact hokn.out)) (by rw [List.length_append, hlm.out]; rfl); obtain ⟨hS7, hM7, c7, f7⟩ := hSL.out.put (by decide) hvi.out hat.out hg7 (v' := .slice A5 (Mi + 1) c5) (l' := l ++ [⟨(s : Int), (k : Int), (r : Int)⟩]) (by rw [List.length_append, hlm.out]; exact hown') (fun x hx => (List.mem_append.1 hx).elim (hokl.out x) (fun h => by rw [List.mem_singleton.1 h]; exact hokn.out)) hob7; replace hS7 := Lib.hid hS7; replace hM7 := Lib.hid hM7; have hb8 := Lib.hid ((bWL.out.trans hb7).setCell (p := ⟨go, s, none⟩) hgoB.out (.slice A5 (Mi + 1) c5)); clear hown' hb7 hg7 hob7 c0 s0))
                exact ⟨⟨j + 1, vs2.set s (.slice A5 (Mi + 1) c5), by omega, by go_num, hb8, Lib.hid (by rw [← hst2.out]; exact hS7.out), Lib.hid (hML.out.trans hM7.out)⟩, by simp [intOf]; omega⟩
            · have hjn : j = n2 := by omega
              subst hjn
              have hlj' : ¬ (j : Int) < (j : Int) := by omega
              have hall : ws.take j = ws := List.take_of_length_le (by rw [hwl.out]; exact Nat.le_refl _)
              have hend := Lib.hid (by2_all (M := a) (n := v.m) (rs := rs) hil.out hx'.out hxw'.out hfrm.out hz.out)
              rw [hall, hws.out, hend.out] at hS
              have hM2 := Lib.hid (hMy.out.trans hMv.out)
              clear hlj hall
              go_wp2_with fail
              exact ⟨⟨q + 1, vs2, by omega, by go_num, hb, hS, hM2⟩, by simp [intOf]; omega⟩
        · have hqn : q = nr := by omega
          subst hqn
          have hlq' : ¬ (q : Int) < (q : Int) := by omega
          have hall : rs.take q = rs := List.take_of_length_le (by rw [hrl.out]; exact Nat.le_refl _)
          rw [hall, hrs.out, by1_all] at hS
          clear hlq hall
          go_wp2_with fail
          exact ⟨⟨k + 1, vs1, by omega, by go_num, hb, hS⟩, by simp [intOf]; omega⟩
    · have hkn : k = v.m := by omega
      subst hkn
      have hlt' : ¬ (v.m : Int) < (v.m : Int) := by omega
      have cC := Lib.hid (concat_edges W1.heap.size go v.m vs _ wr hS.out (by omega) hEl2)
      clear hlt
      go_wp2_with fail
      refine cC.out.mono ?_; rintro e w9 ⟨E, ne, ce, rfl, hL, hnc, hcm, b9⟩
      have hbb := Lib.hid (below_trans2 hB.out.o b9)
      go_wp2_with fail
      go_ret
      exact ⟨E, ne, ce, rfl, hL, hnc, hcm, hbb.out⟩
end Go.Proofs.Ytpbiilhclmcehaa
