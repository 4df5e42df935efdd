/- A region that draws its order, by a plan (XPlan), in which some blocks of the caller's may change (those of a predicate): what reads must not read it. No function of the program is named here. The contract of the document's own answer of layer 19: early. The contract of the document's own answer of layer 19: between. The contracts of the document's own answers of layer 18: New. The contract of the document's own answer of layer 18: Of. -/
import Derived.Test.YtjhjojklfdjmdaaGreatBadTellsPk3
import Derived.Test.YtjhjojklfdjmdaaGreatBadTellsPk1
import Derived.Test.YtjhjojklfdjmdaaGreatBadTellsPk6
import Derived.Test.YtjhjojklfdjmdaaGreatBadTellsPk4
import Derived.Test.YtjhjojklfdjmdaaGreatBadTellsPk5
namespace Go.Proofs.YtjhjojklfdjmdaaGreat
set_option maxRecDepth 100000
set_option maxHeartbeats 8000000
open Go.RowKit
set_option linter.unusedVariables false

structure BelowP (S : Nat → Prop) (w w' : World) : Prop where
 os : w'.os = w.os
 tape : w'.tape = w.tape
 output : w'.output = w.output
 size : w.heap.size ≤ w'.heap.size
 block : ∀ k, k < w.heap.size → ¬ S k → w'.heap[k]? = w.heap[k]?
theorem BelowP.refl (S : Nat → Prop) (w : World) : BelowP S w w := ⟨rfl, rfl, rfl, Nat.le_refl _, fun _ _ _ => rfl⟩
theorem BelowP.trans {S : Nat → Prop} {a b c : World} (h : BelowP S a b) (k : BelowP S b c) : BelowP S a c :=
 ⟨k.os.trans h.os, k.tape.trans h.tape, k.output.trans h.output, Nat.le_trans h.size k.size, fun i hi hg => (k.block i (Nat.lt_of_lt_of_le hi h.size) hg).trans (h.block i hi hg)⟩
theorem BelowP.cell {S : Nat → Prop} {w w' : World} (h : BelowP S w w') {p : Addr} (hp : p.block < w.heap.size) (hg : ¬ S p.block) : w'.cell? p = w.cell? p := World.cell?_of_block (w := w) (h.block p.block hp hg)
theorem BelowP.set {S : Nat → Prop} {w w' : World} (h : BelowP S w w') {p : Addr} (hp : S p.block) (u : Value) : BelowP S w (w'.setCell p u) :=
 ⟨h.os, h.tape, h.output, by simpa using h.size, fun k hk hn => (Below.heap_setCell w' p u k (fun e => hn (by rw [e]; exact hp))).trans (h.block k hk hn)⟩
section
variable {gb : Nat → Prop} {P : Program} {ops : Array Oper} {md : Region.Mode} {Q : Exit → Act → World → Prop}

def wpAnyP (gb : Nat → Prop) (P : Program) (md : Region.Mode) (ops : Array Oper) (Q : Exit → Act → World → Prop) (n : Nat) (F : Array Bool → Act → World → Prop) : Nat → Array Bool → Act → World → Prop
 | 0, listed, a, w => F listed a w
 | f + 1, listed, a, w => Region.ready md ops listed ≠ [] ∧ ∀ i ∈ Region.ready md ops listed, i < n ∧ wpOp P ops Q i (fun a' w' => BelowP gb w w' ∧ wpAnyP gb P md ops Q n F f (listed.setIfInBounds i true) a' w') a w

theorem wpAny_of_P {n g : Nat} {F : Array Bool → Act → World → Prop} (hF : ∀ listed a w, F listed a w → wpAny P md ops Q g listed a w) :
  ∀ (f : Nat) (listed : Array Bool) (a : Act) (w : World), wpAnyP gb P md ops Q n F f listed a w → wpAny P md ops Q (f + g) listed a w
 | 0, _, _, _, h => by rw [Nat.zero_add]; exact hF _ _ _ h
 | f + 1, listed, a, w, h => by
  rw [show f + 1 + g = (f + g) + 1 by omega];exact ⟨fun h0 => absurd h0 h.1, fun i hi => wpOp_mono (fun a' w' h' => wpAny_of_P hF f _ a' w' h'.2) (h.2 i hi).2⟩

theorem belowP_of {w w' w'' : World} (h : BelowP gb w w') (h' : BelowP gb w' w'') : BelowP gb w w'' := h.trans h'
theorem yieldsP_later {w w' : World} {o : Oper} {v : Value} {a : Act} (hb : BelowP gb w w') (h : YieldsIf P ops (fun x => BelowP gb w x) o v a) : YieldsIf P ops (fun x => BelowP gb w' x) o v a :=
 h.imp (fun ⟨h1, h2⟩ => ⟨h1, fun x hx => h2 x (belowP_of hb hx)⟩) id

theorem wpAnyP_first {n i : Nat} {oi : Oper} {v : Value} {F : Array Bool → Act → World → Prop} (hi : ops[i]? = some oi) (hsel : ∀ (j : Nat) (o : Oper) cs b, ops[j]? = some o → o.op ≠ .select cs b)
  (hQ : ∀ c a w, Q (.panic c) (a.put oi.dst v) w → Q (.panic c) a w)
  (hlate : ∀ listed, HeadInv md ops n listed → listed.getD i true = false → ∀ t, n ≤ t → t ∉ Region.ready md ops listed) (hin : i < n)
  (hdone : ∀ listed a w, F listed a w → ∀ j ∈ Region.ready md ops listed, n ≤ j) :
  ∀ (f : Nat) (listed : Array Bool) (a : Act) (w : World), HeadInv md ops n listed →
   (∀ j oj, ops[j]? = some oj → j ≠ i → listed.getD j true = false → (∀ e ∈ oj.after, Region.binds md e = true → e.on ≠ i) → oi.apart ops oj = true) →
   i ∈ Region.ready md ops listed → YieldsIf P ops (fun x => BelowP gb w x) oi v a →
   wpAnyP gb P md ops Q n F f (listed.setIfInBounds i true) (a.put oi.dst v) w → wpAnyP gb P md ops Q n F (f + 1) listed a w := by
 intro f
 induction f with
 | zero =>
  intro listed a w inv _ hr hy H;have hun := (mem_ready.1 hr).1;refine ⟨fun h => (by rw [h] at hr; cases hr), fun j hj => ?_⟩;have hjn : j < n := by
   rcases Nat.lt_or_ge j n with h | h
   ·exact h
   ·exact absurd hj (hlate listed inv hun j h)
  refine ⟨hjn, ?_⟩;by_cases hji : j = i
  ·subst hji; exact hy.wpOp hi (BelowP.refl _ _) ⟨BelowP.refl _ _, H⟩
  ·have := hdone _ _ _ H j (ready_mono hj hji)
   omega
 | succ f ih =>
  intro listed a w inv hfree hr hy H;have hun := (mem_ready.1 hr).1;refine ⟨fun h => (by rw [h] at hr; cases hr), fun j hj => ?_⟩;have hjn : j < n := by
   rcases Nat.lt_or_ge j n with h | h
   ·exact h
   ·exact absurd hj (hlate listed inv hun j h)
  refine ⟨hjn, ?_⟩;by_cases hji : j = i
  ·subst hji; exact hy.wpOp hi (BelowP.refl _ _) ⟨BelowP.refl _ _, H⟩
  ·have h1 := (H.2 j (ready_mono hj hji)).2
   obtain ⟨hjun, oj, hoj, hall⟩ := mem_ready.1 hj;have hnot : ∀ e ∈ oj.after, Region.binds md e = true → e.on ≠ i := fun e he hb heq => by
    have h1 := hall e he hb;rw [heq, getD_both hun] at h1
    cases h1
   have h2 := wpOp_putIf hoj (hfree j oj hoj hji hjun hnot) (fun cs b => hsel i oi cs b hi) (fun cs b => hsel j oj cs b hoj) hQ hy h1;have hfree' : ∀ k ok, ops[k]? = some ok → k ≠ i → (listed.setIfInBounds j true).getD k true = false →
     (∀ e ∈ ok.after, Region.binds md e = true → e.on ≠ i) → oi.apart ops ok = true := fun k ok hk hki hun hno => by
    refine hfree k ok hk hki ?_ hno;by_cases hjk : j = k
    ·subst hjk; exact hjun
    ·rw [getD_set_ne true hjk] at hun; exact hun
   refine wpOp_mono (fun a' w' h3 => ⟨h3.2.1, ih (listed.setIfInBounds j true) a' w' (inv.set hj hjn) hfree' (ready_mono hr (Ne.symm hji)) (yieldsP_later h3.2.1 h3.1) ?_⟩) h2;rw [Array.setIfInBounds_comm _ _ hji];exact h3.2.2

def wpPP (gb : Nat → Prop) (P : Program) (ops : Array Oper) (Q : Exit → Act → World → Prop) (tail : List Oper) : List (Bool × Nat) → Act → World → Prop
 | [], a, w => wpList P ops Q tail a w
 | (true, i) :: rest, a, w => ∃ o v, ops[i]? = some o ∧ YieldsIf P ops (fun x => BelowP gb w x) o v a ∧ wpPP gb P ops Q tail rest (a.put o.dst v) w
 | (false, i) :: rest, a, w => wpOp P ops Q i (fun a' w' => BelowP gb w w' ∧ wpPP gb P ops Q tail rest a' w') a w

theorem wpAnyP_plan {n : Nat} {tail : List Oper} (hsel : Region.noSelect ops = true) (hQ : ∀ c a d v w, Q (.panic c) (a.put d v) w → Q (.panic c) a w)
  (hlate : ∀ listed, HeadInv md ops n listed → ∀ i, i < n → listed.getD i true = false → ∀ t, n ≤ t → t ∉ Region.ready md ops listed) :
  ∀ (pl : List (Bool × Nat)) (listed : Array Bool) (a : Act) (w : World), HeadInv md ops n listed → planB md ops n pl listed = true → wpPP gb P ops Q tail pl a w →
  wpAnyP gb P md ops Q n (fun listed' a' w' => Region.seqB md ops (ops.size - n) n listed' = true ∧ wpList P ops Q tail a' w') pl.length listed a w
 | [], listed, a, w, _, hB, h => ⟨hB, h⟩
 | (true, i) :: rest, listed, a, w, inv, hB, h => by
  simp only [planB, if_true, Bool.and_eq_true, decide_eq_true_eq] at hB;obtain ⟨⟨hin, hr, hf⟩, hB'⟩ := hB;obtain ⟨o, v, ho, hy, h'⟩ := h;have hr' : i ∈ Region.ready md ops listed := by simpa using hr
  exact wpAnyP_first ho (Region.noSelect_spec hsel) (fun c a w => hQ c a o.dst v w) (fun l hl hu => hlate l hl i hin hu) hin (fun listed' a' w' hL => seqB_ready hL.1) rest.length listed a w inv (Region.free_spec ho hf) hr' hy
   (wpAnyP_plan hsel hQ hlate rest _ _ _ (inv.set hr' hin) hB' h')
 | (false, i) :: rest, listed, a, w, inv, hB, h => by
  simp only [planB, Bool.false_eq_true, if_false, Bool.and_eq_true, decide_eq_true_eq] at hB;obtain ⟨⟨hin, hr⟩, hB'⟩ := hB;have hr' : i ∈ Region.ready md ops listed := by rw [hr]; simp
  refine ⟨by rw [hr]; simp, fun j hj => ?_⟩;rw [hr] at hj;have hji : j = i := by simpa using hj
  subst hji;exact ⟨hin, wpOp_mono (fun a' w' h3 => ⟨h3.1, wpAnyP_plan hsel hQ hlate rest _ a' w' (inv.set hr' hin) hB' h3.2⟩) h⟩

theorem wpAny_planP {a : Act} {w : World} {l : List Oper} (n : Nat) (pl : List (Bool × Nat)) (hB : planAll .any l.toArray n pl = true)
  (h : ∀ W : World, Hid (W = w.drew) → wpPP gb P l.toArray (NoPanic Q) (l.drop n) pl a W) : wpAny P .any l.toArray (NoPanic Q) l.toArray.size (Array.replicate l.toArray.size false) a { w with drawn := w.drawn + 1 } := by
 have hQ : ∀ c a d v w, NoPanic Q (.panic c) (a.put d v) w → NoPanic Q (.panic c) a w := fun _ _ _ _ _ h => h;simp only [planAll, Bool.and_eq_true, decide_eq_true_eq] at hB;obtain ⟨⟨⟨⟨hsel, hlen⟩, hn⟩, hsc⟩, hpl⟩ := hB;have hn' : n ≤ l.length := by simpa using hn
 have hdl : (l.drop n).length = l.toArray.size - n := by simp
 have inv0 : HeadInv .any l.toArray n (Array.replicate l.toArray.size false) :=
  ⟨by simp, fun j oj _ hl => (by rw [getD_replicate_false] at hl; cases hl), fun t _ ht => getD_in (by simpa using ht) (getD_replicate_false _ _)⟩
 have hlate : ∀ listed, HeadInv .any l.toArray n listed → ∀ i, i < n → listed.getD i true = false → ∀ t, n ≤ t → t ∉ Region.ready .any l.toArray listed := by
  intro listed inv i hin hun t ht hr;rw [Bool.or_eq_true, decide_eq_true_eq, Bool.and_eq_true] at hsc;obtain ⟨_, ot, hot, _⟩ := mem_ready.1 hr;have htl := (Array.getElem?_eq_some_iff.1 hot).1;rcases hsc with h0 | ⟨hs, hc⟩
  ·omega
  ·exact tail_waits hs hc (by omega) inv _ i rfl hin hun t ht hr
 have H := wpAnyP_plan (md := .any) hsel hQ hlate pl _ a w.drew inv0 hpl (h w.drew (Hd rfl));have := wpAny_of_P (Q := NoPanic Q) (g := l.toArray.size - n) (fun listed a' w' hL => by
  have := wpAny_of_seq (md := .any) (Q' := NoPanic Q) (l.drop n) n listed a' w' (fun j => by simp [List.getElem?_drop]) (by rw [hdl]; exact hL.1) hL.2
  rwa [hdl] at this) _ _ _ _ H
 rw [hlen, show n + (l.toArray.size - n) = l.toArray.size by omega] at this;exact this
theorem wp_region_planP {id : Nat} {a : Act} {w : World} {l : List Oper} (n : Nat) (pl : List (Bool × Nat)) (hm : P.follows .mixedOrders = true) (hB : planAll .any l.toArray n pl = true)
  (h : ∀ W : World, Hid (W = w.drew) → wpPP gb P l.toArray (NoPanic Q) (l.drop n) pl a W) : (Code.region id l.toArray true).wp P Q a w :=
 wp_region_noPanic (wp_region_any hm (wpAny_planP n pl hB h))

/-! ### the steps -/
section
variable {tail : List Oper} {rest : List (Bool × Nat)} {a : Act} {w : World} {i : Nat} {o : Oper}
theorem wpPP_float {v : Value} (hi : ops[i]? = some o) (hw : Region.wanted o (yielded ops a.tmps) = true)
  (hy : ∀ w' : World, (∀ p : Addr, ¬ gb p.block → (w.cell? p).isSome = true → w'.cell? p = w.cell? p) → (execOp a.eval o).run P w' = .ok (.value v) w') (h : ∀ K : Act → Prop, (∀ a', wpPP gb P ops Q tail rest a' w → K a') → K (a.put o.dst v)) : wpPP gb P ops Q tail ((true, i) :: rest) a w :=
 ⟨o, v, hi, .inl ⟨hw, fun w' hb => hy w' (fun p hpg hp => by
  have hlt : p.block < w.heap.size := by
   cases hc : w.cell? p with
   | none => rw [hc] at hp; cases hp
   | some u => exact block_lt_of_cell hc
  exact hb.cell hlt hpg)⟩, h _ (fun _ h => h)⟩
theorem wpPP_only (hi : ops[i]? = some o) (hw : Region.wanted o (yielded ops a.tmps) = true)
  (h : ∀ K : Act → World → Prop, (∀ a' w', BelowP gb w w' → wpPP gb P ops Q tail rest a' w' → K a' w') → o.wp P a w K Q) : wpPP gb P ops Q tail ((false, i) :: rest) a w := by
 show wpOp P ops Q i _ a w
 unfold wpOp;simp only [hi, hw, if_true];exact .inl (h _ (fun a' w' hb hp => ⟨hb, hp⟩))
theorem wpPP_nil (h : wpList P ops Q tail a w) : wpPP gb P ops Q tail [] a w := h
end
end
theorem findSome_step {α β : Type} {g : α → Option β} {l : List α} {k : Nat} {r : α} (h : l[k]? = some r) (hn : (l.take k).findSome? g = none) : (g r = none → (l.take (k + 1)).findSome? g = none) ∧ (∀ x, g r = some x → l.findSome? g = some x) := by
 have hk := (List.getElem?_eq_some_iff.1 h).1;have hr := (List.getElem?_eq_some_iff.1 h).2;refine ⟨fun hg => ?_, fun x hx => ?_⟩
 ·rw [List.take_succ_eq_append_getElem hk, hr, List.findSome?_append, hn]
  simp [hg]
 ·have h1 : l = l.take k ++ (r :: l.drop (k + 1)) := by
   rw [← hr, List.getElem_cons_drop, List.take_append_drop]
  rw [h1, List.findSome?_append, hn]
  simp [hx]
def earlyG (f : Fac) (X : List (List Nat)) (k : Int) (r : Int) : Option Wit := if f.frm.getD r.toNat 0 = -1 then (aheadW f X r).head?.map fun z => ⟨k, r, z, -1, -1, -1, -1⟩ else none
theorem earlyF_eq (f : Fac) (X : List (List Nat)) (k : Int) (reads : List Int) : earlyF f X k reads = reads.findSome? (earlyG f X k) := rfl
theorem ref19_early (v : FV) (f : Fac) (A : Option Addr) (c : Nat) (X : List (List Nat)) (k : Int) (D : Option Addr) (m d : Nat) (rd : List Int) (w : World) (hF : FactsAt w v f) (hr : RowsAt w A v.m X) (hG : Good v.m X) (hL : LAt encI w D m rd) (hrd : ∀ r ∈ rd, 0 ≤ r ∧ r < (v.m : Int)) (hvm : v.m ≤ 4096) (hm : m ≤ 1048576) (hw : WholeF f) :
  Calls Tryz.prog 40 #[.agg #[.slice v.A v.n v.c, .slice v.B v.m v.d, .slice v.C v.k v.e], .agg #[.int .i64 (v.m : Int), .slice A v.m c], .int .i64 k, .slice D m d] w (RetWit k (earlyF f X k rd) w) := by
 have hil := hF.is.len;have hkm := Hd (show v.k = v.m from by rw [← hil, ← hF.fs.len]; exact hw.len);have cO := Hd (fun (o : Int) W (hW : RowsAt W A v.m X) => ref16_Of A v.m c X o W hW hG);have cW := Hd (fun B m d l vr W hW hL hm => ref16_WritesF v f B m d l vr W hW hL hm (by omega));have hdl := Hd hL.len;rw [earlyF_eq];replace hil := Hd hil;replace hL := Hd hL;replace hrd := Hd hrd;clear hw;have hB0 := Hd (FBox.new hF);obtain ⟨g, hg⟩ : ∃ g, g = w.heap.size := ⟨_, rfl⟩;obtain ⟨W0, hW0⟩ : ∃ W, W = w.alloc (.cells #[.slice v.A v.n v.c, .slice v.B v.m v.d, .slice v.C v.k v.e] 29) := ⟨_, rfl⟩;rw [← hW0, ← hg] at hB0;clear hF;replace hr := hr.below hB0.out.o;have hM1 := Hd (MatK.new (N := (v.m : Int)) (c := c) W0 57 hr);obtain ⟨gm, hgm⟩ : ∃ g, g = W0.heap.size := ⟨_, rfl⟩;obtain ⟨W1, hW1⟩ : ∃ W, W = W0.alloc (.cells #[.int .i64 (v.m : Int), .slice A v.m c] 57) := ⟨_, rfl⟩;rw [← hW1, ← hgm] at hM1;have hB1 := Hd (hB0.out.later (show Below W0.heap.size W0 W1 from by rw [hW1]; exact bAl _ _));clear hr hB0;obtain ⟨W2, hW2⟩ : ∃ W, W = World.alloc W1 (.cells #[.int .i64 0, .int .i64 0, .int .i64 0, .int .i64 0, .int .i64 0, .slice none 0 0, .int .i64 0, .int .i64 0] 34) := ⟨_, rfl⟩;obtain ⟨gr, hgr⟩ : ∃ g, g = (World.heap W1).size := ⟨_, rfl⟩;have bW2 : Below (World.heap W1).size W1 W2 := by rw [hW2]; exact bAl _ _
 have kR := Hd (show Blk W2 gr 34 [.int .i64 0, .int .i64 0, .int .i64 0, .int .i64 0, .int .i64 0, .slice none 0 0, .int .i64 0, .int .i64 0] from by rw [hW2, hgr]; exact Blk.new W1 _ _);have hB2 := Hd (hB1.out.later bW2);have hM2 := Hd (hM1.out.below bW2);have hL2 := Hd ((hL.out.below hB1.out.o).below bW2);have hgrw := Hd (show w.heap.size ≤ gr from by rw [hgr]; exact hB1.out.o.size);clear hB1 hM1 bW2 hL;have cN := Hd (fun W => ref19_None k W)
 go_enter Tryz.func40, Tryz.ntmps40
 go_wp2_with (first | (rw [← hW0, ← hg]; clear hW0 hg) | (rw [← hW1, ← hgm]; clear hW1 hgm) | (rw [← hW2, ← hgr]; clear hW2; replace hgr := Hd hgr));refine (cN.out W2).mono ?_; rintro e w3 ⟨he, b2⟩;have he' : e = .returned (.agg #[.int .i64 k, .int .i64 (-1), .int .i64 (-1), .int .i64 (-1), .int .i64 (-1), .slice none 0 0, .int .i64 (-1), .int .i64 (-1)]) := he;subst he';obtain ⟨W3, hW3⟩ : ∃ W, W = World.alloc w3 (.cells #[.int .i64 k, .int .i64 (-1), .int .i64 (-1), .int .i64 (-1), .int .i64 (-1), .slice none 0 0, .int .i64 (-1), .int .i64 (-1)] 34) := ⟨_, rfl⟩;obtain ⟨gw, hgw⟩ : ∃ g, g = (World.heap w3).size := ⟨_, rfl⟩;have bW3 : Below (World.heap w3).size w3 W3 := by rw [hW3]; exact bAl _ _
 have kW := Hd (show Blk W3 gw 34 [.int .i64 k, .int .i64 (-1), .int .i64 (-1), .int .i64 (-1), .int .i64 (-1), .slice none 0 0, .int .i64 (-1), .int .i64 (-1)] from by rw [hW3, hgw]; exact Blk.new w3 _ _);have hB := Hd ((hB2.out.later b2).later bW3);have hM := Hd ((hM2.out.below b2).below bW3);have hL := Hd ((hL2.out.below b2).below bW3);have kQ := (kR.out.below b2 kR.out.lt).below bW3 (kR.out.below b2 kR.out.lt).lt;have hne : gr ≠ gw := by have := (kR.out.below b2 kR.out.lt).lt; omega
 have hbw := Hd (show w.heap.size ≤ gw from by have := hgrw.out; have := (kR.out.below b2 kR.out.lt).lt; omega);replace kQ := Hd kQ;clear bW3 b2 he hB2 hM2 hL2 kR cN;go_wp2_with (rw [← hW3, ← hgw]; clear hW3; replace hgw := Hd hgw);have hb0 := Hd (Below.refl W3.heap.size W3)
 go_loopw [11] (fun t wr => ∃ i : Nat, i ≤ m ∧ t = .int .i64 (i : Int) ∧ Hid ((rd.take i).findSome? (earlyG f X k) = none) ∧ Hid (Below W3.heap.size W3 wr)) (fun t _ => m - (intOf t).toNat)
 case atStart => exact ⟨0, Nat.zero_le _, rfl, Hd rfl, hb0⟩
 case round =>
  clear hb0;obtain ⟨i, hi, rfl, hno, hb⟩ := hrel;have hBr := Hd (hB.out.later hb.out);have kWr := Hd (kW.out.below hb.out kW.out.lt);have kQr := Hd (kQ.out.below hb.out kQ.out.lt);by_cases hlt : i < m
  ·have hlt' : (i : Int) < (m : Int) := by omega
   have bi : 0 ≤ (i : Int) ∧ (i : Int) < (m : Int) := by omega
   have hMr := Hd (hM.out.below hb.out);obtain ⟨db, dof, r, hD, -, hr, -, r0⟩ := (hL.out.below hb.out).int hlt;have hrr := hrd.out r (List.mem_of_getElem? hr);have hst := findSome_step hr hno.out;subst hD;obtain ⟨ib, io, u, hxB, -, hu, -, -, -, -, i3, -⟩ := hBr.out.f.is.item (show r.toNat < v.m by omega);obtain ⟨-, -, z, -, -, hz, -, -⟩ := hBr.out.f.fs.int (show r.toNat < v.k by have := hkm.out; omega);have hva : vaF f r = u.va := by unfold vaF; rw [hu]
   have hgd : f.frm.getD r.toNat 0 = z := by rw [List.getD_eq_getElem?_getD, hz]; rfl
   have hEg : earlyG f X k r = if z = -1 then (aheadW f X r).head?.map fun z => ⟨k, r, z, -1, -1, -1, -1⟩ else none := by unfold earlyG; rw [hgd]
   have hAe : aheadW f X r = wrsF f.items u.va (colF X r v.m) := by unfold aheadW; rw [hva, hil.out]
   obtain ⟨us, up, uw, ua, ul⟩ := u
   simp only at i3 hAe
   obtain ⟨al, hal⟩ : ∃ l, l = aheadW f X r := ⟨_, rfl⟩;rw [← hal] at hEg hAe;have brv : 0 ≤ r ∧ r < (v.m : Int) := hrr;have brk : 0 ≤ r ∧ r < (v.k : Int) := by have := hkm.out; omega
   have hcl := colF_len X r v.m;replace hst := Hd hst;replace hEg := Hd hEg;replace hAe := Hd hAe;replace hal := Hd hal;replace hlt := Hd hlt;replace hrr := Hd hrr;replace hz := Hd hz;replace hxB := Hd hxB;clear hr hva hgd hu;go_wp2_with fail;refine wpRp 12 [(true, 0), (true, 1), (true, 2), (true, 4), (true, 5), (true, 6), (true, 7), (true, 8), (true, 9), (false, 3), (false, 10), (true, 11)] (by kernel_rfl) (by kernel_rfl) (fun U hU => ?_);have hU' : Below wr.heap.size wr U := by rw [hU.out]; exact (Below.refl _ _).drew
   have drw : ∀ p u, wr.cell? p = some u → U.cell? p = some u := fun p u h => by rw [hU.out]; exact h
   replace i3 := drw _ _ i3;replace hb := Hd (bT2 hb.out hU');replace hBr := Hd (hBr.out.later hU');replace hMr := Hd (hMr.out.below hU');clear hU hU' drw r0;simp only [List.drop_succ_cons, List.drop_nil];have p0 := hBr.out.c0;have p1 := hBr.out.c1;have p2 := hBr.out.c2;rw [hxB.out] at p1;have m0 := hMr.out.1.c0;have m1 := hMr.out.1.c1
   iterate 9
    refine wpPf (v := ?_) rfl (by rfl) (fun w' hw' => ?_) (fun K hK => ?_);rotate_left
    ·(go_simp; try with_reducible rfl)
    go_simp;refine hK _ ?_;clear hK K
   clear p0 p1 p2 m0 m1 i3;refine wpPo rfl (by rfl) (fun K hK => ?_);go_simp;refine (cO.out r U hMr.out.2).mono ?_;rintro e x1 ⟨C1, n1, c1, rfl, hl1, -, -, b⟩;refine hK _ _ b ?_;clear hK K;replace hb := Hd (bT2 hb.out b);replace hBr := Hd (hBr.out.later b);have hn1 : n1 ≤ 1048576 := by rw [← hl1.len]; omega
   clear b hMr;have cWr := cW.out C1 n1 c1 _ ua x1 hBr.out.f hl1 hn1;rw [hxB.out] at cWr;replace cWr := Hd cWr;clear hxB;refine wpPo rfl (by rfl) (fun K hK => ?_);go_simp;refine cWr.out.mono ?_;rintro e x2 ⟨C2, n2, c2, rfl, hl2, -, -, b, hfr2⟩;have hx1 : W3.heap.size ≤ x1.heap.size := hb.out.size;refine hK _ _ b ?_;clear hK K;replace hb := Hd (bT2 hb.out b);replace hBr := Hd (hBr.out.later b);rw [← hAe.out] at hl2;clear b hl1 hn1
   iterate 1
    refine wpPf (v := ?_) rfl (by rfl) (fun w' hw' => ?_) (fun K hK => ?_);rotate_left
    ·(go_simp; try with_reducible rfl)
    go_simp;refine hK _ ?_;clear hK K
   refine wpPn (NoPanic.normal ?_);have kWr := Hd (kW.out.below hb.out kW.out.lt);have kQr := Hd (kQ.out.below hb.out kQ.out.lt);have p0 := hBr.out.c0;have p1 := hBr.out.c1;have p2 := hBr.out.c2;obtain ⟨zb, zo, z2, hzC, -, hz2, -, k0⟩ := hBr.out.f.fs.int (show r.toNat < v.k by have := hkm.out; have := hrr.out; omega);obtain rfl : z2 = z := by have h := hz.out; rw [hz2] at h; injection h
   rw [hzC] at p2;clear hzC hz2;have hEg' := hEg.out;by_cases hz1 : z2 = -1
   ·have e0 : (z2 == -1) = true := by rw [hz1]; rfl
    rw [if_pos hz1] at hEg';replace hz1 := Hd hz1;rcases Nat.eq_zero_or_pos n2 with h2 | h2
    ·have hnx := Hd (hst.out.1 (by rw [hEg', show al = [] from List.eq_nil_of_length_eq_zero (by rw [hl2.len]; exact h2)]; rfl))
     have d2 : decide ((0 : Int) < (n2 : Int)) = false := decide_eq_false (by omega);have d2' : decide (0 < n2) = false := decide_eq_false (by omega);replace h2 := Hd h2;clear hEg' hl2;go_wp2_with fail;exact ⟨⟨i + 1, by have := hlt.out; omega, by go_num, hnx, hb⟩, by have := hlt.out; simp [intOf]; omega⟩
    ·obtain ⟨cb, co, y, hC2, hcb, hy, -, y0⟩ := hl2.int (show 0 < n2 by omega)
     have hcg : cb ≠ gw := by
      have h1 := hfr2 _ hC2;have h2 := kW.out.lt
      simp only at h1
      omega
     have hans := Hd (hst.out.2 ⟨k, r, y, -1, -1, -1, -1⟩ (by
      rw [hEg', ← List.head?_eq_getElem?] at *;rw [hy]; rfl))
     have d2 : decide ((0 : Int) < (n2 : Int)) = true := decide_eq_true (by omega);have d2' : decide (0 < n2) = true := decide_eq_true (by omega);have b00 : 0 ≤ (0 : Int) ∧ (0 : Int) < (n2 : Int) := by omega
     subst hC2;rw [Nat.add_zero] at y0;clear hEg' hl2 hy;go_wp2_with fail;refine wp_region_planP (gb := fun b => b = gw) 8 [(true, 0), (true, 1), (true, 2), (true, 3), (true, 4), (false, 5), (true, 6), (false, 7)] (by kernel_rfl) (by kernel_rfl) (fun U2 hU => ?_);have hU' : Below x2.heap.size x2 U2 := by rw [hU.out]; exact (Below.refl _ _).drew
     replace y0 : U2.cell? ⟨cb, co, none⟩ = some (.int .i64 y) := by rw [hU.out]; exact y0
     have kW5 := kWr.out.below hU' kWr.out.lt;have kQ5 := kQr.out.below hU' kQr.out.lt;have bU := bT2 hBr.out.o hU';clear hU hU' p0 p1 p2 k0;simp only [List.drop_succ_cons, List.drop_nil]
     iterate 3
      refine wpPP_float (v := ?_) rfl (by rfl) (fun w' hw' => ?_) (fun K hK => ?_);rotate_left
      ·(go_simp; try with_reducible rfl)
      go_simp;refine hK _ ?_;clear hK K
     refine wpPP_float (v := ?_) rfl (by rfl) (fun w' hw' => ?_) (fun K hK => ?_);rotate_left
     ·have hy1 : w'.cell? ⟨cb, co, none⟩ = some (.int .i64 y) := (hw' ⟨cb, co, none⟩ hcg (by rw [y0]; rfl)).trans y0
      go_simp
      try with_reducible rfl
     go_simp;refine hK _ ?_;clear hK K
     iterate 1
      refine wpPP_float (v := ?_) rfl (by rfl) (fun w' hw' => ?_) (fun K hK => ?_);rotate_left
      ·(go_simp; try with_reducible rfl)
      go_simp;refine hK _ ?_;clear hK K
     obtain ⟨z0x, z1x, z2x, z3x, z4x, z5x, z6x, z7x⟩ := kW5.cells8;obtain ⟨z0fx, z1fx, z2fx, z3fx, z4fx, z5fx, z6fx, z7fx⟩ := kW5.frozen8;refine wpPP_only rfl (by rfl) (fun K hK => ?_);go_simp;refine hK _ _ (BelowP.set (S := fun b => b = gw) (BelowP.refl _ _) (p := ⟨gw, 1, none⟩) rfl _) ?_;clear hK K;have kW6 := kW5.set_ 1 (.int .i64 r);simp only [List.set_cons_zero, List.set_cons_succ] at kW6;clear z0x z1x z2x z3x z4x z5x z6x z7x z0fx z1fx z2fx z3fx z4fx z5fx z6fx z7fx y0
     iterate 1
      refine wpPP_float (v := ?_) rfl (by rfl) (fun w' hw' => ?_) (fun K hK => ?_);rotate_left
      ·(go_simp; try with_reducible rfl)
      go_simp;refine hK _ ?_;clear hK K
     obtain ⟨z0x, z1x, z2x, z3x, z4x, z5x, z6x, z7x⟩ := kW6.cells8;obtain ⟨z0fx, z1fx, z2fx, z3fx, z4fx, z5fx, z6fx, z7fx⟩ := kW6.frozen8;refine wpPP_only rfl (by rfl) (fun K hK => ?_);go_simp;refine hK _ _ (BelowP.set (S := fun b => b = gw) (BelowP.refl _ _) (p := ⟨gw, 2, none⟩) rfl _) ?_;clear hK K;have kV := kW6.set_ 2 (.int .i64 y);simp only [List.set_cons_zero, List.set_cons_succ] at kV;have kQ := (kQ5.far (p := ⟨gw, 1, none⟩) hne (.int .i64 r)).far (p := ⟨gw, 2, none⟩) hne (.int .i64 y);have bV := (bU.setCell (p := ⟨gw, 1, none⟩) hbw.out (.int .i64 r)).setCell (p := ⟨gw, 2, none⟩) hbw.out (.int .i64 y);clear kW5 kQ5 bU kW6 kWr kQr;refine wpPP_nil ?_;go_wp2_with fail;refine NoPanic.normal ?_;clear z0x z1x z2x z3x z4x z5x z6x z7x z0fx z1fx z2fx z3fx z4fx z5fx z6fx z7fx;obtain ⟨z0w, z1w, z2w, z3w, z4w, z5w, z6w, z7w⟩ := kV.cells8;obtain ⟨z0c, z1c, z2c, z3c, z4c, z5c, z6c, z7c⟩ := kQ.cells8;obtain ⟨z0fz, z1fz, z2fz, z3fz, z4fz, z5fz, z6fz, z7fz⟩ := kQ.frozen8;have kN := kQ.put8 (.int .i64 k) (.int .i64 r) (.int .i64 y) (.int .i64 (-1)) (.int .i64 (-1)) (.slice none 0 0) (.int .i64 (-1)) (.int .i64 (-1));have hbf := Hd (bP8 bV (g := gr) hgrw.out (.int .i64 k) (.int .i64 r) (.int .i64 y) (.int .i64 (-1)) (.int .i64 (-1)) (.slice none 0 0) (.int .i64 (-1)) (.int .i64 (-1)));have hdd := Hd kN.cells8;clear kN kQ kV bV;go_wp2_with fail;obtain ⟨d0, d1, d2, d3, d4, d5, d6, d7⟩ := hdd.out;exact bodyPost_ret (v := .tuple #[.agg #[.int .i64 k, .int .i64 r, .int .i64 y, .int .i64 (-1), .int .i64 (-1), .slice none 0 0, .int .i64 (-1), .int .i64 (-1)], .bool true]) (by simp [results, Tryz.results40, go_sem, d0, d1, d2, d3, d4, d5, d6, d7]) rfl ⟨⟨k, r, y, (-1), (-1), -1, -1⟩, by rw [hans.out]; rfl, by rw [hans.out]; rfl, hbf.out⟩
   ·have e0 : (z2 == -1) = false := by simpa using hz1
    rw [if_neg hz1] at hEg';have hnx := Hd (hst.out.1 hEg');replace hz1 := Hd hz1;clear hEg' hl2;go_wp2_with fail;exact ⟨⟨i + 1, by have := hlt.out; omega, by go_num, hnx, hb⟩, by have := hlt.out; simp [intOf]; omega⟩
  ·have hlt' : ¬ (i : Int) < (m : Int) := by omega
   obtain rfl : i = m := by omega
   have hans : Hid (rd.findSome? (earlyG f X k) = none) := Hd (by
    have h := hno.out
    rwa [List.take_of_length_le (by rw [hdl.out]; exact Nat.le_refl _)] at h)
   have kV := kWr.out;have kQ := kQr.out;have bV := hBr.out.o;clear hlt;obtain ⟨z0w, z1w, z2w, z3w, z4w, z5w, z6w, z7w⟩ := kV.cells8;obtain ⟨z0c, z1c, z2c, z3c, z4c, z5c, z6c, z7c⟩ := kQ.cells8;obtain ⟨z0fz, z1fz, z2fz, z3fz, z4fz, z5fz, z6fz, z7fz⟩ := kQ.frozen8;have kN := kQ.put8 (.int .i64 k) (.int .i64 (-1)) (.int .i64 (-1)) (.int .i64 (-1)) (.int .i64 (-1)) (.slice none 0 0) (.int .i64 (-1)) (.int .i64 (-1));have hbf := Hd (bP8 bV (g := gr) hgrw.out (.int .i64 k) (.int .i64 (-1)) (.int .i64 (-1)) (.int .i64 (-1)) (.int .i64 (-1)) (.slice none 0 0) (.int .i64 (-1)) (.int .i64 (-1)));have hdd := Hd kN.cells8;clear kN kQ kV bV;go_wp2_with fail;obtain ⟨d0, d1, d2, d3, d4, d5, d6, d7⟩ := hdd.out;exact bodyPost_ret (v := .tuple #[.agg #[.int .i64 k, .int .i64 (-1), .int .i64 (-1), .int .i64 (-1), .int .i64 (-1), .slice none 0 0, .int .i64 (-1), .int .i64 (-1)], .bool false]) (by simp [results, Tryz.results40, go_sem, d0, d1, d2, d3, d4, d5, d6, d7]) rfl ⟨⟨k, (-1), (-1), (-1), (-1), -1, -1⟩, by rw [hans.out]; rfl, by rw [hans.out]; rfl, hbf.out⟩
def betwP (X : List (List Nat)) (a z : Int) : Bool := decide (z ≠ a) && hasM X a z
def betwG (f : Fac) (X : List (List Nat)) (r : Int) : Option Wit := if f.frm.getD r.toNat 0 < 0 then none else
 ((aheadW f X r).find? (betwP X (f.frm.getD r.toNat 0))).map fun z => ⟨4, r, f.frm.getD r.toNat 0, z, -1, -1, -1⟩
def rdl (n : Nat) : List Int := (List.range n).map fun (r : Nat) => (r : Int)
theorem rdl_at {n i : Nat} (h : i < n) : (rdl n)[i]? = some (i : Int) := by unfold rdl; rw [List.getElem?_map, List.getElem?_range h]; rfl
theorem rdl_len (n : Nat) : (rdl n).length = n := by unfold rdl; rw [List.length_map, List.length_range]
theorem betwF_eq (f : Fac) (X : List (List Nat)) : betwF f X = (rdl f.frm.length).findSome? (betwG f X) := rfl
theorem ref19_between (v : FV) (f : Fac) (A : Option Addr) (c : Nat) (X : List (List Nat)) (w : World) (hF : FactsAt w v f) (hr : RowsAt w A v.m X) (hG : Good v.m X) (hvm : v.m ≤ 4096) (hw : WholeF f) :
  Calls Tryz.prog 41 #[.agg #[.slice v.A v.n v.c, .slice v.B v.m v.d, .slice v.C v.k v.e], .agg #[.int .i64 (v.m : Int), .slice A v.m c]] w (RetWit 4 (betwF f X) w) := by
 have hil := hF.is.len;have hfl := Hd hF.fs.len;have hkm := Hd (show v.k = v.m from by rw [← hil, ← hF.fs.len]; exact hw.len);have hvk : v.k ≤ 4096 := by have := hkm.out; omega
 have cO := Hd (fun (o : Int) W (hW : RowsAt W A v.m X) => ref16_Of A v.m c X o W hW hG);have cW := Hd (fun B m d l vr W hW hL hm => ref16_WritesF v f B m d l vr W hW hL hm (by omega));have cH := Hd (fun (i j : Int) W hW => ref3_HasG A v.m c X hG i j W hW);rw [betwF_eq, hfl.out];replace hil := Hd hil;clear hw;have hB0 := Hd (FBox.new hF);obtain ⟨g, hg⟩ : ∃ g, g = w.heap.size := ⟨_, rfl⟩;obtain ⟨W0, hW0⟩ : ∃ W, W = w.alloc (.cells #[.slice v.A v.n v.c, .slice v.B v.m v.d, .slice v.C v.k v.e] 29) := ⟨_, rfl⟩;rw [← hW0, ← hg] at hB0;clear hF;replace hr := hr.below hB0.out.o;have hM1 := Hd (MatK.new (N := (v.m : Int)) (c := c) W0 57 hr);obtain ⟨gm, hgm⟩ : ∃ g, g = W0.heap.size := ⟨_, rfl⟩;obtain ⟨W1, hW1⟩ : ∃ W, W = W0.alloc (.cells #[.int .i64 (v.m : Int), .slice A v.m c] 57) := ⟨_, rfl⟩;rw [← hW1, ← hgm] at hM1;have hB1 := Hd (hB0.out.later (show Below W0.heap.size W0 W1 from by rw [hW1]; exact bAl _ _));clear hr hB0;obtain ⟨W2, hW2⟩ : ∃ W, W = World.alloc W1 (.cells #[.int .i64 0, .int .i64 0, .int .i64 0, .int .i64 0, .int .i64 0, .slice none 0 0, .int .i64 0, .int .i64 0] 34) := ⟨_, rfl⟩;obtain ⟨gr, hgr⟩ : ∃ g, g = (World.heap W1).size := ⟨_, rfl⟩;have bW2 : Below (World.heap W1).size W1 W2 := by rw [hW2]; exact bAl _ _
 have kR := Hd (show Blk W2 gr 34 [.int .i64 0, .int .i64 0, .int .i64 0, .int .i64 0, .int .i64 0, .slice none 0 0, .int .i64 0, .int .i64 0] from by rw [hW2, hgr]; exact Blk.new W1 _ _);have hB2 := Hd (hB1.out.later bW2);have hM2 := Hd (hM1.out.below bW2);have hgrw := Hd (show w.heap.size ≤ gr from by rw [hgr]; exact hB1.out.o.size);clear hB1 hM1 bW2;have cN := Hd (fun W => ref19_None 4 W)
 go_enter Tryz.func41, Tryz.ntmps41
 go_wp2_with (first | (rw [← hW0, ← hg]; clear hW0 hg) | (rw [← hW1, ← hgm]; clear hW1 hgm) | (rw [← hW2, ← hgr]; clear hW2; replace hgr := Hd hgr));refine (cN.out W2).mono ?_; rintro e w3 ⟨he, b2⟩;have he' : e = .returned (.agg #[.int .i64 4, .int .i64 (-1), .int .i64 (-1), .int .i64 (-1), .int .i64 (-1), .slice none 0 0, .int .i64 (-1), .int .i64 (-1)]) := he;subst he';obtain ⟨W3, hW3⟩ : ∃ W, W = World.alloc w3 (.cells #[.int .i64 4, .int .i64 (-1), .int .i64 (-1), .int .i64 (-1), .int .i64 (-1), .slice none 0 0, .int .i64 (-1), .int .i64 (-1)] 34) := ⟨_, rfl⟩;obtain ⟨gw, hgw⟩ : ∃ g, g = (World.heap w3).size := ⟨_, rfl⟩;have bW3 : Below (World.heap w3).size w3 W3 := by rw [hW3]; exact bAl _ _
 have kW := Hd (show Blk W3 gw 34 [.int .i64 4, .int .i64 (-1), .int .i64 (-1), .int .i64 (-1), .int .i64 (-1), .slice none 0 0, .int .i64 (-1), .int .i64 (-1)] from by rw [hW3, hgw]; exact Blk.new w3 _ _);have hB := Hd ((hB2.out.later b2).later bW3);have hM := Hd ((hM2.out.below b2).below bW3);have kQ := (kR.out.below b2 kR.out.lt).below bW3 (kR.out.below b2 kR.out.lt).lt;have hne : gr ≠ gw := by have := (kR.out.below b2 kR.out.lt).lt; omega
 have hbw := Hd (show w.heap.size ≤ gw from by have := hgrw.out; have := (kR.out.below b2 kR.out.lt).lt; omega);replace kQ := Hd kQ;clear bW3 b2 he hB2 hM2 kR cN;go_wp2_with (rw [← hW3, ← hgw]; clear hW3; replace hgw := Hd hgw);have hb0 := Hd (Below.refl W3.heap.size W3)
 go_loopw [7] (fun t wr => ∃ i : Nat, i ≤ v.k ∧ t = .int .i64 (i : Int) ∧ Hid (((rdl v.k).take i).findSome? (betwG f X) = none) ∧ Hid (Below W3.heap.size W3 wr)) (fun t _ => v.k - (intOf t).toNat)
 case atStart => exact ⟨0, Nat.zero_le _, rfl, Hd rfl, hb0⟩
 case round =>
  clear hb0;obtain ⟨i, hi, rfl, hno, hb⟩ := hrel;have hBr := Hd (hB.out.later hb.out);have p0 := hBr.out.c0;have p1 := hBr.out.c1;have p2 := hBr.out.c2;by_cases hlt : i < v.k
  ·have hlt' : (i : Int) < (v.k : Int) := by omega
   have bi : 0 ≤ (i : Int) ∧ (i : Int) < (v.k : Int) := by omega
   have him : i < v.m := by have := hkm.out; omega
   have hMr := Hd (hM.out.below hb.out);have hst := Hd (findSome_step (rdl_at hlt) hno.out);obtain ⟨zb, zo, z, hzC, -, hz, -, k0⟩ := hBr.out.f.fs.int hlt;have hgd : f.frm.getD (i : Int).toNat 0 = z := by rw [Int.toNat_natCast, List.getD_eq_getElem?_getD, hz]; rfl
   have hEg : betwG f X (i : Int) = if z < 0 then none else ((aheadW f X (i : Int)).find? (betwP X z)).map fun y => ⟨4, (i : Int), z, y, -1, -1, -1⟩ := by unfold betwG; rw [hgd]
   rw [hzC] at p2;replace hlt := Hd hlt;replace hgd := Hd hgd;clear hzC hz;by_cases hz0 : z < 0
   ·have d0 : decide (z < 0) = true := decide_eq_true hz0
    rw [if_pos hz0] at hEg;have hnx := Hd (hst.out.1 hEg);clear hEg;go_wp2_with fail;exact ⟨⟨i + 1, by have := hlt.out; omega, by go_num, hnx, hb⟩, by have := hlt.out; simp [intOf]; omega⟩
   ·have d0 : decide (z < 0) = false := decide_eq_false hz0
    rw [if_neg hz0] at hEg;replace hEg := Hd hEg;obtain ⟨ib, io, u, hxB, -, hu, -, -, -, -, i3, -⟩ := hBr.out.f.is.item him;have hva : vaF f (i : Int) = u.va := by unfold vaF; rw [Int.toNat_natCast, hu]
    have hAe : aheadW f X (i : Int) = wrsF f.items u.va (colF X (i : Int) v.m) := by unfold aheadW; rw [hva, hil.out]
    obtain ⟨us, up, uw, ua, ul⟩ := u
    simp only at i3 hAe
    obtain ⟨al, hal⟩ : ∃ l, l = aheadW f X (i : Int) := ⟨_, rfl⟩;rw [← hal] at hAe;have hEg' := hEg.out;rw [← hal] at hEg';replace hEg := Hd hEg';have biv : 0 ≤ (i : Int) ∧ (i : Int) < (v.m : Int) := by omega
    have hcl := colF_len X (i : Int) v.m;replace hAe := Hd hAe;replace hal := Hd hal;replace hxB := Hd hxB;clear hva hu hEg';go_wp2_with fail;refine wpRp 12 [(true, 0), (true, 1), (true, 2), (true, 4), (true, 5), (true, 6), (true, 7), (true, 8), (true, 9), (false, 3), (false, 10), (true, 11)] (by kernel_rfl) (by kernel_rfl) (fun U hU => ?_);have hU' : Below wr.heap.size wr U := by rw [hU.out]; exact (Below.refl _ _).drew
    have drw : ∀ p u, wr.cell? p = some u → U.cell? p = some u := fun p u h => by rw [hU.out]; exact h
    replace i3 := drw _ _ i3;replace hb := Hd (bT2 hb.out hU');replace hBr := Hd (hBr.out.later hU');replace hMr := Hd (hMr.out.below hU');clear hU hU' drw k0 p0 p1 p2;simp only [List.drop_succ_cons, List.drop_nil];have p0 := hBr.out.c0;have p1 := hBr.out.c1;have p2 := hBr.out.c2;rw [hxB.out] at p1;have m0 := hMr.out.1.c0;have m1 := hMr.out.1.c1
    iterate 9
     refine wpPf (v := ?_) rfl (by rfl) (fun w' hw' => ?_) (fun K hK => ?_);rotate_left
     ·(go_simp; try with_reducible rfl)
     go_simp;refine hK _ ?_;clear hK K
    clear p0 p1 p2 m0 m1 i3;refine wpPo rfl (by rfl) (fun K hK => ?_);go_simp;refine (cO.out (i : Int) U hMr.out.2).mono ?_;rintro e x1 ⟨C1, n1, c1, rfl, hl1, -, -, b⟩;refine hK _ _ b ?_;clear hK K;replace hb := Hd (bT2 hb.out b);replace hBr := Hd (hBr.out.later b);have hn1 : n1 ≤ 1048576 := by rw [← hl1.len]; omega
    have cWr := cW.out C1 n1 c1 _ ua x1 hBr.out.f hl1 hn1;rw [hxB.out] at cWr;replace cWr := Hd cWr;clear hxB b hMr;refine wpPo rfl (by rfl) (fun K hK => ?_);go_simp;refine cWr.out.mono ?_;rintro e x2 ⟨C2, n2, c2, rfl, hl2, hnc2, hcm2, b, hfr2⟩;have hx1 : W3.heap.size ≤ x1.heap.size := hb.out.size;have hgw1 : gw < x1.heap.size := Nat.lt_of_lt_of_le kW.out.lt hx1;have hCg := Hd (show ∀ ad, C2 = some ad → ad.block ≠ gw from fun ad e => by have := hfr2 ad e; omega);refine hK _ _ b ?_;clear hK K;replace hb := Hd (bT2 hb.out b);rw [← hAe.out] at hl2;replace hl2 := Hd hl2;have hn2 : n2 ≤ 9223372036854775807 := by omega
    clear b hl1 hn1 hfr2 hBr
    iterate 1
     refine wpPf (v := ?_) rfl (by rfl) (fun w' hw' => ?_) (fun K hK => ?_);rotate_left
     ·(go_simp; try with_reducible rfl)
     go_simp;refine hK _ ?_;clear hK K
    refine wpPn (NoPanic.normal ?_);go_wp2_with fail;have hc0 := Hd (Below.refl x2.heap.size x2)
    go_loopw [10] (fun t wr => ∃ q : Nat, q ≤ n2 ∧ t = .int .i64 (q : Int) ∧ Hid (∀ p, p < q → ∀ y, al[p]? = some y → betwP X z y = false) ∧ Hid (Below x2.heap.size x2 wr)) (fun t _ => n2 - (intOf t).toNat)
    case atStart => exact ⟨0, Nat.zero_le _, rfl, Hd (fun p h => absurd h (by omega)), hc0⟩
    case round =>
     clear hc0;obtain ⟨q, hq, rfl, hall, hc⟩ := hrel;by_cases hql : q < n2
     ·have hql' : (q : Int) < (n2 : Int) := by omega
      have bq : 0 ≤ (q : Int) ∧ (q : Int) < (n2 : Int) := by omega
      obtain ⟨cb, co, y, hC2, hcb, hy, -, y0⟩ := (hl2.out.below hc.out).int hql;have hcg : cb ≠ gw := hCg.out _ hC2;have hnx : betwP X z y = false → Hid (∀ p, p < q + 1 → ∀ y, al[p]? = some y → betwP X z y = false) := fun h => Hd (fun p hp y' hy' => by
       rcases Nat.lt_succ_iff_lt_or_eq.1 hp with h1 | h1
       ·exact hall.out p h1 y' hy'
       ·subst h1
        rw [hy] at hy';injection hy' with hy';rw [← hy']; exact h)
      have hbp : betwP X z y = (decide (y ≠ z) && hasM X z y) := rfl;have hfd : betwP X z y = true → Hid ((rdl v.k).findSome? (betwG f X) = some ⟨4, (i : Int), z, y, -1, -1, -1⟩) := fun h => Hd (hst.out.2 _ (by
       rw [hEg.out, List.find?_eq_some_iff_getElem.2 ⟨h, q, (List.getElem?_eq_some_iff.1 hy).1, (List.getElem?_eq_some_iff.1 hy).2, fun p hp => by
        rw [hall.out p hp _ (List.getElem?_eq_getElem (by have := (List.getElem?_eq_some_iff.1 hy).1; omega))]; rfl⟩]
       rfl))
      subst hC2;replace hql := Hd hql;by_cases hyz : y = z
      ·have e0 : (y != z) = false := by simp [hyz]
       have hn := hnx (by rw [hbp, decide_eq_false (by simp [hyz])]; rfl);replace hyz := Hd hyz;clear hnx hfd hbp hy;go_wp2_with fail
       go_quiet (fail)
       go_wp2_with fail;exact ⟨⟨q + 1, by have := hql.out; omega, by go_num, hn, Hd (bDN hc.out _)⟩, by have := hql.out; simp [intOf]; omega⟩
      ·have e0 : (y != z) = true := by simpa using hyz
       rw [decide_eq_true hyz, Bool.true_and] at hbp;replace hyz := Hd hyz;have hMc := Hd ((hM.out.below hb.out).below hc.out);go_wp2_with fail;refine wpRp 15 [(true, 0), (true, 1), (true, 2), (true, 3), (true, 4), (true, 5), (true, 6), (true, 7), (true, 8), (true, 9), (true, 10), (true, 11), (true, 12), (false, 13), (true, 14)] (by kernel_rfl) (by kernel_rfl) (fun U2 hU => ?_);have hU' : Below wr.heap.size wr U2 := by rw [hU.out]; exact (Below.refl _ _).drew
       replace y0 : U2.cell? ⟨cb, co + q, none⟩ = some (.int .i64 y) := by rw [hU.out]; exact y0
       replace hc := Hd (bT2 hc.out hU');replace hMc := Hd (hMc.out.below hU');have hcb2 : cb < U2.heap.size := Nat.lt_of_lt_of_le hcb hU'.size;clear hU hU';simp only [List.drop_succ_cons, List.drop_nil];have m0 := hMc.out.1.c0;have m1 := hMc.out.1.c1
       iterate 13
        refine wpPf (v := ?_) rfl (by rfl) (fun w' hw' => ?_) (fun K hK => ?_);rotate_left
        ·(go_simp; try with_reducible rfl)
        go_simp;refine hK _ ?_;clear hK K
       clear m0 m1;have cHr := cH.out z y U2 hMc.out.2
       cases hh : hasM X z y with
       | false =>
        rw [hh] at cHr hbp;have hn := hnx hbp;replace cHr := Hd cHr;clear hh hnx hfd hbp hy y0;refine wpPo rfl (by rfl) (fun K hK => ?_);go_simp;refine cHr.out.mono ?_;rintro e x3 ⟨rfl, bx⟩;refine hK _ _ bx ?_;clear hK K;replace hc := Hd (bT2 hc.out bx);clear bx
        iterate 1
         refine wpPf (v := ?_) rfl (by rfl) (fun w' hw' => ?_) (fun K hK => ?_);rotate_left
         ·(go_simp; try with_reducible rfl)
         go_simp;refine hK _ ?_;clear hK K
        refine wpPn (NoPanic.normal ?_);go_wp2_with fail;exact ⟨⟨q + 1, by have := hql.out; omega, by go_num, hn, hc⟩, by have := hql.out; simp [intOf]; omega⟩
       | true =>
        rw [hh] at cHr hbp;have hans := hfd hbp;replace cHr := Hd cHr;clear hh hnx hfd hbp hy;refine wpPo rfl (by rfl) (fun K hK => ?_);go_simp;refine cHr.out.mono ?_;rintro e x3 ⟨rfl, bx⟩;refine hK _ _ bx ?_;clear hK K;have y1 := (bx.cell (p := ⟨cb, co + q, none⟩) hcb2).trans y0;replace hc := Hd (bT2 hc.out bx);clear bx y0
        iterate 1
         refine wpPf (v := ?_) rfl (by rfl) (fun w' hw' => ?_) (fun K hK => ?_);rotate_left
         ·(go_simp; try with_reducible rfl)
         go_simp;refine hK _ ?_;clear hK K
        refine wpPn (NoPanic.normal ?_);go_wp2_with fail;refine wp_region_planP (gb := fun b => b = gw) 12 [(true, 0), (true, 1), (true, 2), (true, 3), (true, 4), (true, 5), (true, 6), (false, 7), (true, 8), (false, 9), (true, 10), (false, 11)] (by kernel_rfl) (by kernel_rfl) (fun U3 hU => ?_);have hU' : Below x3.heap.size x3 U3 := by rw [hU.out]; exact (Below.refl _ _).drew
        replace y1 : U3.cell? ⟨cb, co + q, none⟩ = some (.int .i64 y) := by rw [hU.out]; exact y1
        have bAll := (hb.out.trans ((bT2 hc.out hU').mono hb.out.size));have kW5 := kW.out.below bAll kW.out.lt;have kQ5 := kQ.out.below bAll kQ.out.lt;have bU := bT2 hB.out.o bAll;clear hU hU';simp only [List.drop_succ_cons, List.drop_nil]
        iterate 5
         refine wpPP_float (v := ?_) rfl (by rfl) (fun w' hw' => ?_) (fun K hK => ?_);rotate_left
         ·(go_simp; try with_reducible rfl)
         go_simp;refine hK _ ?_;clear hK K
        refine wpPP_float (v := ?_) rfl (by rfl) (fun w' hw' => ?_) (fun K hK => ?_);rotate_left
        ·have hy1 : w'.cell? ⟨cb, co + q, none⟩ = some (.int .i64 y) := (hw' ⟨cb, co + q, none⟩ hcg (by rw [y1]; rfl)).trans y1
         go_simp
         try with_reducible rfl
        go_simp;refine hK _ ?_;clear hK K
        iterate 1
         refine wpPP_float (v := ?_) rfl (by rfl) (fun w' hw' => ?_) (fun K hK => ?_);rotate_left
         ·(go_simp; try with_reducible rfl)
         go_simp;refine hK _ ?_;clear hK K
        clear y1;obtain ⟨z0x, z1x, z2x, z3x, z4x, z5x, z6x, z7x⟩ := kW5.cells8;obtain ⟨z0fx, z1fx, z2fx, z3fx, z4fx, z5fx, z6fx, z7fx⟩ := kW5.frozen8;refine wpPP_only rfl (by rfl) (fun K hK => ?_);go_simp;refine hK _ _ (BelowP.set (S := fun b => b = gw) (BelowP.refl _ _) (p := ⟨gw, 1, none⟩) rfl _) ?_;clear hK K;have kW6 := Blk.set_ kW5 1 (.int .i64 (i : Int));simp only [List.set_cons_zero, List.set_cons_succ] at kW6;clear z0x z1x z2x z3x z4x z5x z6x z7x z0fx z1fx z2fx z3fx z4fx z5fx z6fx z7fx
        iterate 1
         refine wpPP_float (v := ?_) rfl (by rfl) (fun w' hw' => ?_) (fun K hK => ?_);rotate_left
         ·(go_simp; try with_reducible rfl)
         go_simp;refine hK _ ?_;clear hK K
        obtain ⟨z0x, z1x, z2x, z3x, z4x, z5x, z6x, z7x⟩ := kW6.cells8;obtain ⟨z0fx, z1fx, z2fx, z3fx, z4fx, z5fx, z6fx, z7fx⟩ := kW6.frozen8;refine wpPP_only rfl (by rfl) (fun K hK => ?_);go_simp;refine hK _ _ (BelowP.set (S := fun b => b = gw) (BelowP.refl _ _) (p := ⟨gw, 2, none⟩) rfl _) ?_;clear hK K;have kW7 := Blk.set_ kW6 2 (.int .i64 z);simp only [List.set_cons_zero, List.set_cons_succ] at kW7;clear z0x z1x z2x z3x z4x z5x z6x z7x z0fx z1fx z2fx z3fx z4fx z5fx z6fx z7fx
        iterate 1
         refine wpPP_float (v := ?_) rfl (by rfl) (fun w' hw' => ?_) (fun K hK => ?_);rotate_left
         ·(go_simp; try with_reducible rfl)
         go_simp;refine hK _ ?_;clear hK K
        obtain ⟨z0x, z1x, z2x, z3x, z4x, z5x, z6x, z7x⟩ := kW7.cells8;obtain ⟨z0fx, z1fx, z2fx, z3fx, z4fx, z5fx, z6fx, z7fx⟩ := kW7.frozen8;refine wpPP_only rfl (by rfl) (fun K hK => ?_);go_simp;refine hK _ _ (BelowP.set (S := fun b => b = gw) (BelowP.refl _ _) (p := ⟨gw, 3, none⟩) rfl _) ?_;clear hK K;have kV := Blk.set_ kW7 3 (.int .i64 y);simp only [List.set_cons_zero, List.set_cons_succ] at kV;clear z0x z1x z2x z3x z4x z5x z6x z7x z0fx z1fx z2fx z3fx z4fx z5fx z6fx z7fx;have kQ := ((kQ5.far (p := ⟨gw, 1, none⟩) hne (.int .i64 (i : Int))).far (p := ⟨gw, 2, none⟩) hne (.int .i64 z)).far (p := ⟨gw, 3, none⟩) hne (.int .i64 y);have bV := ((bU.setCell (p := ⟨gw, 1, none⟩) hbw.out (.int .i64 (i : Int))).setCell (p := ⟨gw, 2, none⟩) hbw.out (.int .i64 z)).setCell (p := ⟨gw, 3, none⟩) hbw.out (.int .i64 y);clear kW5 kQ5 bU kW6 kW7 bAll;refine wpPP_nil ?_;go_wp2_with fail;refine NoPanic.normal ?_;obtain ⟨z0w, z1w, z2w, z3w, z4w, z5w, z6w, z7w⟩ := kV.cells8;obtain ⟨z0c, z1c, z2c, z3c, z4c, z5c, z6c, z7c⟩ := kQ.cells8;obtain ⟨z0fz, z1fz, z2fz, z3fz, z4fz, z5fz, z6fz, z7fz⟩ := kQ.frozen8;have kN := kQ.put8 (.int .i64 4) (.int .i64 (i : Int)) (.int .i64 z) (.int .i64 y) (.int .i64 (-1)) (.slice none 0 0) (.int .i64 (-1)) (.int .i64 (-1));have hbf := Hd (bP8 bV (g := gr) hgrw.out (.int .i64 4) (.int .i64 (i : Int)) (.int .i64 z) (.int .i64 y) (.int .i64 (-1)) (.slice none 0 0) (.int .i64 (-1)) (.int .i64 (-1)));have hdd := Hd kN.cells8;clear kN kQ kV bV;go_wp2_with fail;obtain ⟨d0, d1, d2, d3, d4, d5, d6, d7⟩ := hdd.out;exact bodyPost_ret (v := .tuple #[.agg #[.int .i64 4, .int .i64 (i : Int), .int .i64 z, .int .i64 y, .int .i64 (-1), .slice none 0 0, .int .i64 (-1), .int .i64 (-1)], .bool true]) (by simp [results, Tryz.results41, go_sem, d0, d1, d2, d3, d4, d5, d6, d7]) rfl ⟨⟨4, (i : Int), z, y, (-1), -1, -1⟩, by rw [hans.out]; rfl, by rw [hans.out]; rfl, hbf.out⟩
     ·have hql' : ¬ (q : Int) < (n2 : Int) := by omega
      have hnx := Hd (hst.out.1 (by
       rw [hEg.out, List.find?_eq_none.2 (fun y hy => by
        obtain ⟨p, hp, e⟩ := List.getElem_of_mem hy;rw [hall.out p (by have := hl2.out.len; omega) y (by rw [List.getElem?_eq_getElem hp, e])]
        simp)]
       rfl))
      have hb5 := Hd (hb.out.trans (hc.out.mono hb.out.size));clear hql;go_wp2_with fail;exact ⟨⟨i + 1, by have := hlt.out; omega, by go_num, hnx, hb5⟩, by have := hlt.out; simp [intOf]; omega⟩
  ·have hlt' : ¬ (i : Int) < (v.k : Int) := by omega
   obtain rfl : i = v.k := by omega
   have hans : Hid ((rdl v.k).findSome? (betwG f X) = none) := Hd (by
    have h := hno.out
    rwa [List.take_of_length_le (by rw [rdl_len]; exact Nat.le_refl _)] at h)
   have kV := kW.out.below hb.out kW.out.lt;have kQ := kQ.out.below hb.out kQ.out.lt;have bV := hBr.out.o;clear hlt;obtain ⟨z0w, z1w, z2w, z3w, z4w, z5w, z6w, z7w⟩ := kV.cells8;obtain ⟨z0c, z1c, z2c, z3c, z4c, z5c, z6c, z7c⟩ := kQ.cells8;obtain ⟨z0fz, z1fz, z2fz, z3fz, z4fz, z5fz, z6fz, z7fz⟩ := kQ.frozen8;have kN := kQ.put8 (.int .i64 4) (.int .i64 (-1)) (.int .i64 (-1)) (.int .i64 (-1)) (.int .i64 (-1)) (.slice none 0 0) (.int .i64 (-1)) (.int .i64 (-1));have hbf := Hd (bP8 bV (g := gr) hgrw.out (.int .i64 4) (.int .i64 (-1)) (.int .i64 (-1)) (.int .i64 (-1)) (.int .i64 (-1)) (.slice none 0 0) (.int .i64 (-1)) (.int .i64 (-1)));have hdd := Hd kN.cells8;clear kN kQ kV bV;go_wp2_with fail;obtain ⟨d0, d1, d2, d3, d4, d5, d6, d7⟩ := hdd.out;exact bodyPost_ret (v := .tuple #[.agg #[.int .i64 4, .int .i64 (-1), .int .i64 (-1), .int .i64 (-1), .int .i64 (-1), .slice none 0 0, .int .i64 (-1), .int .i64 (-1)], .bool false]) (by simp [results, Tryz.results41, go_sem, d0, d1, d2, d3, d4, d5, d6, d7]) rfl ⟨⟨4, (-1), (-1), (-1), (-1), -1, -1⟩, by rw [hans.out]; rfl, by rw [hans.out]; rfl, hbf.out⟩
theorem encI_all18 (ds : List Int) : encI.all ds = ds.map i64v := by
 induction ds with
 | nil => rfl
 | cons d ds ih => rw [Enc.all_cons, ih]; rfl
theorem LAt.ints {w : World} {A : Option Addr} {n : Nat} {zs : List Int} (h : LAt encI w A n zs) : Ints w A n zs :=
 ⟨⟨by rw [List.length_map]; exact h.len, fun hn => by
  obtain ⟨b, off, e, hb, hc⟩ := h.2.2 hn;exact ⟨b, off, e, hb, fun j u hu => hc j u (by rw [encI_all18]; exact hu)⟩⟩, h.okAll⟩
def RetELF (xs : List Ed) (w : World) (e : Ending) (w' : World) : Prop := ∃ A n c, e = .returned (.slice A n c) ∧ LAt encE w' A n xs ∧ n ≤ c ∧ c ≤ 9223372036854775807 ∧ Below w.heap.size w w' ∧ ∀ ad, A = some ad → w.heap.size ≤ ad.block
theorem ref18_NewF (v : FV) (f : Fac) (A : Option Addr) (c : Nat) (X : List (List Nat)) (D : Option Addr) (m d : Nat) (kept : List Int) (w : World) (hF : FactsAt w v f) (hr : RowsAt w A v.m X) (hG : Good v.m X) (hL : LAt encI w D m kept) (hk : ∀ r ∈ kept, 0 ≤ r ∧ r < (v.m : Int)) (hvm : v.m ≤ 64) (hm : m ≤ 64) (hw : WholeF f) :
  Calls Tryz.prog 103 #[.agg #[.slice v.A v.n v.c, .slice v.B v.m v.d, .slice v.C v.k v.e], .agg #[.int .i64 (v.m : Int), .slice A v.m c], .slice D m d] w (RetELF (newF f X kept) w) := by
 have hil := hF.is.len;have hkm := Hd (show v.k = v.m from by rw [← hil, ← hF.fs.len]; exact hw.len);have hEok := Hd (newF_okE (f := f) (X := X) (kept := kept) (by rw [hil]; exact hk) (by omega));unfold newF at hEok ⊢;rw [hil] at hEok ⊢;replace hk := Hd hk;clear hw hil;obtain ⟨i0, hi, hz0, hz1, hz2⟩ := info_parts info_edge;replace hi := Hd hi;replace hz0 := Hd hz0;replace hz1 := Hd hz1;replace hz2 := Hd hz2;replace hL := Hd hL;have hB0 := Hd (FBox.new hF);obtain ⟨g, hg⟩ : ∃ g, g = w.heap.size := ⟨_, rfl⟩;obtain ⟨W0, hW0⟩ : ∃ W, W = w.alloc (.cells #[.slice v.A v.n v.c, .slice v.B v.m v.d, .slice v.C v.k v.e] 29) := ⟨_, rfl⟩;rw [← hW0, ← hg] at hB0;clear hF;replace hr := hr.below hB0.out.o;have hM1 := Hd (MatK.new (N := (v.m : Int)) (c := c) W0 57 hr);obtain ⟨gm, hgm⟩ : ∃ g, g = W0.heap.size := ⟨_, rfl⟩;obtain ⟨W1, hW1⟩ : ∃ W, W = W0.alloc (.cells #[.int .i64 (v.m : Int), .slice A v.m c] 57) := ⟨_, rfl⟩;rw [← hW1, ← hgm] at hM1;have hB1 := Hd (hB0.out.later (show Below W0.heap.size W0 W1 from by rw [hW1]; exact bAl _ _));clear hr hB0;have hL1 := Hd (hL.out.below hB1.out.o)
 go_enter Tryz.func103, Tryz.ntmps103
 go_wp2_with (first | (rw [← hW0, ← hg]; clear hW0 hg) | (rw [← hW1, ← hgm]; clear hW1 hgm))
 go_loopw [7, 8] (fun u t wr => ∃ i : Nat, i ≤ v.m ∧ t = .int .i64 (i : Int) ∧ Hid (Below W1.heap.size W1 wr) ∧ Hid (wr.ownsRow W1.heap.size 84 3 u (nwA f X kept v.m i).length (encE.all (nwA f X kept v.m i)))) (fun _ t _ => v.m - (intOf t).toNat)
 case atStart => exact ⟨0, Nat.zero_le _, rfl, Hd (Below.refl _ _), Hd (World.ownsRow_nil _ _ _ _)⟩
 case round =>
  obtain ⟨i, hi0, rfl, hb, hown⟩ := hrel;have hB := Hd (hB1.out.later hb.out);have p0 := hB.out.c0;have p1 := hB.out.c1;have p2 := hB.out.c2;by_cases hli : i < v.m
  ·have hli' : (i : Int) < (v.m : Int) := by omega
   go_wp2_with fail;clear p0 p1 p2 hB
   go_loopw [7, 9] (fun u t wr => ∃ j : Nat, j ≤ v.m ∧ t = .int .i64 (j : Int) ∧ Hid (Below W1.heap.size W1 wr) ∧ Hid (wr.ownsRow W1.heap.size 84 3 u (nwA f X kept v.m i ++ nwB f X kept i j).length (encE.all (nwA f X kept v.m i ++ nwB f X kept i j)))) (fun _ t _ => v.m - (intOf t).toNat)
   case atStart => exact ⟨0, Nat.zero_le _, rfl, hb, Hd (by rw [nwB_zero, List.append_nil]; exact hown.out)⟩
   case round =>
    clear hb hown;obtain ⟨j, hj0, rfl, hb, hown⟩ := hrel;have hB := Hd (hB1.out.later hb.out);have hM := Hd (hM1.out.below hb.out);have p0 := hB.out.c0;have p1 := hB.out.c1;have p2 := hB.out.c2;have m0 := hM.out.1.c0;have m1 := hM.out.1.c1;by_cases hlj : j < v.m
    ·have hlj' : (j : Int) < (v.m : Int) := by omega
     have bi : 0 ≤ (i : Int) ∧ (i : Int) < (v.m : Int) := by omega
     have bj : 0 ≤ (j : Int) ∧ (j : Int) < (v.m : Int) := by omega
     obtain ⟨ib, io, x, hxB, hib, hx, -, i0, i1, i2, i3, i4⟩ := hB.out.f.is.item hli;rw [hxB] at p1;by_cases hij : i = j
     ·have e0 : ((i : Int) == (j : Int)) = true := by simp [hij]
      have hno : nwG f X i j = false := by unfold nwG; rw [decide_eq_false (by omega)]; rfl
      replace hij := Hd hij;clear i0 i1 i2 i3 i4 hx hxB hib;have hnw : Hid (nwO f X kept i j = none) := Hd (by unfold nwO; rw [if_neg (by rw [hno]; simp)]);replace hno := Hd hno;clear hlj;go_wp2_with fail
      go_quiet (fail)
      go_wp2_with fail;exact ⟨⟨j + 1, by have := hlj'; omega, by go_num, Hd (bDN hb.out _), Hd (by rw [nwB_succ, hnw.out]; simp only [Option.toList_none, List.append_nil]; exact oBl hown.out (bDN (Below.refl _ _) _))⟩, by have := hlj'; simp [intOf]; omega⟩
     ·have e0 : ((i : Int) == (j : Int)) = false := by simp; omega
      obtain ⟨jb, jo, y, hyB, hjb, hy, -, j0, j1, j2, j3, j4⟩ := hB.out.f.is.item hlj;rw [hxB] at hyB;injection hyB with hyB;injection hyB with h1 h2;subst h1; subst h2;have hno : nwG f X i j = ((x.wr && y.wr && decide (x.va = y.va)) && !(hasM X (i : Int) (j : Int))) := by
       unfold nwG; rw [bothW_at hx hy, decide_eq_true hij, Bool.true_and]
      replace hij := Hd hij;obtain ⟨xs, xp, xw, xa, xl⟩ := x;obtain ⟨ys, yp, yw, ya, yl⟩ := y
      simp only at i2 i3 j2 j3 hno
      clear i0 i1 i4 j0 j1 j4 hx hy hxB hib hjb
      cases xw with
      | false =>
       rw [Bool.false_and, Bool.false_and, Bool.false_and] at hno;have hnw : Hid (nwO f X kept i j = none) := Hd (by unfold nwO; rw [if_neg (by rw [hno]; simp)]);replace hno := Hd hno;clear hlj;go_wp2_with fail
       go_quiet (fail)
       go_wp2_with fail;exact ⟨⟨j + 1, by have := hlj'; omega, by go_num, Hd (bDN hb.out _), Hd (by rw [nwB_succ, hnw.out]; simp only [Option.toList_none, List.append_nil]; exact oBl hown.out (bDN (Below.refl _ _) _))⟩, by have := hlj'; simp [intOf]; omega⟩
      | true =>
       cases yw with
       | false =>
        rw [Bool.and_false, Bool.false_and, Bool.false_and] at hno;have hnw : Hid (nwO f X kept i j = none) := Hd (by unfold nwO; rw [if_neg (by rw [hno]; simp)]);replace hno := Hd hno;clear hlj;go_wp2_with fail
        go_quiet (fail)
        go_wp2_with fail;exact ⟨⟨j + 1, by have := hlj'; omega, by go_num, Hd (bDN hb.out _), Hd (by rw [nwB_succ, hnw.out]; simp only [Option.toList_none, List.append_nil]; exact oBl hown.out (bDN (Below.refl _ _) _))⟩, by have := hlj'; simp [intOf]; omega⟩
       | true =>
        by_cases hva : xa = ya
        ·have e1 : (xa != ya) = false := by simp [hva]
         rw [decide_eq_true hva, Bool.and_true, Bool.and_true, Bool.true_and] at hno;replace hva := Hd hva;have cH := fun W hW => ref3_HasG A v.m c X hG (i : Int) (j : Int) W hW;go_wp2_with fail;refine wpRp 42 [(true, 0), (true, 1), (true, 2), (true, 3), (true, 4), (true, 5), (true, 6), (true, 7), (true, 8), (true, 9), (true, 10), (true, 11), (true, 12), (true, 13), (true, 14), (true, 15), (true, 16), (true, 17), (true, 18), (true, 19), (true, 20), (true, 21), (true, 22), (true, 23), (true, 24), (true, 25), (true, 26), (true, 27), (true, 28), (true, 29), (true, 30), (true, 31), (true, 32), (true, 33), (true, 34), (true, 35), (true, 36), (true, 37), (true, 38), (true, 39), (false, 40), (true, 41)] (by kernel_rfl) (by kernel_rfl) (fun U hU => ?_);have hU' : Below wr.heap.size wr U := by rw [hU.out]; exact (Below.refl _ _).drew
         have drw : ∀ p u, wr.cell? p = some u → U.cell? p = some u := fun p u h => by rw [hU.out]; exact h
         replace i2 := drw _ _ i2;replace i3 := drw _ _ i3;replace j2 := drw _ _ j2;replace j3 := drw _ _ j3;replace p1 := drw _ _ p1;replace m0 := drw _ _ m0;replace m1 := drw _ _ m1;clear drw;replace hM := Hd (hM.out.below hU');replace hown := Hd (oBl hown.out hU');replace hb := Hd (bT2 hb.out hU');clear hU hU' p0 p2;simp only [List.drop_succ_cons, List.drop_nil];replace hlj := Hd hlj
         iterate 40
          refine wpPf (v := ?_) rfl (by rfl) (fun w' hw' => ?_) (fun K hK => ?_);rotate_left
          ·(go_simp; try with_reducible rfl)
          go_simp;refine hK _ ?_;clear hK K
         clear p1 m0 m1 i2 i3 j2 j3
         cases hh : hasM X (i : Int) (j : Int) with
         | true =>
          rw [hh] at hno cH;have hnw : Hid (nwO f X kept i j = none) := Hd (by unfold nwO; rw [if_neg (by rw [hno]; simp)]);replace hno := Hd hno;replace cH := Hd cH;clear hh;refine wpPo rfl (by rfl) (fun K hK => ?_);go_simp;refine (cH.out U hM.out.2).mono ?_;rintro e x3 ⟨rfl, bx⟩;refine hK _ _ bx ?_;clear hK K;replace hown := Hd (oBl hown.out bx);replace hb := Hd (bT2 hb.out bx);clear bx hM
          iterate 1
           refine wpPf (v := ?_) rfl (by rfl) (fun w' hw' => ?_) (fun K hK => ?_);rotate_left
           ·(go_simp; try with_reducible rfl)
           go_simp;refine hK _ ?_;clear hK K
          refine wpPn (NoPanic.normal ?_);go_wp2_with fail;exact ⟨⟨j + 1, by have := hlj.out; omega, by go_num, hb, Hd (by rw [nwB_succ, hnw.out]; simp only [Option.toList_none, List.append_nil]; exact hown.out)⟩, by have := hlj.out; simp [intOf]; omega⟩
         | false =>
          rw [hh] at hno cH;have hnw : Hid (nwO f X kept i j = (kept.find? (nwK f X i j)).map (fun r => ⟨(i : Int), (j : Int), r⟩)) := Hd (by unfold nwO; rw [if_pos (by rw [hno]; rfl)]);replace hno := Hd hno;replace cH := Hd cH;clear hh;refine wpPo rfl (by rfl) (fun K hK => ?_);go_simp;refine (cH.out U hM.out.2).mono ?_;rintro e x3 ⟨rfl, bx⟩;refine hK _ _ bx ?_;clear hK K;replace hown := Hd (oBl hown.out bx);replace hb := Hd (bT2 hb.out bx);clear bx hM cH;have hS0 := nwA_len (f := f) (X := X) (kept := kept) v.m i;have hS1 := nwB_len (f := f) (X := X) (kept := kept) i j;obtain ⟨S2, hS2⟩ : ∃ S, S = nwA f X kept v.m i ++ nwB f X kept i j := ⟨_, rfl⟩;have hS2l : S2.length ≤ 1048576 := by
           rw [hS2, List.length_append];have q1 : i * v.m ≤ 64 * 64 := Nat.mul_le_mul (by omega) hvm
           omega
          rw [← hS2] at hown;obtain ⟨L, hLl⟩ : ∃ L, L = S2.length := ⟨_, rfl⟩;rw [← hLl] at hown hS2l;replace hLl := Hd hLl;replace hS2 := Hd hS2;clear hS0 hS1
          iterate 1
           refine wpPf (v := ?_) rfl (by rfl) (fun w' hw' => ?_) (fun K hK => ?_);rotate_left
           ·(go_simp; try with_reducible rfl)
           go_simp;refine hK _ ?_;clear hK K
          refine wpPn (NoPanic.normal ?_);go_wp2_with fail
          go_loopw [7, 10] (fun u t wr => ∃ k : Nat, k ≤ m ∧ t = .int .i64 (k : Int) ∧ Hid (∀ q, q < k → ∀ r, kept[q]? = some r → nwK f X i j r = false) ∧ Hid (Below W1.heap.size W1 wr) ∧ Hid (wr.ownsRow W1.heap.size 84 3 u L (encE.all S2))) (fun _ t _ => m - (intOf t).toNat)
          case atStart => exact ⟨0, Nat.zero_le _, rfl, Hd (fun q h => absurd h (by omega)), hb, hown⟩
          case round =>
           clear hb hown;obtain ⟨k, hk0, rfl, hall, hb, hown⟩ := hrel;by_cases hkl : k < m
           ·have hkl' : (k : Int) < (m : Int) := by omega
            have bk : 0 ≤ (k : Int) ∧ (k : Int) < (m : Int) := by omega
            have hB := Hd (hB1.out.later hb.out);have hM := Hd (hM1.out.below hb.out);have p0 := hB.out.c0;have p1 := hB.out.c1;have p2 := hB.out.c2;have m0 := hM.out.1.c0;have m1 := hM.out.1.c1;obtain ⟨rb, ro, r, hDr, -, hr, -, r0⟩ := (hL1.out.below hb.out).int hkl;have hrr := hk.out r (List.mem_of_getElem? hr);obtain ⟨zb, zo, z, hzC, -, hz, -, k0⟩ := hB.out.f.fs.int (show r.toNat < v.k by have := hkm.out; omega);rw [hzC] at p2;subst hDr;have hgd : f.frm.getD r.toNat 0 = z := by rw [List.getD_eq_getElem?_getD, hz]; rfl
            have brr : 0 ≤ r ∧ r < (v.k : Int) := by have := hkm.out; omega
            have hnk : nwK f X i j r = (decide (z = (j : Int)) && hasM X (i : Int) r) := by unfold nwK; rw [hgd]
            have cH := ref3_HasG A v.m c X hG (i : Int) r wr hM.out.2;have hnx : nwK f X i j r = false → Hid (∀ q, q < k + 1 → ∀ r, kept[q]? = some r → nwK f X i j r = false) := fun h => Hd (fun q hq y hy => by
             rcases Nat.lt_succ_iff_lt_or_eq.1 hq with h1 | h1
             ·exact hall.out q h1 y hy
             ·subst h1
              rw [hr] at hy;injection hy with hy;rw [← hy]; exact h)
            replace hgd := Hd hgd;replace hrr := Hd hrr;replace hkl := Hd hkl;replace hr := Hd hr;clear hz hzC;by_cases hzj : z = (j : Int)
            ·have e2 : (z == (j : Int)) = true := by simp [hzj]
             rw [decide_eq_true hzj, Bool.true_and] at hnk;replace hzj := Hd hzj
             cases hh : hasM X (i : Int) r with
             | true =>
              rw [hh] at hnk cH;have hfo : Hid (nwO f X kept i j = some ⟨(i : Int), (j : Int), r⟩) := Hd (by
               have hq := (List.getElem?_eq_some_iff.1 hr.out).1;rw [hnw.out, List.find?_eq_some_iff_getElem.2 ⟨hnk, k, hq, (List.getElem?_eq_some_iff.1 hr.out).2, fun q hq' => by
                rw [hall.out q hq' _ (List.getElem?_eq_getElem (by omega))]; rfl⟩]
               rfl)
              replace cH := Hd cH;clear hh hnk hnx;have hrr' := hrr.out;go_wp2_with fail;refine cH.out.mono ?_; rintro e w5 ⟨rfl, b5⟩;have hown5 := Hd (oBl hown.out b5);have hb5 := Hd (bT2 hb.out b5);clear b5 cH k0 p0 p1 p2 m0 m1 r0;obtain ⟨gl, hgl⟩ : ∃ g, g = (w5).heap.size := ⟨_, rfl⟩;obtain ⟨VL, hVL⟩ : ∃ W, W = World.alloc (w5) (.cells #[.int .i64 (i : Int), .int .i64 (j : Int), .int .i64 r] 84) := ⟨_, rfl⟩;have bL : Below (w5).heap.size (w5) VL := by rw [hVL]; exact (Below.refl _ _).alloc (Nat.le_refl _) _
              have hlit := Hd (show LAt encE VL (some ⟨gl, 0, none⟩) 1 [⟨(i : Int), (j : Int), r⟩] from by rw [hVL, hgl]; exact LAt.lit1 (E := encE) (w5) 84 ⟨(i : Int), (j : Int), r⟩ ⟨by simp only; omega, by simp only; omega, by simp only; omega, by simp only; omega, by simp only; omega, by simp only; omega⟩);have hownL := Hd (oBl hown5.out bL);have bWL := Hd (bT2 hb5.out bL);have hbase := Hd bWL.out.size;clear bL;go_wp2_with (first
               | (rw [← hVL, ← hgl]; clear hVL hgl)
               | (at_builtin; refine wpAL (E := encE) rfl (.tmp 91) (.tmp 96) _ rfl W1.heap.size 84 i0 _ 24 Tryz.underlying79 hi.out hz0.out hz1.out hz2.out rfl _ L S2 (by rfl) hownL.out _ 1 1 _ rfl hlit.out (by unfold maxLen; omega) (by omega) hbase.out ?_; intro v' w7 hown' hb7 _ _))
              exact ⟨⟨j + 1, by have := hlj.out; omega, by go_num, Hd (bWL.out.trans hb7), Hd (by rw [nwB_succ, hfo.out, ← List.append_assoc, ← hS2.out]; simp only [Option.toList_some]; rw [List.length_append, ← hLl.out]; exact hown')⟩, by have := hlj.out; simp [intOf]; omega⟩
             | false =>
              rw [hh] at hnk cH;have hnn := hnx hnk;replace cH := Hd cH;clear hh hnk hnx;go_wp2_with fail;refine cH.out.mono ?_; rintro e w5 ⟨rfl, b5⟩;have hown5 := Hd (oBl hown.out b5);have hb5 := Hd (bT2 hb.out b5);clear b5 cH k0 p0 p1 p2 m0 m1 r0;go_wp2_with fail;exact ⟨⟨k + 1, by have := hkl.out; omega, by go_num, hnn, hb5, hown5⟩, by have := hkl.out; simp [intOf]; omega⟩
            ·have e2 : (z == (j : Int)) = false := by simpa using hzj
             rw [decide_eq_false hzj, Bool.false_and] at hnk;have hnn := hnx hnk;replace hzj := Hd hzj;clear hnk hnx cH;go_wp2_with fail;exact ⟨⟨k + 1, by have := hkl.out; omega, by go_num, hnn, hb, hown⟩, by have := hkl.out; simp [intOf]; omega⟩
           ·have hkl' : ¬ (k : Int) < (m : Int) := by omega
            have hno' : Hid (nwO f X kept i j = none) := Hd (by
             rw [hnw.out, List.find?_eq_none.2 (fun r hr => by
              obtain ⟨q, hq, e⟩ := List.getElem_of_mem hr;rw [hall.out q (by have := hL.out.len; omega) r (by rw [List.getElem?_eq_getElem hq, e])]
              simp)]
             rfl)
            clear hkl;go_wp2_with fail;exact ⟨⟨j + 1, by have := hlj.out; omega, by go_num, hb, Hd (by rw [nwB_succ, hno'.out]; simp only [Option.toList_none, List.append_nil]; rw [← hS2.out, ← hLl.out]; exact hown.out)⟩, by have := hlj.out; simp [intOf]; omega⟩
        ·have e1 : (xa != ya) = true := by simpa using hva
         rw [decide_eq_false hva, Bool.and_false, Bool.false_and] at hno;replace hva := Hd hva;have hnw : Hid (nwO f X kept i j = none) := Hd (by unfold nwO; rw [if_neg (by rw [hno]; simp)]);replace hno := Hd hno;clear hlj;go_wp2_with fail
         go_quiet (fail)
         go_wp2_with fail;exact ⟨⟨j + 1, by have := hlj'; omega, by go_num, Hd (bDN hb.out _), Hd (by rw [nwB_succ, hnw.out]; simp only [Option.toList_none, List.append_nil]; exact oBl hown.out (bDN (Below.refl _ _) _))⟩, by have := hlj'; simp [intOf]; omega⟩
    ·have hlj' : ¬ (j : Int) < (v.m : Int) := by omega
     obtain rfl : j = v.m := by omega
     clear hlj;go_wp2_with fail;exact ⟨⟨i + 1, by omega, by go_num, hb, Hd (by rw [nwA_succ]; exact hown.out)⟩, by simp [intOf]; omega⟩
  ·have hli' : ¬ (i : Int) < (v.m : Int) := by omega
   obtain rfl : i = v.m := by omega
   have hfr := Hd (oLb hown.out);obtain ⟨A2, c2, rfl, hnc, hcm, hLA⟩ := LAt.of_own hown.out hEok.out rfl;clear hli;go_wp2_with fail;go_ret;exact ⟨A2, _, c2, rfl, hLA, hnc, hcm, bT2 hB1.out.o hb.out, fun ad e => by subst e; exact Nat.le_trans hB1.out.o.size (hfr.out _ rfl)⟩
theorem LAt.setFar {α : Type} {E : Enc α} {w : World} {A : Option Addr} {n : Nat} {xs : List α} (h : LAt E w A n xs) {p : Addr} (hne : ∀ ad, A = some ad → ad.block ≠ p.block) (u : Value) : LAt E (w.setCell p u) A n xs :=
 ⟨h.1, h.2.1, fun hn => by
  obtain ⟨b, off, e, hb, hc⟩ := h.2.2 hn;exact ⟨b, off, e, by simpa using hb, fun j v hv => (World.cell?_of_block (Below.heap_setCell w p u b (fun e' => hne _ e e'))).trans (hc j v hv)⟩⟩
theorem LAt.grown18 {α : Type} {E : Enc α} {w w' : World} {A : Option Addr} {n : Nat} {xs : List α} {row : Option Nat} (h : LAt E w A n xs) (hg : w.grownBy w' row) (hne : ∀ ad, A = some ad → row ≠ some ad.block) : LAt E w' A n xs :=
 ⟨h.1, h.2.1, fun h0 => by
  obtain ⟨b, off, e, hb, hc⟩ := h.2.2 h0;exact ⟨b, off, e, Nat.lt_of_lt_of_le hb hg.size, fun j u hu => (World.cell?_of_block (hg.block b hb (fun e' => hne _ e e'.symm))).trans (hc j u hu)⟩⟩
def RetSeen (n : Nat) (f : Fac) (kept : List Int) (B : List (List Nat)) (w : World) (e : Ending) (w' : World) : Prop := ∃ (k : Nat) (A : Option Addr) (d : Nat) (E : Option Addr) (ne ce : Nat),
 e = .returned (.tuple #[.agg #[.int .i64 (n : Int), .slice A n d], .slice E ne ce, .int .i64 ((k + 1 : Nat) : Int), .int .i64 0]) ∧ SeenIs f kept B k ∧ RowsAt w' A n (seX f kept B k) ∧ n ≤ d ∧ LAt encE w' E ne (seL f kept B k) ∧ ne ≤ ce ∧ ce ≤ 9223372036854775807 ∧ Below w.heap.size w w'
theorem keptF_ok (is : List It) (o : Int) : ∀ r ∈ keptF is (pastF is o is.length), 0 ≤ r ∧ r < (is.length : Int) := fun r hr => pastF_ok is o is.length r (List.mem_filter.1 hr).1
theorem keptF_len (is : List It) (o : Int) : (keptF is (pastF is o is.length)).length ≤ is.length := Nat.le_trans (List.length_filter_le _ _) (pastF_len _ _ _)
theorem ref18_Of (v : FV) (f : Fac) (A : Option Addr) (c : Nat) (co : List (List Nat)) (o : Int) (w : World) (hF : FactsAt w v f) (hr : RowsAt w A v.m co) (hG : Good v.m co) (hm : v.m < 64) (hw : WholeF f) (h0 : 0 ≤ o) (h1 : o < (v.m : Int)) :
  Calls Tryz.prog 75 #[.agg #[.slice v.A v.n v.c, .slice v.B v.m v.d, .slice v.C v.k v.e], .agg #[.int .i64 (v.m : Int), .slice A v.m c], .int .i64 o] w (RetSeen v.m f (keptF f.items (pastF f.items o f.items.length)) (withinM v.m co (wihO co o v.m)) w) := by
 have hil := hF.is.len;have d1 : decide (o < 0) = false := decide_eq_false (by omega);have d2 : decide ((v.m : Int) ≤ o) = false := decide_eq_false (by omega);have cK := fun W hW => ref16_Kept v f o W hW (by omega);have cW := Hd (fun W hW => ref16_With A v.m c co o W hW hG);have cI := fun L m d W hR hI hmm => ref4_Within A L v.m c m d co (wihO co o v.m) W hR hG hm hI hmm;have hkok := keptF_ok f.items o;have hklen := keptF_len f.items o;have gB := (within_facts hG (wihO co o v.m)).1;have hwl : (wihO co o v.m).length ≤ 1048576 := by
  unfold wihO
  split
  ·exact Nat.le_trans (wihF_len _ _ _) (by omega)
  ·simp
 obtain ⟨kept, hke⟩ : ∃ l, l = keptF f.items (pastF f.items o f.items.length) := ⟨_, rfl⟩;obtain ⟨B, hBe⟩ : ∃ M, M = withinM v.m co (wihO co o v.m) := ⟨_, rfl⟩;rw [← hke] at cK hkok hklen ⊢;rw [← hBe] at cI gB ⊢;rw [hil] at hkok hklen;have gB' : Good f.items.length B := by rw [hil]; exact gB
 have cN := fun A c X hX D m d W hF hR hL hmm => ref18_NewF v f A c X D m d kept W hF hR hX hL hkok (by omega) hmm hw;have hsg : Hid (∀ k, Good v.m (seX f kept B k)) := Hd (fun k => by rw [← hil]; exact seX_good gB' k);have hsl : Hid (∀ k, (seL f kept B k).length ≤ v.m * v.m) := Hd (fun k => Nat.le_trans (seL_len gB' k) (by rw [hil]; exact Nat.mul_le_mul (by rw [← hil]; exact cntW_le _ _) (by rw [← hil]; exact cntW_le _ _)));have hsk : Hid (∀ k, ∀ x ∈ seL f kept B k, Ed.Ok x) := Hd (seL_okE gB' (by rw [hil]; exact hkok) (by omega));have hnp : Hid (∀ k (q : Nat) (x : Ed), (newF f (seX f kept B k) kept)[q]? = some x → inM (v.m : Int) x.w1 x.w2 = true) := Hd (fun k q x h => by
  rw [← hil];exact newF_ok (f := f) (X := seX f kept B k) (kept := kept) (x.w1, x.w2) (List.mem_map.2 ⟨x, List.mem_of_getElem? h, rfl⟩))
 have hfg : Hid (∀ k q, Good v.m ((edP ((newF f (seX f kept B k) kept).take q)).foldl setP (seX f kept B k))) := Hd (fun k q => by
  rw [← hil];exact (fold_facts _ _ (seX_good gB' k) (fun p hp => by
   obtain ⟨x, hx, rfl⟩ := List.mem_map.1 hp;exact newF_ok (f := f) (X := seX f kept B k) (kept := kept) _ (List.mem_map.2 ⟨x, List.mem_of_mem_take hx, rfl⟩))).1)
 have hsn : Hid (∀ X, (newF f X kept).length ≤ v.m * v.m) := Hd (fun X => by unfold newF; rw [hil]; exact nwA_len _ _);have hst : Hid (∀ k, seX f kept B (k + 1) = closeK ((edP (newF f (seX f kept B k) kept)).foldl setP (seX f kept B k)) v.m) := Hd (fun k => by rw [← hil]; rfl);have hBl := Hd gB.len;have hposB := Hd (fun h0 => rows_len_pos gB h0);replace cK := Hd cK;replace cI := Hd cI;replace cN := Hd cN;replace hke := Hd hke;replace hBe := Hd hBe;replace hil := Hd hil;replace hkok := Hd hkok;replace hklen := Hd hklen;clear gB gB' hw;obtain ⟨i0, hi, hz0, hz1, hz2⟩ := info_parts info_edge;replace hi := Hd hi;replace hz0 := Hd hz0;replace hz1 := Hd hz1;replace hz2 := Hd hz2;have hB0 := Hd (FBox.new hF);obtain ⟨g, hg⟩ : ∃ g, g = w.heap.size := ⟨_, rfl⟩;obtain ⟨W0, hW0⟩ : ∃ W, W = w.alloc (.cells #[.slice v.A v.n v.c, .slice v.B v.m v.d, .slice v.C v.k v.e] 29) := ⟨_, rfl⟩;rw [← hW0, ← hg] at hB0;clear hF;replace hr := hr.below hB0.out.o;have hM1 := Hd (MatK.new (N := (v.m : Int)) (c := c) W0 57 hr);obtain ⟨gm, hgm⟩ : ∃ g, g = W0.heap.size := ⟨_, rfl⟩;obtain ⟨W1, hW1⟩ : ∃ W, W = W0.alloc (.cells #[.int .i64 (v.m : Int), .slice A v.m c] 57) := ⟨_, rfl⟩;rw [← hW1, ← hgm] at hM1;have hB1 := Hd (hB0.out.later (show Below W0.heap.size W0 W1 from by rw [hW1]; exact bAl _ _));clear hr hB0;obtain ⟨gr, hgr⟩ : ∃ g, g = W1.heap.size := ⟨_, rfl⟩;obtain ⟨W2, hW2⟩ : ∃ W, W = W1.alloc (.cells #[.int .i64 0, .slice none 0 0] 57) := ⟨_, rfl⟩;have b2 : Below W1.heap.size W1 W2 := by rw [hW2]; exact bAl _ _
 have hB2 := Hd (hB1.out.later b2);have hM2 := Hd (hM1.out.below b2);have kR := Hd (show MatB W2 gr 57 0 none 0 0 from by rw [hW2, hgr]; exact MatB.new W1 _);have hgw := Hd (show w.heap.size ≤ gr from by rw [hgr]; exact hB1.out.o.size);clear hM1 hB1 b2;have p0 := hB2.out.c0;have p1 := hB2.out.c1;have p2 := hB2.out.c2
 go_enter Tryz.func75, Tryz.ntmps75
 go_wp2_with (first | (rw [← hW0, ← hg]; clear hW0 hg) | (rw [← hW1, ← hgm]; clear hW1 hgm) | (rw [← hW2, ← hgr]; clear hW2; replace hgr := Hd hgr));refine (cK.out W2 hB2.out.f).mono ?_; rintro e w3 ⟨D, m, d, rfl, hL, hmd, hdm, b⟩;have hm64 : m ≤ 64 := by rw [← hL.len]; have := hklen.out; omega
 replace hB2 := Hd (hB2.out.later b);replace hM2 := Hd (hM2.out.below b);replace kR := Hd (kR.out.below_ b);replace hL := Hd hL;clear p0 p1 p2 b;go_wp2_with fail;refine wp_region_tree (.flt 0 (.flt 1 (.flt 2 (.two 3 5 (.two 4 5 (.one 5 (.one 6 .done)) (.one 4 (.one 6 .done))) (.one 3 (.one 4 (.one 6 .done))))))) (by kernel_rfl) (by kernel_rfl) (fun U hU => ?_);have hU' : Below w3.heap.size w3 U := by rw [hU.out]; exact (Below.refl _ _).drew
 replace hB2 := Hd (hB2.out.later hU');replace hM2 := Hd (hM2.out.below hU');replace kR := Hd (kR.out.below_ hU');replace hL := Hd (hL.out.below hU');clear hU hU';have bW : Below U.heap.size U U := Below.refl _ _
 apply cut_seven (F := fun (M : Nat) (w9 : World) (D2 : Option Addr) (m2 d2 : Nat) (C : Option Addr) (dC : Nat) => MV w9 M v.m C dC B ∧ U.heap.size ≤ M ∧ Below U.heap.size U w9)
 ·intro key
  have m0 := hM2.out.1.c0;have m1 := hM2.out.1.c1
  iterate 3
   refine wpTf (v := ?_) rfl (by rfl) (fun w' hw' => ?_) (fun K hK => ?_);rotate_left
   ·(go_simp; try with_reducible rfl)
   go_simp;refine hK _ ?_;clear hK K
  clear m0 m1;refine wpPT_two rfl (by rfl) rfl (by rfl) (fun K hK => ?_) (fun K hK => ?_)
  ·skip
   go_simp;refine (cW.out U (hM2.out.below bW).2).mono ?_; rintro e v1 ⟨D2, m2, d2, rfl, hI, hmd2, hdm2, b⟩;have hm2 := Hd hI.len;replace hI := Hd hI;replace bW := bT2 bW b;refine hK _ _ bW ?_;clear hK K;refine wpPT_two rfl (by rfl) rfl (by rfl) (fun K hK => ?_) (fun K hK => ?_)
   ·skip
    go_simp;refine (cI.out D2 m2 d2 v1 (hM2.out.below bW).2 hI.out.ints (by have := hm2.out; omega)).mono ?_; rintro e v2 ⟨C, n3, dC, rfl, rC, hdC, b⟩;obtain rfl : n3 = v.m := by rw [← rC.len]; exact hBl.out
    replace bW := bT2 bW b;refine hK _ _ bW ?_;clear hK K;refine wpT1 rfl (by rfl) (fun K hK => ?_);go_simp;obtain ⟨M, hM⟩ : ∃ M, M = (World.heap v2).size := ⟨_, rfl⟩;obtain ⟨v3, hw⟩ : ∃ X : World, X = World.alloc v2 (.cells #[.int .i64 0, .slice none 0 0] 57) := ⟨_, rfl⟩;rw [← hw, ← hM];have b : Below (World.heap v2).size v2 v3 := by rw [hw]; exact bAl _ _
    have hUM : U.heap.size ≤ M := by rw [hM]; exact bW.size
    replace bW := bT2 bW b;refine hK _ _ bW ?_;clear hK K;have kM := Hd (show MatB v3 M 57 0 none 0 0 from by rw [hw, hM]; exact MatB.new _ _);have hne : 0 < v.m → ∀ ad, C = some ad → ad.block ≠ M := fun h0 ad e => by have := rC.block_lt h0 ad e; omega
    replace rC := rC.below b;clear hM hw b;have f0 := kM.out.c0;have f1 := kM.out.c1;have g0 := kM.out.frozen 0;have g1 := kM.out.frozen 1;refine wpT1 rfl (by rfl) (fun K hK => ?_);go_simp;obtain ⟨wz, hw⟩ : ∃ X : World, X = (World.setCell v3 ⟨M, 0, none⟩ (.int .i64 (v.m : Int))).setCell ⟨M, 1, none⟩ (.slice C v.m dC) := ⟨_, rfl⟩;rw [← hw];have hMV := Hd (show MV wz M v.m C dC B from ⟨by rw [hw]; exact kM.out.put _ _ _ _, by rw [hw]; exact rC.putB kM.out hne _ _, hdC, hne⟩);replace bW : Below U.heap.size U wz := by rw [hw]; exact (bW.setCell (p := ⟨M, 0, none⟩) hUM _).setCell (p := ⟨M, 1, none⟩) hUM _
    refine hK _ _ bW ?_;clear hK K f0 f1 g0 g1 hw rC kM hne;refine wpTd (NoPanic.normal ?_);exact key M wz D2 m2 d2 C dC ⟨hMV.out, hUM, bW⟩
   ·skip
    go_simp;obtain ⟨M, hM⟩ : ∃ M, M = (World.heap v1).size := ⟨_, rfl⟩;obtain ⟨v4, hw⟩ : ∃ X : World, X = World.alloc v1 (.cells #[.int .i64 0, .slice none 0 0] 57) := ⟨_, rfl⟩;rw [← hw, ← hM];have b : Below (World.heap v1).size v1 v4 := by rw [hw]; exact bAl _ _
    have hUM : U.heap.size ≤ M := by rw [hM]; exact bW.size
    replace bW := bT2 bW b;refine hK _ _ bW ?_;clear hK K;have kM := Hd (show MatB v4 M 57 0 none 0 0 from by rw [hw, hM]; exact MatB.new _ _);replace hI := Hd (hI.out.below b);clear hM hw b;refine wpT1 rfl (by rfl) (fun K hK => ?_);go_simp;refine (cI.out D2 m2 d2 v4 (hM2.out.below bW).2 hI.out.ints (by have := hm2.out; omega)).mono ?_; rintro e v5 ⟨C, n3, dC, rfl, rC, hdC, b⟩;obtain rfl : n3 = v.m := by rw [← rC.len]; exact hBl.out
    replace bW := bT2 bW b;refine hK _ _ bW ?_;clear hK K;replace kM := Hd (kM.out.below_ b);have hne : 0 < v.m → ∀ ad, C = some ad → ad.block ≠ M := fun h0 => rC.farZ kM.out (hposB.out h0) h0;clear b;have f0 := kM.out.c0;have f1 := kM.out.c1;have g0 := kM.out.frozen 0;have g1 := kM.out.frozen 1;refine wpT1 rfl (by rfl) (fun K hK => ?_);go_simp;obtain ⟨wz, hw⟩ : ∃ X : World, X = (World.setCell v5 ⟨M, 0, none⟩ (.int .i64 (v.m : Int))).setCell ⟨M, 1, none⟩ (.slice C v.m dC) := ⟨_, rfl⟩;rw [← hw];have hMV := Hd (show MV wz M v.m C dC B from ⟨by rw [hw]; exact kM.out.put _ _ _ _, by rw [hw]; exact rC.putB kM.out hne _ _, hdC, hne⟩);replace bW : Below U.heap.size U wz := by rw [hw]; exact (bW.setCell (p := ⟨M, 0, none⟩) hUM _).setCell (p := ⟨M, 1, none⟩) hUM _
    refine hK _ _ bW ?_;clear hK K f0 f1 g0 g1 hw rC kM hne;refine wpTd (NoPanic.normal ?_);exact key M wz D2 m2 d2 C dC ⟨hMV.out, hUM, bW⟩
  ·skip
   go_simp;obtain ⟨M, hM⟩ : ∃ M, M = (World.heap U).size := ⟨_, rfl⟩;obtain ⟨v6, hw⟩ : ∃ X : World, X = World.alloc U (.cells #[.int .i64 0, .slice none 0 0] 57) := ⟨_, rfl⟩;rw [← hw, ← hM];have b : Below (World.heap U).size U v6 := by rw [hw]; exact bAl _ _
   have hUM : U.heap.size ≤ M := by rw [hM]; exact bW.size
   replace bW := bT2 bW b;refine hK _ _ bW ?_;clear hK K;have kM := Hd (show MatB v6 M 57 0 none 0 0 from by rw [hw, hM]; exact MatB.new _ _);clear hM hw b;refine wpT1 rfl (by rfl) (fun K hK => ?_);go_simp;refine (cW.out v6 (hM2.out.below bW).2).mono ?_; rintro e v7 ⟨D2, m2, d2, rfl, hI, hmd2, hdm2, b⟩;have hm2 := Hd hI.len;replace hI := Hd hI;replace bW := bT2 bW b;refine hK _ _ bW ?_;clear hK K;replace kM := Hd (kM.out.below_ b);refine wpT1 rfl (by rfl) (fun K hK => ?_);go_simp;refine (cI.out D2 m2 d2 v7 (hM2.out.below bW).2 hI.out.ints (by have := hm2.out; omega)).mono ?_; rintro e v8 ⟨C, n3, dC, rfl, rC, hdC, b⟩;obtain rfl : n3 = v.m := by rw [← rC.len]; exact hBl.out
   replace bW := bT2 bW b;refine hK _ _ bW ?_;clear hK K;replace kM := Hd (kM.out.below_ b);have hne : 0 < v.m → ∀ ad, C = some ad → ad.block ≠ M := fun h0 => rC.farZ kM.out (hposB.out h0) h0;clear b;have f0 := kM.out.c0;have f1 := kM.out.c1;have g0 := kM.out.frozen 0;have g1 := kM.out.frozen 1;refine wpT1 rfl (by rfl) (fun K hK => ?_);go_simp;obtain ⟨wz, hw⟩ : ∃ X : World, X = (World.setCell v8 ⟨M, 0, none⟩ (.int .i64 (v.m : Int))).setCell ⟨M, 1, none⟩ (.slice C v.m dC) := ⟨_, rfl⟩;rw [← hw];have hMV := Hd (show MV wz M v.m C dC B from ⟨by rw [hw]; exact kM.out.put _ _ _ _, by rw [hw]; exact rC.putB kM.out hne _ _, hdC, hne⟩);replace bW : Below U.heap.size U wz := by rw [hw]; exact (bW.setCell (p := ⟨M, 0, none⟩) hUM _).setCell (p := ⟨M, 1, none⟩) hUM _
   refine hK _ _ bW ?_;clear hK K f0 f1 g0 g1 hw rC kM hne;refine wpTd (NoPanic.normal ?_);exact key M wz D2 m2 d2 C dC ⟨hMV.out, hUM, bW⟩
 ·intro M w9 D2 m2 d2 C dC hk
  obtain ⟨hMV, hUM, hbU⟩ := hk;have hgrU := kR.out.lt;have hkeep : Hid (∀ wr, Below U.heap.size U wr → FBox w g v f wr ∧ LAt encI wr D m kept ∧ MatB wr gr 57 0 none 0 0) := Hd (fun wr hb => ⟨hB2.out.later hb, hL.out.below hb, kR.out.below_ hb⟩);have hMB : M < w9.heap.size := hMV.loc.lt;have hRG : Hid (∃ Bk, RowsG Bk w9 C v.m (seX f kept B 0) ∧ ∀ g, (Value.slice none 0 0).ownBlock = some g → g < Bk) := Hd ⟨0, RowsG.of hMV.rows, fun g e => by cases e⟩;have hUs := hbU.size;replace hMV := Hd (show MV w9 M v.m C dC (seX f kept B 0) from hMV);have hbb := Hd hbU;clear hB2 kR hL hM2 bW hbU cW cI cK hke hposB hBe;go_wp2_with fail
  go_loopw [12, 13] (fun u t wr => ∃ (k : Nat) (A2 : Option Addr) (d2 : Nat), t = .int .i64 ((k + 1 : Nat) : Int) ∧ Hid (∀ j, j < k → newF f (seX f kept B j) kept ≠ []) ∧ Hid (Below U.heap.size U wr) ∧ Hid (MV wr M v.m A2 d2 (seX f kept B k)) ∧ Hid (wr.ownsRow w9.heap.size 84 3 u (seL f kept B k).length (encE.all (seL f kept B k))) ∧ Hid (∃ Bk, RowsG Bk wr A2 v.m (seX f kept B k) ∧ ∀ g, u.ownBlock = some g → g < Bk) ∧ Hid (w9.heap.size ≤ wr.heap.size)) (fun _ t _ => v.m * v.m + 2 - (intOf t).toNat)
  case atStart => exact ⟨0, C, dC, rfl, Hd (fun j h => absurd h (by omega)), hbb, hMV, Hd (World.ownsRow_nil _ _ _ _), hRG, Hd (Nat.le_refl _)⟩
  case round =>
   clear hRG hMV hbb;obtain ⟨k, A2, d2, rfl, hne, hbb, hN, hown, hRG, hsz⟩ := hrel;obtain ⟨hB, hL, kR⟩ := hkeep.out _ hbb.out;replace hB := Hd hB;replace hL := Hd hL;have gX := hsg.out k;obtain ⟨X, hX⟩ : ∃ X, X = seX f kept B k := ⟨_, rfl⟩;obtain ⟨al, hal⟩ : ∃ l, l = seL f kept B k := ⟨_, rfl⟩;have halm : al.length ≤ v.m * v.m := by rw [hal]; exact hsl.out k
   have halk : k ≤ al.length := by rw [hal]; exact seL_ge k hne.out
   have hmm : v.m * v.m ≤ 64 * 64 := Nat.mul_le_mul (by omega) (by omega);rw [← hX] at hN hRG gX;rw [← hal] at hown;have cNk := cN.out A2 d2 X gX D m d wr hB.out.f hN.out.rows hL.out hm64;obtain ⟨nl, hnl⟩ : ∃ l, l = newF f X kept := ⟨_, rfl⟩;rw [← hnl] at cNk;replace cNk := Hd cNk;replace gX := Hd gX;obtain ⟨la, hla⟩ : ∃ n, n = al.length := ⟨_, rfl⟩;rw [← hla] at hown halm halk;replace hla := Hd hla;replace hX := Hd hX;replace hal := Hd hal;replace hnl := Hd hnl;have p0 := hB.out.c0;have p1 := hB.out.c1;have p2 := hB.out.c2;have n0 := hN.out.loc.c0;have n1 := hN.out.loc.c1;go_wp2_with fail;refine cNk.out.mono ?_; rintro e w3 ⟨E, ne, ce, rfl, hE, hnc, hcm, b, hEf⟩;have hnel := Hd hE.len;have hub := Hd (own_block_lt hown.out);replace hown := Hd (oBl hown.out b);replace hB := Hd (hB.out.later b);replace hN := Hd (hN.out.later b);replace hbb := Hd (bT2 hbb.out b);have hwr3 := b.size;replace hRG := Hd (show ∃ Bk, RowsG Bk w3 A2 v.m X ∧ ∀ g, u12.ownBlock = some g → g < Bk from by obtain ⟨Bk, h1, h2⟩ := hRG.out; exact ⟨Bk, h1.below b, h2⟩);replace hE := Hd hE;replace kR := kR.below_ b;have hnlm : nl.length ≤ v.m * v.m := by rw [hnl.out]; exact hsn.out X
   clear p0 p1 p2 n0 n1 b;rcases Nat.eq_zero_or_pos ne with hz | hz
   ·subst hz
    have hnil : Hid (newF f (seX f kept B k) kept = []) := Hd (by
     have h1 := hnel.out;rw [hnl.out, hX.out] at h1;exact List.eq_nil_of_length_eq_zero h1)
    have n0 := hN.out.loc.c0;have n1 := hN.out.loc.c1;have f0 := kR.c0;have f1 := kR.c1;have g0 := kR.frozen 0;have g1 := kR.frozen 1;have hcc := kR.two (.int .i64 (v.m : Int)) (.slice A2 v.m d2);have hd1 := Hd hcc.1;have hd2 := Hd hcc.2;have hrf := Hd (hN.out.rows.putB kR (fun h0 => hN.out.rows.farZ kR (rows_len_pos gX.out h0) h0) (.int .i64 (v.m : Int)) (.slice A2 v.m d2));have hbf := Hd ((hB.out.o.setCell (p := ⟨gr, 0, none⟩) hgw.out (.int .i64 (v.m : Int))).setCell (p := ⟨gr, 1, none⟩) hgw.out (.slice A2 v.m d2));have hown2 := own_farT (i := 1) (own_farT (i := 0) hown.out kR (by decide) (.int .i64 (v.m : Int))) (Blk.set_ kR 0 (.int .i64 (v.m : Int))) (by decide) (.slice A2 v.m d2);obtain ⟨A', c', rfl, hnc', hcm', hLA⟩ := LAt.of_own hown2 (by rw [hal.out]; exact hsk.out k) hla.out.symm;have hcap := Hd hN.out.cap;replace hLA := Hd hLA;clear hcc kR hown hown2 hN hRG;go_wp2_with fail;exact bodyPost_ret (v := .tuple #[.agg #[.int .i64 (v.m : Int), .slice A2 v.m d2], .slice A' la c', .int .i64 ((k + 1 : Nat) : Int), .int .i64 0]) (by simp [results, Tryz.results75, go_sem, hd1.out, hd2.out]) rfl ⟨k, A2, d2, A', la, c', rfl, ⟨hne.out, hnil.out⟩, by rw [← hX.out]; exact hrf.out, hcap.out, by rw [← hal.out]; exact hLA.out, hnc', hcm', hbf.out⟩
   ·have hnep : Hid (newF f (seX f kept B k) kept ≠ []) := Hd (fun h => by
     have h1 := hnel.out;rw [hnl.out, hX.out, h] at h1;simp at h1
     omega)
    have hbase := Hd (show w9.heap.size ≤ w3.heap.size from Nat.le_trans hsz.out hwr3);have hnz : ((ne : Int) == 0) = false := by rw [beq_eq_false_iff_ne]; omega
    have hnl2 := hnel.out;have hEM : Hid (∀ ad, E = some ad → ad.block ≠ M) := Hd (fun ad e => by have := hEf ad e; have := hsz.out; omega);have hfgk := Hd (hfg.out k);have hnpk := Hd (hnp.out k);rw [← hX.out] at hfgk hnpk;rw [← hnl.out] at hfgk hnpk;clear hB kR;go_wp2_with (at_builtin; refine wpAL (E := encE) rfl (.tmp 46) (.tmp 47) _ rfl w9.heap.size 84 i0 _ 24 Tryz.underlying79 hi.out hz0.out hz1.out hz2.out rfl _ la al (by rfl) hown.out _ ne ce nl rfl hE.out (by unfold maxLen; omega) (by omega) hbase.out ?_; intro v' w7 hown' hb7 hg7 _);have hUw := hbb.out.size;have hbb7 := Hd (hbb.out.trans (hb7.mono (by omega)));have hE7 := Hd (hE.out.grown18 hg7 (fun ad e h => by have := hub.out _ h; have := hEf ad e; omega));have hR7 : RowsAt w7 A2 v.m X := by obtain ⟨Bk, h1, h2⟩ := hRG.out; exact (h1.grown hg7 h2).at
    have hN7 := Hd (show MV w7 M v.m A2 d2 X from ⟨hN.out.loc.belowB hb7 hMB, hR7, hN.out.cap, hN.out.far⟩);have hsz7 := Hd (show w9.heap.size ≤ w7.heap.size from Nat.le_trans hbase.out hb7.size);replace hown' := Hd hown';clear hR7 hbb hE hN hRG hub hown hb7 hg7 hnz
    go_loopw [15] (fun t wr => ∃ (q : Nat) (A3 : Option Addr) (d3 : Nat) (Y : List (List Nat)), q ≤ ne ∧ t = .int .i64 (q : Int) ∧ Hid (Y = (edP (nl.take q)).foldl setP X) ∧ Hid (Below U.heap.size U wr) ∧ Hid (MV wr M v.m A3 d3 Y) ∧ Hid (wr.ownsRow w9.heap.size 84 3 v' (la + ne) (encE.all (al ++ nl))) ∧ Hid (LAt encE wr E ne nl) ∧ Hid (w9.heap.size ≤ wr.heap.size)) (fun t _ => ne - (intOf t).toNat)
    case atStart => exact ⟨0, A2, d2, X, Nat.zero_le _, rfl, Hd rfl, hbb7, hN7, hown', hE7, hsz7⟩
    case round =>
     clear hbb7 hN7 hown' hE7 hsz7;obtain ⟨q, A3, d3, Y, hq, rfl, hY, hbb, hN, hown, hE, hsz'⟩ := hrel;have hgY := hfgk.out q;rw [← hY.out] at hgY;replace hgY := Hd hgY;by_cases hlt : q < ne
     ·have hlt' : (q : Int) < (ne : Int) := by omega
      have bq : 0 ≤ (q : Int) ∧ (q : Int) < (ne : Int) := by omega
      obtain ⟨eb, eo, x, hEe, heb, hx, hxo, x0, x1, x2⟩ := hE.out.edge hlt;have hin := hnpk.out q x hx;have hYn := edP_take hx X;rw [← hY.out] at hYn;have hgN := hfgk.out (q + 1);rw [hYn] at hgN;replace hYn := Hd hYn.symm;replace hgN := Hd hgN;obtain ⟨xa, xb, xr⟩ := x
      simp only at x0 x1 hin hYn hgN
      have cS := Hd (fun W (hW : RowsAt W A3 v.m Y) => ref3_SetF (v.m : Int) A3 v.m d3 Y xa xb W hW rfl (by omega) (fun xs hx => Nat.le_trans (hgY.out.small xs hx) (by decide)) hin);subst hEe;clear hx hxo x2 hin heb;replace hlt := Hd hlt;go_wp2_with fail;refine wp_region_planT 13 [(true, 0), (true, 1), (true, 2), (true, 3), (true, 4), (true, 5), (true, 6), (true, 7), (true, 8), (true, 9), (true, 10), (false, 11), (true, 12)] 15 [13, 14] (by kernel_rfl) (by kernel_rfl) (fun U2 hU => ?_);have hU' : Below wr.heap.size wr U2 := by rw [hU.out]; exact (Below.refl _ _).drew
      replace hbb := Hd (bT2 hbb.out hU');replace hN := Hd (hN.out.later hU');replace hown := Hd (oBl hown.out hU');replace hE := Hd (hE.out.below hU');replace x0 : U2.cell? ⟨eb, eo + q * 3, none⟩ = some (.int .i64 xa) := by rw [hU.out]; exact x0
      replace x1 : U2.cell? ⟨eb, eo + q * 3 + 1, none⟩ = some (.int .i64 xb) := by rw [hU.out]; exact x1
      replace hsz' := Hd (Nat.le_trans hsz'.out hU'.size);clear hU hU';simp only [List.drop_succ_cons, List.drop_zero];have t0 := hN.out.loc.c0;have t1 := hN.out.loc.c1
      iterate 11
       refine wpEf (v := ?_) rfl (by rfl) (fun w' hw' => ?_) (fun K hK => ?_);rotate_left
       ·(go_simp; try with_reducible rfl)
       go_simp;refine hK _ ?_;clear hK K
      clear x0 x1 t0 t1;refine wpPlanE_only rfl (by rfl) (fun K hK => ?_);go_simp;refine (cS.out U2 hN.out.rows).mono ?_;rintro e w8 ⟨C2, n2, c2, rfl, hrows2, hcap2, b4, hfar2⟩;obtain rfl : n2 = v.m := by rw [← hrows2.len]; exact hgN.out.len
      refine hK _ _ b4 ?_;clear hK K;have hT4 := Hd (hN.out.put b4 hrows2 hcap2 hfar2);have kM := hN.out.loc.below_ b4;have hbb4 := Hd (((bT2 hbb.out b4).setCell (p := ⟨M, 0, none⟩) hUM (.int .i64 (v.m : Int))).setCell (p := ⟨M, 1, none⟩) hUM (.slice C2 v.m c2));have hown4 := Hd (own_farT (i := 1) (own_farT (i := 0) (oBl hown.out b4) kM (by decide) (.int .i64 (v.m : Int))) (Blk.set_ kM 0 (.int .i64 (v.m : Int))) (by decide) (.slice C2 v.m c2));have hE4 := Hd (((hE.out.below b4).setFar (p := ⟨M, 0, none⟩) hEM.out (.int .i64 (v.m : Int))).setFar (p := ⟨M, 1, none⟩) hEM.out (.slice C2 v.m c2));have hsz4 := Hd (show w9.heap.size ≤ ((w8.setCell ⟨M, 0, none⟩ (.int .i64 (v.m : Int))).setCell ⟨M, 1, none⟩ (.slice C2 v.m c2)).heap.size from by have := hsz'.out; have := b4.size; simp; omega);clear cS hrows2 hfar2 b4 hown hE hN hbb hsz'
      iterate 1
       refine wpEf (v := ?_) rfl (by rfl) (fun w' hw' => ?_) (fun K hK => ?_);rotate_left
       ·(go_simp; try with_reducible rfl)
       go_simp;refine hK _ ?_;clear hK K
      refine wpPlanE_nil ?_
      iterate 2
       refine wpPlanT_float (v := ?_) rfl (by rfl) (fun w' => ?_) (fun K hK => ?_);rotate_left
       ·(go_simp; try with_reducible rfl)
       go_simp;refine hK _ ?_;clear hK K
      refine wpPlanT_nil ?_;have m0 := kM.c0;have m1 := kM.c1;have g0 := kM.frozen 0;have g1 := kM.frozen 1;clear kM;go_wp2_with fail;refine NoPanic.normal ?_;go_wp2_with fail
      go_roundw
      case rel => exact ⟨q + 1, C2, c2, _, by have := hlt.out; omega, by go_num, hYn, hbb4, hT4, hown4, hE4, hsz4⟩
      case measure => simp [intOf]; have := hlt.out; omega
     ·have hlt' : ¬ (q : Int) < (ne : Int) := by omega
      obtain rfl : q = ne := by omega
      have hYe : Hid (closeK Y v.m = seX f kept B (k + 1)) := Hd (by rw [hst.out, hY.out, List.take_of_length_le (by rw [hnl2]; exact Nat.le_refl _), hnl.out, hX.out]);have hsL : Hid (seL f kept B (k + 1) = al ++ nl) := Hd (by rw [hal.out, hnl.out, hX.out]; rfl);have cC := ref4_CloseG A3 v.m d3 Y wr hN.out.rows hgY.out hm;rw [hYe.out] at cC;replace cC := Hd cC;have hgC := Hd (hsg.out (k + 1));have hub := Hd (own_block_lt hown.out);have hnx : Hid (∀ j, j < k + 1 → newF f (seX f kept B j) kept ≠ []) := Hd (fun j hj => by
       rcases Nat.lt_succ_iff_lt_or_eq.1 hj with h1 | h1
       ·exact hne.out j h1
       ·rw [h1]; exact hnep.out)
      have hlen : Hid ((seL f kept B (k + 1)).length = la + q) := Hd (by rw [hsL.out, List.length_append, hnl2, hla.out]);have t0 := hN.out.loc.c0;have t1 := hN.out.loc.c1;clear hlt hE hnl2;go_wp2_with fail;refine cC.out.mono ?_; rintro e w8 ⟨C2, n2, c2, rfl, hrows2, hcap2, b4⟩;obtain rfl : n2 = v.m := by rw [← hrows2.at.len]; exact hgC.out.len
      have kM := hN.out.loc.below_ b4;have hMw : M < wr.heap.size := by have := hsz'.out; omega
      have hfar2 : 0 < v.m → ∀ ad, C2 = some ad → ad.block ≠ M := fun h0 ad e => by
       obtain ⟨vs, -, -, h3, -⟩ := hrows2;have := h3 ad e
       omega
      have hT4 := Hd (show MV ((w8.setCell ⟨M, 0, none⟩ (.int .i64 (v.m : Int))).setCell ⟨M, 1, none⟩ (.slice C2 v.m c2)) M v.m C2 c2 (seX f kept B (k + 1)) from ⟨kM.put _ _ _ _, hrows2.at.putB kM hfar2 _ _, hcap2, hfar2⟩);have hRG4 : Hid (∃ Bk, RowsG Bk ((w8.setCell ⟨M, 0, none⟩ (.int .i64 (v.m : Int))).setCell ⟨M, 1, none⟩ (.slice C2 v.m c2)) C2 v.m (seX f kept B (k + 1)) ∧ ∀ g, v'.ownBlock = some g → g < Bk) := Hd ⟨wr.heap.size, hrows2.putB kM hfar2 _ _, hub.out⟩;have hbb4 := Hd (((bT2 hbb.out b4).setCell (p := ⟨M, 0, none⟩) hUM (.int .i64 (v.m : Int))).setCell (p := ⟨M, 1, none⟩) hUM (.slice C2 v.m c2));have hown4 := own_farT (i := 1) (own_farT (i := 0) (oBl hown.out b4) kM (by decide) (.int .i64 (v.m : Int))) (Blk.set_ kM 0 (.int .i64 (v.m : Int))) (by decide) (.slice C2 v.m c2);rw [← hsL.out, ← hlen.out] at hown4;replace hown4 := Hd hown4;have hsz4 := Hd (show w9.heap.size ≤ ((w8.setCell ⟨M, 0, none⟩ (.int .i64 (v.m : Int))).setCell ⟨M, 1, none⟩ (.slice C2 v.m c2)).heap.size from by have := hsz'.out; have := b4.size; simp; omega);have m0 := kM.c0;have m1 := kM.c1;have g0 := kM.frozen 0;have g1 := kM.frozen 1;clear kM t0 t1 hown hN hbb hrows2 b4 hub;go_wp2_with fail;exact ⟨⟨k + 1, C2, c2, by go_num, hnx, hbb4, hT4, hown4, hRG4, hsz4⟩, by simp [intOf]; omega⟩
end Go.Proofs.YtjhjojklfdjmdaaGreat
