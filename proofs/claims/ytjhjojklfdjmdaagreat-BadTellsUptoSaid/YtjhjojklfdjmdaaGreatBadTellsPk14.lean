/- A region that draws its order, by a plan (XPlan), in which some cells of the caller's may change (those of a predicate): what reads must not read them. No function of the program is named here. The code's own contracts of layer 19: writeHBInitRead, cyclicHB. The code's own contract of layer 19: cyclicHB. The code's own contracts of layer 19: blank, Kinds, looks. The code's own contracts of layer 13: Rf (pairs, then mat.Of), Edges, Co. -/
import Derived.Test.YtjhjojklfdjmdaaGreatBadTellsPk3
import Derived.Test.YtjhjojklfdjmdaaGreatBadTellsPk1
import Derived.Test.YtjhjojklfdjmdaaGreatBadTellsPk13
import Derived.Test.YtjhjojklfdjmdaaGreatBadTellsPk8
import Derived.Test.YtjhjojklfdjmdaaGreatBadTellsPk6
import Derived.Test.YtjhjojklfdjmdaaGreatBadTellsPk2
import Derived.Test.YtjhjojklfdjmdaaGreatBadTellsPk9
import Derived.Test.YtjhjojklfdjmdaaGreatBadTellsPk10
set_option linter.unusedVariables false
namespace Go.Proofs.YtjhjojklfdjmdaaGreat
set_option maxRecDepth 100000
set_option maxHeartbeats 8000000
open Go.RowKit

structure BelowA (S : Addr → Prop) (w w' : World) : Prop where
 size : w.heap.size ≤ w'.heap.size
 cell : ∀ p : Addr, p.block < w.heap.size → ¬ S p → w'.cell? p = w.cell? p
theorem BelowA.refl (S : Addr → Prop) (w : World) : BelowA S w w := ⟨Nat.le_refl _, fun _ _ _ => rfl⟩
theorem BelowA.trans {S : Addr → Prop} {a b c : World} (h : BelowA S a b) (k : BelowA S b c) : BelowA S a c :=
 ⟨Nat.le_trans h.size k.size, fun p hp hn => (k.cell p (Nat.lt_of_lt_of_le hp h.size) hn).trans (h.cell p hp hn)⟩
theorem BelowA.of {S : Addr → Prop} {w w' : World} (h : Below w.heap.size w w') : BelowA S w w' := ⟨h.size, fun _ hp _ => h.cell hp⟩
theorem BelowA.set {S : Addr → Prop} {w w' : World} (h : BelowA S w w') {p : Addr} (hp : S p) (u : Value) : BelowA S w (w'.setCell p u) :=
 ⟨by simpa using h.size, fun q hq hn => (World.cell?_setCell_other w' p q u (fun e => hn (by rw [← e]; exact hp))).trans (h.cell q hq hn)⟩
section
variable {gb : Addr → Prop} {P : Program} {ops : Array Oper} {md : Region.Mode} {Q : Exit → Act → World → Prop}

def wpAnyA (gb : Addr → Prop) (P : Program) (md : Region.Mode) (ops : Array Oper) (Q : Exit → Act → World → Prop) (n : Nat) (F : Array Bool → Act → World → Prop) : Nat → Array Bool → Act → World → Prop
 | 0, listed, a, w => F listed a w
 | f + 1, listed, a, w => Region.ready md ops listed ≠ [] ∧ ∀ i ∈ Region.ready md ops listed, i < n ∧ wpOp P ops Q i (fun a' w' => BelowA gb w w' ∧ wpAnyA gb P md ops Q n F f (listed.setIfInBounds i true) a' w') a w

theorem wpAny_of_A {n g : Nat} {F : Array Bool → Act → World → Prop} (hF : ∀ listed a w, F listed a w → wpAny P md ops Q g listed a w) :
  ∀ (f : Nat) (listed : Array Bool) (a : Act) (w : World), wpAnyA gb P md ops Q n F f listed a w → wpAny P md ops Q (f + g) listed a w
 | 0, _, _, _, h => by rw [Nat.zero_add]; exact hF _ _ _ h
 | f + 1, listed, a, w, h => by
  rw [show f + 1 + g = (f + g) + 1 by omega];exact ⟨fun h0 => absurd h0 h.1, fun i hi => wpOp_mono (fun a' w' h' => wpAny_of_A hF f _ a' w' h'.2) (h.2 i hi).2⟩

theorem belowA_of {w w' w'' : World} (h : BelowA gb w w') (h' : BelowA gb w' w'') : BelowA gb w w'' := h.trans h'
theorem yieldsA_later {w w' : World} {o : Oper} {v : Value} {a : Act} (hb : BelowA gb w w') (h : YieldsIf P ops (fun x => BelowA gb w x) o v a) : YieldsIf P ops (fun x => BelowA gb w' x) o v a :=
 h.imp (fun ⟨h1, h2⟩ => ⟨h1, fun x hx => h2 x (belowA_of hb hx)⟩) id

theorem wpAnyA_first {n i : Nat} {oi : Oper} {v : Value} {F : Array Bool → Act → World → Prop} (hi : ops[i]? = some oi) (hsel : ∀ (j : Nat) (o : Oper) cs b, ops[j]? = some o → o.op ≠ .select cs b)
  (hQ : ∀ c a w, Q (.panic c) (a.put oi.dst v) w → Q (.panic c) a w)
  (hlate : ∀ listed, HeadInv md ops n listed → listed.getD i true = false → ∀ t, n ≤ t → t ∉ Region.ready md ops listed) (hin : i < n)
  (hdone : ∀ listed a w, F listed a w → ∀ j ∈ Region.ready md ops listed, n ≤ j) :
  ∀ (f : Nat) (listed : Array Bool) (a : Act) (w : World), HeadInv md ops n listed →
   (∀ j oj, ops[j]? = some oj → j ≠ i → listed.getD j true = false → (∀ e ∈ oj.after, Region.binds md e = true → e.on ≠ i) → oi.apart ops oj = true) →
   i ∈ Region.ready md ops listed → YieldsIf P ops (fun x => BelowA gb w x) oi v a →
   wpAnyA gb P md ops Q n F f (listed.setIfInBounds i true) (a.put oi.dst v) w → wpAnyA gb P md ops Q n F (f + 1) listed a w := by
 intro f
 induction f with
 | zero =>
  intro listed a w inv _ hr hy H;have hun := (mem_ready.1 hr).1;refine ⟨fun h => (by rw [h] at hr; cases hr), fun j hj => ?_⟩;have hjn : j < n := by
   rcases Nat.lt_or_ge j n with h | h
   ·exact h
   ·exact absurd hj (hlate listed inv hun j h)
  refine ⟨hjn, ?_⟩;by_cases hji : j = i
  ·subst hji; exact hy.wpOp hi (BelowA.refl _ _) ⟨BelowA.refl _ _, H⟩
  ·have := hdone _ _ _ H j (ready_mono hj hji)
   omega
 | succ f ih =>
  intro listed a w inv hfree hr hy H;have hun := (mem_ready.1 hr).1;refine ⟨fun h => (by rw [h] at hr; cases hr), fun j hj => ?_⟩;have hjn : j < n := by
   rcases Nat.lt_or_ge j n with h | h
   ·exact h
   ·exact absurd hj (hlate listed inv hun j h)
  refine ⟨hjn, ?_⟩;by_cases hji : j = i
  ·subst hji; exact hy.wpOp hi (BelowA.refl _ _) ⟨BelowA.refl _ _, H⟩
  ·have h1 := (H.2 j (ready_mono hj hji)).2
   obtain ⟨hjun, oj, hoj, hall⟩ := mem_ready.1 hj;have hnot : ∀ e ∈ oj.after, Region.binds md e = true → e.on ≠ i := fun e he hb heq => by
    have h1 := hall e he hb;rw [heq, getD_both hun] at h1
    cases h1
   have h2 := wpOp_putIf hoj (hfree j oj hoj hji hjun hnot) (fun cs b => hsel i oi cs b hi) (fun cs b => hsel j oj cs b hoj) hQ hy h1;have hfree' : ∀ k ok, ops[k]? = some ok → k ≠ i → (listed.setIfInBounds j true).getD k true = false →
     (∀ e ∈ ok.after, Region.binds md e = true → e.on ≠ i) → oi.apart ops ok = true := fun k ok hk hki hun hno => by
    refine hfree k ok hk hki ?_ hno;by_cases hjk : j = k
    ·subst hjk; exact hjun
    ·rw [getD_set_ne true hjk] at hun; exact hun
   refine wpOp_mono (fun a' w' h3 => ⟨h3.2.1, ih (listed.setIfInBounds j true) a' w' (inv.set hj hjn) hfree' (ready_mono hr (Ne.symm hji)) (yieldsA_later h3.2.1 h3.1) ?_⟩) h2;rw [Array.setIfInBounds_comm _ _ hji];exact h3.2.2

def wpPA (gb : Addr → Prop) (P : Program) (ops : Array Oper) (Q : Exit → Act → World → Prop) (tail : List Oper) : List (Bool × Nat) → Act → World → Prop
 | [], a, w => wpList P ops Q tail a w
 | (true, i) :: rest, a, w => ∃ o v, ops[i]? = some o ∧ YieldsIf P ops (fun x => BelowA gb w x) o v a ∧ wpPA gb P ops Q tail rest (a.put o.dst v) w
 | (false, i) :: rest, a, w => wpOp P ops Q i (fun a' w' => BelowA gb w w' ∧ wpPA gb P ops Q tail rest a' w') a w

theorem wpAnyA_plan {n : Nat} {tail : List Oper} (hsel : Region.noSelect ops = true) (hQ : ∀ c a d v w, Q (.panic c) (a.put d v) w → Q (.panic c) a w)
  (hlate : ∀ listed, HeadInv md ops n listed → ∀ i, i < n → listed.getD i true = false → ∀ t, n ≤ t → t ∉ Region.ready md ops listed) :
  ∀ (pl : List (Bool × Nat)) (listed : Array Bool) (a : Act) (w : World), HeadInv md ops n listed → planB md ops n pl listed = true → wpPA gb P ops Q tail pl a w →
  wpAnyA gb P md ops Q n (fun listed' a' w' => Region.seqB md ops (ops.size - n) n listed' = true ∧ wpList P ops Q tail a' w') pl.length listed a w
 | [], listed, a, w, _, hB, h => ⟨hB, h⟩
 | (true, i) :: rest, listed, a, w, inv, hB, h => by
  simp only [planB, if_true, Bool.and_eq_true, decide_eq_true_eq] at hB;obtain ⟨⟨hin, hr, hf⟩, hB'⟩ := hB;obtain ⟨o, v, ho, hy, h'⟩ := h;have hr' : i ∈ Region.ready md ops listed := by simpa using hr
  exact wpAnyA_first ho (Region.noSelect_spec hsel) (fun c a w => hQ c a o.dst v w) (fun l hl hu => hlate l hl i hin hu) hin (fun listed' a' w' hL => seqB_ready hL.1) rest.length listed a w inv (Region.free_spec ho hf) hr' hy
   (wpAnyA_plan hsel hQ hlate rest _ _ _ (inv.set hr' hin) hB' h')
 | (false, i) :: rest, listed, a, w, inv, hB, h => by
  simp only [planB, Bool.false_eq_true, if_false, Bool.and_eq_true, decide_eq_true_eq] at hB;obtain ⟨⟨hin, hr⟩, hB'⟩ := hB;have hr' : i ∈ Region.ready md ops listed := by rw [hr]; simp
  refine ⟨by rw [hr]; simp, fun j hj => ?_⟩;rw [hr] at hj;have hji : j = i := by simpa using hj
  subst hji;exact ⟨hin, wpOp_mono (fun a' w' h3 => ⟨h3.1, wpAnyA_plan hsel hQ hlate rest _ a' w' (inv.set hr' hin) hB' h3.2⟩) h⟩

theorem wpAny_planA {a : Act} {w : World} {l : List Oper} (n : Nat) (pl : List (Bool × Nat)) (hB : planAll .any l.toArray n pl = true)
  (h : ∀ W : World, Hid (W = w.drew) → wpPA gb P l.toArray (NoPanic Q) (l.drop n) pl a W) : wpAny P .any l.toArray (NoPanic Q) l.toArray.size (Array.replicate l.toArray.size false) a { w with drawn := w.drawn + 1 } := by
 have hQ : ∀ c a d v w, NoPanic Q (.panic c) (a.put d v) w → NoPanic Q (.panic c) a w := fun _ _ _ _ _ h => h;simp only [planAll, Bool.and_eq_true, decide_eq_true_eq] at hB;obtain ⟨⟨⟨⟨hsel, hlen⟩, hn⟩, hsc⟩, hpl⟩ := hB;have hn' : n ≤ l.length := by simpa using hn
 have hdl : (l.drop n).length = l.toArray.size - n := by simp
 have inv0 : HeadInv .any l.toArray n (Array.replicate l.toArray.size false) :=
  ⟨by simp, fun j oj _ hl => (by rw [getD_replicate_false] at hl; cases hl), fun t _ ht => getD_in (by simpa using ht) (getD_replicate_false _ _)⟩
 have hlate : ∀ listed, HeadInv .any l.toArray n listed → ∀ i, i < n → listed.getD i true = false → ∀ t, n ≤ t → t ∉ Region.ready .any l.toArray listed := by
  intro listed inv i hin hun t ht hr;rw [Bool.or_eq_true, decide_eq_true_eq, Bool.and_eq_true] at hsc;obtain ⟨_, ot, hot, _⟩ := mem_ready.1 hr;have htl := (Array.getElem?_eq_some_iff.1 hot).1;rcases hsc with h0 | ⟨hs, hc⟩
  ·omega
  ·exact tail_waits hs hc (by omega) inv _ i rfl hin hun t ht hr
 have H := wpAnyA_plan (md := .any) hsel hQ hlate pl _ a w.drew inv0 hpl (h w.drew (Hd rfl));have := wpAny_of_A (Q := NoPanic Q) (g := l.toArray.size - n) (fun listed a' w' hL => by
  have := wpAny_of_seq (md := .any) (Q' := NoPanic Q) (l.drop n) n listed a' w' (fun j => by simp [List.getElem?_drop]) (by rw [hdl]; exact hL.1) hL.2
  rwa [hdl] at this) _ _ _ _ H
 rw [hlen, show n + (l.toArray.size - n) = l.toArray.size by omega] at this;exact this
theorem wp_region_planA {id : Nat} {a : Act} {w : World} {l : List Oper} (n : Nat) (pl : List (Bool × Nat)) (hm : P.follows .mixedOrders = true) (hB : planAll .any l.toArray n pl = true)
  (h : ∀ W : World, Hid (W = w.drew) → wpPA gb P l.toArray (NoPanic Q) (l.drop n) pl a W) : (Code.region id l.toArray true).wp P Q a w :=
 wp_region_noPanic (wp_region_any hm (wpAny_planA n pl hB h))

/-! ### the steps -/
section
variable {tail : List Oper} {rest : List (Bool × Nat)} {a : Act} {w : World} {i : Nat} {o : Oper}
theorem wpPA_float {v : Value} (hi : ops[i]? = some o) (hw : Region.wanted o (yielded ops a.tmps) = true)
  (hy : ∀ w' : World, (∀ p : Addr, ¬ gb p → (w.cell? p).isSome = true → w'.cell? p = w.cell? p) → (execOp a.eval o).run P w' = .ok (.value v) w') (h : ∀ K : Act → Prop, (∀ a', wpPA gb P ops Q tail rest a' w → K a') → K (a.put o.dst v)) : wpPA gb P ops Q tail ((true, i) :: rest) a w :=
 ⟨o, v, hi, .inl ⟨hw, fun w' hb => hy w' (fun p hpg hp => by
  have hlt : p.block < w.heap.size := by
   cases hc : w.cell? p with
   | none => rw [hc] at hp; cases hp
   | some u => exact block_lt_of_cell hc
  exact hb.cell p hlt hpg)⟩, h _ (fun _ h => h)⟩
theorem wpPA_only (hi : ops[i]? = some o) (hw : Region.wanted o (yielded ops a.tmps) = true)
  (h : ∀ K : Act → World → Prop, (∀ a' w', BelowA gb w w' → wpPA gb P ops Q tail rest a' w' → K a' w') → o.wp P a w K Q) : wpPA gb P ops Q tail ((false, i) :: rest) a w := by
 show wpOp P ops Q i _ a w
 unfold wpOp;simp only [hi, hw, if_true];exact .inl (h _ (fun a' w' hb hp => ⟨hb, hp⟩))
theorem wpPA_nil (h : wpList P ops Q tail a w) : wpPA gb P ops Q tail [] a w := h
end
end
theorem RdsAt.lat {f : Fac} {m B : Nat} {R : Value} {U : World} (h : RdsAt f m B R U) : ∃ D n d l, R = .slice D n d ∧ LAt encRd U D n l ∧ RdOk f m l := by
 rcases h with ⟨h1, h2⟩ | ⟨g, n, d, l, h1, h2, h3, -⟩
 ·exact ⟨none, 0, 0, [], h1, LAt.nil _ _ _, h2⟩
 ·exact ⟨_, n, d, l, h1, h2, h3⟩
theorem RdsAt.later {f : Fac} {m B : Nat} {R : Value} {U U' : World} (h : RdsAt f m B R U) (hb : Below U.heap.size U U') : RdsAt f m B R U' :=
 h.imp id fun ⟨g, n, d, l, h1, h2, h3, h4⟩ => ⟨g, n, d, l, h1, h2.below hb, h3, h4⟩
theorem RdsAt.set19 {f : Fac} {m B g : Nat} {R : Value} {U : World} (h : RdsAt f m B R U) (hg : g < B) (o : Nat) (u : Value) : RdsAt f m B R (U.setCell ⟨g, o, none⟩ u) :=
 h.imp id fun ⟨g', n, d, l, h1, h2, h3, h4⟩ => ⟨g', n, d, l, h1, h2.farR (fun ad e => by injection e with e; rw [← e]; show g' ≠ g; omega) o u, h3, h4⟩
theorem RdOk.at_ {f : Fac} {m i : Nat} {l : List RdT} {x : RdT} (h : RdOk f m l) (hx : l[i]? = some x) : ∃ z, (ldF f m)[i]? = some z ∧ x = rdT f z := by
 obtain ⟨k, hk, rfl, -, -⟩ := h;unfold rdL at hx;rw [List.getElem?_map] at hx
 cases hz : ((ldF f m).take k)[i]? with
 | none => rw [hz] at hx; cases hx
 | some z =>
  rw [hz] at hx;injection hx with hx;have hi := (List.getElem?_eq_some_iff.1 hz).1;rw [List.length_take] at hi;rw [List.getElem?_take_of_lt (by omega)] at hz;exact ⟨z, hz, hx.symm⟩
theorem RdOk.none {f : Fac} {m : Nat} {l : List RdT} (h : RdOk f m l) (hn : ∀ x ∈ l, x.mi = false) : l = rdL f m (ldF f m).length ∧ ∀ z ∈ ldF f m, missB f z.toNat = false := by
 obtain ⟨k, hk, rfl, -, he⟩ := h;have hkl : k = (ldF f m).length := by
  rcases he with h | ⟨j, z, rfl, hz, hm⟩
  ·exact h
  ·exfalso
   have : rdT f z ∈ rdL f m (j + 1) := by rw [rdL_succ hz]; simp
   have h1 := hn _ this;have h1 : missB f z.toNat = false := h1;rw [hm] at h1; cases h1
 subst hkl;refine ⟨rfl, fun z hz => ?_⟩;exact hn (rdT f z) (by unfold rdL; rw [List.take_length]; exact List.mem_map.2 ⟨z, hz, rfl⟩)
theorem early_form {f : Fac} {X : List (List Nat)} {k : Int} {reads : List Int} {x : Wit} (h : earlyF f X k reads = some x) : x = ⟨k, x.r, x.w1, -1, -1, -1, -1⟩ := by
 rw [earlyF_eq] at h;obtain ⟨r, -, hr⟩ := List.exists_of_findSome?_eq_some h;rw [earlyG_miss] at hr
 cases hm : missG f X r with
 | none => rw [hm] at hr; cases hr
 | some z => rw [hm] at hr; injection hr with hr; rw [← hr]
def RetLk6 (w0 : World) (v : FV) (f : Fac) (A : Option Addr) (c s g : Nat) (k : Int) (U : World) (e : Ending) (U' : World) : Prop :=
 ∃ (x : Wit) (R : Value), x = (seesF f (coM f) k).getD (noneW k) ∧ e = .returned (.bool (seesF f (coM f) k).isSome) ∧ Blk U' g 34 [.int .i64 x.ki, .int .i64 x.r, .int .i64 x.w1, .int .i64 x.w2, .int .i64 x.o, .slice none 0 0, .int .i64 x.fi, .int .i64 x.se] ∧ SrAt w0 v f A c s R U' ∧ But2 g s U U' ∧ RdsAt f v.m U.heap.size R U'
theorem bad_six {w0 : World} {v : FV} {f : Fac} {A : Option Addr} {c s : Nat} (g : Nat) (U : World) (hE : EnvB v f) (hS : SrAt w0 v f A c s (.slice none 0 0) U) (hne : g ≠ s) (hg0 : w0.heap.size ≤ g) (hk2 : kindF f 2 = none) (hk3 : kindF f 3 = none) (hW : Blk U g 34 [.int .i64 6, .int .i64 (-1), .int .i64 (-1), .int .i64 (-1), .int .i64 (-1), .slice none 0 0, .int .i64 (-1), .int .i64 (-1)]) :
  Calls Tryz.prog 35 #[.pointer (some ⟨s, 0, none⟩), .pointer (some ⟨g, 0, none⟩)] U (RetLk6 w0 v f A c s g 6 U) := by
 have hP := Hd (missB_by hE.hw hE.n4 hE.hx.nb hE.hx.fr hk2 hk3);have hin := Hd (ldF_is hE.hx.nb v.m (by rw [hE.hil]; exact Nat.le_refl _)).inn;have hEh := Hd hE;have cR := Hd (bad_readers U hE hS);have kW := Hd hW;have hgU := Hd hW.lt;clear hE hS hW hk2 hk3
 go_enter Tryz.func35, Tryz.ntmps35
 go_wp2_with fail;refine cR.out.mono ?_;rintro e w1 ⟨R, rfl, hS0', hb1, hrd⟩;replace kW := Hd (hb1.blk kW.out hne);have hS0 := Hd hS0';obtain ⟨D, n, d, l, rfl, hL0, hok0⟩ := hrd.lat;have hrdh := Hd hrd;have hok := Hd hok0;have hL := Hd hL0;have hbU := Hd (But2.ofR (g := g) hb1);have hln := hL0.len;have hn1 : n ≤ 4096 := by
  obtain ⟨k, hk, rfl, -, -⟩ := hok0;rw [rdL_len hk] at hln;have h1 := ldF_len (f := f) v.m;have h2 := hEh.out.hvm
  omega
 replace hln := Hd hln;clear hS0' hb1 hrd hL0 hok0 cR;go_wp2_with fail;have hb0 := Hd (Below.refl w1.heap.size w1)
 go_loopw [10] (fun t wr => ∃ i : Nat, i ≤ n ∧ t = .int .i64 (i : Int) ∧ Hid (∀ j x, j < i → l[j]? = some x → x.mi = false) ∧ Hid (Below w1.heap.size w1 wr)) (fun t _ => n - (intOf t).toNat)
 case atStart => exact ⟨0, Nat.zero_le _, rfl, Hd (fun j x h => absurd h (by omega)), hb0⟩
 case round =>
  clear hb0;obtain ⟨i, hik, rfl, hall, hb⟩ := hrel;replace hS0 := Hd (hS0.out.later hb.out);replace kW := Hd (kW.out.below hb.out kW.out.lt);by_cases hlt : i < n
  ·have hlt' : (i : Int) < (n : Int) := by omega
   have bi : 0 ≤ (i : Int) ∧ (i : Int) < (n : Int) := by omega
   obtain ⟨db, dof, x, hD, -, hx, q0, q1, q2⟩ := (hL.out.below hb.out).rd hlt;obtain ⟨z, hz, hxz⟩ := hok.out.at_ hx;obtain ⟨L, y, rfl, hLm, hy, hL0⟩ := hin.out z (List.mem_of_getElem? hz);have hmi : x.mi = missB f L := by rw [hxz]; rfl
   have hxo : x.o = (L : Int) := by rw [hxz]; rfl
   obtain ⟨xo, xm, xr⟩ := x
   simp only at hmi hxo q0 q1 q2
   subst hxo;rw [hD];obtain ⟨gx, hgx⟩ : ∃ g, g = wr.heap.size := ⟨_, rfl⟩;obtain ⟨W3, hW3⟩ : ∃ W, W = wr.alloc (.cells #[.int .i64 (L : Int), .bool xm, .bool xr] 103) := ⟨_, rfl⟩;have b3 : Below wr.heap.size wr W3 := by rw [hW3]; exact bAl _ _
   have hX3 := show Blk W3 gx 103 [.int .i64 (L : Int), .bool xm, .bool xr] from by rw [hW3, hgx]; exact Blk.new wr _ _
   have y0 := hX3.cell 0;have y1 := hX3.cell 1;simp only [List.getElem?_cons_zero, List.getElem?_cons_succ] at y0 y1;have hb3 := Hd (bT2 hb.out b3);have hS3 := Hd (hS0.out.later b3);have kW3 := Hd (kW.out.below b3 kW.out.lt);have hgxg : gx ≠ g := by have := kW.out.lt; omega
   replace hD := Hd hD;replace hlt := Hd hlt;replace hx := Hd hx;replace hxz := Hd hxz;replace hz := Hd hz;replace hy := Hd hy;replace hgxg := Hd hgxg;replace hX3 := Hd hX3
   cases xm with
   | false =>
    have hal := Hd (show ∀ j x, j < i + 1 → l[j]? = some x → x.mi = false from fun j x' hj hjx => by
     rcases Nat.lt_succ_iff_lt_or_eq.1 hj with h1 | h1
     ·exact hall.out j x' h1 hjx
     ·subst h1
      rw [hx.out] at hjx;injection hjx with hjx;rw [← hjx])
    clear hmi;go_wp2_with (rw [← hW3, ← hgx]; clear hW3 b3 q0 q1 q2; replace hgx := Hd hgx);exact ⟨⟨i + 1, by have := hlt.out; omega, by go_num, hal, hb3⟩, by have := hlt.out; simp [intOf]; omega⟩
   | true =>
    have hbef := Hd (show ∀ (j z : Nat), j < i → (ldF f f.items.length)[j]? = some (z : Int) → missB f z = false from fun j z' hj hjz => by
     rw [hEh.out.hil] at hjz;have hjl : j < l.length := by have h1 := hlt.out; have h2 := hln.out; omega
     obtain ⟨z2, hz2, hx2⟩ := hok.out.at_ (List.getElem?_eq_getElem hjl);have h3 := hall.out j _ hj (List.getElem?_eq_getElem hjl);rw [hjz] at hz2;injection hz2 with hz2;rw [hx2] at h3;rw [← hz2] at h3;exact h3)
    have cLe := Hd (bad_leastM L y W3 hEh.out hS3.out hP.out hy.out hL0 hmi.symm);replace hmi := Hd hmi;replace hL0 := Hd hL0;go_wp2_with (rw [← hW3, ← hgx]; clear hW3 b3 q0 q1 q2; replace hgx := Hd hgx);refine cLe.out.mono ?_;rintro e w4 ⟨o, rfl, hko, hmo, hlst, b4⟩;have hov := hEh.out.ko hko;have hans0 : seesF f (coM f) 6 = (earlyF f (seenM f (coM f) o) 6 (keptO f o)).map fun x => { x with o := (o : Int) } :=
     sees6_first (by rw [hEh.out.hil]; omega) (hP.out.first hEh.out.hx.nb hEh.out.hx.fr (by rw [hEh.out.hil]; exact hz.out) hbef.out hko hlst) hmo
    obtain ⟨x0, hx0⟩ : ∃ x0, earlyF f (seenM f (coM f) o) 6 (keptO f o) = some x0 := Option.isSome_iff_exists.1 hmo;have hxf := early_form hx0;have hans := Hd (show seesF f (coM f) 6 = some ⟨6, x0.r, x0.w1, -1, (o : Int), -1, -1⟩ from by
     rw [hans0, hx0, Option.map_some]
     conv => lhs; rw [hxf])
    replace kW := Hd (kW3.out.below b4 kW3.out.lt);replace hS0 := Hd (hS3.out.later b4);replace hrdh := Hd (hrdh.out.later (bT2 hb3.out b4));have hbe := Hd (hbU.out.next (bT2 hb3.out b4));have c63 := Hd (fun W (hW : SrAt w0 v f A c s (.slice D n d) W) => bad_seen o W hEh.out hW (by omega));have gS := Hd (hEh.out.goodS o);have c62 := Hd (fun C dC W (hW : SrAt w0 v f A c s (.slice D n d) W) hr => bad_firstMissed C dC (seenM f (coM f) o) o W hEh.out hW hr gS.out);rw [hx0] at c62;have kV := Hd (show Blk (w4.setCell ⟨g, 4, none⟩ (.int .i64 (o : Int))) g 34 [.int .i64 6, .int .i64 (-1), .int .i64 (-1), .int .i64 (-1), .int .i64 (o : Int), .slice none 0 0, .int .i64 (-1), .int .i64 (-1)] from kW.out.set_ 4 (.int .i64 (o : Int)));replace hS0 := Hd (hS0.out.but ((BelowB.refl g w4).setG19 4 (.int .i64 (o : Int))) hne hg0);replace hrdh := Hd (hrdh.out.set19 hgU.out 4 (.int .i64 (o : Int)));replace hbe := Hd (hbe.out.set 4 (.int .i64 (o : Int)));obtain ⟨z0x, z1x, z2x, z3x, z4x, z5x, z6x, z7x⟩ := kW.out.cells8;obtain ⟨z0fx, z1fx, z2fx, z3fx, z4fx, z5fx, z6fx, z7fx⟩ := kW.out.frozen8;replace hx0 := Hd hx0;clear hans0 hxf hlst hko hmo hbef cLe b4 kW3 hS3 hb3 y0 y1 hX3 hmi;go_wp2_with fail;obtain ⟨W5, hW5⟩ : ∃ W, W = w4.setCell ⟨g, 4, none⟩ (.int .i64 (o : Int)) := ⟨_, rfl⟩;rw [← hW5] at kV hS0 hrdh hbe ⊢;clear hW5 z0x z1x z2x z3x z4x z5x z6x z7x z0fx z1fx z2fx z3fx z4fx z5fx z6fx z7fx kW;refine wp_region_planA (gb := fun p => p = ⟨g, 1, none⟩ ∨ p = ⟨g, 2, none⟩) 24 [(true, 0), (true, 1), (true, 2), (true, 3), (true, 4), (true, 5), (true, 6), (true, 7), (true, 9), (true, 10), (true, 11), (true, 12), (false, 8), (false, 13), (true, 14), (true, 15), (true, 16), (true, 17), (true, 18), (true, 19), (false, 20), (true, 21), (true, 22), (false, 23)] (by kernel_rfl) (by kernel_rfl) (fun V hV => ?_);have hV' : Below W5.heap.size W5 V := by rw [hV.out]; exact (Below.refl _ _).drew
    replace kV := Hd (kV.out.below hV' kV.out.lt);replace hS0 := Hd (hS0.out.later hV');replace hrdh := Hd (hrdh.out.later hV');replace hbe := Hd (hbe.out.next hV');clear hV hV';simp only [List.drop_succ_cons, List.drop_nil];have q4 := kV.out.cell 4;simp only [List.getElem?_cons_zero, List.getElem?_cons_succ] at q4
    iterate 7
     refine wpPA_float (v := ?_) rfl (by rfl) (fun w' hw' => ?_) (fun K hK => ?_);rotate_left
     ·(go_simp; try with_reducible rfl)
     go_simp;refine hK _ ?_;clear hK K
    refine wpPA_float (v := ?_) rfl (by rfl) (fun w' hw' => ?_) (fun K hK => ?_);rotate_left
    ·have hy4 : w'.cell? ⟨g, 4, none⟩ = some (.int .i64 (o : Int)) := (hw' ⟨g, 4, none⟩ (by simp) (by rw [q4]; rfl)).trans q4
     go_simp
     try with_reducible rfl
    go_simp;refine hK _ ?_;clear hK K
    iterate 3
     refine wpPA_float (v := ?_) rfl (by rfl) (fun w' hw' => ?_) (fun K hK => ?_);rotate_left
     ·(go_simp; try with_reducible rfl)
     go_simp;refine hK _ ?_;clear hK K
    refine wpPA_float (v := ?_) rfl (by rfl) (fun w' hw' => ?_) (fun K hK => ?_);rotate_left
    ·have hy4 : w'.cell? ⟨g, 4, none⟩ = some (.int .i64 (o : Int)) := (hw' ⟨g, 4, none⟩ (by simp) (by rw [q4]; rfl)).trans q4
     go_simp
     try with_reducible rfl
    go_simp;refine hK _ ?_;clear hK K;clear q4;refine wpPA_only rfl (by rfl) (fun K hK => ?_);go_simp;refine (c63.out V hS0.out).mono ?_;rintro e w6 ⟨C, nn, dC, rfl, hrows, hdC, b⟩;obtain rfl : nn = v.m := hrows.len_eq19 gS.out.len;refine hK _ _ (BelowA.of b) ?_;clear hK K;replace kV := Hd (kV.out.below b kV.out.lt);replace hS0 := Hd (hS0.out.later b);replace hrdh := Hd (hrdh.out.later b);replace hbe := Hd (hbe.out.next b);have cF := Hd (c62.out C dC w6 hS0.out hrows);clear b c63 c62 hrows;refine wpPA_only rfl (by rfl) (fun K hK => ?_);go_simp;refine cF.out.mono ?_;rintro e w7 ⟨r, z, bo, hr, hzz, hbo, rfl, b⟩;refine hK _ _ (BelowA.of b) ?_;clear hK K;replace hr : r = x0.r := hr;replace hzz : z = x0.w1 := hzz;rw [← hr, ← hzz] at hans;replace kV := Hd (kV.out.below b kV.out.lt);replace hS0 := Hd (hS0.out.later b);replace hrdh := Hd (hrdh.out.later b);replace hbe := Hd (hbe.out.next b);clear b cF hr hzz hbo
    iterate 6
     refine wpPA_float (v := ?_) rfl (by rfl) (fun w' hw' => ?_) (fun K hK => ?_);rotate_left
     ·(go_simp; try with_reducible rfl)
     go_simp;refine hK _ ?_;clear hK K
    have kV1 := kV.out.set_ 1 (.int .i64 r);simp only [List.set_cons_zero, List.set_cons_succ] at kV1;have kZ := kV1.set_ 2 (.int .i64 z);simp only [List.set_cons_zero, List.set_cons_succ] at kZ;replace kZ := Hd kZ;obtain ⟨z0x, z1x, z2x, z3x, z4x, z5x, z6x, z7x⟩ := kV.out.cells8;obtain ⟨z0fx, z1fx, z2fx, z3fx, z4fx, z5fx, z6fx, z7fx⟩ := kV.out.frozen8;obtain ⟨z0fy, z1fy, z2fy, z3fy, z4fy, z5fy, z6fy, z7fy⟩ := kV1.frozen8;have hSz := Hd (hS0.out.but (((BelowB.refl g w7).setG19 1 (.int .i64 r)).setG19 2 (.int .i64 z)) hne hg0);have hrz := Hd ((hrdh.out.set19 hgU.out 1 (.int .i64 r)).set19 hgU.out 2 (.int .i64 z));have hbz := Hd ((hbe.out.set 1 (.int .i64 r)).set 2 (.int .i64 z));clear kV1;refine wpPA_only rfl (by rfl) (fun K hK => ?_);go_simp;refine hK _ _ (BelowA.set (BelowA.refl _ _) (.inl rfl) _) ?_;clear hK K
    iterate 2
     refine wpPA_float (v := ?_) rfl (by rfl) (fun w' hw' => ?_) (fun K hK => ?_);rotate_left
     ·(go_simp; try with_reducible rfl)
     go_simp;refine hK _ ?_;clear hK K
    refine wpPA_only rfl (by rfl) (fun K hK => ?_);go_simp;refine hK _ _ (BelowA.set (BelowA.refl _ _) (.inr rfl) _) ?_;clear hK K;refine wpPA_nil ?_;go_wp2_with fail;refine NoPanic.normal ?_;go_wp2_with fail;go_ret;exact ⟨_, _, (by rw [hans.out]; try rfl), (by rw [hans.out]; try rfl), kZ.out, hSz.out, hbz.out, hrz.out⟩
  ·have hlt' : ¬ (i : Int) < (n : Int) := by omega
   obtain rfl : i = n := by omega
   have hno := Hd (hok.out.none (fun x hx => by
    obtain ⟨j, hj⟩ := List.getElem?_of_mem hx;exact hall.out j x (by have := (List.getElem?_eq_some_iff.1 hj).1; have := hln.out; omega) hj))
   have hans : Hid (seesF f (coM f) 6 = none) := Hd (sees6_none (hP.out.none hEh.out.hx.nb (fun z hz => by
    rw [hEh.out.hil] at hz;have := hno.out.2 _ hz
    rwa [Int.toNat_natCast] at this)))
   have hbe := Hd (hbU.out.next hb.out);have hre := Hd (hrdh.out.later hb.out);clear hlt;go_wp2_with fail;go_ret;exact ⟨noneW 6, _, by rw [hans.out]; rfl, by rw [hans.out]; rfl, kW.out, hS0.out, hbe.out, hre.out⟩
theorem RdOk.all {f : Fac} {m : Nat} {l : List RdT} (h : RdOk f m l) (hn : ∀ z ∈ ldF f m, missB f z.toNat = false) : l = rdL f m (ldF f m).length := by
 obtain ⟨k, hk, rfl, -, he⟩ := h;rcases he with h | ⟨j, z, rfl, hz, hm⟩
 ·rw [h]
 ·rw [hn z (List.mem_of_getElem? hz)] at hm; cases hm
def RetLk7 (w0 : World) (v : FV) (f : Fac) (A : Option Addr) (c s g : Nat) (k : Int) (U : World) (e : Ending) (U' : World) : Prop :=
 ∃ (x : Wit) (R : Value), x = (seesF f (coM f) k).getD (noneW k) ∧ e = .returned (.bool (seesF f (coM f) k).isSome) ∧ Blk U' g 34 [.int .i64 x.ki, .int .i64 x.r, .int .i64 x.w1, .int .i64 x.w2, .int .i64 x.o, .slice none 0 0, .int .i64 x.fi, .int .i64 x.se] ∧ SrAt w0 v f A c s R U' ∧ But2 g s U U'
theorem bad_readers7 {w0 : World} {v : FV} {f : Fac} {A : Option Addr} {c s : Nat} {R : Value} (B : Nat) (U : World) (hE : EnvB v f) (hS : SrAt w0 v f A c s R U) (hrd : RdsAt f v.m B R U) :
  Calls Tryz.prog 59 #[.pointer (some ⟨s, 0, none⟩)] U (fun e U' => ∃ R', e = .returned R' ∧ SrAt w0 v f A c s R' U' ∧ BelowB s U U' ∧ ∃ B', RdsAt f v.m B' R' U') := by
 rcases hrd with ⟨rfl, hr⟩ | ⟨g, n, d, l, rfl, hL, hr, hB⟩
 ·exact (bad_readers U hE hS).mono fun e U' ⟨R', h1, h2, h3, h4⟩ => ⟨R', h1, h2, h3, _, h4⟩
 ·have hnilF : ∀ W : World, (binOp .eql 59 (.slice (some ⟨g, 0, none⟩) n d) (.slice none 0 0)).run Tryz.prog W = .ok (.bool false) W := fun W => by kernel_rfl
  have hS0 := Hd hS;have hrd : RdsAt f v.m B (.slice (some ⟨g, 0, none⟩) n d) U := .inr ⟨g, n, d, l, rfl, hL, hr, hB⟩;replace hrd := Hd hrd;clear hE hS hL hr hB;have p0 := hS0.out.c0;have p1 := hS0.out.c1;have p2 := hS0.out.c2;have p3 := hS0.out.c3;have p4 := hS0.out.c4;have p5 := hS0.out.c5
  go_enter Tryz.func59, Tryz.ntmps59
  go_wp2_with fail;go_ret;exact ⟨_, rfl, hS0.out, BelowB.refl _ _, _, hrd.out⟩
theorem bad_seven {w0 : World} {v : FV} {f : Fac} {A : Option Addr} {c s : Nat} {R : Value} (g B : Nat) (U : World) (hE : EnvB v f) (hS : SrAt w0 v f A c s R U) (hrd0 : RdsAt f v.m B R U) (hno : ∀ z ∈ ldF f v.m, missB f z.toNat = false) (hne : g ≠ s) (hg0 : w0.heap.size ≤ g) (hk2 : kindF f 2 = none) (hW : Blk U g 34 [.int .i64 7, .int .i64 (-1), .int .i64 (-1), .int .i64 (-1), .int .i64 (-1), .slice none 0 0, .int .i64 (-1), .int .i64 (-1)]) :
  Calls Tryz.prog 36 #[.pointer (some ⟨s, 0, none⟩), .pointer (some ⟨g, 0, none⟩)] U (RetLk7 w0 v f A c s g 7 U) := by
 have hP := Hd (gorB_by hE.hw hE.n4 hE.hx.nb hk2);have hin := Hd (ldF_is hE.hx.nb v.m (by rw [hE.hil]; exact Nat.le_refl _)).inn;have hEh := Hd hE;have cR := Hd (bad_readers7 B U hE hS hrd0);have kW := Hd hW;replace hno := Hd hno;clear hE hS hW hk2 hrd0
 go_enter Tryz.func36, Tryz.ntmps36
 go_wp2_with fail;refine cR.out.mono ?_;rintro e w1 ⟨R, rfl, hS0', hb1, ⟨B1, hrd⟩⟩;replace kW := Hd (hb1.blk kW.out hne);have hS0 := Hd hS0';obtain ⟨D, n, d, l, rfl, hL0, hok0⟩ := hrd.lat;have hall0 := Hd (hok0.all hno.out);have hok := Hd hok0;have hL := Hd hL0;have hbU := Hd (But2.ofR (g := g) hb1);have hln := hL0.len;have hn1 : n ≤ 4096 := by
  obtain ⟨k, hk, rfl, -, -⟩ := hok0;rw [rdL_len hk] at hln;have h1 := ldF_len (f := f) v.m;have h2 := hEh.out.hvm
  omega
 replace hln := Hd hln;clear hS0' hb1 hrd hL0 hok0 cR;go_wp2_with fail;have hb0 := Hd (Below.refl w1.heap.size w1)
 go_loopw [10] (fun t wr => ∃ i : Nat, i ≤ n ∧ t = .int .i64 (i : Int) ∧ Hid (∀ j x, j < i → l[j]? = some x → x.ro = false) ∧ Hid (Below w1.heap.size w1 wr)) (fun t _ => n - (intOf t).toNat)
 case atStart => exact ⟨0, Nat.zero_le _, rfl, Hd (fun j x h => absurd h (by omega)), hb0⟩
 case round =>
  clear hb0;obtain ⟨i, hik, rfl, hall, hb⟩ := hrel;replace hS0 := Hd (hS0.out.later hb.out);replace kW := Hd (kW.out.below hb.out kW.out.lt);by_cases hlt : i < n
  ·have hlt' : (i : Int) < (n : Int) := by omega
   have bi : 0 ≤ (i : Int) ∧ (i : Int) < (n : Int) := by omega
   obtain ⟨db, dof, x, hD, -, hx, q0, q1, q2⟩ := (hL.out.below hb.out).rd hlt;obtain ⟨z, hz, hxz⟩ := hok.out.at_ hx;obtain ⟨L, y, rfl, hLm, hy, hL0⟩ := hin.out z (List.mem_of_getElem? hz);have hmi : x.ro = gorB f L := by rw [hxz]; rfl
   have hxo : x.o = (L : Int) := by rw [hxz]; rfl
   obtain ⟨xo, xm, xr⟩ := x
   simp only at hmi hxo q0 q1 q2
   subst hxo;rw [hD];obtain ⟨gx, hgx⟩ : ∃ g, g = wr.heap.size := ⟨_, rfl⟩;obtain ⟨W3, hW3⟩ : ∃ W, W = wr.alloc (.cells #[.int .i64 (L : Int), .bool xm, .bool xr] 103) := ⟨_, rfl⟩;have b3 : Below wr.heap.size wr W3 := by rw [hW3]; exact bAl _ _
   have hX3 := show Blk W3 gx 103 [.int .i64 (L : Int), .bool xm, .bool xr] from by rw [hW3, hgx]; exact Blk.new wr _ _
   have y0 := hX3.cell 0;have y1 := hX3.cell 2;simp only [List.getElem?_cons_zero, List.getElem?_cons_succ] at y0 y1;have hb3 := Hd (bT2 hb.out b3);have hS3 := Hd (hS0.out.later b3);have kW3 := Hd (kW.out.below b3 kW.out.lt);have hgxg : gx ≠ g := by have := kW.out.lt; omega
   replace hD := Hd hD;replace hlt := Hd hlt;replace hx := Hd hx;replace hxz := Hd hxz;replace hz := Hd hz;replace hy := Hd hy;replace hgxg := Hd hgxg;replace hX3 := Hd hX3
   cases xr with
   | false =>
    have hal := Hd (show ∀ j x, j < i + 1 → l[j]? = some x → x.ro = false from fun j x' hj hjx => by
     rcases Nat.lt_succ_iff_lt_or_eq.1 hj with h1 | h1
     ·exact hall.out j x' h1 hjx
     ·subst h1
      rw [hx.out] at hjx;injection hjx with hjx;rw [← hjx])
    clear hmi;go_wp2_with (rw [← hW3, ← hgx]; clear hW3 b3 q0 q1 q2; replace hgx := Hd hgx);exact ⟨⟨i + 1, by have := hlt.out; omega, by go_num, hal, hb3⟩, by have := hlt.out; simp [intOf]; omega⟩
   | true =>
    have hbef := Hd (show ∀ (j z : Nat), j < i → (ldF f f.items.length)[j]? = some (z : Int) → gorB f z = false from fun j z' hj hjz => by
     rw [hEh.out.hil] at hjz;have hjl : j < l.length := by have h1 := hlt.out; have h2 := hln.out; omega
     obtain ⟨z2, hz2, hx2⟩ := hok.out.at_ (List.getElem?_eq_getElem hjl);have h3 := hall.out j _ hj (List.getElem?_eq_getElem hjl);rw [hjz] at hz2;injection hz2 with hz2;rw [hx2] at h3;rw [← hz2] at h3;exact h3)
    have cLe := Hd (bad_leastR L y W3 hEh.out hS3.out hP.out hy.out hL0 hmi.symm);replace hmi := Hd hmi;replace hL0 := Hd hL0;go_wp2_with (rw [← hW3, ← hgx]; clear hW3 b3 q0 q1 q2; replace hgx := Hd hgx);refine cLe.out.mono ?_;rintro e w4 ⟨o, rfl, hko, hmo, hlst, b4⟩;have hov := hEh.out.ko hko;have hans0 := Hd (sees7_first (f := f) (by rw [hEh.out.hil]; omega) (hP.out.first hEh.out.hx.nb hEh.out.hx.fr (by rw [hEh.out.hil]; exact hz.out) hbef.out hko hlst) hmo);replace kW := Hd (kW3.out.below b4 kW3.out.lt);replace hS0 := Hd (hS3.out.later b4);have hbe := Hd (hbU.out.next (bT2 hb3.out b4));have gS := Hd (hEh.out.goodS o);have hgo : gorB f o = loopB v.m (seenM f (coM f) o) := by unfold gorB; rw [hEh.out.hil]
    rw [hgo] at hmo;have kV := Hd (show Blk (w4.setCell ⟨g, 4, none⟩ (.int .i64 (o : Int))) g 34 [.int .i64 7, .int .i64 (-1), .int .i64 (-1), .int .i64 (-1), .int .i64 (o : Int), .slice none 0 0, .int .i64 (-1), .int .i64 (-1)] from kW.out.set_ 4 (.int .i64 (o : Int)));replace hS0 := Hd (hS0.out.but ((BelowB.refl g w4).setG19 4 (.int .i64 (o : Int))) hne hg0);replace hbe := Hd (hbe.out.set 4 (.int .i64 (o : Int)));have c63 := Hd (bad_seen o _ hEh.out hS0.out (by omega));obtain ⟨z0x, z1x, z2x, z3x, z4x, z5x, z6x, z7x⟩ := kW.out.cells8;obtain ⟨z0fx, z1fx, z2fx, z3fx, z4fx, z5fx, z6fx, z7fx⟩ := kW.out.frozen8;have q4 := kV.out.cell 4;simp only [List.getElem?_cons_zero, List.getElem?_cons_succ] at q4;replace hmo := Hd hmo;clear hlst hko hbef cLe b4 kW3 hS3 hb3 y0 y1 hX3 hmi hgo;go_wp2_with fail;refine c63.out.mono ?_;rintro e w6 ⟨C, nn, dC, rfl, hrows, hdC, b⟩;obtain rfl : nn = v.m := hrows.len_eq19 gS.out.len;replace kV := Hd (kV.out.below b kV.out.lt);replace hS0 := Hd (hS0.out.later b);replace hbe := Hd (hbe.out.next b);have cL := Hd (hull_Loop C v.m dC (seenM f (coM f) o) w6 hrows gS.out.le (fun xs hx => by have := gS.out.small xs hx; omega));clear b c63 hrows z0x z1x z2x z3x z4x z5x z6x z7x z0fx z1fx z2fx z3fx z4fx z5fx z6fx z7fx q4 kW;go_wp2_with fail;refine cL.out.mono ?_;rintro e w7 ⟨r, bl, rfl, hLp, b⟩;have hlb := hLp.b;rw [hmo.out] at hlb;have hse := hLp.sees 7 o;rw [hlb, if_pos rfl] at hse;have hans := Hd (show seesF f (coM f) 7 = some ⟨7, -1, r, -1, (o : Int), -1, -1⟩ from by rw [hans0.out, hEh.out.hil]; exact hse);replace kV := Hd (kV.out.below b kV.out.lt);replace hS0 := Hd (hS0.out.later b);replace hbe := Hd (hbe.out.next b);have kZ := kV.out.set_ 2 (.int .i64 r);simp only [List.set_cons_zero, List.set_cons_succ] at kZ;replace kZ := Hd kZ;obtain ⟨z0x, z1x, z2x, z3x, z4x, z5x, z6x, z7x⟩ := kV.out.cells8;obtain ⟨z0fx, z1fx, z2fx, z3fx, z4fx, z5fx, z6fx, z7fx⟩ := kV.out.frozen8;have hSz := Hd (hS0.out.but ((BelowB.refl g w7).setG19 2 (.int .i64 r)) hne hg0);have hbz := Hd (hbe.out.set 2 (.int .i64 r));clear b cL hLp hlb hse hans0;go_wp2_with fail;go_ret;exact ⟨_, _, (by rw [hans.out]; try rfl), (by rw [hans.out]; try rfl), kZ.out, hSz.out, hbz.out⟩
  ·have hlt' : ¬ (i : Int) < (n : Int) := by omega
   obtain rfl : i = n := by omega
   have hans : Hid (seesF f (coM f) 7 = none) := Hd (sees7_none (hP.out.none hEh.out.hx.nb (fun z hz => by
    rw [hEh.out.hil] at hz;obtain ⟨j, hj⟩ := List.getElem?_of_mem hz;have hjl : j < l.length := by rw [hall0.out, rdL_len (Nat.le_refl _)]; exact (List.getElem?_eq_some_iff.1 hj).1
    obtain ⟨z2, hz2, hx2⟩ := hok.out.at_ (List.getElem?_eq_getElem hjl);rw [hj] at hz2;injection hz2 with hz2;have h3 := hall.out j _ (by have := hln.out; omega) (List.getElem?_eq_getElem hjl);rw [hx2, ← hz2] at h3;exact h3)))
   have hbe := Hd (hbU.out.next hb.out);clear hlt;go_wp2_with fail;go_ret;exact ⟨noneW 7, _, by rw [hans.out]; rfl, by rw [hans.out]; rfl, kW.out, hS0.out, hbe.out⟩
theorem bad_blank (k : Int) (w : World) : Calls Tryz.prog 22 #[.int .i64 k] w (RetW1 (noneW k) w) := by
 obtain ⟨W1, hW1⟩ : ∃ W, W = w.alloc (.cells #[.int .i64 0, .int .i64 0, .int .i64 0, .int .i64 0, .int .i64 0, .slice none 0 0, .int .i64 0, .int .i64 0] 34) := ⟨_, rfl⟩;obtain ⟨gr, hgr⟩ : ∃ g, g = w.heap.size := ⟨_, rfl⟩;have b1 : Below w.heap.size w W1 := by rw [hW1]; exact bAl _ _
 have kR : Blk W1 gr 34 [.int .i64 0, .int .i64 0, .int .i64 0, .int .i64 0, .int .i64 0, .slice none 0 0, .int .i64 0, .int .i64 0] := by rw [hW1, hgr]; exact Blk.new w _ _
 obtain ⟨z0c, z1c, z2c, z3c, z4c, z5c, z6c, z7c⟩ := kR.cells8;obtain ⟨z0fz, z1fz, z2fz, z3fz, z4fz, z5fz, z6fz, z7fz⟩ := kR.frozen8;have kN := kR.put8 (.int .i64 k) (.int .i64 (-1)) (.int .i64 (-1)) (.int .i64 (-1)) (.int .i64 (-1)) (.slice none 0 0) (.int .i64 (-1)) (.int .i64 (-1));have hbf := Hd (bP8 b1 (g := gr) (by omega) (.int .i64 k) (.int .i64 (-1)) (.int .i64 (-1)) (.int .i64 (-1)) (.int .i64 (-1)) (.slice none 0 0) (.int .i64 (-1)) (.int .i64 (-1)));have hdd := Hd kN.cells8;clear kN kR b1
 go_enter Tryz.func22, Tryz.ntmps22
 go_wp2_with (rw [← hW1, ← hgr]; clear hW1; replace hgr := Hd hgr);obtain ⟨d0, d1, d2, d3, d4, d5, d6, d7⟩ := hdd.out;exact bodyPost_ret (v := .agg #[.int .i64 k, .int .i64 (-1), .int .i64 (-1), .int .i64 (-1), .int .i64 (-1), .slice none 0 0, .int .i64 (-1), .int .i64 (-1)]) (by simp [results, Tryz.results22, go_sem, d0, d1, d2, d3, d4, d5, d6, d7]) rfl ⟨rfl, hbf.out⟩
theorem bad_Kinds (l : Int) (w : World) : Calls Tryz.prog 13 #[.int .i64 l] w (RetIL (kindsF l) w) := by
 obtain ⟨i0, hi, hz0, hz1, hz2⟩ := info_parts info_int16;replace hi := Hd hi;replace hz0 := Hd hz0;replace hz1 := Hd hz1;replace hz2 := Hd hz2;obtain ⟨W1, hW1⟩ : ∃ W, W = w.alloc (.cells #[.int .i64 1, .int .i64 2, .int .i64 3, .int .i64 4] 3) := ⟨_, rfl⟩;obtain ⟨g1, hg1⟩ : ∃ g, g = w.heap.size := ⟨_, rfl⟩;have b1 := Hd (show Below w.heap.size w W1 from by rw [hW1]; exact bAl _ _);have hown := Hd (show W1.ownsRow w.heap.size 3 1 (.slice (some ⟨g1, 0, none⟩) 4 4) 4 (encI.all [1, 2, 3, 4]) from by rw [hW1, hg1]; exact World.ownsRow_lit w _ 4 (Nat.le_refl _) (by decide) rfl);have hl4 := Hd (show LAt encI W1 (some ⟨g1, 0, none⟩) 4 [1, 2, 3, 4] from by
  rw [hW1, hg1];exact LAt.of_blk (t := 3) (Blk.new w _ (encI.all [1, 2, 3, 4])) (fun x hx => by
   simp only [List.mem_cons, List.not_mem_nil, or_false] at hx
   show -9223372036854775808 ≤ x ∧ x < 9223372036854775808
   omega) rfl)
 by_cases h1 : l = 1
 ·have e1 : (l == 1) = true := by rw [h1]; rfl
  have hk := Hd (show kindsF l = [1, 2, 3, 4] from by rw [h1]; rfl);replace h1 := Hd h1
  go_enter Tryz.func13, Tryz.ntmps13
  go_wp2_with (rw [← hW1, ← hg1]; clear hW1; replace hg1 := Hd hg1);go_ret;exact ⟨_, 4, 4, rfl, by rw [hk.out]; exact hl4.out, Nat.le_refl _, by omega, b1.out⟩
 ·have e1 : (l == 1) = false := by simpa using h1
  by_cases h2 : l = 2
  ·have e2 : (l == 2) = true := by rw [h2]; rfl
   have hk := Hd (show kindsF l = [1, 2, 3, 4, 5] from by rw [h2]; rfl);replace h1 := Hd h1;replace h2 := Hd h2;obtain ⟨gl, hgl⟩ : ∃ g, g = W1.heap.size := ⟨_, rfl⟩;obtain ⟨VL, hVL⟩ : ∃ W, W = W1.alloc (.cells #[.int .i64 5] 3) := ⟨_, rfl⟩;have bL : Below W1.heap.size W1 VL := by rw [hVL]; exact bAl _ _
   have hlit := Hd (show LAt encI VL (some ⟨gl, 0, none⟩) 1 [5] from by
    rw [hVL, hgl];exact LAt.of_blk (t := 3) (Blk.new W1 _ (encI.all [5])) (fun x hx => by
     simp only [List.mem_cons, List.not_mem_nil, or_false] at hx
     show -9223372036854775808 ≤ x ∧ x < 9223372036854775808
     omega) rfl)
   have hownL := Hd (oBl hown.out bL);have bWL := Hd (bT2 b1.out bL);have hbase := Hd bWL.out.size;clear bL
   go_enter Tryz.func13, Tryz.ntmps13
   go_wp2_with (first
    | (rw [← hW1, ← hg1]; clear hW1; replace hg1 := Hd hg1)
    | (rw [← hVL, ← hgl]; clear hVL; replace hgl := Hd hgl)
    | (at_builtin; refine wpAL (E := encI) rfl (.tmp 11) (.tmp 12) _ rfl w.heap.size 3 i0 _ 8 Tryz.underlying27 hi.out hz0.out hz1.out hz2.out rfl _ 4 [1, 2, 3, 4] (by rfl) hownL.out _ 1 1 [5] rfl hlit.out (by unfold maxLen; omega) (by omega) hbase.out ?_; intro v' w7 hown' hb7 _ _))
   obtain ⟨D, d, rfl, hnd, hdm, hLA⟩ := LAt.of_own (E := encI) hown' (fun x hx => by
    simp only [List.cons_append, List.nil_append, List.mem_cons, List.not_mem_nil, or_false] at hx
    show -9223372036854775808 ≤ x ∧ x < 9223372036854775808
    omega) rfl
   go_ret;exact ⟨D, _, d, rfl, by rw [hk.out]; exact hLA, hnd, hdm, bWL.out.trans hb7⟩
  ·have e2 : (l == 2) = false := by simpa using h2
   by_cases h3 : l = 3
   ·have e3 : (l == 3) = true := by rw [h3]; rfl
    have hk := Hd (show kindsF l = [1, 2, 3, 4, 6, 7] from by rw [h3]; rfl);replace h1 := Hd h1;replace h2 := Hd h2;replace h3 := Hd h3;obtain ⟨gl, hgl⟩ : ∃ g, g = W1.heap.size := ⟨_, rfl⟩;obtain ⟨VL, hVL⟩ : ∃ W, W = W1.alloc (.cells #[.int .i64 6, .int .i64 7] 3) := ⟨_, rfl⟩;have bL : Below W1.heap.size W1 VL := by rw [hVL]; exact bAl _ _
    have hlit := Hd (show LAt encI VL (some ⟨gl, 0, none⟩) 2 [6, 7] from by
     rw [hVL, hgl];exact LAt.of_blk (t := 3) (Blk.new W1 _ (encI.all [6, 7])) (fun x hx => by
      simp only [List.mem_cons, List.not_mem_nil, or_false] at hx
      show -9223372036854775808 ≤ x ∧ x < 9223372036854775808
      omega) rfl)
    have hownL := Hd (oBl hown.out bL);have bWL := Hd (bT2 b1.out bL);have hbase := Hd bWL.out.size;clear bL
    go_enter Tryz.func13, Tryz.ntmps13
    go_wp2_with (first
     | (rw [← hW1, ← hg1]; clear hW1; replace hg1 := Hd hg1)
     | (rw [← hVL, ← hgl]; clear hVL; replace hgl := Hd hgl)
     | (at_builtin; refine wpAL (E := encI) rfl (.tmp 16) (.tmp 17) _ rfl w.heap.size 3 i0 _ 8 Tryz.underlying27 hi.out hz0.out hz1.out hz2.out rfl _ 4 [1, 2, 3, 4] (by rfl) hownL.out _ 2 2 [6, 7] rfl hlit.out (by unfold maxLen; omega) (by omega) hbase.out ?_; intro v' w7 hown' hb7 _ _))
    obtain ⟨D, d, rfl, hnd, hdm, hLA⟩ := LAt.of_own (E := encI) hown' (fun x hx => by
     simp only [List.cons_append, List.nil_append, List.mem_cons, List.not_mem_nil, or_false] at hx
     show -9223372036854775808 ≤ x ∧ x < 9223372036854775808
     omega) rfl
    go_ret;exact ⟨D, _, d, rfl, by rw [hk.out]; exact hLA, hnd, hdm, bWL.out.trans hb7⟩
   ·have e3 : (l == 3) = false := by simpa using h3
    have hk := Hd (show kindsF l = [] from by unfold kindsF; rw [if_neg h1, if_neg h2, if_neg h3]);replace h1 := Hd h1;replace h2 := Hd h2;replace h3 := Hd h3
    go_enter Tryz.func13, Tryz.ntmps13
    go_wp2_with (rw [← hW1, ← hg1]; clear hW1; replace hg1 := Hd hg1);go_ret;exact ⟨none, 0, 0, rfl, by rw [hk.out]; exact LAt.nil _ _ _, Nat.le_refl _, by omega, b1.out⟩
def lookVs (s : Nat) : List Value := [.func (.func 30) #[.pointer (some ⟨s, 0, none⟩)] #[], .func (.func 31) #[.pointer (some ⟨s, 0, none⟩)] #[], .func (.func 32) #[.pointer (some ⟨s, 0, none⟩)] #[], .func (.func 33) #[.pointer (some ⟨s, 0, none⟩)] #[], .func (.func 34) #[.pointer (some ⟨s, 0, none⟩)] #[], .func (.func 35) #[.pointer (some ⟨s, 0, none⟩)] #[], .func (.func 36) #[.pointer (some ⟨s, 0, none⟩)] #[]]
theorem bad_looks (s : Nat) (U : World) : Calls Tryz.prog 21 #[.pointer (some ⟨s, 0, none⟩)] U (fun e U' => ∃ g, e = .returned (.slice (some ⟨g, 0, none⟩) 7 7) ∧ Blk U' g 65 (lookVs s) ∧ Below U.heap.size U U') := by
 obtain ⟨W1, hW1⟩ : ∃ W, W = U.alloc (.cells (lookVs s).toArray 65) := ⟨_, rfl⟩;obtain ⟨g1, hg1⟩ : ∃ g, g = U.heap.size := ⟨_, rfl⟩;have b1 := Hd (show Below U.heap.size U W1 from by rw [hW1]; exact bAl _ _);have k1 := Hd (show Blk W1 g1 65 (lookVs s) from by rw [hW1, hg1]; exact Blk.new U _ _);unfold lookVs at hW1
 go_enter Tryz.func21, Tryz.ntmps21
 go_wp2_with (rw [← hW1, ← hg1]; clear hW1; replace hg1 := Hd hg1);go_ret;exact ⟨g1, rfl, k1.out, by rw [hg1.out]; exact b1.out⟩
theorem rfPs_len (frm : List Int) (i : Nat) : (rfPs frm i).length ≤ i := by
 unfold rfPs;rw [List.length_map];exact Nat.le_trans (List.length_filter_le _ _) (by simp)
theorem rfPs_of {f : Fac} {m : Nat} (hw : WholeF f) (hm : f.items.length = m) (h : m ≤ 4096) : ofN (m : Int) (rfPs f.frm m) = (m : Int) ∧ ofM (m : Int) (rfPs f.frm m) = rfM f.items.length f.frm ∧ ofE (m : Int) (rfPs f.frm m) = 0 ∧ OkI (rfPs f.frm m) := by
 have h1 := rfPs_ok hw;have h2 := hw.len;rw [h2, hm] at h1;have h0 : ofOk (m : Int) (rfPs f.frm m) = true := by
  unfold ofOk;rw [Bool.and_eq_true, List.all_eq_true];exact ⟨belowZ_yes (by omega) (by omega), h1⟩
 refine ⟨by unfold ofN; rw [if_pos h0], by unfold ofM; rw [if_pos h0]; unfold rfM; rw [h2, hm]; rfl, by unfold ofE; rw [if_pos h0], fun p hp => ?_⟩;obtain ⟨-, -, a, b, c, d⟩ := okP_yes (h1 p hp)
 omega
theorem cause_Rf (v : FV) (f : Fac) (w : World) (hF : FactsAt w v f) (hm : v.m ≤ 4096) (hw : WholeF f) :
  Calls Tryz.prog 52 #[.agg #[.slice v.A v.n v.c, .slice v.B v.m v.d, .slice v.C v.k v.e]] w (RetMat1 (v.m : Int) (rfM f.items.length f.frm) w) := by
 have hil := hF.is.len;have hfl := hF.fs.len;have hkv : v.k = v.m := by rw [← hil, ← hfl]; exact hw.len
 have gq := (rfM_good hw (by omega)).1;have hrl := gq.len;have hpos := Hd (fun h0 => rows_len_pos gq h0);obtain ⟨o1, o2, o3, hoi⟩ := rfPs_of hw hil hm;have cO := fun A n c W hp hn => mat_Of (v.m : Int) A n c (rfPs f.frm v.m) W hp hn;rw [o1, o2, o3] at cO;replace cO := Hd cO;replace hoi := Hd hoi;obtain ⟨rm, hrm⟩ : ∃ m, m = rfM f.items.length f.frm := ⟨_, rfl⟩;rw [← hrm] at hrl cO hpos ⊢;rw [hil] at hrl hpos;have hlt' := hw.lt;rw [hil] at hlt';replace hlt' := Hd hlt';replace hil := Hd hil;replace hfl := Hd hfl;replace hkv := Hd hkv;replace hrl := Hd hrl;clear gq o1 o2 o3 hrm;obtain ⟨i0, hi0, hz0, hz1, hz2⟩ := info_parts info_pair;replace hi0 := Hd hi0;replace hz0 := Hd hz0;replace hz1 := Hd hz1;replace hz2 := Hd hz2;have hB0 := Hd (FBox.new hF);obtain ⟨g, hg⟩ : ∃ g, g = w.heap.size := ⟨_, rfl⟩;obtain ⟨W0, hW0⟩ : ∃ W, W = w.alloc (.cells #[.slice v.A v.n v.c, .slice v.B v.m v.d, .slice v.C v.k v.e] 29) := ⟨_, rfl⟩;rw [← hW0, ← hg] at hB0;clear hF;obtain ⟨gr, hgr⟩ : ∃ g, g = W0.heap.size := ⟨_, rfl⟩;obtain ⟨W1, hW1⟩ : ∃ W, W = W0.alloc (.cells #[.int .i64 0, .slice none 0 0] 57) := ⟨_, rfl⟩;have b1 : Below W0.heap.size W0 W1 := by rw [hW1]; exact (Below.refl _ _).alloc (Nat.le_refl _) _
 have kR := Hd (show MatB W1 gr 57 0 none 0 0 from by rw [hW1, hgr]; exact MatB.new W0 _);have hB1 := Hd (hB0.out.later b1);have hgw := Hd (show w.heap.size ≤ gr from by rw [hgr]; exact hB0.out.o.size);have p0 := hB1.out.c0;have p1 := hB1.out.c1;have p2 := hB1.out.c2
 go_enter Tryz.func52, Tryz.ntmps52
 go_wp2_with (first | (rw [← hW0, ← hg]; clear hW0 hg) | (rw [← hW1, ← hgr]; clear hW1; replace hgr := Hd hgr));clear p0 p1 p2 b1 hB0
 go_loopw [3, 11] (fun l t wr => ∃ i : Nat, i ≤ v.m ∧ t = .int .i64 i ∧ Hid (wr.ownsRow W1.heap.size 99 2 l (rfPs f.frm i).length (cellsP (rfPs f.frm i))) ∧ Hid (Below W1.heap.size W1 wr)) (fun _ t _ => v.m - (intOf t).toNat)
 case atStart => exact ⟨0, Nat.zero_le _, rfl, Hd (World.ownsRow_nil _ _ _ _), Hd (Below.refl _ _)⟩
 case round =>
  obtain ⟨i, hi, rfl, hown, hbb⟩ := hrel;have hB := Hd (hB1.out.later hbb.out);by_cases hlt : i < v.m
  ·have hik : (i : Int) < (v.k : Int) := by have := hkv.out; omega
   obtain ⟨ib, io, z, hzC, hib, hz, hzo, j0⟩ := hB.out.f.fs.int (show i < v.k by have := hkv.out; omega);rw [hzC];have hgd : f.frm.getD i 0 = z := by rw [List.getD_eq_getElem?_getD, hz]; rfl
   have hrs := rfPs_succ f.frm i;rw [hgd] at hrs;have hpl : (rfPs f.frm i).length ≤ 4096 := Nat.le_trans (rfPs_len _ _) (by omega);clear hgd;by_cases hz00 : 0 ≤ z
   ·rw [if_pos hz00] at hrs
    have e0 : decide (0 ≤ z) = true := decide_eq_true hz00;have e1 : decide (z ≥ 0) = true := decide_eq_true hz00;replace hrs := Hd hrs;have hownD := hown.out;have hbD := hbb.out;have hbase : W1.heap.size ≤ wr.heap.size := hbD.size;clear hz hzo hzC hib;go_wp2_with (at_builtin; refine wpList_append_lies _ rfl (.tmp 18) (.tmp 22) _ rfl W1.heap.size 99 i0 _ 2 16 Tryz.underlying98 hi0.out hz0.out hz1.out hz2.out rfl (by omega) _ _ _ (by rfl) (hownD.alloc _) ⟨wr.heap.size, 0, none⟩ 1 1 [.int .i64 z, .int .i64 (i : Int)] rfl rfl (cell_two_new _ _ _ _) (by simp [Value.oneCell']) (by omega) (by unfold maxLen; omega) (by omega) (by simp; omega) _ rfl ?_; intro g1 cap w2 hown2 hgrow hat hlt1; have hb2 := Hd ((hbD.alloc hbD.size _).grown hgrow (by have := hbD.size; simp; omega) (oLb hownD)); clear hgrow hat hlt1)
    go_roundw
    case rel =>
     refine ⟨i + 1, by omega, by go_num, ?_, hb2⟩;rw [hrs.out, List.length_append, cellsP_snoc];exact Hd hown2
    case measure => simp [intOf]; omega
   ·rw [if_neg hz00] at hrs
    have e0 : decide (0 ≤ z) = false := decide_eq_false hz00;have e1 : decide (z ≥ 0) = false := decide_eq_false hz00;replace hrs := Hd hrs;clear hzC hz hzo;go_wp2_with fail;exact ⟨⟨i + 1, by omega, by go_num, Hd (by rw [hrs.out]; exact hown.out), hbb⟩, by simp [intOf]; omega⟩
  ·have hik : ¬ (i : Int) < (v.k : Int) := by have := hkv.out; omega
   have him : i = v.m := by omega
   subst him;have hpl : (rfPs f.frm v.m).length ≤ 4096 := Nat.le_trans (rfPs_len _ _) (by omega);obtain ⟨A, c, rfl, hP⟩ := PairsAt.of_own hown.out hoi.out;have hcall := Hd (cO.out A _ c wr hP (by omega));have p0 := hB.out.c0;have p1 := hB.out.c1;have p2 := hB.out.c2;clear hown hP;go_wp2_with fail;refine hcall.out.mono ?_; rintro e w2 ⟨C, n2, c2, rfl, r2, hc2, b2⟩;obtain rfl : n2 = v.m := by rw [← r2.len]; exact hrl.out
   have bU : Below W1.heap.size W1 w2 := bT2 hbb.out b2;obtain ⟨M, hM⟩ : ∃ M, M = w2.heap.size := ⟨_, rfl⟩;obtain ⟨W2, hW2⟩ : ∃ W2, W2 = w2.alloc (.cells #[.int .i64 0, .slice none 0 0] 57) := ⟨_, rfl⟩;have b3 : Below w2.heap.size w2 W2 := by rw [hW2]; exact (Below.refl _ _).alloc (Nat.le_refl _) _
   have kM : MatB W2 M 57 0 none 0 0 := by rw [hW2, hM]; exact MatB.new w2 _
   have hne : 0 < v.m → ∀ ad, C = some ad → ad.block ≠ M := fun h0 ad e => by have := r2.block_lt h0 ad e; omega
   have r3 := r2.below b3;have hUM : W1.heap.size ≤ M := by have := bU.size; omega
   have bV := bT2 bU b3;obtain ⟨W3, hW3⟩ : ∃ W3, W3 = (World.setCell W2 ⟨M, 0, none⟩ (.int .i64 (v.m : Int))).setCell ⟨M, 1, none⟩ (.slice C v.m c2) := ⟨_, rfl⟩;have r4 := Hd (show RowsAt W3 C v.m rm from by rw [hW3]; exact r3.putB kM hne _ _);have k4 := Hd (show MatB W3 M 57 (v.m : Int) C v.m c2 from by rw [hW3]; exact kM.put _ _ _ _);have bW : Below W1.heap.size W1 W3 := by rw [hW3]; exact (bV.setCell (p := ⟨M, 0, none⟩) hUM _).setCell (p := ⟨M, 1, none⟩) hUM _
   have m0 := kM.c0;have m1 := kM.c1;have m2 := kM.frozen 0;have m3 := kM.frozen 1;have hfz := (r4.out).farZ (kR.out.below_ bW);have hne2 : 0 < v.m → ∀ ad, C = some ad → ad.block ≠ gr := fun h0 => hfz (hpos.out h0) h0;have kR4 := kR.out.below_ bW;have f0 := kR4.c0;have f1 := kR4.c1;have g0 := kR4.frozen 0;have g1 := kR4.frozen 1;have n0 := k4.out.c0;have n1 := k4.out.c1;have hcc := kR4.two (.int .i64 (v.m : Int)) (.slice C v.m c2);have hc3 := Hd hcc.1;have hc4 := Hd hcc.2;have hrf := Hd (r4.out.putB kR4 hne2 (.int .i64 (v.m : Int)) (.slice C v.m c2));have hbf := Hd (((bT2 hB1.out.o bW).setCell (p := ⟨gr, 0, none⟩) hgw.out (.int .i64 (v.m : Int))).setCell (p := ⟨gr, 1, none⟩) hgw.out (.slice C v.m c2));clear p0 p1 p2 hne hne2 hfz hcc r2 r3 b2 b3 bU bV bW kM kR4 r4 k4;go_wp2_with (first | (rw [← hW2, ← hM]; clear hW2; replace hM := Hd hM) | (rw [← hW3]; clear hW3 m0 m1 m2 m3));exact bodyPost_ret (v := .agg #[.int .i64 (v.m : Int), .slice C v.m c2]) (by simp [results, Tryz.results52, go_sem, hc3.out, hc4.out]) rfl ⟨C, v.m, c2, rfl, hrf.out, hc2, hbf.out⟩
theorem cause_Edges (v : FV) (f : Fac) (w : World) (hF : FactsAt w v f) (hm : v.m ≤ 4096) (hw : WholeF f) (hN : Nbr f.items) :
  Calls Tryz.prog 29 #[.agg #[.slice v.A v.n v.c, .slice v.B v.m v.d, .slice v.C v.k v.e]] w (RetMat1 (v.m : Int) (edgeM f) w) := by
 have hil := hF.is.len;have gp := poM_good (is := f.items) (by omega);have gq := rfM_good hw (by omega);rw [hil] at gp gq;obtain ⟨pm, hpm⟩ : ∃ m, m = poM f.items := ⟨_, rfl⟩;obtain ⟨rm, hrm⟩ : ∃ m, m = rfM f.items.length f.frm := ⟨_, rfl⟩;rw [hil] at hrm;have cPo := fun W hW => session_Po v f W hW hm hN;have cRf := fun W hW => cause_Rf v f W hW hm hw;unfold edgeM;rw [hil] at cRf ⊢;rw [← hpm] at gp cPo ⊢;rw [← hrm] at gq cRf ⊢;have hpl := Hd gp.1.len;have hrl := Hd gq.1.len;have hpq := Hd (show ∀ (i : Nat) (xs ys : List Nat), pm[i]? = some xs → rm[i]? = some ys → xs.length = ys.length ∧ xs.length ≤ 1024 from fun i xs ys h1 h2 => by
  have e1 := (gp.1.row xs (List.mem_of_getElem? h1)).2.2.1;have e2 := (gq.1.row ys (List.mem_of_getElem? h2)).2.2.1;have e3 := gp.1.small xs (List.mem_of_getElem? h1)
  omega)
 have hpos := Hd (fun h0 => rows_len_pos (orM_good gp.1 gq.1).1 h0);replace cPo := Hd cPo;replace cRf := Hd cRf;clear gp gq hpm hrm hil;have hB0 := Hd (FBox.new hF);obtain ⟨g, hg⟩ : ∃ g, g = w.heap.size := ⟨_, rfl⟩;obtain ⟨W0, hW0⟩ : ∃ W, W = w.alloc (.cells #[.slice v.A v.n v.c, .slice v.B v.m v.d, .slice v.C v.k v.e] 29) := ⟨_, rfl⟩;rw [← hW0, ← hg] at hB0;clear hF;obtain ⟨gr, hgr⟩ : ∃ g, g = W0.heap.size := ⟨_, rfl⟩;obtain ⟨W1, hW1⟩ : ∃ W, W = W0.alloc (.cells #[.int .i64 0, .slice none 0 0] 57) := ⟨_, rfl⟩;have b1 : Below W0.heap.size W0 W1 := by rw [hW1]; exact (Below.refl _ _).alloc (Nat.le_refl _) _
 have kR : MatB W1 gr 57 0 none 0 0 := by rw [hW1, hgr]; exact MatB.new W0 _
 have hB1 := Hd (hB0.out.later b1);have hgw := Hd (show w.heap.size ≤ gr from by rw [hgr]; exact hB0.out.o.size)
 go_enter Tryz.func29, Tryz.ntmps29
 go_wp2_with (first | (rw [← hW0, ← hg]; clear hW0 hg) | (rw [← hW1, ← hgr]; clear hW1; replace hgr := Hd hgr));refine wp_region_tree (.flt 0 (.flt 2 (.two 1 8 (.two 3 8 (.two 4 8 (.flt 5 (.flt 6 (.flt 7 (.one 8 (.one 9 (.flt 10 .done)))))) (.one 4 (.flt 5 (.flt 6 (.flt 7 (.one 9 (.flt 10 .done))))))) (.one 3 (.one 4 (.flt 5 (.flt 6 (.flt 7 (.one 9 (.flt 10 .done)))))))) (.one 1 (.one 3 (.one 4 (.flt 5 (.flt 6 (.flt 7 (.one 9 (.flt 10 .done))))))))))) (by kernel_rfl) (by kernel_rfl) (fun U hU => ?_);have hkR := Hd (show MatB U gr 57 0 none 0 0 from by rw [hU.out]; exact kR.below_ (Below.refl _ _).drew);have hBU := Hd (show FBox w g v f U from by rw [hU.out]; exact hB1.out.later (Below.refl _ _).drew);clear hU hB1 b1 kR hB0;have bW : Below U.heap.size U U := Below.refl _ _;have p0 := hBU.out.c0;have p1 := hBU.out.c1;have p2 := hBU.out.c2
 iterate 2
  refine wpTf (v := ?_) rfl (by rfl) (fun w' hw' => ?_) (fun K hK => ?_);rotate_left
  ·(go_simp; try with_reducible rfl)
  go_simp;refine hK _ ?_;clear hK K
 clear p0 p1 p2;refine wpPT_two rfl (by rfl) rfl (by rfl) (fun K hK => ?_) (fun K hK => ?_)
 ·skip
  go_simp;refine (cPo.out U (hBU.out.later bW).f).mono ?_; rintro e v1 ⟨A1, n1, c1, rfl, r1, hc1, b⟩;obtain rfl : n1 = v.m := by rw [← r1.len]; exact hpl.out
  replace bW := bT2 bW b;refine hK _ _ bW ?_;clear hK K;replace r1 := Hd r1;clear b;refine wpPT_two rfl (by rfl) rfl (by rfl) (fun K hK => ?_) (fun K hK => ?_)
  ·skip
   go_simp;refine (cRf.out v1 (hBU.out.later bW).f).mono ?_; rintro e v2 ⟨A2, n2, c2, rfl, r2, hc2, b⟩;obtain rfl : n2 = v.m := by rw [← r2.len]; exact hrl.out
   replace bW := bT2 bW b;refine hK _ _ bW ?_;clear hK K;replace r2 := Hd r2;replace r1 := Hd (r1.out.below b);clear b;refine wpPT_two rfl (by rfl) rfl (by rfl) (fun K hK => ?_) (fun K hK => ?_)
   ·skip
    have cE := Hd (mat_Or A1 A2 v.m c1 c2 pm rm v2 r1.out r2.out hm hpq.out);go_simp;refine cE.out.mono ?_; rintro e v3 ⟨A3, n3, c3, rfl, r3, hc3, b⟩;obtain rfl : n3 = v.m := by rw [← r3.len, orM_len]; exact hpl.out
    replace bW := bT2 bW b;refine hK _ _ bW ?_;clear hK K cE r1 r2;clear b
    iterate 3
     refine wpTf (v := ?_) rfl (by rfl) (fun w' hw' => ?_) (fun K hK => ?_);rotate_left
     ·(go_simp; try with_reducible rfl)
     go_simp;refine hK _ ?_;clear hK K
    refine wpT1 rfl (by rfl) (fun K hK => ?_);go_simp;obtain ⟨M, hM⟩ : ∃ M, M = (World.heap v3).size := ⟨_, rfl⟩;obtain ⟨v4, hw⟩ : ∃ X : World, X = World.alloc v3 (.cells #[.int .i64 0, .slice none 0 0] 57) := ⟨_, rfl⟩;rw [← hw, ← hM];have b : Below (World.heap v3).size v3 v4 := by rw [hw]; exact bAl _ _
    have hUM : U.heap.size ≤ M := by rw [hM]; exact bW.size
    replace bW := bT2 bW b;refine hK _ _ bW ?_;clear hK K;have kM := Hd (show MatB v4 M 57 0 none 0 0 from by rw [hw, hM]; exact MatB.new _ _);have hne : 0 < v.m → ∀ ad, A3 = some ad → ad.block ≠ M := fun h0 ad e => by have := r3.block_lt h0 ad e; omega
    replace r3 := r3.below b;clear b;clear hw hM;have f0 := kM.out.c0;have f1 := kM.out.c1;have g0 := kM.out.frozen 0;have g1 := kM.out.frozen 1;refine wpT1 rfl (by rfl) (fun K hK => ?_);go_simp;obtain ⟨wz, hw⟩ : ∃ X : World, X = (World.setCell v4 ⟨M, 0, none⟩ (.int .i64 (v.m : Int))).setCell ⟨M, 1, none⟩ (.slice A3 v.m c3) := ⟨_, rfl⟩;rw [← hw];have r4 := Hd (show RowsAt wz A3 v.m (orM pm rm) from by rw [hw]; exact r3.putB kM.out hne _ _);have k4 := Hd (show MatB wz M 57 (v.m : Int) A3 v.m c3 from by rw [hw]; exact kM.out.put _ _ _ _);replace bW : Below U.heap.size U wz := by rw [hw]; exact (bW.setCell (p := ⟨M, 0, none⟩) hUM _).setCell (p := ⟨M, 1, none⟩) hUM _
    refine hK _ _ bW ?_;clear hK K f0 f1 g0 g1 hw r3 kM
    iterate 1
     refine wpTf (v := ?_) rfl (by rfl) (fun w' hw' => ?_) (fun K hK => ?_);rotate_left
     ·(go_simp; try with_reducible rfl)
     go_simp;refine hK _ ?_;clear hK K
    refine wpTd (NoPanic.normal ?_);have kR4 := hkR.out.below_ bW;have m0 := k4.out.c0;have m1 := k4.out.c1;have f0 := kR4.c0;have f1 := kR4.c1;have g0 := kR4.frozen 0;have g1 := kR4.frozen 1;have hcc := kR4.two (.int .i64 (v.m : Int)) (.slice A3 v.m c3);have hc1 := Hd hcc.1;have hc2 := Hd hcc.2;have hrf := Hd (r4.out.putB kR4 (fun h0 => r4.out.farZ kR4 (hpos.out h0) h0) (.int .i64 (v.m : Int)) (.slice A3 v.m c3));have hbf := Hd (((bT2 hBU.out.o bW).setCell (p := ⟨gr, 0, none⟩) hgw.out (.int .i64 (v.m : Int))).setCell (p := ⟨gr, 1, none⟩) hgw.out (.slice A3 v.m c3));clear hcc bW hne k4 r4;go_wp2_with fail;exact bodyPost_ret (v := .agg #[.int .i64 (v.m : Int), .slice A3 v.m c3]) (by simp [results, Tryz.results29, go_sem, hc1.out, hc2.out]) rfl ⟨A3, v.m, c3, rfl, hrf.out, hc3, hbf.out⟩
   ·skip
    go_simp;obtain ⟨M, hM⟩ : ∃ M, M = (World.heap v2).size := ⟨_, rfl⟩;obtain ⟨v5, hw⟩ : ∃ X : World, X = World.alloc v2 (.cells #[.int .i64 0, .slice none 0 0] 57) := ⟨_, rfl⟩;rw [← hw, ← hM];have b : Below (World.heap v2).size v2 v5 := by rw [hw]; exact bAl _ _
    have hUM : U.heap.size ≤ M := by rw [hM]; exact bW.size
    replace bW := bT2 bW b;refine hK _ _ bW ?_;clear hK K;have kM := Hd (show MatB v5 M 57 0 none 0 0 from by rw [hw, hM]; exact MatB.new _ _);replace r1 := Hd (r1.out.below b);replace r2 := Hd (r2.out.below b);clear b;clear hw hM;refine wpT1 rfl (by rfl) (fun K hK => ?_);have cE := Hd (mat_Or A1 A2 v.m c1 c2 pm rm v5 r1.out r2.out hm hpq.out);go_simp;refine cE.out.mono ?_; rintro e v6 ⟨A3, n3, c3, rfl, r3, hc3, b⟩;obtain rfl : n3 = v.m := by rw [← r3.len, orM_len]; exact hpl.out
    replace bW := bT2 bW b;refine hK _ _ bW ?_;clear hK K cE r1 r2;have hne : 0 < v.m → ∀ ad, A3 = some ad → ad.block ≠ M := fun h0 => r3.farZ (kM.out.below_ b) (hpos.out h0) h0;replace kM := Hd (kM.out.below_ b);clear b
    iterate 3
     refine wpTf (v := ?_) rfl (by rfl) (fun w' hw' => ?_) (fun K hK => ?_);rotate_left
     ·(go_simp; try with_reducible rfl)
     go_simp;refine hK _ ?_;clear hK K
    have f0 := kM.out.c0;have f1 := kM.out.c1;have g0 := kM.out.frozen 0;have g1 := kM.out.frozen 1;refine wpT1 rfl (by rfl) (fun K hK => ?_);go_simp;obtain ⟨wz, hw⟩ : ∃ X : World, X = (World.setCell v6 ⟨M, 0, none⟩ (.int .i64 (v.m : Int))).setCell ⟨M, 1, none⟩ (.slice A3 v.m c3) := ⟨_, rfl⟩;rw [← hw];have r4 := Hd (show RowsAt wz A3 v.m (orM pm rm) from by rw [hw]; exact r3.putB kM.out hne _ _);have k4 := Hd (show MatB wz M 57 (v.m : Int) A3 v.m c3 from by rw [hw]; exact kM.out.put _ _ _ _);replace bW : Below U.heap.size U wz := by rw [hw]; exact (bW.setCell (p := ⟨M, 0, none⟩) hUM _).setCell (p := ⟨M, 1, none⟩) hUM _
    refine hK _ _ bW ?_;clear hK K f0 f1 g0 g1 hw r3 kM
    iterate 1
     refine wpTf (v := ?_) rfl (by rfl) (fun w' hw' => ?_) (fun K hK => ?_);rotate_left
     ·(go_simp; try with_reducible rfl)
     go_simp;refine hK _ ?_;clear hK K
    refine wpTd (NoPanic.normal ?_);have kR4 := hkR.out.below_ bW;have m0 := k4.out.c0;have m1 := k4.out.c1;have f0 := kR4.c0;have f1 := kR4.c1;have g0 := kR4.frozen 0;have g1 := kR4.frozen 1;have hcc := kR4.two (.int .i64 (v.m : Int)) (.slice A3 v.m c3);have hc1 := Hd hcc.1;have hc2 := Hd hcc.2;have hrf := Hd (r4.out.putB kR4 (fun h0 => r4.out.farZ kR4 (hpos.out h0) h0) (.int .i64 (v.m : Int)) (.slice A3 v.m c3));have hbf := Hd (((bT2 hBU.out.o bW).setCell (p := ⟨gr, 0, none⟩) hgw.out (.int .i64 (v.m : Int))).setCell (p := ⟨gr, 1, none⟩) hgw.out (.slice A3 v.m c3));clear hcc bW hne k4 r4;go_wp2_with fail;exact bodyPost_ret (v := .agg #[.int .i64 (v.m : Int), .slice A3 v.m c3]) (by simp [results, Tryz.results29, go_sem, hc1.out, hc2.out]) rfl ⟨A3, v.m, c3, rfl, hrf.out, hc3, hbf.out⟩
  ·skip
   go_simp;obtain ⟨M, hM⟩ : ∃ M, M = (World.heap v1).size := ⟨_, rfl⟩;obtain ⟨v7, hw⟩ : ∃ X : World, X = World.alloc v1 (.cells #[.int .i64 0, .slice none 0 0] 57) := ⟨_, rfl⟩;rw [← hw, ← hM];have b : Below (World.heap v1).size v1 v7 := by rw [hw]; exact bAl _ _
   have hUM : U.heap.size ≤ M := by rw [hM]; exact bW.size
   replace bW := bT2 bW b;refine hK _ _ bW ?_;clear hK K;have kM := Hd (show MatB v7 M 57 0 none 0 0 from by rw [hw, hM]; exact MatB.new _ _);replace r1 := Hd (r1.out.below b);clear b;clear hw hM;refine wpT1 rfl (by rfl) (fun K hK => ?_);go_simp;refine (cRf.out v7 (hBU.out.later bW).f).mono ?_; rintro e v8 ⟨A2, n2, c2, rfl, r2, hc2, b⟩;obtain rfl : n2 = v.m := by rw [← r2.len]; exact hrl.out
   replace bW := bT2 bW b;refine hK _ _ bW ?_;clear hK K;replace r2 := Hd r2;replace r1 := Hd (r1.out.below b);replace kM := Hd (kM.out.below_ b);clear b;refine wpT1 rfl (by rfl) (fun K hK => ?_);have cE := Hd (mat_Or A1 A2 v.m c1 c2 pm rm v8 r1.out r2.out hm hpq.out);go_simp;refine cE.out.mono ?_; rintro e v9 ⟨A3, n3, c3, rfl, r3, hc3, b⟩;obtain rfl : n3 = v.m := by rw [← r3.len, orM_len]; exact hpl.out
   replace bW := bT2 bW b;refine hK _ _ bW ?_;clear hK K cE r1 r2;have hne : 0 < v.m → ∀ ad, A3 = some ad → ad.block ≠ M := fun h0 => r3.farZ (kM.out.below_ b) (hpos.out h0) h0;replace kM := Hd (kM.out.below_ b);clear b
   iterate 3
    refine wpTf (v := ?_) rfl (by rfl) (fun w' hw' => ?_) (fun K hK => ?_);rotate_left
    ·(go_simp; try with_reducible rfl)
    go_simp;refine hK _ ?_;clear hK K
   have f0 := kM.out.c0;have f1 := kM.out.c1;have g0 := kM.out.frozen 0;have g1 := kM.out.frozen 1;refine wpT1 rfl (by rfl) (fun K hK => ?_);go_simp;obtain ⟨wz, hw⟩ : ∃ X : World, X = (World.setCell v9 ⟨M, 0, none⟩ (.int .i64 (v.m : Int))).setCell ⟨M, 1, none⟩ (.slice A3 v.m c3) := ⟨_, rfl⟩;rw [← hw];have r4 := Hd (show RowsAt wz A3 v.m (orM pm rm) from by rw [hw]; exact r3.putB kM.out hne _ _);have k4 := Hd (show MatB wz M 57 (v.m : Int) A3 v.m c3 from by rw [hw]; exact kM.out.put _ _ _ _);replace bW : Below U.heap.size U wz := by rw [hw]; exact (bW.setCell (p := ⟨M, 0, none⟩) hUM _).setCell (p := ⟨M, 1, none⟩) hUM _
   refine hK _ _ bW ?_;clear hK K f0 f1 g0 g1 hw r3 kM
   iterate 1
    refine wpTf (v := ?_) rfl (by rfl) (fun w' hw' => ?_) (fun K hK => ?_);rotate_left
    ·(go_simp; try with_reducible rfl)
    go_simp;refine hK _ ?_;clear hK K
   refine wpTd (NoPanic.normal ?_);have kR4 := hkR.out.below_ bW;have m0 := k4.out.c0;have m1 := k4.out.c1;have f0 := kR4.c0;have f1 := kR4.c1;have g0 := kR4.frozen 0;have g1 := kR4.frozen 1;have hcc := kR4.two (.int .i64 (v.m : Int)) (.slice A3 v.m c3);have hc1 := Hd hcc.1;have hc2 := Hd hcc.2;have hrf := Hd (r4.out.putB kR4 (fun h0 => r4.out.farZ kR4 (hpos.out h0) h0) (.int .i64 (v.m : Int)) (.slice A3 v.m c3));have hbf := Hd (((bT2 hBU.out.o bW).setCell (p := ⟨gr, 0, none⟩) hgw.out (.int .i64 (v.m : Int))).setCell (p := ⟨gr, 1, none⟩) hgw.out (.slice A3 v.m c3));clear hcc bW hne k4 r4;go_wp2_with fail;exact bodyPost_ret (v := .agg #[.int .i64 (v.m : Int), .slice A3 v.m c3]) (by simp [results, Tryz.results29, go_sem, hc1.out, hc2.out]) rfl ⟨A3, v.m, c3, rfl, hrf.out, hc3, hbf.out⟩
 ·skip
  go_simp;obtain ⟨M, hM⟩ : ∃ M, M = (World.heap U).size := ⟨_, rfl⟩;obtain ⟨v10, hw⟩ : ∃ X : World, X = World.alloc U (.cells #[.int .i64 0, .slice none 0 0] 57) := ⟨_, rfl⟩;rw [← hw, ← hM];have b : Below (World.heap U).size U v10 := by rw [hw]; exact bAl _ _
  have hUM : U.heap.size ≤ M := by rw [hM]; exact bW.size
  replace bW := bT2 bW b;refine hK _ _ bW ?_;clear hK K;have kM := Hd (show MatB v10 M 57 0 none 0 0 from by rw [hw, hM]; exact MatB.new _ _);clear b;clear hw hM;refine wpT1 rfl (by rfl) (fun K hK => ?_);go_simp;refine (cPo.out v10 (hBU.out.later bW).f).mono ?_; rintro e v11 ⟨A1, n1, c1, rfl, r1, hc1, b⟩;obtain rfl : n1 = v.m := by rw [← r1.len]; exact hpl.out
  replace bW := bT2 bW b;refine hK _ _ bW ?_;clear hK K;replace r1 := Hd r1;replace kM := Hd (kM.out.below_ b);clear b;refine wpT1 rfl (by rfl) (fun K hK => ?_);go_simp;refine (cRf.out v11 (hBU.out.later bW).f).mono ?_; rintro e v12 ⟨A2, n2, c2, rfl, r2, hc2, b⟩;obtain rfl : n2 = v.m := by rw [← r2.len]; exact hrl.out
  replace bW := bT2 bW b;refine hK _ _ bW ?_;clear hK K;replace r2 := Hd r2;replace kM := Hd (kM.out.below_ b);replace r1 := Hd (r1.out.below b);clear b;refine wpT1 rfl (by rfl) (fun K hK => ?_);have cE := Hd (mat_Or A1 A2 v.m c1 c2 pm rm v12 r1.out r2.out hm hpq.out);go_simp;refine cE.out.mono ?_; rintro e v13 ⟨A3, n3, c3, rfl, r3, hc3, b⟩;obtain rfl : n3 = v.m := by rw [← r3.len, orM_len]; exact hpl.out
  replace bW := bT2 bW b;refine hK _ _ bW ?_;clear hK K cE r1 r2;have hne : 0 < v.m → ∀ ad, A3 = some ad → ad.block ≠ M := fun h0 => r3.farZ (kM.out.below_ b) (hpos.out h0) h0;replace kM := Hd (kM.out.below_ b);clear b
  iterate 3
   refine wpTf (v := ?_) rfl (by rfl) (fun w' hw' => ?_) (fun K hK => ?_);rotate_left
   ·(go_simp; try with_reducible rfl)
   go_simp;refine hK _ ?_;clear hK K
  have f0 := kM.out.c0;have f1 := kM.out.c1;have g0 := kM.out.frozen 0;have g1 := kM.out.frozen 1;refine wpT1 rfl (by rfl) (fun K hK => ?_);go_simp;obtain ⟨wz, hw⟩ : ∃ X : World, X = (World.setCell v13 ⟨M, 0, none⟩ (.int .i64 (v.m : Int))).setCell ⟨M, 1, none⟩ (.slice A3 v.m c3) := ⟨_, rfl⟩;rw [← hw];have r4 := Hd (show RowsAt wz A3 v.m (orM pm rm) from by rw [hw]; exact r3.putB kM.out hne _ _);have k4 := Hd (show MatB wz M 57 (v.m : Int) A3 v.m c3 from by rw [hw]; exact kM.out.put _ _ _ _);replace bW : Below U.heap.size U wz := by rw [hw]; exact (bW.setCell (p := ⟨M, 0, none⟩) hUM _).setCell (p := ⟨M, 1, none⟩) hUM _
  refine hK _ _ bW ?_;clear hK K f0 f1 g0 g1 hw r3 kM
  iterate 1
   refine wpTf (v := ?_) rfl (by rfl) (fun w' hw' => ?_) (fun K hK => ?_);rotate_left
   ·(go_simp; try with_reducible rfl)
   go_simp;refine hK _ ?_;clear hK K
  refine wpTd (NoPanic.normal ?_);have kR4 := hkR.out.below_ bW;have m0 := k4.out.c0;have m1 := k4.out.c1;have f0 := kR4.c0;have f1 := kR4.c1;have g0 := kR4.frozen 0;have g1 := kR4.frozen 1;have hcc := kR4.two (.int .i64 (v.m : Int)) (.slice A3 v.m c3);have hc1 := Hd hcc.1;have hc2 := Hd hcc.2;have hrf := Hd (r4.out.putB kR4 (fun h0 => r4.out.farZ kR4 (hpos.out h0) h0) (.int .i64 (v.m : Int)) (.slice A3 v.m c3));have hbf := Hd (((bT2 hBU.out.o bW).setCell (p := ⟨gr, 0, none⟩) hgw.out (.int .i64 (v.m : Int))).setCell (p := ⟨gr, 1, none⟩) hgw.out (.slice A3 v.m c3));clear hcc bW hne k4 r4;go_wp2_with fail;exact bodyPost_ret (v := .agg #[.int .i64 (v.m : Int), .slice A3 v.m c3]) (by simp [results, Tryz.results29, go_sem, hc1.out, hc2.out]) rfl ⟨A3, v.m, c3, rfl, hrf.out, hc3, hbf.out⟩
theorem cause_Co (v : FV) (f : Fac) (w : World) (hF : FactsAt w v f) (hm : v.m < 64) (hw : WholeF f) (hN : Nbr f.items) :
  Calls Tryz.prog 20 #[.agg #[.slice v.A v.n v.c, .slice v.B v.m v.d, .slice v.C v.k v.e]] w (RetMat1 (v.m : Int) (coM f) w) := by
 have hil0 := hF.is.len;have cF := Hd (fun W hW => cause_Edges v f W hW (by omega) hw hN);have ge := (edgeM_good hw (by omega)).1;rw [hil0] at ge;have hel := Hd ge.len;have cC := fun A c W hW => hull_Close A v.m c (edgeM f) W hW ge;rw [show closeK (edgeM f) v.m = coM f from by unfold coM; rw [hil0]] at cC;replace cC := Hd cC;clear ge hil0;have hil := hF.is.len;have gc := (coM_hull hw (by omega)).1;have hpos := Hd (fun h0 => rows_len_pos gc h0);have hcl := Hd gc.len;replace hil := Hd hil;clear gc;have hB0 := Hd (FBox.new hF);obtain ⟨g, hg⟩ : ∃ g, g = w.heap.size := ⟨_, rfl⟩;obtain ⟨W0, hW0⟩ : ∃ W, W = w.alloc (.cells #[.slice v.A v.n v.c, .slice v.B v.m v.d, .slice v.C v.k v.e] 29) := ⟨_, rfl⟩;rw [← hW0, ← hg] at hB0;clear hF;obtain ⟨gr, hgr⟩ : ∃ g, g = W0.heap.size := ⟨_, rfl⟩;obtain ⟨W1, hW1⟩ : ∃ W, W = W0.alloc (.cells #[.int .i64 0, .slice none 0 0] 57) := ⟨_, rfl⟩;have b1 : Below W0.heap.size W0 W1 := by rw [hW1]; exact (Below.refl _ _).alloc (Nat.le_refl _) _
 have kR : MatB W1 gr 57 0 none 0 0 := by rw [hW1, hgr]; exact MatB.new W0 _
 have hB1 := Hd (hB0.out.later b1);have hgw : w.heap.size ≤ gr := by rw [hgr]; exact hB0.out.o.size
 have p0 := hB1.out.c0;have p1 := hB1.out.c1;have p2 := hB1.out.c2
 go_enter Tryz.func20, Tryz.ntmps20
 go_wp2_with (first | (rw [← hW0, ← hg]; clear hW0 hg) | (rw [← hW1, ← hgr]; clear hW1; replace hgr := Hd hgr));refine (cF.out W1 hB1.out.f).mono ?_; rintro e w2 ⟨A1, n1, c1, rfl, r1, hc1, b2⟩;obtain rfl : n1 = v.m := by rw [← r1.len]; exact hel.out
 go_wp2_with fail;refine (cC.out A1 c1 w2 r1).mono ?_; rintro e w3 ⟨A, n, c, rfl, hrows, hnc, b3⟩;replace b3 := bT2 b2 b3;have kR3 := kR.below_ b3;have f0 := kR3.c0;have f1 := kR3.c1;have g0 := kR3.frozen 0;have g1 := kR3.frozen 1;have hcc := kR3.two (.int .i64 (v.m : Int)) (.slice A n c);have hc1 := Hd hcc.1;have hc2 := Hd hcc.2;have hrf := Hd (hrows.putB kR3 (fun h0 => hrows.farZ kR3 (hpos.out (by have h1 := hrows.len; have h2 := hcl.out; omega)) h0) (.int .i64 (v.m : Int)) (.slice A n c));have hbf := Hd (((bT2 hB1.out.o b3).setCell (p := ⟨gr, 0, none⟩) hgw (.int .i64 (v.m : Int))).setCell (p := ⟨gr, 1, none⟩) hgw (.slice A n c));clear hcc hrows b3 p0 p1 p2;go_wp2_with fail;exact bodyPost_ret (v := .agg #[.int .i64 (v.m : Int), .slice A n c]) (by simp [results, Tryz.results20, go_sem, hc1.out, hc2.out]) rfl ⟨A, n, c, rfl, hrf.out, hnc, hbf.out⟩
end Go.Proofs.YtjhjojklfdjmdaaGreat
