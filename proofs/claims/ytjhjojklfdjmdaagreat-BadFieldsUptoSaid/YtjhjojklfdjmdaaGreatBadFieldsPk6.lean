/- The contract of the document's own answer of layer 19: early. The contract of the document's own answer of layer 19: between. The contracts of the document's own answers of layer 18: New. The contract of the document's own answer of layer 18: Of. The contract of the document's own answer of layer 19: sees. The contracts of the document's own answers of layer 19: Kinds, Core. The contract of the document's own answer of layer 19: One. The contract of the document's own answer of layer 19: Find. A region that draws its order, by a plan (XPlan), in which one block of the caller's may change (an append in place): what reads must not read it. No function of the program is named here. Plain mathematics of layer 18's own code: what a round finds, write by write and read by read, in whatever order; put in order it is the document's. Nothing of the program is named. Contracts of package hull: copied, join, Close. Contracts of package hull: Add. Plain mathematics of layer 18's own code: pairs that lead to one number, put into a closed matrix at once; for one number after the other they make the hull. Nothing of the program is named. -/
import Derived.Test.YtjhjojklfdjmdaaGreatBadFieldsPk5
import Derived.Test.YtjhjojklfdjmdaaGreatBadFieldsPk4
import Derived.Test.YtjhjojklfdjmdaaGreatBadFieldsPk3
import Derived.Test.YtjhjojklfdjmdaaGreatBadFieldsPk1
import Derived.Laws.BitsAllLaws
namespace Go.Proofs.YtjhjojklfdjmdaaGreat
open Go.RowKit
set_option linter.unusedVariables false
theorem findSome_step {α β : Type} {g : α → Option β} {l : List α} {k : Nat} {r : α} (h : l[k]? = some r) (hn : (l.take k).findSome? g = none) : (g r = none → (l.take (k + 1)).findSome? g = none) ∧ (∀ x, g r = some x → l.findSome? g = some x) := by
  have hk := (List.getElem?_eq_some_iff.1 h).1
  have hr := (List.getElem?_eq_some_iff.1 h).2
  refine ⟨fun hg => ?_, fun x hx => ?_⟩
  · rw [List.take_succ_eq_append_getElem hk, hr, List.findSome?_append, hn]
    simp [hg]
  · have h1 : l = l.take k ++ (r :: l.drop (k + 1)) := by
      rw [← hr, List.getElem_cons_drop, List.take_append_drop]
    rw [h1, List.findSome?_append, hn]
    simp [hx]
def earlyG (f : Fac) (X : List (List Nat)) (k : Int) (r : Int) : Option Wit := if f.frm.getD r.toNat 0 = -1 then (aheadW f X r).head?.map fun z => ⟨k, r, z, -1, -1, -1, -1⟩ else none
theorem earlyF_eq (f : Fac) (X : List (List Nat)) (k : Int) (reads : List Int) : earlyF f X k reads = reads.findSome? (earlyG f X k) := rfl
end Go.Proofs.YtjhjojklfdjmdaaGreat

namespace Go.Proofs.YtjhjojklfdjmdaaGreat
open Go.RowKit
set_option linter.unusedVariables false
def betwP (X : List (List Nat)) (a z : Int) : Bool := decide (z ≠ a) && hasM X a z
def betwG (f : Fac) (X : List (List Nat)) (r : Int) : Option Wit := if f.frm.getD r.toNat 0 < 0 then none else
  ((aheadW f X r).find? (betwP X (f.frm.getD r.toNat 0))).map fun z => ⟨4, r, f.frm.getD r.toNat 0, z, -1, -1, -1⟩
def rdl (n : Nat) : List Int := (List.range n).map fun (r : Nat) => (r : Int)
theorem rdl_at {n i : Nat} (h : i < n) : (rdl n)[i]? = some (i : Int) := by unfold rdl; rw [List.getElem?_map, List.getElem?_range h]; rfl
theorem rdl_len (n : Nat) : (rdl n).length = n := by unfold rdl; rw [List.length_map, List.length_range]
theorem betwF_eq (f : Fac) (X : List (List Nat)) : betwF f X = (rdl f.frm.length).findSome? (betwG f X) := rfl
end Go.Proofs.YtjhjojklfdjmdaaGreat

namespace Go.Proofs.YtjhjojklfdjmdaaGreat
open Go.RowKit
set_option linter.unusedVariables false
theorem encI_all18 (ds : List Int) : encI.all ds = ds.map i64v := by
  induction ds with
  | nil => rfl
  | cons d ds ih => rw [Enc.all_cons, ih]; rfl
theorem LAt.ints {w : World} {A : Option Addr} {n : Nat} {zs : List Int} (h : LAt encI w A n zs) : Ints w A n zs :=
  ⟨⟨by rw [List.length_map]; exact h.len, fun hn => by
    obtain ⟨b, off, e, hb, hc⟩ := h.2.2 hn
    exact ⟨b, off, e, hb, fun j u hu => hc j u (by rw [encI_all18]; exact hu)⟩⟩, h.okAll⟩
/-- a list of conflicts in a block of the call's own -/
def RetELF (xs : List Ed) (w : World) (e : Ending) (w' : World) : Prop := ∃ A n c, e = .returned (.slice A n c) ∧ LAt encE w' A n xs ∧ n ≤ c ∧ c ≤ 9223372036854775807 ∧ Below w.heap.size w w' ∧ ∀ ad, A = some ad → w.heap.size ≤ ad.block
end Go.Proofs.YtjhjojklfdjmdaaGreat

namespace Go.Proofs.YtjhjojklfdjmdaaGreat
open Go.RowKit
set_option linter.unusedVariables false
theorem LAt.grown18 {α : Type} {E : Enc α} {w w' : World} {A : Option Addr} {n : Nat} {xs : List α} {row : Option Nat} (h : LAt E w A n xs) (hg : w.grownBy w' row) (hne : ∀ ad, A = some ad → row ≠ some ad.block) : LAt E w' A n xs :=
  ⟨h.1, h.2.1, fun h0 => by
    obtain ⟨b, off, e, hb, hc⟩ := h.2.2 h0
    exact ⟨b, off, e, Nat.lt_of_lt_of_le hb hg.size, fun j u hu => (World.cell?_of_block (hg.block b hb (fun e' => hne _ e e'.symm))).trans (hc j u hu)⟩⟩
/-- what was seen: the matrix, the edges, the rounds -/
def RetSeen (n : Nat) (f : Fac) (kept : List Int) (B : List (List Nat)) (w : World) (e : Ending) (w' : World) : Prop := ∃ (k : Nat) (A : Option Addr) (d : Nat) (E : Option Addr) (ne ce : Nat),
  e = .returned (.tuple #[.agg #[.int .i64 (n : Int), .slice A n d], .slice E ne ce, .int .i64 ((k + 1 : Nat) : Int), .int .i64 0]) ∧ SeenIs f kept B k ∧ RowsAt w' A n (seX f kept B k) ∧ n ≤ d ∧ LAt encE w' E ne (seL f kept B k) ∧ ne ≤ ce ∧ ce ≤ 9223372036854775807 ∧ Below w.heap.size w w'
theorem keptF_ok (is : List It) (o : Int) : ∀ r ∈ keptF is (pastF is o is.length), 0 ≤ r ∧ r < (is.length : Int) := fun r hr => pastF_ok is o is.length r (List.mem_filter.1 hr).1
theorem keptF_len (is : List It) (o : Int) : (keptF is (pastF is o is.length)).length ≤ is.length := Nat.le_trans (List.length_filter_le _ _) (pastF_len _ _ _)
end Go.Proofs.YtjhjojklfdjmdaaGreat

namespace Go.Proofs.YtjhjojklfdjmdaaGreat
open Go.RowKit
set_option linter.unusedVariables false
theorem LoopIs.sees {n : Nat} {X : List (List Nat)} {r : Int} {b : Bool} (h : LoopIs n X r b) (k : Int) (o : Nat) : ((List.range n).find? fun (i : Nat) => hasM X (i : Int) (i : Int)).map (fun (i : Nat) => (⟨k, -1, (i : Int), -1, (o : Int), -1, -1⟩ : Wit)) = if b = true then some ⟨k, -1, r, -1, (o : Int), -1, -1⟩ else none := by
  have h1 := h.find 0
  unfold roundF at h1
  cases hf : (List.range n).find? fun (i : Nat) => hasM X (i : Int) (i : Int) with
  | none =>
    rw [hf] at h1
    cases b with
    | true => simp at h1
    | false => rfl
  | some i =>
    rw [hf] at h1
    cases b with
    | true =>
      simp only [Option.map_some, if_true] at h1 ⊢
      injection h1 with h1
      injection h1 with _ _ _ _ h1 _ _
      rw [h1]
    | false => simp at h1
end Go.Proofs.YtjhjojklfdjmdaaGreat

namespace Go.Proofs.YtjhjojklfdjmdaaGreat
open Go.RowKit
set_option linter.unusedVariables false
end Go.Proofs.YtjhjojklfdjmdaaGreat

namespace Go.Proofs.YtjhjojklfdjmdaaGreat
open Go.RowKit
set_option linter.unusedVariables false
end Go.Proofs.YtjhjojklfdjmdaaGreat

namespace Go.Proofs.YtjhjojklfdjmdaaGreat
open Go.RowKit
set_option linter.unusedVariables false
/-- a call's answer: a level's pattern, and the error -/
def RetFind (o : Option Wit) (er : Int) (w : World) (e : Ending) (w' : World) : Prop := ∃ x : Wit, x = o.getD zeroW ∧ e = .returned (.tuple #[.agg #[.int .i64 x.ki, .int .i64 x.r, .int .i64 x.w1, .int .i64 x.w2, .int .i64 x.o, .slice none 0 0, .int .i64 x.fi, .int .i64 x.se], .int .i64 er]) ∧ Below w.heap.size w w'
end Go.Proofs.YtjhjojklfdjmdaaGreat

namespace Go.Proofs.YtjhjojklfdjmdaaGreat
open Go.RowKit

/-- whatever there was, but for the block g, is as it was -/
structure BelowB (g : Nat) (w w' : World) : Prop where
  os : w'.os = w.os
  tape : w'.tape = w.tape
  output : w'.output = w.output
  size : w.heap.size ≤ w'.heap.size
  block : ∀ k, k < w.heap.size → k ≠ g → w'.heap[k]? = w.heap[k]?
theorem BelowB.refl (g : Nat) (w : World) : BelowB g w w := ⟨rfl, rfl, rfl, Nat.le_refl _, fun _ _ _ => rfl⟩
theorem BelowB.trans {g : Nat} {a b c : World} (h : BelowB g a b) (k : BelowB g b c) : BelowB g a c :=
  ⟨k.os.trans h.os, k.tape.trans h.tape, k.output.trans h.output, Nat.le_trans h.size k.size, fun i hi hg => (k.block i (Nat.lt_of_lt_of_le hi h.size) hg).trans (h.block i hi hg)⟩
theorem BelowB.of {g : Nat} {w w' : World} (h : Below w.heap.size w w') : BelowB g w w' := ⟨h.os, h.tape, h.output, h.size, fun k hk _ => h.block k hk⟩
theorem BelowB.grown {g : Nat} {w w' : World} {row : Option Nat} (hg : w.grownBy w' row) (h : ∀ k, row = some k → k = g) : BelowB g w w' :=
  ⟨hg.os, hg.tape, hg.output, hg.size, fun k hk hne => hg.block k hk (fun e => hne (h k e.symm))⟩
theorem BelowB.cell {g : Nat} {w w' : World} (h : BelowB g w w') {p : Addr} (hp : p.block < w.heap.size) (hg : p.block ≠ g) : w'.cell? p = w.cell? p := World.cell?_of_block (w := w) (h.block p.block hp hg)
theorem BelowB.below {g B : Nat} {w w' : World} (h : BelowB g w w') (hB : B ≤ w.heap.size) (hg : B ≤ g) : Below B w w' := ⟨h.os, h.tape, h.output, h.size, fun k hk => h.block k (by omega) (by omega)⟩
theorem BelowB.blk {g k : Nat} {t : TypeId} {cs : List Value} {w w' : World} (h : BelowB g w w') (hk : Blk w k t cs) (hne : k ≠ g) : Blk w' k t cs := (h.block k hk.lt hne).trans hk
section
variable {gb : Nat} {P : Program} {ops : Array Oper} {md : Region.Mode} {Q : Exit → Act → World → Prop}

/-- Whatever order is picked from here on, till the first n operations are done; each leaves what was there. -/
def wpAnyG (gb : Nat) (P : Program) (md : Region.Mode) (ops : Array Oper) (Q : Exit → Act → World → Prop) (n : Nat) (F : Array Bool → Act → World → Prop) : Nat → Array Bool → Act → World → Prop
  | 0, listed, a, w => F listed a w
  | f + 1, listed, a, w => Region.ready md ops listed ≠ [] ∧ ∀ i ∈ Region.ready md ops listed, i < n ∧ wpOp P ops Q i (fun a' w' => BelowB gb w w' ∧ wpAnyG gb P md ops Q n F f (listed.setIfInBounds i true) a' w') a w

theorem wpAny_of_G {n g : Nat} {F : Array Bool → Act → World → Prop} (hF : ∀ listed a w, F listed a w → wpAny P md ops Q g listed a w) :
    ∀ (f : Nat) (listed : Array Bool) (a : Act) (w : World), wpAnyG gb P md ops Q n F f listed a w → wpAny P md ops Q (f + g) listed a w
  | 0, _, _, _, h => by rw [Nat.zero_add]; exact hF _ _ _ h
  | f + 1, listed, a, w, h => by
    rw [show f + 1 + g = (f + g) + 1 by omega]
    exact ⟨fun h0 => absurd h0 h.1, fun i hi => wpOp_mono (fun a' w' h' => wpAny_of_G hF f _ a' w' h'.2) (h.2 i hi).2⟩

theorem belowB_of {w w' w'' : World} (h : BelowB gb w w') (h' : BelowB gb w' w'') : BelowB gb w w'' := h.trans h'
theorem yieldsB_later {w w' : World} {o : Oper} {v : Value} {a : Act} (hb : BelowB gb w w') (h : YieldsIf P ops (fun x => BelowB gb w x) o v a) : YieldsIf P ops (fun x => BelowB gb w' x) o v a :=
  h.imp (fun ⟨h1, h2⟩ => ⟨h1, fun x hx => h2 x (belowB_of hb hx)⟩) id

theorem wpAnyG_first {n i : Nat} {oi : Oper} {v : Value} {F : Array Bool → Act → World → Prop} (hi : ops[i]? = some oi) (hsel : ∀ (j : Nat) (o : Oper) cs b, ops[j]? = some o → o.op ≠ .select cs b)
    (hQ : ∀ c a w, Q (.panic c) (a.put oi.dst v) w → Q (.panic c) a w)
    (hlate : ∀ listed, HeadInv md ops n listed → listed.getD i true = false → ∀ t, n ≤ t → t ∉ Region.ready md ops listed) (hin : i < n)
    (hdone : ∀ listed a w, F listed a w → ∀ j ∈ Region.ready md ops listed, n ≤ j) :
    ∀ (f : Nat) (listed : Array Bool) (a : Act) (w : World), HeadInv md ops n listed →
      (∀ j oj, ops[j]? = some oj → j ≠ i → listed.getD j true = false → (∀ e ∈ oj.after, Region.binds md e = true → e.on ≠ i) → oi.apart ops oj = true) →
      i ∈ Region.ready md ops listed → YieldsIf P ops (fun x => BelowB gb w x) oi v a →
      wpAnyG gb P md ops Q n F f (listed.setIfInBounds i true) (a.put oi.dst v) w → wpAnyG gb P md ops Q n F (f + 1) listed a w := by
  intro f
  induction f with
  | zero =>
    intro listed a w inv _ hr hy H
    have hun := (mem_ready.1 hr).1
    refine ⟨fun h => (by rw [h] at hr; cases hr), fun j hj => ?_⟩
    have hjn : j < n := by
      rcases Nat.lt_or_ge j n with h | h
      · exact h
      · exact absurd hj (hlate listed inv hun j h)
    refine ⟨hjn, ?_⟩
    by_cases hji : j = i
    · subst hji; exact hy.wpOp hi (BelowB.refl _ _) ⟨BelowB.refl _ _, H⟩
    · have := hdone _ _ _ H j (ready_mono hj hji)
      omega
  | succ f ih =>
    intro listed a w inv hfree hr hy H
    have hun := (mem_ready.1 hr).1
    refine ⟨fun h => (by rw [h] at hr; cases hr), fun j hj => ?_⟩
    have hjn : j < n := by
      rcases Nat.lt_or_ge j n with h | h
      · exact h
      · exact absurd hj (hlate listed inv hun j h)
    refine ⟨hjn, ?_⟩
    by_cases hji : j = i
    · subst hji; exact hy.wpOp hi (BelowB.refl _ _) ⟨BelowB.refl _ _, H⟩
    · have h1 := (H.2 j (ready_mono hj hji)).2
      obtain ⟨hjun, oj, hoj, hall⟩ := mem_ready.1 hj
      have hnot : ∀ e ∈ oj.after, Region.binds md e = true → e.on ≠ i := fun e he hb heq => by
        have h1 := hall e he hb
        rw [heq, getD_both hun] at h1
        cases h1
      have h2 := wpOp_putIf hoj (hfree j oj hoj hji hjun hnot) (fun cs b => hsel i oi cs b hi) (fun cs b => hsel j oj cs b hoj) hQ hy h1
      have hfree' : ∀ k ok, ops[k]? = some ok → k ≠ i → (listed.setIfInBounds j true).getD k true = false →
          (∀ e ∈ ok.after, Region.binds md e = true → e.on ≠ i) → oi.apart ops ok = true := fun k ok hk hki hun hno => by
        refine hfree k ok hk hki ?_ hno
        by_cases hjk : j = k
        · subst hjk; exact hjun
        · rw [getD_set_ne true hjk] at hun; exact hun
      refine wpOp_mono (fun a' w' h3 => ⟨h3.2.1, ih (listed.setIfInBounds j true) a' w' (inv.set hj hjn) hfree' (ready_mono hr (Ne.symm hji)) (yieldsB_later h3.2.1 h3.1) ?_⟩) h2
      rw [Array.setIfInBounds_comm _ _ hji]
      exact h3.2.2

/-- the walk of the plan -/
def wpPG (gb : Nat) (P : Program) (ops : Array Oper) (Q : Exit → Act → World → Prop) (tail : List Oper) : List (Bool × Nat) → Act → World → Prop
  | [], a, w => wpList P ops Q tail a w
  | (true, i) :: rest, a, w => ∃ o v, ops[i]? = some o ∧ YieldsIf P ops (fun x => BelowB gb w x) o v a ∧ wpPG gb P ops Q tail rest (a.put o.dst v) w
  | (false, i) :: rest, a, w => wpOp P ops Q i (fun a' w' => BelowB gb w w' ∧ wpPG gb P ops Q tail rest a' w') a w

theorem wpAnyG_plan {n : Nat} {tail : List Oper} (hsel : Region.noSelect ops = true) (hQ : ∀ c a d v w, Q (.panic c) (a.put d v) w → Q (.panic c) a w)
    (hlate : ∀ listed, HeadInv md ops n listed → ∀ i, i < n → listed.getD i true = false → ∀ t, n ≤ t → t ∉ Region.ready md ops listed) :
    ∀ (pl : List (Bool × Nat)) (listed : Array Bool) (a : Act) (w : World), HeadInv md ops n listed → planB md ops n pl listed = true → wpPG gb P ops Q tail pl a w →
    wpAnyG gb P md ops Q n (fun listed' a' w' => Region.seqB md ops (ops.size - n) n listed' = true ∧ wpList P ops Q tail a' w') pl.length listed a w
  | [], listed, a, w, _, hB, h => ⟨hB, h⟩
  | (true, i) :: rest, listed, a, w, inv, hB, h => by
    simp only [planB, if_true, Bool.and_eq_true, decide_eq_true_eq] at hB
    obtain ⟨⟨hin, hr, hf⟩, hB'⟩ := hB
    obtain ⟨o, v, ho, hy, h'⟩ := h
    have hr' : i ∈ Region.ready md ops listed := by simpa using hr
    exact wpAnyG_first ho (Region.noSelect_spec hsel) (fun c a w => hQ c a o.dst v w) (fun l hl hu => hlate l hl i hin hu) hin (fun listed' a' w' hL => seqB_ready hL.1) rest.length listed a w inv (Region.free_spec ho hf) hr' hy
      (wpAnyG_plan hsel hQ hlate rest _ _ _ (inv.set hr' hin) hB' h')
  | (false, i) :: rest, listed, a, w, inv, hB, h => by
    simp only [planB, Bool.false_eq_true, if_false, Bool.and_eq_true, decide_eq_true_eq] at hB
    obtain ⟨⟨hin, hr⟩, hB'⟩ := hB
    have hr' : i ∈ Region.ready md ops listed := by rw [hr]; simp
    refine ⟨by rw [hr]; simp, fun j hj => ?_⟩
    rw [hr] at hj
    have hji : j = i := by simpa using hj
    subst hji
    exact ⟨hin, wpOp_mono (fun a' w' h3 => ⟨h3.1, wpAnyG_plan hsel hQ hlate rest _ a' w' (inv.set hr' hin) hB' h3.2⟩) h⟩

theorem wpAny_planG {a : Act} {w : World} {l : List Oper} (n : Nat) (pl : List (Bool × Nat)) (hB : planAll .any l.toArray n pl = true)
    (h : ∀ W : World, Hid (W = w.drew) → wpPG gb P l.toArray (NoPanic Q) (l.drop n) pl a W) : wpAny P .any l.toArray (NoPanic Q) l.toArray.size (Array.replicate l.toArray.size false) a { w with drawn := w.drawn + 1 } := by
  have hQ : ∀ c a d v w, NoPanic Q (.panic c) (a.put d v) w → NoPanic Q (.panic c) a w := fun _ _ _ _ _ h => h
  simp only [planAll, Bool.and_eq_true, decide_eq_true_eq] at hB
  obtain ⟨⟨⟨⟨hsel, hlen⟩, hn⟩, hsc⟩, hpl⟩ := hB
  have hn' : n ≤ l.length := by simpa using hn
  have hdl : (l.drop n).length = l.toArray.size - n := by simp
  have inv0 : HeadInv .any l.toArray n (Array.replicate l.toArray.size false) :=
    ⟨by simp, fun j oj _ hl => (by rw [getD_replicate_false] at hl; cases hl), fun t _ ht => getD_in (by simpa using ht) (getD_replicate_false _ _)⟩
  have hlate : ∀ listed, HeadInv .any l.toArray n listed → ∀ i, i < n → listed.getD i true = false → ∀ t, n ≤ t → t ∉ Region.ready .any l.toArray listed := by
    intro listed inv i hin hun t ht hr
    rw [Bool.or_eq_true, decide_eq_true_eq, Bool.and_eq_true] at hsc
    obtain ⟨_, ot, hot, _⟩ := mem_ready.1 hr
    have htl := (Array.getElem?_eq_some_iff.1 hot).1
    rcases hsc with h0 | ⟨hs, hc⟩
    · omega
    · exact tail_waits hs hc (by omega) inv _ i rfl hin hun t ht hr
  have H := wpAnyG_plan (md := .any) hsel hQ hlate pl _ a w.drew inv0 hpl (h w.drew (Lib.hid rfl))
  have := wpAny_of_G (Q := NoPanic Q) (g := l.toArray.size - n) (fun listed a' w' hL => by
    have := wpAny_of_seq (md := .any) (Q' := NoPanic Q) (l.drop n) n listed a' w' (fun j => by simp [List.getElem?_drop]) (by rw [hdl]; exact hL.1) hL.2
    rwa [hdl] at this) _ _ _ _ H
  rw [hlen, show n + (l.toArray.size - n) = l.toArray.size by omega] at this
  exact this
theorem wp_region_planG {id : Nat} {a : Act} {w : World} {l : List Oper} (n : Nat) (pl : List (Bool × Nat)) (hm : P.follows .mixedOrders = true) (hB : planAll .any l.toArray n pl = true)
    (h : ∀ W : World, Hid (W = w.drew) → wpPG gb P l.toArray (NoPanic Q) (l.drop n) pl a W) : (Code.region id l.toArray true).wp P Q a w :=
  wp_region_noPanic (wp_region_any hm (wpAny_planG n pl hB h))

/-! ### the steps -/
section
variable {tail : List Oper} {rest : List (Bool × Nat)} {a : Act} {w : World} {i : Nat} {o : Oper}
/-- what only reads: its value, in every world whose cells are those of w, where w has any -/
theorem wpPG_float {v : Value} (hi : ops[i]? = some o) (hw : Region.wanted o (yielded ops a.tmps) = true)
    (hy : ∀ w' : World, (∀ p : Addr, p.block ≠ gb → (w.cell? p).isSome = true → w'.cell? p = w.cell? p) → (execOp a.eval o).run P w' = .ok (.value v) w') (h : ∀ K : Act → Prop, (∀ a', wpPG gb P ops Q tail rest a' w → K a') → K (a.put o.dst v)) : wpPG gb P ops Q tail ((true, i) :: rest) a w :=
  ⟨o, v, hi, .inl ⟨hw, fun w' hb => hy w' (fun p hpg hp => by
    have hlt : p.block < w.heap.size := by
      cases hc : w.cell? p with
      | none => rw [hc] at hp; cases hp
      | some u => exact block_lt_of_cell hc
    exact hb.cell hlt hpg)⟩, h _ (fun _ h => h)⟩
/-- what comes up alone: a call -/
theorem wpPG_only (hi : ops[i]? = some o) (hw : Region.wanted o (yielded ops a.tmps) = true)
    (h : ∀ K : Act → World → Prop, (∀ a' w', BelowB gb w w' → wpPG gb P ops Q tail rest a' w' → K a' w') → o.wp P a w K Q) : wpPG gb P ops Q tail ((false, i) :: rest) a w := by
  show wpOp P ops Q i _ a w
  unfold wpOp
  simp only [hi, hw, if_true]
  exact .inl (h _ (fun a' w' hb hp => ⟨hb, hp⟩))
theorem wpPG_nil (h : wpList P ops Q tail a w) : wpPG gb P ops Q tail [] a w := h
end
end
end Go.Proofs.YtjhjojklfdjmdaaGreat

namespace Go.Proofs.YtjhjojklfdjmdaaGreat
open Go.RowKit
set_option linter.unusedVariables false

theorem find_congr18 {α : Type} {p q : α → Bool} : ∀ {l : List α}, (∀ z ∈ l, p z = q z) → l.find? p = l.find? q
  | [], _ => rfl
  | a :: l, h => by
    rw [List.find?_cons, List.find?_cons, h a List.mem_cons_self, find_congr18 (fun z hz => h z (List.mem_cons_of_mem _ hz))]
/-- what read z reads from -/
def fromZ (f : Fac) (z : Int) : Int := f.frm.getD z.toNat 0
/-- the variable of item z -/
def vaZ (f : Fac) (z : Int) : Int := match f.items[z.toNat]? with | some x => x.va | none => -1
def isW (f : Fac) (z : Int) : Bool := match f.items[z.toNat]? with | some x => x.wr | none => false
/-- must the matrix have the pair of a and what z reads from, because of z? -/
def lkW (f : Fac) (X : List (List Nat)) (a z : Int) : Bool := decide (a ≠ fromZ f z) && hasM X a z && !hasM X a (fromZ f z)
def lkO (f : Fac) (X : List (List Nat)) (acc : List Ed) (a z : Int) : List Ed := if lkW f X a z = true ∧ (a, fromZ f z) ∉ edP acc then acc ++ [⟨a, fromZ f z, z⟩] else acc
def lkR (f : Fac) (X : List (List Nat)) (acc : List Ed) (a : Int) (zs : List Int) : List Ed := zs.foldl (fun l z => lkO f X l a z) acc
/-- the kept reads of writes to one variable -/
def rdsP (f : Fac) (v z : Int) : Bool := decide (0 ≤ fromZ f z) && decide (vaZ f z = v)
def rdsV (f : Fac) (kept : List Int) (v : Int) : List Int := kept.filter (rdsP f v)
def lkA (f : Fac) (X : List (List Nat)) (kept : List Int) (ws : List Int) : List Ed := ws.foldl (fun l a => lkR f X l a (rdsV f kept (vaZ f a))) []
def lkP (f : Fac) (X : List (List Nat)) (a b z : Int) : Bool := lkW f X a z && decide (fromZ f z = b)
section
variable {f : Fac} {X : List (List Nat)} {kept : List Int}
theorem lkR_nil (acc : List Ed) (a : Int) : lkR f X acc a [] = acc := rfl
theorem lkR_snoc (acc : List Ed) (a z : Int) (zs : List Int) : lkR f X acc a (zs ++ [z]) = lkO f X (lkR f X acc a zs) a z := by unfold lkR; rw [List.foldl_append]; rfl
theorem lkR_take {acc : List Ed} {a z : Int} {zs : List Int} {q : Nat} (h : zs[q]? = some z) : lkR f X acc a (zs.take (q + 1)) = lkO f X (lkR f X acc a (zs.take q)) a z := by
  rw [List.take_add_one, h]; exact lkR_snoc _ _ _ _
theorem lkA_nil : lkA f X kept [] = [] := rfl
theorem lkA_snoc (ws : List Int) (a : Int) : lkA f X kept (ws ++ [a]) = lkR f X (lkA f X kept ws) a (rdsV f kept (vaZ f a)) := by unfold lkA; rw [List.foldl_append]; rfl
theorem lkA_take {ws : List Int} {a : Int} {q : Nat} (h : ws[q]? = some a) : lkA f X kept (ws.take (q + 1)) = lkR f X (lkA f X kept (ws.take q)) a (rdsV f kept (vaZ f a)) := by
  rw [List.take_add_one, h]; exact lkA_snoc _ _
theorem lkO_len (acc : List Ed) (a z : Int) : (lkO f X acc a z).length ≤ acc.length + 1 := by unfold lkO; split <;> simp
theorem lkR_len (acc : List Ed) (a : Int) (zs : List Int) : (lkR f X acc a zs).length ≤ acc.length + zs.length := by
  induction zs using snoc_ind with
  | h0 => simp [lkR_nil]
  | h1 l z ih => rw [lkR_snoc, List.length_append]; have := lkO_len (f := f) (X := X) (lkR f X acc a l) a z; simp; omega
theorem rdsV_len (v : Int) : (rdsV f kept v).length ≤ kept.length := List.length_filter_le _ _
theorem lkA_len (ws : List Int) : (lkA f X kept ws).length ≤ ws.length * kept.length := by
  induction ws using snoc_ind with
  | h0 => simp [lkA_nil]
  | h1 l a ih =>
    rw [lkA_snoc, List.length_append]
    have h1 := lkR_len (f := f) (X := X) (lkA f X kept l) a (rdsV f kept (vaZ f a))
    have h2 := rdsV_len (f := f) (kept := kept) (vaZ f a)
    have h3 : (l.length + [a].length) * kept.length = l.length * kept.length + kept.length := by simp [Nat.add_mul]
    omega
/-- each pair once -/
theorem lkO_nodup {acc : List Ed} (a z : Int) (h : (edP acc).Nodup) : (edP (lkO f X acc a z)).Nodup := by
  unfold lkO
  split
  · rename_i hc
    unfold edP at h hc ⊢
    rw [List.map_append]
    refine List.nodup_append.2 ⟨h, by simp, fun p hp q hq e => ?_⟩
    simp only [List.map_cons, List.map_nil, List.mem_singleton] at hq
    subst hq
    subst e
    exact hc.2 hp
  · exact h
theorem lkR_nodup {acc : List Ed} (a : Int) (zs : List Int) (h : (edP acc).Nodup) : (edP (lkR f X acc a zs)).Nodup := by
  induction zs using snoc_ind with
  | h0 => exact h
  | h1 l z ih => rw [lkR_snoc]; exact lkO_nodup a z ih
theorem lkA_nodup (ws : List Int) : (edP (lkA f X kept ws)).Nodup := by
  induction ws using snoc_ind with
  | h0 => simp [lkA_nil, edP]
  | h1 l a ih => rw [lkA_snoc]; exact lkR_nodup a _ ih
theorem mem_edP {l : List Ed} {a b : Int} : (a, b) ∈ edP l ↔ ∃ x ∈ l, x.w1 = a ∧ x.w2 = b := by
  unfold edP
  rw [List.mem_map]
  constructor
  · rintro ⟨x, hx, e⟩; injection e with e1 e2; exact ⟨x, hx, e1, e2⟩
  · rintro ⟨x, hx, e1, e2⟩; exact ⟨x, hx, by rw [e1, e2]⟩
theorem mem_lkR (acc : List Ed) (a : Int) (zs : List Int) (x : Ed) : x ∈ lkR f X acc a zs ↔ x ∈ acc ∨ (x.w1 = a ∧ (a, x.w2) ∉ edP acc ∧ zs.find? (lkP f X a x.w2) = some x.rd) := by
  induction zs using snoc_ind generalizing x with
  | h0 => simp [lkR_nil]
  | h1 l z ih =>
    rw [lkR_snoc, List.find?_append]
    have hin : ∀ b, (a, b) ∈ edP (lkR f X acc a l) ↔ (a, b) ∈ edP acc ∨ ∃ y, l.find? (lkP f X a b) = some y := fun b => by
      rw [mem_edP]
      constructor
      · rintro ⟨y, hy, e1, e2⟩
        rcases (ih y).1 hy with h | ⟨_, h2, h3⟩
        · exact .inl (mem_edP.2 ⟨y, h, e1, e2⟩)
        · subst e2; exact .inr ⟨_, h3⟩
      · rintro (h | ⟨y, h⟩)
        · obtain ⟨u, hu, e1, e2⟩ := mem_edP.1 h
          exact ⟨u, (ih u).2 (.inl hu), e1, e2⟩
        · by_cases hb : (a, b) ∈ edP acc
          · obtain ⟨u, hu, e1, e2⟩ := mem_edP.1 hb
            exact ⟨u, (ih u).2 (.inl hu), e1, e2⟩
          · exact ⟨⟨a, b, y⟩, (ih ⟨a, b, y⟩).2 (.inr ⟨rfl, hb, h⟩), rfl, rfl⟩
    have hz : ([z] : List Int).find? (lkP f X a x.w2) = if lkW f X a z = true ∧ fromZ f z = x.w2 then some z else none := by
      rw [List.find?_cons, List.find?_nil]
      unfold lkP
      by_cases h1 : lkW f X a z = true
      · by_cases h2 : fromZ f z = x.w2
        · rw [h1, decide_eq_true h2, if_pos ⟨rfl, h2⟩]; rfl
        · rw [decide_eq_false h2, Bool.and_false, if_neg (fun h => h2 h.2)]
      · rw [if_neg (fun h => h1 h.1)]
        simp only [Bool.not_eq_true] at h1
        rw [h1, Bool.false_and]
    rw [hz]
    unfold lkO
    by_cases hc : lkW f X a z = true ∧ (a, fromZ f z) ∉ edP (lkR f X acc a l)
    · rw [if_pos hc, List.mem_append, ih]
      have hc2 := hc.2
      rw [hin, not_or] at hc2
      constructor
      · rintro ((h | ⟨h1, h2, h3⟩) | h)
        · exact .inl h
        · exact .inr ⟨h1, h2, by rw [h3]; rfl⟩
        · rw [List.mem_singleton] at h
          subst h
          refine .inr ⟨rfl, hc2.1, ?_⟩
          cases hf : l.find? (lkP f X a (fromZ f z)) with
          | some y => exact absurd ⟨y, hf⟩ hc2.2
          | none => rw [if_pos ⟨hc.1, rfl⟩]; rfl
      · rintro (h | ⟨h1, h2, h3⟩)
        · exact .inl (.inl h)
        · cases hf : l.find? (lkP f X a x.w2) with
          | some y =>
            rw [hf] at h3
            exact .inl (.inr ⟨h1, h2, h3⟩)
          | none =>
            rw [hf, Option.none_or] at h3
            split at h3
            · rename_i hh
              injection h3 with h3
              obtain ⟨x1, x2, x3⟩ := x
              simp only at h1 h3 hh
              obtain ⟨h4, h5⟩ := hh
              rw [h1, ← h3, ← h5]
              exact .inr (List.mem_singleton.2 rfl)
            · cases h3
    · rw [if_neg hc, ih]
      constructor
      · rintro (h | ⟨h1, h2, h3⟩)
        · exact .inl h
        · exact .inr ⟨h1, h2, by rw [h3]; rfl⟩
      · rintro (h | ⟨h1, h2, h3⟩)
        · exact .inl h
        · cases hf : l.find? (lkP f X a x.w2) with
          | some y =>
            rw [hf] at h3
            exact .inr ⟨h1, h2, h3⟩
          | none =>
            rw [hf, Option.none_or] at h3
            split at h3
            · rename_i hh
              exfalso
              refine hc ⟨hh.1, fun h => ?_⟩
              rw [hin, hh.2] at h
              rcases h with h | ⟨y, h⟩
              · exact h2 h
              · rw [hf] at h; cases h
            · cases h3
theorem mem_lkA {ws : List Int} (hnd : ws.Nodup) (x : Ed) : x ∈ lkA f X kept ws ↔ x.w1 ∈ ws ∧ (rdsV f kept (vaZ f x.w1)).find? (lkP f X x.w1 x.w2) = some x.rd := by
  induction ws using snoc_ind generalizing x with
  | h0 => simp [lkA_nil]
  | h1 l a ih =>
    have h0 := List.nodup_append.1 hnd
    have hal : a ∉ l := fun h => h0.2.2 a h a (List.mem_singleton.2 rfl) rfl
    have ih := ih h0.1
    rw [lkA_snoc, mem_lkR, ih, List.mem_append, List.mem_singleton]
    have hno : ∀ b, (a, b) ∉ edP (lkA f X kept l) := fun b h => by
      obtain ⟨u, hu, e1, e2⟩ := mem_edP.1 h
      have := ((ih u).1 hu).1
      rw [e1] at this
      exact hal this
    constructor
    · rintro (⟨h1, h2⟩ | ⟨h1, _, h3⟩)
      · exact ⟨.inl h1, h2⟩
      · refine ⟨.inr h1, ?_⟩
        rw [h1]; exact h3
    · rintro ⟨h1 | h1, h2⟩
      · exact .inl ⟨h1, h2⟩
      · rw [h1] at h2
        exact .inr ⟨h1, hno _, h2⟩
end
/-! ### it is the document's -/
def EdLt (x y : Ed) : Prop := x.w1 < y.w1 ∨ (x.w1 = y.w1 ∧ x.w2 < y.w2)
section
variable {f : Fac} {X : List (List Nat)} {kept : List Int}
theorem nwB_sorted (a : Nat) : ∀ k, (nwB f X kept a k).Pairwise EdLt
  | 0 => by simp [nwB_zero]
  | k + 1 => by
    rw [nwB_succ]
    refine List.pairwise_append.2 ⟨nwB_sorted a k, ?_, fun x hx y hy => ?_⟩
    · cases nwO f X kept a k <;> simp
    · rw [Option.mem_toList] at hy
      obtain ⟨b, hb, hx⟩ := mem_nwB.1 hx
      obtain ⟨-, e1, e2, -, -⟩ := nwO_some hx
      obtain ⟨-, e3, e4, -, -⟩ := nwO_some hy
      exact .inr ⟨by rw [e1, e3], by rw [e2, e4]; omega⟩
theorem nwA_sorted (n : Nat) : ∀ k, (nwA f X kept n k).Pairwise EdLt
  | 0 => by simp [nwA_zero]
  | k + 1 => by
    rw [nwA_succ]
    refine List.pairwise_append.2 ⟨nwA_sorted n k, nwB_sorted k n, fun x hx y hy => ?_⟩
    obtain ⟨a, b, ha, -, hx⟩ := mem_nwA.1 hx
    obtain ⟨b', -, hy⟩ := mem_nwB.1 hy
    obtain ⟨-, e1, -, -, -⟩ := nwO_some hx
    obtain ⟨-, e3, -, -, -⟩ := nwO_some hy
    exact .inl (by rw [e1, e3]; omega)
theorem newF_sorted : (newF f X kept).Pairwise EdLt := nwA_sorted _ _
theorem fromF_hit {is : List It} {i b : Nat} (hi : i < is.length) (h : (fromF is).getD i 0 = (b : Int)) : ∃ x y, is[i]? = some x ∧ is[b]? = some y ∧ y.wr = true ∧ y.va = x.va := by
  have hx : is[i]? = some is[i] := List.getElem?_eq_getElem hi
  rw [getD_at (fromF_at hx)] at h
  unfold fromOne at h
  split at h
  · omega
  · split at h
    · omega
    · cases hw : writeF is is[i].va is[i].vl with
      | none => rw [hw] at h; simp at h
      | some k =>
        rw [hw] at h
        simp only at h
        obtain ⟨y, h1, h2, -⟩ := writeF_some hw
        obtain rfl : k = b := by omega
        unfold hitW at h2
        simp only [Bool.and_eq_true, decide_eq_true_eq] at h2
        exact ⟨_, y, hx, h1, h2.1, h2.2.1⟩
/-- what a round finds, by the writes ws and the kept reads: a permutation of the document's -/
theorem lkA_perm {ws : List Int} (hfr : f.frm = fromF f.items) (hnd : ws.Nodup) (hws : ∀ z ∈ ws, 0 ≤ z ∧ z < (f.items.length : Int) ∧ isW f z = true) (hk : ∀ z ∈ kept, 0 ≤ z ∧ z < (f.items.length : Int))
    (hX : ∀ a y : Nat, Rel X a y → isW f (a : Int) = true → (a : Int) ∈ ws) : (lkA f X kept ws).Perm (newF f X kept) := by
  have n1 : (lkA f X kept ws).Nodup := List.Pairwise.of_map _ (fun a b h e => h (by rw [e])) (lkA_nodup ws)
  have n2 : (newF f X kept).Nodup := List.Pairwise.of_map _ (fun a b h e => h (by rw [e])) (nwA_nodup _ _)
  refine (List.perm_ext_iff_of_nodup n1 n2).2 (fun x => ?_)
  rw [mem_lkA hnd]
  have key : ∀ a b : Nat, nwG f X a b = true → (rdsV f kept (vaZ f (a : Int))).find? (lkP f X (a : Int) (b : Int)) = kept.find? (nwK f X a b) := fun a b hg => by
    unfold rdsV
    rw [List.find?_filter]
    refine find_congr18 (fun z hz => ?_)
    obtain ⟨h0, h1⟩ := hk z hz
    obtain ⟨r, rfl⟩ := Int.eq_ofNat_of_zero_le h0
    unfold nwG at hg
    simp only [Bool.and_eq_true, Bool.not_eq_true', decide_eq_true_eq] at hg
    obtain ⟨⟨hne, hbo⟩, hno⟩ := hg
    unfold rdsP lkP lkW nwK
    by_cases hb : fromZ f (r : Int) = (b : Int)
    · have hb' := hb
      unfold fromZ at hb'
      rw [Int.toNat_natCast] at hb' ⊢
      have hb2 := hb'
      rw [hfr] at hb'
      obtain ⟨x1, y1, q1, q2, q3, q4⟩ := fromF_hit (by omega) hb'
      have hva : vaZ f (r : Int) = vaZ f (a : Int) := by
        unfold bothW at hbo
        unfold vaZ
        rw [Int.toNat_natCast, Int.toNat_natCast, q1]
        cases hq : f.items[a]? with
        | none => rw [hq] at hbo; simp at hbo
        | some u =>
          rw [hq, q2] at hbo
          simp only [Bool.and_eq_true, decide_eq_true_eq] at hbo
          simp only
          rw [← q4, hbo.2]
      rw [hb, hva, hb2, hno, decide_eq_true (show (0 : Int) ≤ (b : Int) by omega), decide_eq_true (show (a : Int) ≠ (b : Int) by omega)]
      simp
    · have hb2 : f.frm.getD r 0 ≠ (b : Int) := fun h => hb (by unfold fromZ; rw [Int.toNat_natCast]; exact h)
      rw [decide_eq_false hb, Int.toNat_natCast, decide_eq_false hb2]
      simp
  constructor
  · rintro ⟨hw, hf⟩
    obtain ⟨h0, h1, h2⟩ := hws _ hw
    have hp := List.find?_some hf
    have hm := List.mem_of_find?_eq_some hf
    unfold rdsV at hm
    obtain ⟨hmk, hmp⟩ := List.mem_filter.1 hm
    obtain ⟨k0, k1⟩ := hk _ hmk
    obtain ⟨x1, x2, x3⟩ := x
    simp only at hw hf h0 h1 h2 hp hmp hmk k0 k1 ⊢
    obtain ⟨a, rfl⟩ := Int.eq_ofNat_of_zero_le h0
    obtain ⟨r, rfl⟩ := Int.eq_ofNat_of_zero_le k0
    unfold lkP lkW at hp
    unfold rdsP at hmp
    simp only [Bool.and_eq_true, Bool.not_eq_true', decide_eq_true_eq] at hp hmp
    obtain ⟨⟨⟨p1, p2⟩, p3⟩, p4⟩ := hp
    obtain ⟨m1, m2⟩ := hmp
    rw [p4] at p1 p3 m1
    obtain ⟨b, rfl⟩ := Int.eq_ofNat_of_zero_le m1
    have hb' := p4
    unfold fromZ at hb'
    rw [Int.toNat_natCast, hfr] at hb'
    obtain ⟨u, y, q1, q2, q3, q4⟩ := fromF_hit (by omega) hb'
    have hbl := (List.getElem?_eq_some_iff.1 q2).1
    unfold isW at h2
    unfold vaZ at m2
    rw [Int.toNat_natCast] at h2 m2
    rw [Int.toNat_natCast, q1] at m2
    have hg : nwG f X a b = true := by
      unfold nwG bothW
      cases hq : f.items[a]? with
      | none => rw [hq] at h2; cases h2
      | some e =>
        rw [hq] at h2 m2
        simp only at h2 m2
        simp only [q2, p3, Bool.not_false, Bool.and_true, Bool.and_eq_true, decide_eq_true_eq]
        exact ⟨by omega, ⟨h2, q3⟩, by rw [q4, m2]⟩
    refine mem_newF.2 ⟨a, b, by omega, hbl, ?_⟩
    unfold nwO
    rw [if_pos hg, ← key a b hg, hf]; rfl
  · intro h
    obtain ⟨a, b, ha, hb, h⟩ := mem_newF.1 h
    obtain ⟨hg, e1, e2, hm, hK⟩ := nwO_some h
    unfold nwO at h
    rw [if_pos hg, ← key a b hg] at h
    have hf : (rdsV f kept (vaZ f (a : Int))).find? (lkP f X (a : Int) (b : Int)) = some x.rd := by
      cases hq : (rdsV f kept (vaZ f (a : Int))).find? (lkP f X (a : Int) (b : Int)) with
      | none => rw [hq] at h; cases h
      | some r =>
        rw [hq] at h
        simp only [Option.map_some, Option.some.injEq] at h
        rw [← h]
    rw [e1, e2]
    refine ⟨?_, hf⟩
    obtain ⟨k0, k1⟩ := hk _ hm
    obtain ⟨r, hr⟩ := Int.eq_ofNat_of_zero_le k0
    unfold nwK at hK
    simp only [Bool.and_eq_true, decide_eq_true_eq] at hK
    rw [hr] at hK
    refine hX a r hK.2 ?_
    unfold nwG at hg
    simp only [Bool.and_eq_true, Bool.not_eq_true', decide_eq_true_eq] at hg
    have := bothW_wr hg.1.2
    unfold wrB at this
    unfold isW
    rw [Int.toNat_natCast]
    exact this.1
/-- a sorted permutation of what was found is the document's -/
theorem lk_sorted {l l' : List Ed} (hp : l.Perm (newF f X kept)) (hq : l.Perm l') (hs : l'.Pairwise fun x y => ¬ EdLt y x) : l' = newF f X kept := by
  refine List.Perm.eq_of_pairwise (le := fun x y => ¬ EdLt y x) (fun x y hx hy h1 h2 => ?_) hs (newF_sorted.imp (fun {x y} h h' => ?_)) (hq.symm.trans hp)
  · have hx' : x ∈ newF f X kept := hp.subset (hq.symm.subset hx)
    have e : x.w1 = y.w1 ∧ x.w2 = y.w2 := by
      unfold EdLt at h1 h2; omega
    obtain ⟨a, b, ha, hb, h3⟩ := mem_newF.1 hx'
    obtain ⟨a', b', ha', hb', h4⟩ := mem_newF.1 hy
    obtain ⟨-, i1, i2, -, -⟩ := nwO_some h3
    obtain ⟨-, i3, i4, -, -⟩ := nwO_some h4
    obtain rfl : a = a' := by omega
    obtain rfl : b = b' := by omega
    rw [h3] at h4
    injection h4
  · unfold EdLt at h h'; omega
theorem Conn.first {r : Nat → Nat → Prop} {P : Nat → Prop} (h : ∀ i j, r i j → P i) {a y : Nat} (hc : Conn r a y) : P a := by
  induction hc with
  | one h1 => exact h _ _ h1
  | step _ _ ih => exact ih
/-- whoever leads anywhere is in the past -/
theorem seX_first {B : List (List Nat)} (hB : Good f.items.length B) {P : Nat → Prop} (h : ∀ a y : Nat, Rel B a y → P a) : ∀ k (a y : Nat), Rel (seX f kept B k) a y → P a
  | 0, a, y, hh => h a y hh
  | k + 1, a, y, hh => by
    have ih := seX_first hB h k
    refine Conn.first (fun i j h1 => ?_) (((seX_hull hB k).2 a y).1 hh)
    rcases (seX_rel hB k i j).1 h1 with h2 | h2
    · exact ih i j h2
    · obtain ⟨x, hx, e1, e2⟩ := mem_edP.1 h2
      obtain ⟨p, q, hp, hq, e3, e4, hne, hbo, -, hrk, hfr, hha⟩ := newF_some hx
      obtain rfl : p = i := by omega
      by_cases h0 : 0 ≤ x.rd
      · obtain ⟨r, hr'⟩ := Int.eq_ofNat_of_zero_le h0
        rw [hr'] at hha
        exact ih p r hha
      · exfalso
        unfold hasM at hha
        simp only [Bool.and_eq_true] at hha
        have := hha.2
        unfold hasR at this
        rw [decide_eq_false h0] at this
        simp at this
end
end Go.Proofs.YtjhjojklfdjmdaaGreat

namespace Go.Proofs.YtjhjojklfdjmdaaGreat
open Go.RowKit
set_option linter.unusedVariables false

theorem own_only {w w' : World} {g base : Nat} {e : TypeId} {size n : Nat} {v : Value} {vs : List Value} (h : w.ownsRow base e size v n vs) (ho : OnlyAt g w w') (hne : v.ownBlock ≠ some g) : w'.ownsRow base e size v n vs := by
  refine ⟨h.1, ?_⟩
  rcases h.2 with ⟨h1, h2⟩ | ⟨k, cap, cur, rfl, hbg, hg, r⟩
  · exact .inl ⟨h1, h2⟩
  · exact .inr ⟨k, cap, cur, rfl, hbg, (ho.block k (fun e => hne (by rw [← e]; rfl))).trans hg, r⟩
theorem Blk.only {w w' : World} {g k : Nat} {t : TypeId} {cs : List Value} (h : Blk w k t cs) (ho : OnlyAt g w w') (hne : k ≠ g) : Blk w' k t cs := (ho.block k hne).trans h
theorem Row.only {w w' : World} {g n : Nat} {A : Option Addr} {xs : List Nat} (h : Row w A n xs) (ho : OnlyAt g w w') (hne : ∀ ad, A = some ad → ad.block ≠ g) : Row w' A n xs := by
  refine ⟨⟨h.1.1, fun hn => ?_⟩, h.2⟩
  obtain ⟨b, off, e, hb, hc⟩ := h.1.2 hn
  have hbg := hne _ e
  exact ⟨b, off, e, by rw [ho.size]; exact hb, fun j u hu => (ho.cell (p := ⟨b, off + j, none⟩) hbg).trans (hc j u hu)⟩
theorem below_only {w w' w0 : World} {g : Nat} (h : Below w0.heap.size w0 w) (ho : OnlyAt g w w') (hg : w0.heap.size ≤ g) : Below w0.heap.size w0 w' := h.trans (ho.below.mono hg)
theorem OwnRows.joined {t : TypeId} {w w' : World} {base : Nat} {vs : List Value} {xss : List (List Nat)} (h : OwnRows t w base vs xss) {i g m c : Nat} {ys : List Nat} (hv : vs[i]? = some (.slice (some ⟨g, 0, none⟩) m c))
    (ho : OnlyAt g w w') (hy : w'.ownsRow base t 1 (.slice (some ⟨g, 0, none⟩) m c) m (ys.map u64v)) (hw : W64 ys) : OwnRows t w' base vs (xss.set i ys) := by
  refine ⟨by simp [h.1], fun k v zs h1 h2 => ?_, h.2.2⟩
  rw [List.getElem?_set] at h2
  by_cases hk : i = k
  · subst hk
    rw [if_pos rfl] at h2
    split at h2
    · injection h2 with h2
      subst h2
      rw [hv] at h1
      injection h1 with h1
      subst h1
      exact ⟨_, _, _, rfl, hy, hw⟩
    · cases h2
  · rw [if_neg hk] at h2
    obtain ⟨A, m', c', e, h3, hx⟩ := h.2.1 k v zs h1 h2
    subst e
    exact ⟨A, m', c', rfl, own_only h3 ho (h.2.2 i k _ _ g hk hv h1 rfl), hx⟩
theorem orK_self (a : List Nat) (k : Nat) : orK a a k = a := by
  unfold orK
  apply List.ext_getElem?
  intro j
  rw [List.getElem?_map]
  by_cases hj : j < a.length
  · rw [List.getElem?_range hj, Option.map_some, Nat.or_self, ite_self, List.getD_eq_getElem?_getD, List.getElem?_eq_getElem hj]; rfl
  · rw [List.getElem?_eq_none (by simpa using hj), List.getElem?_eq_none (by omega)]; rfl
theorem set_self {α : Type} {l : List α} {q : Nat} {r : α} (h : l[q]? = some r) : l.set q r = l := by
  apply List.ext_getElem?
  intro i
  rw [List.getElem?_set]
  by_cases hq : q = i
  · subst hq
    rw [if_pos rfl, if_pos (List.getElem?_eq_some_iff.1 h).1, h]
  · rw [if_neg hq]
theorem and_p2 (x r : Nat) (hx : x < 18446744073709551616) (hr : r < 64) : (bits BinOp.and IntKind.u64 (x : Int) ((p2 r : Nat) : Int) != 0) = x.testBit r := by
  have hp := p2_lt r hr
  rw [u64_and_nat x (p2 r) hx (by omega)]
  unfold p2
  cases h : x.testBit r with
  | true =>
    rw [bne_iff_ne]
    intro h0
    have h1 : x &&& 2 ^ r = 0 := by omega
    have h2 := congrArg (·.testBit r) h1
    simp [h] at h2
  | false =>
    have : x &&& 2 ^ r = 0 := by
      apply Nat.eq_of_testBit_eq
      intro i
      rw [Nat.testBit_and, Nat.testBit_two_pow, Nat.zero_testBit]
      by_cases hi : r = i
      · subst hi; rw [h]; rfl
      · simp [hi]
    rw [this]; rfl

/-- a call that answers words of its own -/
def RetWords (n : Nat) (xs : List Nat) (w : World) (e : Ending) (w' : World) : Prop :=
  ∃ g cap, e = .returned (.slice (some ⟨g, 0, none⟩) n cap) ∧ w'.ownsRow w.heap.size 89 1 (.slice (some ⟨g, 0, none⟩) n cap) n (xs.map u64v) ∧ Below w.heap.size w w'
set_option maxHeartbeats 400000 in
theorem clone_words (b off n c : Nat) (xs : List Nat) (w : World) (hr : Row w (some ⟨b, off, none⟩) n xs) (h0 : 0 < n) (hn : n ≤ 1073741824) :
    Calls Tryz.prog 77 #[.slice (some ⟨b, off, none⟩) n c] w (RetWords n xs w) := by
  obtain ⟨i0, hi, hz0, hz1, hz2⟩ := info_parts info_u64
  replace hi := Lib.hid hi
  replace hz0 := Lib.hid hz0
  replace hz1 := Lib.hid hz1
  replace hz2 := Lib.hid hz2
  have hlit : (w.alloc (.cells #[] 89)).ownsRow w.heap.size 89 1 (.slice (some ⟨w.heap.size, 0, none⟩) 0 0) 0 [] := by
    have h := World.ownsRow_lit (size := 1) (base := w.heap.size) (e := 89) w #[] 0 (Nat.le_refl _) (by omega) (by simp)
    simpa using h
  have hb0 : Below w.heap.size w (w.alloc (.cells #[] 89)) := below_alloc _ _
  have hrd : Rd (w.alloc (.cells #[] 89)) (some ⟨b, off, none⟩) n (xs.map u64v) := (hr.below hb0).1
  have h1 : ∀ u ∈ xs.map u64v, u.oneCell' = true := fun u hu => by
    obtain ⟨x, _, rfl⟩ := List.mem_map.1 hu; rfl
  clear hr
  have hnil : ∀ W : World, (binOp .eql 88 (.slice (some ⟨b, off, none⟩) n c) (.slice none 0 0)).run Tryz.prog W = .ok (.bool false) W := fun W => by kernel_rfl
  go_enter Tryz.func77, Tryz.ntmps77
  go_wp2_with (at_builtin; refine wpList_append_rd rfl (.tmp 5) (.tmp 6) _ rfl w.heap.size 89 i0 _ 8 Tryz.underlying88 hi.out hz0.out hz1.out hz2.out rfl _ 0 _ (by rfl) hlit _ n c _ rfl hrd h1 (by unfold maxLen; omega) (by omega) hb0.size ?_; intro v1 w1 hown1 hbb hform; simp only [Nat.zero_add, List.nil_append] at hown1 hform; have hb1 := hb0.trans hbb; obtain ⟨g, cap, rfl⟩ := hform h0; clear hbb hlit hb0 hrd hform)
  go_ret
  exact ⟨_, _, rfl, hown1, hb1⟩

/-- a call that answers rows of its own -/
def RetRowsO (xss : List (List Nat)) (w : World) (e : Ending) (w' : World) : Prop :=
  ∃ vs, e = .returned (.slice (some ⟨w.heap.size, 0, none⟩) xss.length xss.length) ∧ w'.ownsRow w.heap.size 88 1 (.slice (some ⟨w.heap.size, 0, none⟩) xss.length xss.length) xss.length vs ∧ OwnRows 89 w' (w.heap.size + 1) vs xss ∧ Below w.heap.size w w' ∧ w.heap.size + 1 ≤ w'.heap.size
set_option maxHeartbeats 1000000 in
theorem hull_copied (A : Option Addr) (n c : Nat) (a : List (List Nat)) (w : World) (hr : RowsAt w A n a) (hn : n ≤ 4096) (hl : ∀ (k : Nat) (xs : List Nat), a[k]? = some xs → 0 < xs.length ∧ xs.length ≤ 1024) :
    Calls Tryz.prog 47 #[.slice A n c] w (RetRowsO a w) := by
  have hlen := hr.len
  have hmk := mk_rows .i64 .i64 n n (Nat.le_refl _) (by omega)
  obtain ⟨W1, hW1⟩ : ∃ W1, W1 = w.alloc (.cells (zeros n (.slice none 0 0)) 88) := ⟨_, rfl⟩
  have ha1 : Below w.heap.size w W1 := by rw [hW1]; exact below_alloc _ _
  have hs1 : W1.heap.size = w.heap.size + 1 := by rw [hW1]; simp
  have hown0 : W1.ownsRow w.heap.size 88 1 (.slice (some ⟨w.heap.size, 0, none⟩) n n) n (filled [] n) := by
    have h := own_zeros w n (.slice none 0 0) 88 (by unfold maxLen; omega)
    rw [← hW1] at h
    rw [filled_nil]; exact h
  have hs1' := Lib.hid hs1
  replace hown0 := Lib.hid hown0
  replace ha1 := Lib.hid ha1
  replace hr := Lib.hid hr
  replace hl := Lib.hid hl
  replace hlen := Lib.hid hlen
  clear hs1
  go_enter Tryz.func47, Tryz.ntmps47
  go_wp2_with fail
  rw [← hW1]
  clear hW1 hmk
  go_loopw [11] (fun i wr => ∃ vs : List Value, vs.length ≤ n ∧ i = .int .i64 vs.length ∧ Hid (wr.ownsRow w.heap.size 88 1 (.slice (some ⟨w.heap.size, 0, none⟩) n n) n (filled vs n)) ∧ Hid (OwnRows 89 wr (w.heap.size + 1) vs (a.take vs.length)) ∧ Hid (Below w.heap.size w wr) ∧ Hid (w.heap.size + 1 ≤ wr.heap.size)) (fun i _ => n - (intOf i).toNat)
  case atStart => exact ⟨[], Nat.zero_le _, rfl, hown0, Lib.hid (OwnRows.nil _ _ _), ha1, Lib.hid (by rw [hs1'.out]; exact Nat.le_refl _)⟩
  case round =>
    obtain ⟨vs, hk, rfl, hown, hrows, hbr, hsr⟩ := hrel
    clear hown0 ha1
    obtain ⟨k, hke⟩ : ∃ k, k = vs.length := ⟨_, rfl⟩
    rw [← hke] at hk
    rw [← hke]
    by_cases hlt : k < n
    · have hke' := Lib.hid hke
      clear hke
      obtain ⟨b, off, B, m, d, xs, rfl, hbl, hx, hc, hxr⟩ := (hr.out.below hbr.out).at_ hlt
      have hm0 : 0 < m ∧ m ≤ 1024 := by have := hxr.len; have := hl.out k xs hx; omega
      obtain ⟨b2, off2, _, rfl, _, _, _, _⟩ := hxr.at_ hm0.1
      have hC := Lib.hid (clone_words b2 off2 m d xs wr hxr hm0.1 (by omega))
      have hx64 := Lib.hid hxr.2
      have hstep : Hid (a.take (k + 1) = a.take k ++ [xs]) := Lib.hid (by
        rw [List.take_succ_eq_append_getElem (List.getElem?_eq_some_iff.1 hx).1, (List.getElem?_eq_some_iff.1 hx).2])
      have hk0 : (0 : Int) ≤ (k : Int) := by omega
      have hkn : (k : Int) < (n : Int) := by omega
      clear hx hxr hm0
      go_wp2_with fail
      refine hC.out.mono ?_; rintro e w1 ⟨G, q, rfl, ho, hb1⟩
      have hown1 := own_below hown.out hb1
      have hget := filled_get (vs := vs) (n := n) (by rw [← hke'.out]; exact hlt)
      have hcg := hown1.cellAt k (by omega)
      rw [hke'.out, hget, ← hke'.out] at hcg
      have hfg := hown1.frozenAt k
      have hrows1 := Lib.hid (hrows.out.snoc hb1 ho hx64.out hsr.out)
      have hbr1 := Lib.hid (below_trans2 hbr.out hb1)
      have hsr1 := Lib.hid (Nat.le_trans hsr.out hb1.size)
      replace hown1 := Lib.hid hown1
      clear ho hget hown hrows hbr hsr hb1 hc
      go_wp2_with fail
      go_roundw
      case rel =>
        refine ⟨vs ++ [.slice (some ⟨G, 0, none⟩) m q], by have := hke'.out; simp; omega, by rw [List.length_append, ← hke'.out]; simp; try omega, ?_, ?_, ?_, ?_⟩
        · refine Lib.hid ?_
          rw [← filled_set (by rw [← hke'.out]; exact hlt), ← hke'.out]
          exact (hown1.out.stored k _).1
        · refine Lib.hid ?_
          have h := hrows1.out.far (p := ⟨w.heap.size, k, none⟩) (by simp) (.slice (some ⟨G, 0, none⟩) m q)
          rw [← hke'.out] at h
          rw [List.length_append, List.length_singleton, ← hke'.out, hstep.out]
          exact h
        · exact Lib.hid (hbr1.out.setCell (by simp) _)
        · exact Lib.hid (by simpa using hsr1.out)
      case measure => simp [intOf]; omega
    · obtain rfl : n = k := by omega
      have hvn := Lib.hid hke.symm
      clear hlt hke
      go_wp2_with fail
      go_ret
      refine ⟨vs, by rw [hlen.out]; rfl, ?_, ?_, hbr.out, hsr.out⟩
      · have h := hown.out
        rw [filled_all hvn.out] at h
        rw [hlen.out]; exact h
      · have h := hrows.out
        rw [hvn.out, List.take_of_length_le (by rw [hlen.out]; exact Nat.le_refl _)] at h
        exact h

/-- what 'join' does: the words of both, in the first one's place -/
def RetJoinIn (g base n c : Nat) (zs : List Nat) (w : World) (e : Ending) (w' : World) : Prop :=
  e = .returned (.tuple #[]) ∧ w'.ownsRow base 89 1 (.slice (some ⟨g, 0, none⟩) n c) n (zs.map u64v) ∧ OnlyAt g w w'
set_option maxHeartbeats 1000000 in
theorem hull_join (g base n c d : Nat) (B : Option Addr) (xs ys : List Nat) (w : World) (hown : w.ownsRow base 89 1 (.slice (some ⟨g, 0, none⟩) n c) n (xs.map u64v)) (hx : W64 xs) (hs : Row w B n ys)
    (hal : (∀ ad, B = some ad → ad.block ≠ g) ∨ (B = some ⟨g, 0, none⟩ ∧ ys = xs)) (hn : n ≤ 1073741824) :
    Calls Tryz.prog 49 #[.slice (some ⟨g, 0, none⟩) n c, .slice B n d] w (RetJoinIn g base n c (orR xs ys) w) := by
  have hl : xs.length = n := by have := hown.1; simpa using this
  have hl2 := hs.len
  have hd : ∀ k, xs.getD k 0 < 18446744073709551616 := fun k => getD_w64 hx k
  have hall : orK xs ys n = orR xs ys := by rw [← hl2]; exact orK_all xs ys (by omega)
  have hrow : ∀ (k : Nat) (W : World), W.ownsRow base 89 1 (.slice (some ⟨g, 0, none⟩) n c) n ((orK xs ys k).map u64v) → OnlyAt g w W → Row W B n ys := fun k W h1 h2 => by
    rcases hal with h | ⟨h, h'⟩
    · exact hs.only h2 h
    · subst h h'
      rw [orK_self] at h1
      exact Row.of_own h1 hx
  replace hrow := Lib.hid hrow
  replace hall := Lib.hid hall
  replace hd := Lib.hid hd
  replace hl := Lib.hid hl
  replace hown := Lib.hid hown
  clear hs hal hl2
  go_enter Tryz.func49, Tryz.ntmps49
  go_wp2_with fail
  go_loopw [8] (fun i wr => ∃ k : Nat, k ≤ n ∧ i = .int .i64 k ∧ Hid (wr.ownsRow base 89 1 (.slice (some ⟨g, 0, none⟩) n c) n ((orK xs ys k).map u64v)) ∧ Hid (OnlyAt g w wr)) (fun i _ => n - (intOf i).toNat)
  case atStart => exact ⟨0, Nat.zero_le _, rfl, Lib.hid (by rw [orK_zero]; exact hown.out), Lib.hid (OnlyAt.refl _ _)⟩
  case round =>
    obtain ⟨k, hk, rfl, hownr, hor⟩ := hrel
    clear hown
    by_cases hlt : k < n
    · obtain ⟨b, off, y, rfl, hbk, hy, hy64, hc⟩ := (hrow.out k wr hownr.out hor.out).at_ hlt
      have hgx := orK_get xs ys k (by rw [hl.out]; omega)
      have hx64 := hd.out k
      obtain ⟨x, hx'⟩ : ∃ x, x = xs.getD k 0 := ⟨_, rfl⟩
      rw [← hx'] at hgx hx64
      have hcg : wr.cell? ⟨g, k, none⟩ = some (.int .u64 (x : Int)) := by
        rw [hownr.out.cellAt _ (by omega), List.getElem?_map, hgx]; rfl
      have hf := hownr.out.frozenAt k
      have hE := Lib.hid (u64_or_nat x y hx64 hy64)
      have hst := orK_set xs ys k
      rw [← hx', Row.get hy] at hst
      replace hst := Lib.hid hst
      have hk0 : (0 : Int) ≤ (k : Int) := by omega
      have hkn : (k : Int) < (n : Int) := by omega
      clear hgx hy
      replace hx' := Lib.hid hx'
      go_wp2_with fail
      go_roundw
      case rel =>
        refine ⟨k + 1, by omega, by go_num, ?_, Lib.hid (hor.out.set k _)⟩
        refine Lib.hid ?_
        rw [hE.out, ← hst.out, List.map_set]
        exact (hownr.out.stored _ _).1
      case measure => simp [intOf]; omega
    · obtain rfl : k = n := by omega
      go_wp2_with fail
      go_end0
      exact ⟨rfl, by rw [← hall.out]; exact hownr.out, hor.out⟩

/-- what is known at each round: the rows of its own, in blocks of their own; the variables -/
def CloseI (w : World) (n : Nat) (A : Option Addr) (c : Nat) (vs : List Value) (xss : List (List Nat)) (wr : World) : Prop :=
  wr.ownsRow (w.heap.size + 2) 88 1 (.slice (some ⟨w.heap.size + 2, 0, none⟩) n n) n vs ∧ OwnRows 89 wr (w.heap.size + 3) vs xss ∧ MatB wr w.heap.size 57 n A n c ∧ MatB wr (w.heap.size + 1) 57 0 none 0 0 ∧ Below w.heap.size w wr
theorem CloseI.join {w : World} {n : Nat} {A : Option Addr} {c : Nat} {vs : List Value} {xss : List (List Nat)} {wr w' : World} (h : CloseI w n A c vs xss wr) {i g m d : Nat} {ys : List Nat} (hv : vs[i]? = some (.slice (some ⟨g, 0, none⟩) m d))
    (hg : w.heap.size + 3 ≤ g) (ho : OnlyAt g wr w') (hy : w'.ownsRow (w.heap.size + 3) 89 1 (.slice (some ⟨g, 0, none⟩) m d) m (ys.map u64v)) (hw : W64 ys) : CloseI w n A c vs (xss.set i ys) w' := by
  obtain ⟨h1, h2, h3, h4, h5⟩ := h
  exact ⟨own_only h1 ho (by simp [Value.ownBlock]; omega), h2.joined hv ho hy hw, Blk.only h3 ho (by omega), Blk.only h4 ho (by omega), below_only h5 ho (by omega)⟩
set_option maxRecDepth 100000 in
set_option maxHeartbeats 2000000 in
theorem hull_Close (A : Option Addr) (n c : Nat) (a : List (List Nat)) (w : World) (hr : RowsAt w A n a) (hG : Good n a) :
    Calls Tryz.prog 28 #[.agg #[.int .i64 (n : Int), .slice A n c]] w (RetMat1 (n : Int) (closeK a n) w) := by
  have hal : a.length = n := hG.len
  have hnn : n ≤ 4096 := hG.le
  obtain ⟨W0, hW0⟩ : ∃ W0, W0 = (w.alloc (.cells #[.int .i64 n, .slice A n c] 57)).alloc (.cells #[.int .i64 0, .slice none 0 0] 57) := ⟨_, rfl⟩
  have ha : Below w.heap.size w W0 := by rw [hW0]; exact ((Below.refl _ _).alloc (Nat.le_refl _) _).alloc (by simp) _
  have hB1 : MatB W0 w.heap.size 57 n A n c := by rw [hW0]; exact (MatB.new w _).below_ (below_alloc _ _)
  have hB2 : MatB W0 (w.heap.size + 1) 57 0 none 0 0 := by rw [hW0]; exact MatB.new1 w _ _
  have hs0 : W0.heap.size = w.heap.size + 2 := by rw [hW0]; simp
  have l0 := hB1.c0
  have l1 := hB1.c1
  have hcop := hull_copied A n c a W0 (hr.below ha) hnn (fun k xs hx => by
    have h1 := hG.row xs (List.mem_of_getElem? hx)
    have h2 := hG.small xs (List.mem_of_getElem? hx)
    have h3 : 0 < n := by have := (List.getElem?_eq_some_iff.1 hx).1; omega
    omega)
  unfold RetRowsO at hcop
  rw [hal, hs0] at hcop
  replace hcop := Lib.hid hcop
  replace ha := Lib.hid ha
  replace hB1 := Lib.hid hB1
  replace hB2 := Lib.hid hB2
  replace hs0 := Lib.hid hs0
  replace hal := Lib.hid hal
  have hK := Lib.hid (fun k hk => closeK_facts hG k hk)
  replace hG := Lib.hid hG
  clear hr
  go_enter Tryz.func28, Tryz.ntmps28
  go_wp2_with fail
  rw [← hW0]
  clear hW0
  go_wp2_with fail
  refine hcop.out.mono ?_; rintro e w1 ⟨vs, rfl, ho1, ho2, hb1, hs1⟩
  have hI : Hid (CloseI w n A c vs a w1) := Lib.hid ⟨ho1, ho2, hB1.out.below_ (hb1.mono (by rw [hs0.out]; exact Nat.le_refl _)), hB2.out.below_ (hb1.mono (by rw [hs0.out]; exact Nat.le_refl _)), ha.out.trans (hb1.mono (by omega))⟩
  have hvl : vs.length = n := by have := ho1.1; simpa using this
  replace hvl := Lib.hid hvl
  clear ho1 ho2 hb1 hs1 hcop hB1 hB2 ha l0 l1
  go_wp2_with fail
  go_loopw [15] (fun i wr => ∃ k : Nat, k ≤ n ∧ i = .int .i64 k ∧ Hid (CloseI w n A c vs (closeK a k) wr)) (fun i _ => n - (intOf i).toNat)
  case atStart => exact ⟨0, Nat.zero_le _, rfl, hI⟩
  case round =>
    obtain ⟨k, hk, rfl, hIr⟩ := hrel
    clear hI
    by_cases hlt : k < n
    · have hGk := (hK.out k hk).1
      obtain ⟨rk, hrk, hwk, hlk⟩ := hGk.at_ hlt
      obtain ⟨vk, hvk⟩ : ∃ v, vs[k]? = some v := ⟨_, List.getElem?_eq_getElem (by rw [hvl.out]; exact hlt)⟩
      obtain ⟨Ak, mk, dk, rfl, hok, _⟩ := hIr.out.2.1.2.1 k vk rk hvk hrk
      have hmk : rk.length = mk := by have := hok.1; simpa using this
      obtain ⟨gk, hgk0, rfl⟩ : ∃ gk, w.heap.size + 3 ≤ gk ∧ Ak = some ⟨gk, 0, none⟩ := by
        obtain ⟨g, cap, hv, _⟩ := hok.form (by omega)
        injection hv with hv
        subst hv
        exact ⟨g, own_lt_block hok g rfl, rfl⟩
      have hmk1 : mk ≤ 64 := by have := hGk.small rk (List.mem_of_getElem? hrk); omega
      have hkm : k / 64 < mk := by omega
      have hpl := Lib.hid (fun W => hull_place k (by omega) W)
      have hck := hIr.out.1.cellAt k (by omega)
      rw [hvk] at hck
      have hk0 : (0 : Int) ≤ (k : Int) := by omega
      have hkn : (k : Int) < (n : Int) := by omega
      replace hGk := Lib.hid hGk
      replace hrk := Lib.hid hrk
      replace hvk := Lib.hid hvk
      replace hmk := Lib.hid hmk
      clear hok hwk hlk
      go_wp2_with fail
      refine (hpl.out wr).mono ?_; rintro e w' ⟨rfl, rfl⟩
      clear hpl
      go_wp2_with fail
      clear hck
      go_loopw [27] (fun i wi => ∃ q : Nat, q ≤ n ∧ i = .int .i64 q ∧ Hid (CloseI w n A c vs (stepM (closeK a k) k q) wi)) (fun i _ => n - (intOf i).toNat)
      case atStart => exact ⟨0, Nat.zero_le _, rfl, Lib.hid (by rw [stepM_zero]; exact hIr.out)⟩
      case round =>
        obtain ⟨q, hq, rfl, hIq⟩ := hrel
        clear hIr
        by_cases hlq : q < n
        · obtain ⟨r, hrq, hwq, hlq2⟩ := hGk.out.at_ hlq
          have hrs : (stepM (closeK a k) k q)[q]? = some r := by rw [stepM_get hrq, if_neg (Nat.lt_irrefl _)]
          obtain ⟨v, hv⟩ : ∃ v, vs[q]? = some v := ⟨_, List.getElem?_eq_getElem (by rw [hvl.out]; exact hlq)⟩
          obtain ⟨Aq, m, d, rfl, hoq, _⟩ := hIq.out.2.1.2.1 q v r hv hrs
          have hmq : r.length = m := by have := hoq.1; simpa using this
          obtain ⟨g, hg0, rfl⟩ : ∃ g, w.heap.size + 3 ≤ g ∧ Aq = some ⟨g, 0, none⟩ := by
            obtain ⟨g, cap, hv, _⟩ := hoq.form (by omega)
            injection hv with hv
            subst hv
            exact ⟨g, own_lt_block hoq g rfl, rfl⟩
          have hmm : m = mk := by
            have h1 := (hGk.out.row r (List.mem_of_getElem? hrq)).2.2.1
            have h2 := (hGk.out.row rk (List.mem_of_getElem? hrk.out)).2.2.1
            have := hmk.out
            omega
          subst hmm
          have hcq := hIq.out.1.cellAt q (by omega)
          rw [hv] at hcq
          obtain ⟨x, hx⟩ : ∃ x, r[k / 64]? = some x := ⟨_, List.getElem?_eq_getElem (by omega)⟩
          have hx64 := hwq x (List.mem_of_getElem? hx)
          have hcx : wr.cell? ⟨g, k / 64, none⟩ = some (.int .u64 (x : Int)) := by
            rw [hoq.cellAt _ (by omega), List.getElem?_map, hx]; rfl
          have hbit := and_p2 x (k % 64) hx64 (by omega)
          have hbh : x.testBit (k % 64) = hasR r (k : Int) := by rw [hasR_nat, Row.get hx]
          rw [hbh] at hbit
          have hsucc := stepM_succ (k := k) hrq
          have hq0 : (0 : Int) ≤ (q : Int) := by omega
          have hqn : (q : Int) < (n : Int) := by omega
          have hp0 : (0 : Int) ≤ ((k / 64 : Nat) : Int) := by omega
          have hpm : ((k / 64 : Nat) : Int) < (m : Int) := by omega
          have hp1 : (((k / 64 : Nat) : Int)).toNat = k / 64 := by omega
          cases hh : hasR r (k : Int) with
          | false =>
            rw [hh] at hbit
            have hst : Hid (stepM (closeK a k) k (q + 1) = stepM (closeK a k) k q) := Lib.hid (by
              rw [hsucc]
              unfold stepR
              rw [hh]
              simp only [Bool.false_eq_true, if_false]
              exact set_self hrs)
            clear hsucc hh hbh hx hrs hrq hv hoq hwq
            go_wp2_with fail
            go_roundw
            case rel => exact ⟨q + 1, by omega, by go_num, Lib.hid (by rw [hst.out]; exact hIq.out)⟩
            case measure => simp [intOf]; omega
          | true =>
            rw [hh] at hbit
            have hth : (stepM (closeK a k) k q)[k]? = some rk := stepM_through hrk.out
            obtain ⟨_, _, _, e1, hok2, _⟩ := hIq.out.2.1.2.1 k _ rk hvk.out hth
            cases e1
            have hrow := Row.of_own hok2 (hGk.out.row rk (List.mem_of_getElem? hrk.out)).1
            have hst : Hid (stepM (closeK a k) k (q + 1) = (stepM (closeK a k) k q).set q (orR r rk)) := Lib.hid (by
              rw [hsucc]
              unfold stepR
              rw [hh, if_pos rfl, getD_at hrk.out])
            have hw2 := Lib.hid (orR_w64 hwq (hGk.out.row rk (List.mem_of_getElem? hrk.out)).1)
            have hj := Lib.hid (hull_join g (w.heap.size + 3) m d dk (some ⟨gk, 0, none⟩) r rk wr hoq hwq hrow (by
              by_cases hqk : q = k
              · subst hqk
                rw [hv] at hvk
                have h1 := hvk.out
                injection h1 with h1
                injection h1 with h1 h2 h3
                refine .inr ⟨h1.symm, ?_⟩
                have h2 := hrk.out
                rw [hrq] at h2
                injection h2 with h2
                exact h2.symm
              · refine .inl (fun ad e => ?_)
                injection e with e
                subst e
                intro hgg
                have hgg' : gk = g := hgg
                subst hgg'
                exact hIq.out.2.1.2.2 q k _ _ gk hqk hv hvk.out rfl rfl) (by omega))
            replace hv := Lib.hid hv
            clear hsucc hh hbh hx hrs hrq hoq hwq hok2 hrow hth
            go_wp2_with fail
            refine hj.out.mono ?_; rintro e w2 ⟨rfl, hy, ho⟩
            have hI2 := Lib.hid (hIq.out.join hv.out hg0 ho hy hw2.out)
            clear hy ho hIq hj hcq hcx
            go_wp2_with fail
            go_roundw
            case rel => exact ⟨q + 1, by omega, by go_num, Lib.hid (by rw [hst.out]; exact hI2.out)⟩
            case measure => simp [intOf]; omega
        · obtain rfl : q = n := by omega
          have hI2 : Hid (CloseI w q A c vs (closeK a (k + 1)) wr) := Lib.hid (by
            show CloseI w q A c vs (stepM (closeK a k) k a.length) wr
            rw [hal.out]; exact hIq.out)
          clear hIq
          go_wp2_with fail
          go_roundw
          case rel => exact ⟨k + 1, by omega, by go_num, hI2⟩
          case measure => simp [intOf]; omega
    · obtain rfl : k = n := by omega
      obtain ⟨h1, h2, h3, h4, h5⟩ := hIr.out
      have l0 := h3.c0
      have f0 := h4.c0
      have f1 := h4.c1
      have g0 := h4.frozen 0
      have g1 := h4.frozen 1
      replace h1 := Lib.hid h1
      replace h2 := Lib.hid h2
      replace h3 := Lib.hid h3
      replace h4 := Lib.hid h4
      replace h5 := Lib.hid h5
      clear hIr
      go_wp2_with fail
      have hcc := h4.out.two (.int .i64 k) (.slice (some ⟨w.heap.size + 2, 0, none⟩) k k)
      have hc1 := hcc.1
      have hc2 := hcc.2
      clear hcc f0 f1 g0 g1 l0
      refine bodyPost_ret (v := .agg #[.int .i64 k, .slice (some ⟨w.heap.size + 2, 0, none⟩) k k]) (by simp [results, Tryz.results28, go_sem, hc1, hc2]) rfl ⟨_, _, _, rfl, ⟨vs, ?_, ?_⟩, Nat.le_refl _, ?_⟩
      · exact Rd.of_own' (own_far (own_far h1.out (p := ⟨w.heap.size + 1, 0, none⟩) (by simp [Value.ownBlock]) _) (p := ⟨w.heap.size + 1, 1, none⟩) (by simp [Value.ownBlock]) _)
      · exact ((h2.out.far (p := ⟨w.heap.size + 1, 0, none⟩) (by simp) _).far (p := ⟨w.heap.size + 1, 1, none⟩) (by simp) _).rows
      · exact (h5.out.setCell (by simp) _).setCell (by simp) _

end Go.Proofs.YtjhjojklfdjmdaaGreat

namespace Go.Proofs.YtjhjojklfdjmdaaGreat
open Go.RowKit
set_option linter.unusedVariables false

/-- the first q rows turned by f -/
def mapPre (f : Nat → List Nat → List Nat) (a : List (List Nat)) (q : Nat) : List (List Nat) := (List.range a.length).map fun i => if i < q then f i (a.getD i []) else a.getD i []
section
variable {f : Nat → List Nat → List Nat} {a : List (List Nat)} {q : Nat}
theorem mapPre_len : (mapPre f a q).length = a.length := by simp [mapPre]
theorem mapPre_get {i : Nat} {r : List Nat} (h : a[i]? = some r) : (mapPre f a q)[i]? = some (if i < q then f i r else r) := by
  unfold mapPre
  have hi := (List.getElem?_eq_some_iff.1 h).1
  rw [List.getElem?_map, List.getElem?_range hi, Option.map_some, getD_at h]
theorem mapPre_zero : mapPre f a 0 = a := by
  unfold mapPre
  simp only [Nat.not_lt_zero, if_false]
  rw [map_range_getD a [] (fun x => x)]; simp
theorem mapPre_succ {r : List Nat} (h : a[q]? = some r) : mapPre f a (q + 1) = (mapPre f a q).set q (f q r) := by
  apply List.ext_getElem?
  intro i
  rw [List.getElem?_set]
  by_cases hi : i < a.length
  · have hx : a[i]? = some a[i] := List.getElem?_eq_getElem hi
    rw [mapPre_get hx, mapPre_len]
    by_cases hq : q = i
    · subst hq
      rw [h] at hx
      injection hx with hx
      rw [if_pos (by omega), if_pos rfl, if_pos hi, hx]
    · rw [if_neg hq, mapPre_get hx]
      by_cases h1 : i < q
      · rw [if_pos h1, if_pos (by omega)]
      · rw [if_neg h1, if_neg (by omega)]
  · rw [List.getElem?_eq_none (by rw [mapPre_len]; omega)]
    split
    · rename_i h1
      subst h1
      exact absurd (List.getElem?_eq_some_iff.1 h).1 hi
    · rw [List.getElem?_eq_none (by rw [mapPre_len]; omega)]
theorem mapPre_same {r : List Nat} (h : a[q]? = some r) (hf : f q r = r) : mapPre f a (q + 1) = mapPre f a q := by
  rw [mapPre_succ h, hf]
  exact set_self (by rw [mapPre_get h, if_neg (Nat.lt_irrefl _)])
end
theorem RowsF.put {w : World} {lo hi : Nat} {vs : List Value} {xss : List (List Nat)} (h : RowsF w lo hi vs xss) {k : Nat} {v : Value} {xs : List Nat} (hv : RowF w lo hi v xs) : RowsF w lo hi (vs.set k v) (xss.set k xs) := by
  refine ⟨by simp [h.1], fun i u ys h1 h2 => ?_⟩
  rw [List.getElem?_set] at h1 h2
  by_cases hk : k = i
  · rw [if_pos hk] at h1 h2
    split at h1
    · split at h2
      · injection h1 with h1
        injection h2 with h2
        subst h1 h2
        exact hv
      · cases h2
    · cases h1
  · rw [if_neg hk] at h1 h2
    exact h.2 i u ys h1 h2

/-! ### one pair more -/

end Go.Proofs.YtjhjojklfdjmdaaGreat

namespace Go.Proofs.YtjhjojklfdjmdaaGreat
open Go.RowKit
set_option linter.unusedVariables false

/-- have both rows a bit in common? -/
def metR (a b : List Nat) : Bool := (List.range a.length).any fun j => a.getD j 0 &&& b.getD j 0 != 0
theorem metR_iff {a b : List Nat} (ha : W64 a) : metR a b = true ↔ ∃ y : Nat, hasR a (y : Int) = true ∧ hasR b (y : Int) = true := by
  unfold metR
  rw [List.any_eq_true]
  constructor
  · rintro ⟨j, hj, h⟩
    rw [bne_iff_ne] at h
    obtain ⟨i, hi⟩ := Nat.exists_testBit_of_ne_zero h
    rw [Nat.testBit_and, Bool.and_eq_true] at hi
    have hjl := List.mem_range.1 hj
    have hw : a.getD j 0 < 18446744073709551616 := by
      rw [List.getD_eq_getElem?_getD, List.getElem?_eq_getElem hjl]
      exact ha _ (List.getElem_mem hjl)
    have hi64 : i < 64 := by
      rcases Nat.lt_or_ge i 64 with h1 | h1
      · exact h1
      · have := Nat.testBit_lt_two_pow (x := a.getD j 0) (i := i) (Nat.lt_of_lt_of_le hw (Nat.pow_le_pow_right (n := 2) (by decide) h1))
        rw [hi.1] at this; cases this
    exact ⟨64 * j + i, by rw [hasR_w _ _ _ hi64]; exact hi.1, by rw [hasR_w _ _ _ hi64]; exact hi.2⟩
  · rintro ⟨y, h1, h2⟩
    rw [hasR_nat] at h1 h2
    refine ⟨y / 64, List.mem_range.2 ?_, ?_⟩
    · rcases Nat.lt_or_ge (y / 64) a.length with h | h
      · exact h
      · rw [List.getD_eq_getElem?_getD, List.getElem?_eq_none h] at h1
        simp at h1
    · rw [bne_iff_ne]
      intro h
      have := Nat.testBit_and (a.getD (y / 64) 0) (b.getD (y / 64) 0) (y % 64)
      rw [h, h1, h2] at this
      simp at this
/-- what is told of the first words -/
def metK (a b : List Nat) (k : Nat) : Bool := (List.range k).any fun j => a.getD j 0 &&& b.getD j 0 != 0
theorem metK_succ (a b : List Nat) (k : Nat) : metK a b (k + 1) = (metK a b k || a.getD k 0 &&& b.getD k 0 != 0) := by
  unfold metK; rw [List.range_succ, List.any_append]; simp
theorem metK_mono {a b : List Nat} {k n : Nat} (h : k ≤ n) (h1 : metK a b k = true) : metK a b n = true := by
  unfold metK at h1 ⊢
  rw [List.any_eq_true] at h1 ⊢
  obtain ⟨j, hj, e⟩ := h1
  exact ⟨j, List.mem_range.2 (Nat.lt_of_lt_of_le (List.mem_range.1 hj) h), e⟩
/-- row q, with what it gains -/
def leadRow (F g : List Nat) (q : Nat) (r : List Nat) : List Nat := if (hasR F (q : Int) || metR r F) && !subR g r then orR r g else r
def leadM (a : List (List Nat)) (F : List Nat) (j : Nat) : List (List Nat) := mapPre (leadRow F (setR (a.getD j []) (j : Int))) a a.length
/-- what they make of a closed relation -/
def LeadR (r : Nat → Nat → Prop) (P : Nat → Prop) (j x y : Nat) : Prop := r x y ∨ ((P x ∨ ∃ z, r x z ∧ P z) ∧ (y = j ∨ r j y))
theorem LeadR.conn {r : Nat → Nat → Prop} (hr : Trans2 r) (P : Nat → Prop) (j x y : Nat) : LeadR r P j x y ↔ Conn (fun a b => r a b ∨ (P a ∧ b = j)) x y := by
  constructor
  · rintro (h | ⟨h1, h2⟩)
    · exact .one (.inl h)
    · have ha : Conn (fun a b => r a b ∨ (P a ∧ b = j)) x j := by
        rcases h1 with h1 | ⟨z, h1, h3⟩
        · exact .one (.inr ⟨h1, rfl⟩)
        · exact .step (.one (.inl h1)) (.inr ⟨h3, rfl⟩)
      rcases h2 with rfl | h2
      · exact ha
      · exact .step ha (.inl h2)
  · refine Conn.least (fun a b c h1 h2 => ?_) (fun a b h => ?_)
    · rcases h1 with h1 | ⟨p1, p2⟩ <;> rcases h2 with h2 | ⟨q1, q2⟩
      · exact .inl (hr _ _ _ h1 h2)
      · refine .inr ⟨.inr ?_, q2⟩
        rcases q1 with q1 | ⟨z, q1, q3⟩
        · exact ⟨b, h1, q1⟩
        · exact ⟨z, hr _ _ _ h1 q1, q3⟩
      · refine .inr ⟨p1, .inr ?_⟩
        rcases p2 with rfl | p2
        · exact h2
        · exact hr _ _ _ p2 h2
      · exact .inr ⟨p1, q2⟩
    · rcases h with h | ⟨h, rfl⟩
      · exact .inl h
      · exact .inr ⟨.inl h, .inl rfl⟩
section
variable {n : Nat} {a : List (List Nat)}
theorem leadRow_facts (ha : Good n a) {F : List Nat} {j : Nat} (hj : j < n) {q : Nat} {r : List Nat} (hr : a[q]? = some r) :
    W64 (leadRow F (setR (a.getD j []) (j : Int)) q r) ∧ (leadRow F (setR (a.getD j []) (j : Int)) q r).length = r.length ∧
      ∀ y : Nat, hasR (leadRow F (setR (a.getD j []) (j : Int)) q r) (y : Int) = (hasR r (y : Int) || ((hasR F (q : Int) || metR r F) && (hasM a (j : Int) (y : Int) || decide (y = j)))) := by
  obtain ⟨s, hs, hws, hls⟩ := ha.at_ hj
  have h1 := ha.row r (List.mem_of_getElem? hr)
  have h2 := ha.row s (List.mem_of_getElem? hs)
  have hwg : W64 (setR s (j : Int)) := setR_w64 hws j
  have hg : ∀ y : Nat, hasR (setR s (j : Int)) (y : Int) = (hasM a (j : Int) (y : Int) || decide (y = j)) := fun y => by rw [hasR_setR s j y (by omega), hasM_in hs]
  rw [getD_at hs]
  unfold leadRow
  cases hc : (hasR F (q : Int) || metR r F) with
  | false =>
    rw [Bool.false_and, if_neg (by simp)]
    exact ⟨h1.1, rfl, fun y => by rw [Bool.false_and, Bool.or_false]⟩
  | true =>
    rw [Bool.true_and]
    cases hsb : subR (setR s (j : Int)) r with
    | true =>
      rw [if_neg (by simp)]
      refine ⟨h1.1, rfl, fun y => ?_⟩
      rw [Bool.true_and, ← hg y]
      cases hy : hasR (setR s (j : Int)) (y : Int) with
      | false => rw [Bool.or_false]
      | true => rw [(subR_iff _ r hwg).1 hsb y hy]; rfl
    | false =>
      rw [if_pos (by simp)]
      refine ⟨orR_w64 h1.1 hwg, by rw [orR_len, setR_len, h1.2.2.1, h2.2.2.1, Nat.max_self], fun y => ?_⟩
      rw [hasR_orR, hg y, Bool.true_and]
theorem leadM_good (ha : Good n a) (F : List Nat) {j : Nat} (hj : j < n) : Good n (leadM a F j) := by
  unfold leadM
  refine ⟨ha.le, by rw [mapPre_len, ha.len], fun r hr => ?_⟩
  obtain ⟨q, hq⟩ := List.getElem?_of_mem hr
  have hql : q < a.length := by
    have := (List.getElem?_eq_some_iff.1 hq).1
    rwa [mapPre_len] at this
  have hx : a[q]? = some a[q] := List.getElem?_eq_getElem hql
  rw [mapPre_get hx, if_pos hql] at hq
  injection hq with hq
  subst hq
  have h0 := ha.row _ (List.mem_of_getElem? hx)
  obtain ⟨h1, h2, h3⟩ := leadRow_facts ha (F := F) hj hx
  refine ⟨h1, by rw [h2]; exact h0.2.1, by rw [h2]; exact h0.2.2.1, fun y hy => ?_⟩
  rw [h3 y, h0.2.2.2 y hy, decide_eq_false (by omega), Bool.or_false]
  cases hh : hasM a (j : Int) (y : Int) with
  | false => simp
  | true => exact absurd (ha.has_lt hh).2 (by omega)
theorem leadM_rel (ha : Good n a) {F : List Nat} (hF : ∀ y : Nat, hasR F (y : Int) = true → y < n) {j : Nat} (hj : j < n) (x y : Nat) : Rel (leadM a F j) x y ↔ LeadR (Rel a) (fun z => hasR F (z : Int) = true) j x y := by
  unfold LeadR
  by_cases hx : x < n
  · obtain ⟨r, hr, hrw, _⟩ := ha.at_ hx
    have h1 : (leadM a F j)[x]? = some (leadRow F (setR (a.getD j []) (j : Int)) x r) := by
      unfold leadM
      rw [mapPre_get hr, if_pos (by rw [ha.len]; exact hx)]
    obtain ⟨_, _, h3⟩ := leadRow_facts ha (F := F) hj hr
    have hm : metR r F = true ↔ ∃ z : Nat, Rel a x z ∧ hasR F (z : Int) = true := by
      rw [metR_iff hrw]
      unfold Rel
      simp only [hasM_in hr]
    unfold Rel at hm ⊢
    rw [hasM_in h1, h3 y, hasM_in hr]
    simp only [Bool.or_eq_true, Bool.and_eq_true, decide_eq_true_eq]
    rw [hm]
    constructor
    · rintro (h | ⟨h, h'⟩)
      · exact .inl h
      · exact .inr ⟨h, h'.symm⟩
    · rintro (h | ⟨h, h'⟩)
      · exact .inl h
      · exact .inr ⟨h, h'.symm⟩
  · constructor
    · intro h
      exact absurd ((leadM_good ha F hj).rel_lt _ _ h).1 hx
    · rintro (h | ⟨h | ⟨z, h, _⟩, _⟩)
      · exact absurd (ha.rel_lt _ _ h).1 hx
      · exact absurd (hF x h) hx
      · exact absurd (ha.rel_lt _ _ h).1 hx
theorem leadM_hull (ha : Good n a) (hc : ClosedM a) {F : List Nat} (hF : ∀ y : Nat, hasR F (y : Int) = true → y < n) {j : Nat} (hj : j < n) : IsHull n (fun x y => Rel a x y ∨ (hasR F (x : Int) = true ∧ y = j)) (leadM a F j) :=
  ⟨leadM_good ha F hj, fun x y => by rw [leadM_rel ha hF hj, LeadR.conn hc]⟩
end
/-! ### the first writes of the edges to one number -/
def fstO (N : Nat) (k : Nat) (r : List Nat) (e : Ed) : List Nat := if e.w2 = (k : Int) then setR (if r = [] then List.replicate N 0 else r) e.w1 else r
def fstR (N : Nat) (es : List Ed) (k : Nat) : List Nat := es.foldl (fstO N k) []
theorem fstR_nil (N k : Nat) : fstR N [] k = [] := rfl
theorem fstR_snoc (N : Nat) (es : List Ed) (e : Ed) (k : Nat) : fstR N (es ++ [e]) k = fstO N k (fstR N es k) e := by unfold fstR; rw [List.foldl_append]; rfl
theorem fstR_take {N : Nat} {es : List Ed} {q : Nat} {e : Ed} (h : es[q]? = some e) (k : Nat) : fstR N (es.take (q + 1)) k = fstO N k (fstR N (es.take q) k) e := by
  rw [List.take_add_one, h]; exact fstR_snoc _ _ _ _
theorem fstO_other {N k : Nat} {r : List Nat} {e : Ed} (h : e.w2 ≠ (k : Int)) : fstO N k r e = r := if_neg h
theorem fstR_facts {N : Nat} (hN : 0 < N) (es : List Ed) (hes : ∀ e ∈ es, ∃ a : Nat, e.w1 = (a : Int) ∧ a < 64 * N) (k : Nat) :
    W64 (fstR N es k) ∧ ((fstR N es k = [] ∧ ∀ e ∈ es, e.w2 ≠ (k : Int)) ∨ ((fstR N es k).length = N ∧ ∃ e ∈ es, e.w2 = (k : Int))) ∧ ∀ y : Nat, hasR (fstR N es k) (y : Int) = true ↔ ((y : Int), (k : Int)) ∈ edP es := by
  induction es using snoc_ind with
  | h0 => exact ⟨fun x hx => (by cases hx), .inl ⟨rfl, fun e h => (by cases h)⟩, fun y => (by rw [fstR_nil]; simp [edP, hasR])⟩
  | h1 l e ih =>
    obtain ⟨i1, i2, i3⟩ := ih (fun x hx => hes x (List.mem_append_left _ hx))
    have hed : ∀ y : Nat, ((y : Int), (k : Int)) ∈ edP (l ++ [e]) ↔ ((y : Int), (k : Int)) ∈ edP l ∨ ((y : Int) = e.w1 ∧ (k : Int) = e.w2) := fun y => by
      unfold edP; rw [List.map_append, List.mem_append]; simp
    rw [fstR_snoc]
    by_cases hk : e.w2 = (k : Int)
    · obtain ⟨a, ha, hal⟩ := hes e (by simp)
      unfold fstO
      rw [if_pos hk, ha]
      have hb : W64 (if fstR N l k = [] then List.replicate N 0 else fstR N l k) ∧ (if fstR N l k = [] then List.replicate N 0 else fstR N l k).length = N ∧ ∀ y : Nat, hasR (if fstR N l k = [] then List.replicate N 0 else fstR N l k) (y : Int) = hasR (fstR N l k) (y : Int) := by
        split
        · rename_i h0
          refine ⟨fun x hx => by rw [List.eq_of_mem_replicate hx]; decide, by simp, fun y => ?_⟩
          rw [h0, hasR_zeros]; simp [hasR]
        · rename_i h0
          rcases i2 with ⟨h, _⟩ | ⟨h, _⟩
          · exact absurd h h0
          · exact ⟨i1, h, fun y => rfl⟩
      obtain ⟨b1, b2, b3⟩ := hb
      refine ⟨setR_w64 b1 a, .inr ⟨by rw [setR_len, b2], e, by simp, hk⟩, fun y => ?_⟩
      rw [hasR_setR _ a y (by rw [b2]; exact hal), b3 y, Bool.or_eq_true, i3 y, hed y, decide_eq_true_eq, ha, hk]
      constructor
      · rintro (h | h)
        · exact .inl h
        · exact .inr ⟨by omega, rfl⟩
      · rintro (h | ⟨h, _⟩)
        · exact .inl h
        · exact .inr (by omega)
    · rw [fstO_other hk]
      refine ⟨i1, ?_, fun y => ?_⟩
      · rcases i2 with ⟨h1, h2⟩ | ⟨h1, u, h2, h3⟩
        · exact .inl ⟨h1, fun x hx => by
            rcases List.mem_append.1 hx with h | h
            · exact h2 x h
            · rw [List.mem_singleton] at h; rw [h]; exact hk⟩
        · exact .inr ⟨h1, u, List.mem_append_left _ h2, h3⟩
      · rw [i3 y, hed y]
        constructor
        · exact .inl
        · rintro (h | ⟨_, h⟩)
          · exact h
          · exact absurd h.symm hk
/-! ### all of them -/
def adX (N : Nat) (X : List (List Nat)) (es : List Ed) : Nat → List (List Nat)
  | 0 => X
  | k + 1 => if fstR N es k = [] then adX N X es k else leadM (adX N X es k) (fstR N es k) k
theorem adX_hull {n N : Nat} (hN : 0 < N) (hn : n ≤ 64 * N) {X : List (List Nat)} (hX : Good n X) (hc : ClosedM X) {es : List Ed} (hes : ∀ e ∈ es, ∃ a b : Nat, e.w1 = (a : Int) ∧ e.w2 = (b : Int) ∧ a < n ∧ b < n) :
    ∀ k, k ≤ n → IsHull n (fun x y => Rel X x y ∨ (((x : Int), (y : Int)) ∈ edP es ∧ y < k)) (adX N X es k)
  | 0, _ => ⟨hX, fun i j => by
      show Rel X i j ↔ _
      rw [← Conn.of_trans hc]
      refine Conn.same (fun x y => ⟨fun h => .inl h, fun h => ?_⟩) i j
      rcases h with h | ⟨_, h⟩
      · exact h
      · omega⟩
  | k + 1, hk => by
    have ih := adX_hull hN hn hX hc hes k (by omega)
    obtain ⟨-, f2, f3⟩ := fstR_facts hN es (fun e he => by obtain ⟨a, b, h1, h2, h3, h4⟩ := hes e he; exact ⟨a, h1, by omega⟩) k
    rw [adX]
    rcases f2 with ⟨f0, f1⟩ | ⟨f0, u, f1, f4⟩
    · rw [if_pos f0]
      refine ⟨ih.1, fun i j => ?_⟩
      rw [ih.2]
      refine Conn.same (fun x y => ?_) i j
      constructor
      · rintro (h | ⟨h, h'⟩)
        · exact .inl h
        · exact .inr ⟨h, by omega⟩
      · rintro (h | ⟨h, h'⟩)
        · exact .inl h
        · by_cases hy : y = k
          · obtain ⟨e, he, e1, e2⟩ := mem_edP.1 h
            exact absurd (by rw [e2, hy]) (f1 e he)
          · exact .inr ⟨h, by omega⟩
    · rw [if_neg (fun h => by rw [h] at f0; simp at f0; omega)]
      have hF : ∀ y : Nat, hasR (fstR N es k) (y : Int) = true → y < n := fun y hy => by
        obtain ⟨e, he, e1, e2⟩ := mem_edP.1 ((f3 y).1 hy)
        obtain ⟨a, b, h1, h2, h3, h4⟩ := hes e he
        omega
      have hL := leadM_hull ih.1 ih.closed hF (show k < n by omega)
      refine ⟨hL.1, fun i j => ?_⟩
      rw [hL.2]
      constructor
      · intro h
        refine Conn.least (s := Conn fun x y => Rel X x y ∨ (((x : Int), (y : Int)) ∈ edP es ∧ y < k + 1)) (fun a b c h1 h2 => Conn.trans h1 h2) (fun x y h1 => ?_) h
        rcases h1 with h1 | ⟨h1, rfl⟩
        · exact ((ih.2 x y).1 h1).mono (fun p q h2 => by
            rcases h2 with h2 | ⟨h2, h3⟩
            · exact .inl h2
            · exact .inr ⟨h2, by omega⟩)
        · exact .one (.inr ⟨(f3 x).1 h1, by omega⟩)
      · intro h
        refine h.mono (fun x y h1 => ?_) |> fun h => h
        rcases h1 with h1 | ⟨h1, h2⟩
        · exact .inl ((ih.2 x y).2 (.one (.inl h1)))
        · by_cases hy : y = k
          · exact .inr ⟨(f3 x).2 (by rw [hy] at h1; exact h1), hy⟩
          · exact .inl ((ih.2 x y).2 (.one (.inr ⟨h1, by omega⟩)))
/-- .. make the hull of all -/
theorem adX_close {n N : Nat} (hN : 0 < N) (hn : n ≤ 64 * N) {X : List (List Nat)} (hX : Good n X) (hc : ClosedM X) {es : List Ed} (hes : ∀ e ∈ es, ∃ a b : Nat, e.w1 = (a : Int) ∧ e.w2 = (b : Int) ∧ a < n ∧ b < n) : adX N X es n = closeK ((edP es).foldl setP X) n := by
  have hok : ∀ p ∈ edP es, okP (n : Int) p = true := fun p hp => by
    obtain ⟨x, hx, rfl⟩ := List.mem_map.1 hp
    obtain ⟨a, b, h1, h2, h3, h4⟩ := hes x hx
    unfold okP inM
    simp only [h1, h2, Bool.and_eq_true, decide_eq_true_eq]
    omega
  obtain ⟨h1, h2⟩ := fold_facts (edP es) X hX hok
  refine IsHull.unique (adX_hull hN hn hX hc hes n (Nat.le_refl _)) (closeK_hull h1) (fun i j => Conn.same (fun x y => ?_) i j)
  have h3 := h2 x y
  show _ ↔ hasM ((edP es).foldl setP X) (x : Int) (y : Int) = true
  rw [h3, Bool.or_eq_true, decide_eq_true_eq]
  constructor
  · rintro (h | ⟨h, _⟩)
    · exact .inl h
    · exact .inr h
  · rintro (h | h)
    · exact .inl h
    · refine .inr ⟨h, ?_⟩
      obtain ⟨e, he, e1, e2⟩ := mem_edP.1 h
      obtain ⟨a, b, k1, k2, k3, k4⟩ := hes e he
      omega
end Go.Proofs.YtjhjojklfdjmdaaGreat
