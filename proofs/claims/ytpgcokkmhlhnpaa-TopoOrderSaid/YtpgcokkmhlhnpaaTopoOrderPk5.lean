/- Plain mathematics of layer 15's own code: counts laid by bits (the words k have the bits of 2^k), masks, and the order that they make. No function of the program is named. Plain mathematics of layer 15's own code: numbers are taken off a mask of those that may go, counts tell how many are ahead. No function of the program is named. Contracts of the document's own answers of layer 4: Close, Add. The code's own contracts of layer 15: below, put, meet, counts (more, less, none). Contracts of package hull: copied, join, Close. -/
import Derived.Test.YtpgcokkmhlhnpaaTopoOrderPk4
import Derived.Test.YtpgcokkmhlhnpaaTopoOrderPk3
import Derived.Test.YtpgcokkmhlhnpaaTopoOrderPk2
import Derived.Laws.BitsAllLaws
namespace Go.Proofs.Ytpgcokkmhlhnpaa
open Go.RowKit
set_option linter.unusedVariables false

/-! ### counts by bits -/
/-- the count of the bit b -/
def cntC : List Nat → Nat → Nat
  | [], _ => 0
  | c :: cs, b => (c.testBit b).toNat + 2 * cntC cs b
/-- a word is xored in, what f makes of it goes on -/
def goC (f : Nat → Nat → Nat) : List Nat → Nat → List Nat
  | [], _ => []
  | c :: cs, x => (c ^^^ x) :: goC f cs (f c x)
/-- nothing is left behind the last word -/
def fitC (f : Nat → Nat → Nat) : List Nat → Nat → Prop
  | [], x => x = 0
  | c :: cs, x => fitC f cs (f c x)
def moreF (c x : Nat) : Nat := x &&& (18446744073709551615 - (c ^^^ x))
def lessF (c x : Nat) : Nat := x &&& (c ^^^ x)
theorem moreF_kept (c x : Nat) : moreF c x ≤ x := Nat.and_le_left
theorem lessF_kept (c x : Nat) : lessF c x ≤ x := Nat.and_le_left
theorem moreF_bit (c x b : Nat) (hb : b < 64) (hc : c < 18446744073709551616) (hx : x < 18446744073709551616) : (moreF c x).testBit b = (x.testBit b && c.testBit b) := by
  have hcx : c ^^^ x < 2 ^ 64 := Nat.xor_lt_two_pow (by simpa using hc) (by simpa using hx)
  unfold moreF
  have e : 18446744073709551615 - (c ^^^ x) = 2 ^ 64 - ((c ^^^ x) + 1) := by omega
  rw [e, Nat.testBit_and, Nat.testBit_two_pow_sub_succ hcx, Nat.testBit_xor, decide_eq_true hb]
  cases x.testBit b <;> cases c.testBit b <;> rfl
theorem lessF_bit (c x b : Nat) : (lessF c x).testBit b = (x.testBit b && !c.testBit b) := by
  unfold lessF
  rw [Nat.testBit_and, Nat.testBit_xor]
  cases x.testBit b <;> cases c.testBit b <;> rfl
theorem goC_len (f : Nat → Nat → Nat) : ∀ (cs : List Nat) (x : Nat), (goC f cs x).length = cs.length
  | [], _ => rfl
  | c :: cs, x => by simp only [goC, List.length_cons, goC_len f cs]
theorem goC_w64 {f : Nat → Nat → Nat} (hf : ∀ c x, f c x ≤ x) : ∀ {cs : List Nat} {x : Nat}, W64 cs → x < 18446744073709551616 → W64 (goC f cs x)
  | [], _, _, _ => fun y hy => by cases hy
  | c :: cs, x, h, hx => fun y hy => by
    rcases List.mem_cons.1 hy with rfl | hy
    · have : c ^^^ x < 2 ^ 64 := Nat.xor_lt_two_pow (by simpa using h c (by simp)) (by simpa using hx)
      simpa using this
    · exact goC_w64 hf (fun z hz => h z (List.mem_cons.2 (.inr hz))) (Nat.lt_of_le_of_lt (hf c x) hx) y hy
theorem goC_zero {f : Nat → Nat → Nat} (hf : ∀ c x, f c x ≤ x) : ∀ cs : List Nat, goC f cs 0 = cs
  | [] => rfl
  | c :: cs => by
    have h0 : f c 0 = 0 := Nat.le_zero.1 (hf c 0)
    simp only [goC, h0, goC_zero hf cs, Nat.xor_zero]
theorem zero_of_bits {x : Nat} (hx : x < 18446744073709551616) (h : ∀ b, b < 64 → x.testBit b = false) : x = 0 := by
  apply Nat.eq_of_testBit_eq; intro b
  rw [Nat.zero_testBit]
  rcases Nat.lt_or_ge b 64 with hb | hb
  · exact h b hb
  · exact bit_out hx hb
theorem cntC_more : ∀ {cs : List Nat} {x b : Nat}, W64 cs → x < 18446744073709551616 → b < 64 → cntC cs b + (x.testBit b).toNat < 2 ^ cs.length → cntC (goC moreF cs x) b = cntC cs b + (x.testBit b).toNat
  | [], x, b, _, _, _, h => by
    simp only [cntC, List.length_nil] at h ⊢
    simp only [goC, cntC]
    omega
  | c :: cs, x, b, hw, hx, hb, h => by
    have hc := hw c (by simp)
    have hm := moreF_bit c x b hb hc hx
    have h1 : cntC cs b + ((moreF c x).testBit b).toNat < 2 ^ cs.length := by
      rw [hm]
      simp only [cntC, List.length_cons, Nat.pow_succ] at h
      revert h
      cases x.testBit b <;> cases c.testBit b <;> simp <;> omega
    have ih := cntC_more (cs := cs) (x := moreF c x) (b := b) (fun z hz => hw z (List.mem_cons.2 (.inr hz))) (Nat.lt_of_le_of_lt (moreF_kept c x) hx) hb h1
    simp only [goC, cntC, ih, hm, Nat.testBit_xor]
    cases x.testBit b <;> cases c.testBit b <;> simp <;> omega
theorem cntC_less : ∀ {cs : List Nat} {x b : Nat}, (x.testBit b = true → 0 < cntC cs b) → cntC (goC lessF cs x) b + (x.testBit b).toNat = cntC cs b
  | [], x, b, h => by
    simp only [goC, cntC] at h ⊢
    cases hx : x.testBit b with
    | false => rfl
    | true => exact absurd (h hx) (Nat.lt_irrefl 0)
  | c :: cs, x, b, h => by
    have hm := lessF_bit c x b
    have ih := cntC_less (cs := cs) (x := lessF c x) (b := b) (fun hl => by
      rw [hm, Bool.and_eq_true] at hl
      have := h hl.1
      simp only [cntC] at this
      have h2 := hl.2
      cases hcb : c.testBit b with
      | true => rw [hcb] at h2; cases h2
      | false => rw [hcb] at this; simp at this; omega)
    simp only [goC, cntC, hm, Nat.testBit_xor] at ih ⊢
    revert ih
    cases x.testBit b <;> cases c.testBit b <;> simp <;> omega
theorem fitC_more : ∀ {cs : List Nat} {x : Nat}, W64 cs → x < 18446744073709551616 → (∀ b, b < 64 → x.testBit b = true → cntC cs b + 1 < 2 ^ cs.length) → fitC moreF cs x
  | [], x, _, hx, h => zero_of_bits hx fun b hb => by
    cases hxb : x.testBit b with
    | false => rfl
    | true => have := h b hb hxb; simp [cntC] at this
  | c :: cs, x, hw, hx, h => by
    have hc := hw c (by simp)
    refine fitC_more (cs := cs) (fun z hz => hw z (List.mem_cons.2 (.inr hz))) (Nat.lt_of_le_of_lt (moreF_kept c x) hx) fun b hb hl => ?_
    rw [moreF_bit c x b hb hc hx, Bool.and_eq_true] at hl
    have := h b hb hl.1
    simp only [cntC, hl.2, Bool.toNat_true, List.length_cons, Nat.pow_succ] at this
    omega
theorem fitC_less : ∀ {cs : List Nat} {x : Nat}, x < 18446744073709551616 → (∀ b, b < 64 → x.testBit b = true → 0 < cntC cs b) → fitC lessF cs x
  | [], x, hx, h => zero_of_bits hx fun b hb => by
    cases hxb : x.testBit b with
    | false => rfl
    | true => exact absurd (h b hb hxb) (Nat.lt_irrefl 0)
  | c :: cs, x, hx, h => by
    refine fitC_less (cs := cs) (Nat.lt_of_le_of_lt (lessF_kept c x) hx) fun b hb hl => ?_
    rw [lessF_bit, Bool.and_eq_true] at hl
    have := h b hb hl.1
    simp only [cntC] at this
    have h2 := hl.2
    cases hcb : c.testBit b with
    | true => rw [hcb] at h2; cases h2
    | false => rw [hcb] at this; simp at this; omega
/-- the words together -/
def orC : List Nat → Nat
  | [] => 0
  | c :: cs => c ||| orC cs
def noneC (cs : List Nat) : Nat := 18446744073709551615 - orC cs
theorem orC_lt : ∀ {cs : List Nat}, W64 cs → orC cs < 18446744073709551616
  | [], _ => by simp [orC]
  | c :: cs, h => by
    have : c ||| orC cs < 2 ^ 64 := Nat.or_lt_two_pow (by simpa using h c (by simp)) (by simpa using orC_lt fun z hz => h z (List.mem_cons.2 (.inr hz)))
    simpa [orC] using this
theorem orC_bit : ∀ (cs : List Nat) (b : Nat), (orC cs).testBit b = !decide (cntC cs b = 0)
  | [], b => by simp [orC, cntC]
  | c :: cs, b => by
    have e : cntC (c :: cs) b = (c.testBit b).toNat + 2 * cntC cs b := rfl
    rw [show orC (c :: cs) = c ||| orC cs from rfl, Nat.testBit_or, orC_bit cs b]
    rcases Bool.eq_false_or_eq_true (c.testBit b) with h | h
    · rw [h, Bool.toNat_true] at e
      rw [h, Bool.true_or, decide_eq_false (show ¬ cntC (c :: cs) b = 0 by omega)]; rfl
    · rw [h, Bool.toNat_false] at e
      rw [h, Bool.false_or]
      by_cases h0 : cntC cs b = 0
      · rw [decide_eq_true h0, decide_eq_true (show cntC (c :: cs) b = 0 by omega)]
      · rw [decide_eq_false h0, decide_eq_false (show ¬ cntC (c :: cs) b = 0 by omega)]
theorem noneC_lt (cs : List Nat) : noneC cs < 18446744073709551616 := by unfold noneC; omega
theorem noneC_bit {cs : List Nat} (h : W64 cs) {b : Nat} (hb : b < 64) : (noneC cs).testBit b = decide (cntC cs b = 0) := by
  have hl : orC cs < 2 ^ 64 := by simpa using orC_lt h
  unfold noneC
  rw [show 18446744073709551615 - orC cs = 2 ^ 64 - (orC cs + 1) by omega, Nat.testBit_two_pow_sub_succ hl, orC_bit, decide_eq_true hb]
  simp
theorem noneC_xor {cs : List Nat} (h : W64 cs) : bits BinOp.xor IntKind.u64 IntKind.u64.max ((orC cs : Nat) : Int) = ((noneC cs : Nat) : Int) := by
  have hl := orC_lt h
  have hl2 : orC cs < 2 ^ 64 := by simpa using hl
  have e : IntKind.u64.max = ((18446744073709551615 : Nat) : Int) := rfl
  rw [e, u64_xor_nat _ _ (by omega) hl]
  congr 1
  unfold noneC
  apply Nat.eq_of_testBit_eq; intro b
  rw [Nat.testBit_xor, show 18446744073709551615 - orC cs = 2 ^ 64 - (orC cs + 1) by omega, Nat.testBit_two_pow_sub_succ hl2, show (18446744073709551615 : Nat) = 2 ^ 64 - 1 by decide, Nat.testBit_two_pow_sub_one]
  rcases Nat.lt_or_ge b 64 with hb | hb
  · rw [decide_eq_true hb]; cases (orC cs).testBit b <;> rfl
  · rw [decide_eq_false (by omega), bit_out hl hb]; rfl
theorem orC_snoc (cs : List Nat) (c : Nat) : orC (cs ++ [c]) = orC cs ||| c := by
  induction cs with
  | nil => simp [orC]
  | cons d cs ih => simp only [List.cons_append, orC, ih, Nat.or_assoc]

/-! ### rows of counts -/
structure DimC (nw : Nat) (css : List (List Nat)) : Prop where
  len : css.length = nw
  row : ∀ c ∈ css, c.length = 13 ∧ W64 c
def cntQ (css : List (List Nat)) (j : Nat) : Nat := cntC (css.getD (j / 64) []) (j % 64)
theorem flat_len {css : List (List Nat)} (h : ∀ c ∈ css, c.length = 13) : css.flatten.length = 13 * css.length := by
  induction css with
  | nil => rfl
  | cons c css ih =>
    rw [List.flatten_cons, List.length_append, h c (by simp), ih (fun d hd => h d (List.mem_cons.2 (.inr hd))), List.length_cons]; omega
theorem flat_parts {css : List (List Nat)} {k : Nat} {c : List Nat} (h : css[k]? = some c) : css.flatten = (css.take k).flatten ++ c ++ (css.drop (k + 1)).flatten := by
  have hk := (List.getElem?_eq_some_iff.1 h)
  have e : css = css.take k ++ c :: css.drop (k + 1) := by
    rw [← hk.2, List.getElem_cons_drop, List.take_append_drop]
  conv => lhs; rw [e]
  rw [List.flatten_append, List.flatten_cons, List.append_assoc]
theorem flat_set {css : List (List Nat)} {k : Nat} {c d : List Nat} (h : css[k]? = some c) : (css.set k d).flatten = (css.take k).flatten ++ d ++ (css.drop (k + 1)).flatten := by
  have hk := (List.getElem?_eq_some_iff.1 h).1
  have h2 : (css.set k d)[k]? = some d := by rw [List.getElem?_set, if_pos rfl, if_pos hk]
  rw [flat_parts h2, List.take_set_of_le (Nat.le_refl _), List.drop_set_of_lt (by omega)]
theorem DimC.set {nw k : Nat} {css : List (List Nat)} (h : DimC nw css) {d : List Nat} (hd : d.length = 13 ∧ W64 d) : DimC nw (css.set k d) :=
  ⟨by rw [List.length_set]; exact h.len, fun c hc => by
    rcases List.mem_or_eq_of_mem_set hc with h1 | rfl
    · exact h.row c h1
    · exact hd⟩
theorem DimC.at_ {nw k : Nat} {css : List (List Nat)} (h : DimC nw css) (hk : k < nw) : ∃ c, css[k]? = some c ∧ css.getD k [] = c ∧ c.length = 13 ∧ W64 c := by
  have hl : k < css.length := by rw [h.len]; exact hk
  have h1 : css[k]? = some css[k] := List.getElem?_eq_getElem hl
  exact ⟨css[k], h1, getD_at h1, h.row _ (List.getElem_mem hl)⟩
theorem DimC.take_len {nw k : Nat} {css : List (List Nat)} (h : DimC nw css) (hk : k ≤ nw) : (css.take k).flatten.length = 13 * k := by
  rw [flat_len (fun c hc => (h.row c (List.mem_of_mem_take hc)).1), List.length_take, h.len, Nat.min_eq_left hk]
theorem DimC.zero (nw : Nat) : DimC nw (List.replicate nw (List.replicate 13 0)) := ⟨by simp, fun c hc => by
  rw [(List.mem_replicate.1 hc).2]
  exact ⟨by simp, fun x hx => by rw [(List.mem_replicate.1 hx).2]; omega⟩⟩
theorem cntC_zeros (n b : Nat) : cntC (List.replicate n 0) b = 0 := by
  induction n with
  | zero => rfl
  | succ n ih => simp [List.replicate_succ, cntC, ih]
theorem cntQ_zero (nw j : Nat) : cntQ (List.replicate nw (List.replicate 13 0)) j = 0 := by
  unfold cntQ
  rw [List.getD_eq_getElem?_getD, List.getElem?_replicate]
  split
  · exact cntC_zeros 13 _
  · rfl
theorem getD_set_at {α : Type} {l : List α} {k : Nat} {d : α} (hk : k < l.length) (x : α) (q : Nat) : (l.set k x).getD q d = if q = k then x else l.getD q d := by
  rw [List.getD_eq_getElem?_getD, List.getElem?_set]
  by_cases h : k = q
  · subst h; rw [if_pos rfl, if_pos hk, if_pos rfl]; rfl
  · rw [if_neg h, if_neg (fun e => h e.symm), ← List.getD_eq_getElem?_getD]
end Go.Proofs.Ytpgcokkmhlhnpaa

namespace Go.Proofs.Ytpgcokkmhlhnpaa
open Go.RowKit
set_option linter.unusedVariables false
/-- a row with just these numbers -/
structure MaskIs (nw : Nat) (zs : List Int) (ms : List Nat) : Prop where
  len : ms.length = nw
  w64 : W64 ms
  has : ∀ j : Nat, hasR ms (j : Int) = true ↔ (j : Int) ∈ zs
theorem MaskIs.zero (nw : Nat) : MaskIs nw [] (List.replicate nw 0) := ⟨by simp, fun x hx => by rw [(List.mem_replicate.1 hx).2]; omega, fun j => by rw [hasR_zeros]; simp⟩
theorem MaskIs.snoc {nw : Nat} {zs : List Int} {ms : List Nat} (h : MaskIs nw zs ms) {j : Nat} (hj : j < 64 * nw) : MaskIs nw (zs ++ [(j : Int)]) (setR ms (j : Int)) :=
  ⟨by rw [setR_len]; exact h.len, setR_w64 h.w64 j, fun i => by
    rw [hasR_setR ms j i (by rw [h.len]; exact hj), Bool.or_eq_true, h.has, decide_eq_true_eq, List.mem_append, List.mem_singleton]
    exact or_congr_right (by omega)⟩
theorem FineZ.snoc {n : Nat} {zs : List Int} {z : Int} (h : FineZ n zs) (h1 : 0 ≤ z ∧ z < (n : Int)) (h2 : z ∉ zs) : FineZ n (zs ++ [z]) :=
  ⟨fun y hy => by
    rcases List.mem_append.1 hy with h3 | h3
    · exact h.1 y h3
    · rw [List.mem_singleton.1 h3]; exact h1, List.nodup_append.2 ⟨h.2, by simp, fun a ha b hb => by rw [List.mem_singleton.1 hb]; exact fun e => h2 (e ▸ ha)⟩⟩
theorem FineZ.len {n : Nat} {zs : List Int} (h : FineZ n zs) : zs.length ≤ n := by
  have h1 : (zs.map Int.toNat).Nodup := by
    refine List.pairwise_map.2 (List.Pairwise.imp_of_mem (fun {a b} ha hb hne => ?_) h.2)
    have := h.1 a ha
    have := h.1 b hb
    omega
  have := nodup_lt h1 (n := n) (fun x hx => by
    obtain ⟨z, hz, rfl⟩ := List.mem_map.1 hx
    have := h.1 z hz
    omega)
  simpa using this
theorem take_snoc {α : Type} {zs : List α} {q : Nat} {z : α} (h : zs[q]? = some z) : zs.take (q + 1) = zs.take q ++ [z] := by
  rw [List.take_add_one, h]; rfl
theorem fine_take {n q : Nat} {zs : List Int} (h : FineZ n zs) : FineZ n (zs.take q) := ⟨fun z hz => h.1 z (List.mem_of_mem_take hz), h.2.sublist (List.take_sublist _ _)⟩
theorem not_fine_at {n q : Nat} {zs : List Int} {z : Int} (hz : zs[q]? = some z) (h : ¬ (0 ≤ z ∧ z < (n : Int)) ∨ z ∈ zs.take q) : ¬ FineZ n zs := fun hF => by
  rcases h with h | h
  · exact h (fine_at hF hz)
  · have := (fine_take (q := q + 1) hF).2
    rw [take_snoc hz] at this
    exact (List.nodup_append.1 this).2.2 z h z (by simp) rfl
section
variable {n nw : Nat} {a : List (List Nat)} {zs O L : List Int} {ms ns ws : List Nat} {css : List (List Nat)}
/-- how many of L are ahead of each number of zs -/
def CntOk (a : List (List Nat)) (zs L : List Int) (css : List (List Nat)) : Prop := ∀ j : Nat, (j : Int) ∈ zs → cntQ css j = (L.filter fun y => hasM a y (j : Int)).length
/-- the first k words were counted up -/
structure UpI (nw : Nat) (f : Nat → Nat → Nat) (css0 : List (List Nat)) (ws ms : List Nat) (k : Nat) (css : List (List Nat)) : Prop where
  d : DimC nw css
  v : ∀ q, q < nw → css.getD q [] = if q < k then goC f (css0.getD q []) (ws.getD q 0 &&& ms.getD q 0) else css0.getD q []
theorem UpI.start {f : Nat → Nat → Nat} (h : DimC nw css) : UpI nw f css ws ms 0 css := ⟨h, fun q hq => by rw [if_neg (by omega)]⟩
theorem and_lt64 {x y : Nat} (h : x < 18446744073709551616) : x &&& y < 18446744073709551616 := Nat.lt_of_le_of_lt Nat.and_le_left h
theorem UpI.step {f : Nat → Nat → Nat} (hf : ∀ c x, f c x ≤ x) {css0 : List (List Nat)} {k : Nat} (hw : W64 ws) (h : UpI nw f css0 ws ms k css) (hk : k < nw) : UpI nw f css0 ws ms (k + 1) (css.set k (goC f (css.getD k []) (ws.getD k 0 &&& ms.getD k 0))) := by
  obtain ⟨c, h1, h2, h3, h4⟩ := h.d.at_ hk
  refine ⟨h.d.set ⟨by rw [goC_len, h2, h3], goC_w64 hf (by rw [h2]; exact h4) (and_lt64 (getD_w64 hw k))⟩, fun q hq => ?_⟩
  rw [getD_set_at (by rw [h.d.len]; exact hk)]
  by_cases e : q = k
  · subst e
    rw [if_pos rfl, if_pos (by omega), h.v q hq, if_neg (by omega)]
  · rw [if_neg e, h.v q hq]
    by_cases h5 : q < k
    · rw [if_pos h5, if_pos (by omega)]
    · rw [if_neg h5, if_neg (by omega)]
theorem bit_pair {q b : Nat} (hb : b < 64) : (ws.getD q 0 &&& ms.getD q 0).testBit b = (hasR ws ((64 * q + b : Nat) : Int) && hasR ms ((64 * q + b : Nat) : Int)) := by
  rw [Nat.testBit_and, hasR_w _ _ _ hb, hasR_w _ _ _ hb]
theorem cntQ_w {q b : Nat} (hb : b < 64) : cntQ css (64 * q + b) = cntC (css.getD q []) b := by
  unfold cntQ
  rw [show (64 * q + b) / 64 = q by omega, show (64 * q + b) % 64 = b by omega]
theorem count_lt {N : Nat} (hc : CntOk a zs L css) (hL : L.length ≤ N) {j : Nat} (hj : (j : Int) ∈ zs) : cntQ css j ≤ N := by
  rw [hc j hj]; exact Nat.le_trans (List.length_filter_le _ _) hL
/-- a row's counts fit -/
theorem more_fits (hD : DimC nw css) (hM : MaskIs nw zs ms) (hc : CntOk a zs L css) (hL : L.length ≤ 4096) {k : Nat} (hk : k < nw) (hw : W64 ws) : fitC moreF (css.getD k []) (ws.getD k 0 &&& ms.getD k 0) := by
  obtain ⟨c, h1, h2, h3, h4⟩ := hD.at_ hk
  refine fitC_more (by rw [h2]; exact h4) (and_lt64 (getD_w64 hw k)) fun b hb hx => ?_
  rw [bit_pair hb, Bool.and_eq_true] at hx
  have := count_lt hc hL ((hM.has _).1 hx.2)
  rw [cntQ_w hb] at this
  rw [h2] at this ⊢
  rw [h3]
  have : (2 : Nat) ^ 13 = 8192 := by decide
  omega
theorem CntOk.up (hM : MaskIs nw zs ms) (hc : CntOk a zs L css) (hD : DimC nw css) (hL : L.length ≤ 4096) (hw : W64 ws) {z : Int} (hrow : ∀ j : Nat, hasM a z (j : Int) = hasR ws (j : Int)) {css' : List (List Nat)} (h : UpI nw moreF css ws ms nw css') : CntOk a zs (L ++ [z]) css' := fun j hj => by
  have hhas := (hM.has j).2 hj
  have hk : j / 64 < nw := by
    rcases Nat.lt_or_ge (j / 64) nw with h1 | h1
    · exact h1
    · rw [hasR_nat, getD_out _ _ (by rw [hM.len]; exact h1), Nat.zero_testBit] at hhas; cases hhas
  have hb : j % 64 < 64 := Nat.mod_lt _ (by omega)
  have e : j = 64 * (j / 64) + j % 64 := by omega
  obtain ⟨c, h1, h2, h3, h4⟩ := hD.at_ hk
  have hx : (ws.getD (j / 64) 0 &&& ms.getD (j / 64) 0).testBit (j % 64) = hasR ws (j : Int) := by
    rw [bit_pair hb, ← e, hhas, Bool.and_true]
  have hcnt := count_lt hc hL hj
  have hold := hc j hj
  unfold cntQ at hcnt hold ⊢
  rw [h.v _ hk, if_pos hk, cntC_more (by rw [h2]; exact h4) (and_lt64 (getD_w64 hw _)) hb (by
    rw [h2] at hcnt ⊢
    rw [h3]
    have h5 : (2 : Nat) ^ 13 = 8192 := by decide
    have h6 : ((ws.getD (j / 64) 0 &&& ms.getD (j / 64) 0).testBit (j % 64)).toNat ≤ 1 := Bool.toNat_le _
    omega), hold, hx, ← hrow j, List.filter_append, List.length_append]
  cases hz : hasM a z (j : Int) <;> simp [hz]
/-- the numbers that may go, of the first k words -/
structure NxI (nw : Nat) (css : List (List Nat)) (ms : List Nat) (k : Nat) (ns : List Nat) : Prop where
  len : ns.length = nw
  w64 : W64 ns
  v : ∀ q, q < nw → ns.getD q 0 = if q < k then ms.getD q 0 &&& noneC (css.getD q []) else 0
theorem NxI.start : NxI nw css ms 0 (List.replicate nw 0) := ⟨by simp, fun x hx => by rw [(List.mem_replicate.1 hx).2]; omega, fun q hq => by
  rw [if_neg (by omega), List.getD_eq_getElem?_getD, List.getElem?_replicate, if_pos hq]; rfl⟩
theorem NxI.step (hw : W64 ms) {k : Nat} (h : NxI nw css ms k ns) (hk : k < nw) : NxI nw css ms (k + 1) (ns.set k (ms.getD k 0 &&& noneC (css.getD k []))) :=
  ⟨by rw [List.length_set]; exact h.len, mem_set_lt h.w64 (and_lt64 (getD_w64 hw k)), fun q hq => by
    rw [getD_set_at (by rw [h.len]; exact hk)]
    by_cases e : q = k
    · subst e; rw [if_pos rfl, if_pos (by omega)]
    · rw [if_neg e, h.v q hq]
      by_cases h5 : q < k
      · rw [if_pos h5, if_pos (by omega)]
      · rw [if_neg h5, if_neg (by omega)]⟩
/-- what is known of the queue: O has gone, L is left -/
structure KahnS (a : List (List Nat)) (n nw : Nat) (zs O L : List Int) (ms ns : List Nat) (css : List (List Nat)) : Prop where
  s : SortS (RelZ a) zs O L
  F : FineZ n zs
  M : MaskIs nw zs ms
  D : DimC nw css
  cnt : CntOk a zs L css
  nl : ns.length = nw
  nw64 : W64 ns
  nx : ∀ j : Nat, hasR ns (j : Int) = true ↔ ((j : Int) ∈ L ∧ ∀ y ∈ L, ¬ RelZ a y (j : Int))
theorem none_ahead {j : Nat} : (L.filter fun y => hasM a y (j : Int)).length = 0 ↔ ∀ y ∈ L, ¬ RelZ a y (j : Int) := by
  rw [List.length_eq_zero_iff, List.filter_eq_nil_iff]; rfl
theorem KahnS.start (hF : FineZ n zs) (hM : MaskIs nw zs ms) (hD : DimC nw css) (hc : CntOk a zs zs css) (h : NxI nw css ms nw ns) : KahnS a n nw zs [] zs ms ns css :=
  ⟨⟨by simp, trivial⟩, hF, hM, hD, hc, h.len, h.w64, fun j => by
    have hb : j % 64 < 64 := Nat.mod_lt _ (by omega)
    by_cases hk : j / 64 < nw
    · obtain ⟨c, h1, h2, h3, h4⟩ := hD.at_ hk
      rw [hasR_nat, h.v _ hk, if_pos hk, Nat.testBit_and, noneC_bit (by rw [h2]; exact h4) hb, Bool.and_eq_true, decide_eq_true_eq, ← hasR_nat, hM.has]
      refine and_congr_right fun hj => ?_
      rw [← none_ahead, ← hc j hj]; rfl
    · have e1 : hasR ns (j : Int) = false := by rw [hasR_nat, getD_out _ _ (by rw [h.len]; omega), Nat.zero_testBit]
      have e2 : hasR ms (j : Int) = false := by rw [hasR_nat, getD_out _ _ (by rw [hM.len]; omega), Nat.zero_testBit]
      rw [e1]
      constructor
      · intro h; cases h
      · intro h
        have := (hM.has j).2 h.1
        rw [e2] at this; cases this⟩
/-- a number that was taken off, whose followers wait yet -/
structure KahnT (a : List (List Nat)) (n nw : Nat) (zs O L : List Int) (x : Nat) (ms ns : List Nat) (css : List (List Nat)) : Prop where
  s : SortS (RelZ a) zs O L
  F : FineZ n zs
  M : MaskIs nw zs ms
  D : DimC nw css
  cnt : CntOk a zs L css
  nl : ns.length = nw
  nw64 : W64 ns
  xL : (x : Int) ∈ L
  free : ∀ y ∈ L, ¬ RelZ a y (x : Int)
  least : ∀ y ∈ L, y < (x : Int) → ∃ z ∈ L, RelZ a z y
  nx : ∀ j : Nat, hasR ns (j : Int) = true ↔ (j ≠ x ∧ (j : Int) ∈ L ∧ ∀ y ∈ L, ¬ RelZ a y (j : Int))
theorem KahnS.left (h : KahnS a n nw zs O L ms ns css) {y : Int} (hy : y ∈ L) : 0 ≤ y ∧ y < (n : Int) := h.F.1 y (h.s.p.mem_iff.1 (List.mem_append.2 (.inr hy)))
theorem KahnS.take (h : KahnS a n nw zs O L ms ns css) {x : Nat} {ns' : List Nat} (hx : hasR ns (x : Int) = true) (hl : ∀ j : Nat, j < x → hasR ns (j : Int) = false) (h1 : ns'.length = nw) (h2 : W64 ns') (h3 : ∀ j : Nat, hasR ns' (j : Int) = (hasR ns (j : Int) && decide (j ≠ x))) :
    KahnT a n nw zs O L x ms ns' css := by
  have hxx := (h.nx x).1 hx
  refine ⟨h.s, h.F, h.M, h.D, h.cnt, h1, h2, hxx.1, hxx.2, fun y hy hlt => ?_, fun j => ?_⟩
  · have h4 := h.left hy
    obtain ⟨j, rfl⟩ := Int.eq_ofNat_of_zero_le h4.1
    have h5 := hl j (by omega)
    refine not_free (fun hf => ?_)
    have := (h.nx j).2 ⟨hy, hf⟩
    rw [h5] at this; cases this
  · rw [h3, Bool.and_eq_true, h.nx, decide_eq_true_eq]
    exact ⟨fun ⟨h4, h5⟩ => ⟨h5, h4⟩, fun ⟨h4, h5⟩ => ⟨h5, h4⟩⟩
theorem KahnS.stuck (h : KahnS a n nw zs O L ms ns css) (h0 : ∀ j : Nat, hasR ns (j : Int) = false) : (L = [] ∧ SortIs (RelZ a) n zs O 0) ∨ (L ≠ [] ∧ SortIs (RelZ a) n zs [] 7) := by
  by_cases hL : L = []
  · subst hL; exact .inl ⟨rfl, h.s.done h.F⟩
  · refine .inr ⟨hL, .inr (.inr ⟨h.F, rfl, rfl, (· ∈ L), ?_, fun x hx => ⟨h.s.p.mem_iff.1 (List.mem_append.2 (.inr hx)), ?_⟩⟩)⟩
    · cases L with
      | nil => exact absurd rfl hL
      | cons x L => exact ⟨x, h.s.p.mem_iff.1 (by simp), by simp⟩
    · have h4 := h.left hx
      obtain ⟨j, rfl⟩ := Int.eq_ofNat_of_zero_le h4.1
      refine not_free (fun hf => ?_)
      have := (h.nx j).2 ⟨hx, hf⟩
      rw [h0] at this; cases this
theorem KahnT.fits {x : Nat} (h : KahnT a n nw zs O L x ms ns css) {ws : List Nat} (hrow : ∀ j : Nat, hasM a (x : Int) (j : Int) = hasR ws (j : Int)) (hw : W64 ws) (k : Nat) : fitC lessF (css.getD k []) (ws.getD k 0 &&& ms.getD k 0) := by
  refine fitC_less (and_lt64 (getD_w64 hw k)) fun b hb hx => ?_
  rw [bit_pair hb, Bool.and_eq_true] at hx
  have hj := (h.M.has _).1 hx.2
  have := h.cnt _ hj
  rw [cntQ_w hb] at this
  rw [this]
  refine List.length_pos_of_mem (List.mem_filter.2 ⟨h.xL, ?_⟩)
  rw [hrow]; exact hx.1
/-- the first k words were counted down, those with none ahead may go -/
structure DownI (nw : Nat) (css0 : List (List Nat)) (ns0 ws ms : List Nat) (k : Nat) (css : List (List Nat)) (ns : List Nat) : Prop where
  u : UpI nw lessF css0 ws ms k css
  len : ns.length = nw
  w64 : W64 ns
  v : ∀ q, q < nw → ns.getD q 0 = if q < k then ns0.getD q 0 ||| (ws.getD q 0 &&& ms.getD q 0 &&& noneC (goC lessF (css0.getD q []) (ws.getD q 0 &&& ms.getD q 0))) else ns0.getD q 0
theorem DownI.start (h : DimC nw css) (hl : ns.length = nw) (hw : W64 ns) : DownI nw css ns ws ms 0 css ns := ⟨UpI.start h, hl, hw, fun q hq => by rw [if_neg (by omega)]⟩
theorem DownI.step {css0 : List (List Nat)} {ns0 : List Nat} {k : Nat} (hw : W64 ws) (h : DownI nw css0 ns0 ws ms k css ns) (hk : k < nw) :
    DownI nw css0 ns0 ws ms (k + 1) (css.set k (goC lessF (css.getD k []) (ws.getD k 0 &&& ms.getD k 0))) (ns.set k (ns.getD k 0 ||| (ws.getD k 0 &&& ms.getD k 0 &&& noneC (goC lessF (css.getD k []) (ws.getD k 0 &&& ms.getD k 0))))) := by
  refine ⟨h.u.step lessF_kept hw hk, by rw [List.length_set]; exact h.len, mem_set_lt h.w64 ?_, fun q hq => ?_⟩
  · have := Nat.or_lt_two_pow (n := 64) (x := ns.getD k 0) (y := ws.getD k 0 &&& ms.getD k 0 &&& noneC (goC lessF (css.getD k []) (ws.getD k 0 &&& ms.getD k 0))) (by simpa using getD_w64 h.w64 k) (by simpa using and_lt64 (and_lt64 (getD_w64 hw k)))
    simpa using this
  · rw [getD_set_at (by rw [h.len]; exact hk)]
    by_cases e : q = k
    · subst e; rw [if_pos rfl, if_pos (by omega), h.v q hq, if_neg (by omega), h.u.v q hq, if_neg (by omega)]
    · rw [if_neg e, h.v q hq]
      by_cases h5 : q < k
      · rw [if_pos h5, if_pos (by omega)]
      · rw [if_neg h5, if_neg (by omega)]
theorem set_same {α : Type} {l : List α} {k : Nat} {d : α} (hk : k < l.length) : l.set k (l.getD k d) = l := by
  apply List.ext_getElem?; intro i
  rw [List.getElem?_set]
  by_cases h : k = i
  · subst h; rw [if_pos rfl, if_pos hk, List.getD_eq_getElem?_getD, List.getElem?_eq_getElem hk]; rfl
  · rw [if_neg h]
theorem DownI.skip {css0 : List (List Nat)} {ns0 : List Nat} {k : Nat} (hw : W64 ws) (h : DownI nw css0 ns0 ws ms k css ns) (hk : k < nw) (h0 : ws.getD k 0 &&& ms.getD k 0 = 0) : DownI nw css0 ns0 ws ms (k + 1) css ns := by
  have := h.step hw hk
  rwa [h0, goC_zero lessF_kept, Nat.zero_and, Nat.or_zero, set_same (by rw [h.u.d.len]; exact hk), set_same (by rw [h.len]; exact hk)] at this
theorem KahnT.next {x : Nat} (h : KahnT a n nw zs O L x ms ns css) {ws : List Nat} (hrow : ∀ j : Nat, hasM a (x : Int) (j : Int) = hasR ws (j : Int)) (hw : W64 ws) {css' : List (List Nat)} {ns' : List Nat} (hd : DownI nw css ns ws ms nw css' ns') :
    KahnS a n nw zs (O ++ [(x : Int)]) (L.erase (x : Int)) ms ns' css' := by
  have hp : L.Perm ((x : Int) :: L.erase (x : Int)) := List.perm_cons_erase h.xL
  have hnd : (O ++ L).Nodup := h.s.p.nodup_iff.2 h.F.2
  have hndL : L.Nodup := (List.nodup_append.1 hnd).2.1
  have hmem : ∀ y : Int, y ∈ L.erase (x : Int) ↔ y ≠ (x : Int) ∧ y ∈ L := fun y => hndL.mem_erase_iff
  have hs : SortS (RelZ a) zs (O ++ [(x : Int)]) (L.erase (x : Int)) := ⟨by
    refine List.Perm.trans ?_ h.s.p
    rw [List.append_assoc]
    exact hp.symm.append_left O, FirstPre.snoc hp h.free h.least h.s.f⟩
  have hcnt : CntOk a zs (L.erase (x : Int)) css' := fun j hj => by
    have hhas := (h.M.has j).2 hj
    have hk : j / 64 < nw := by
      rcases Nat.lt_or_ge (j / 64) nw with h1 | h1
      · exact h1
      · rw [hasR_nat, getD_out _ _ (by rw [h.M.len]; exact h1), Nat.zero_testBit] at hhas; cases hhas
    have hb : j % 64 < 64 := Nat.mod_lt _ (by omega)
    have e : j = 64 * (j / 64) + j % 64 := by omega
    have hx : (ws.getD (j / 64) 0 &&& ms.getD (j / 64) 0).testBit (j % 64) = hasR ws (j : Int) := by
      rw [bit_pair hb, ← e, hhas, Bool.and_true]
    have hold := h.cnt j hj
    rw [(hp.filter _).length_eq] at hold
    have hle := cntC_less (cs := css.getD (j / 64) []) (x := ws.getD (j / 64) 0 &&& ms.getD (j / 64) 0) (b := j % 64) (fun hxb => by
      have h5 : hasM a (x : Int) (j : Int) = true := by rw [hrow, ← hx]; exact hxb
      unfold cntQ at hold
      rw [hold, List.filter_cons, if_pos h5, List.length_cons]; omega)
    unfold cntQ at hold ⊢
    rw [hd.u.v _ hk, if_pos hk]
    rw [hx, ← hrow j, hold, List.filter_cons] at hle
    cases hz : hasM a (x : Int) (j : Int) with
    | true => simp only [hz, if_true, List.length_cons, Bool.toNat_true] at hle; omega
    | false => simp only [hz, Bool.toNat_false] at hle; simpa using hle
  refine ⟨hs, h.F, h.M, hd.u.d, hcnt, hd.len, hd.w64, fun j => ?_⟩
  have hb : j % 64 < 64 := Nat.mod_lt _ (by omega)
  have e : j = 64 * (j / 64) + j % 64 := by omega
  have key : hasR ns' (j : Int) = true ↔ (hasR ns (j : Int) = true ∨ (hasR ws (j : Int) = true ∧ (j : Int) ∈ zs ∧ cntQ css' j = 0)) := by
    by_cases hk : j / 64 < nw
    · obtain ⟨c, h1, h2, h3, h4⟩ := hd.u.d.at_ hk
      have hcq : goC lessF (css.getD (j / 64) []) (ws.getD (j / 64) 0 &&& ms.getD (j / 64) 0) = css'.getD (j / 64) [] := by rw [hd.u.v _ hk, if_pos hk]
      rw [hasR_nat ns', hd.v _ hk, if_pos hk, Nat.testBit_or, Nat.testBit_and, bit_pair hb, ← e, hcq, noneC_bit (by rw [h2]; exact h4) hb, ← hasR_nat, Bool.or_eq_true, Bool.and_eq_true, Bool.and_eq_true, decide_eq_true_eq, h.M.has, and_assoc]
      exact Iff.rfl
    · have e1 : hasR ns' (j : Int) = false := by rw [hasR_nat, getD_out _ _ (by rw [hd.len]; omega), Nat.zero_testBit]
      have e2 : hasR ns (j : Int) = false := by rw [hasR_nat, getD_out _ _ (by rw [h.nl]; omega), Nat.zero_testBit]
      have e3 : hasR ms (j : Int) = false := by rw [hasR_nat, getD_out _ _ (by rw [h.M.len]; omega), Nat.zero_testBit]
      rw [e1, e2]
      constructor
      · intro h; cases h
      · rintro (h5 | ⟨_, h5, _⟩)
        · cases h5
        · have := (h.M.has j).2 h5
          rw [e3] at this; cases this
  rw [key, h.nx, hmem]
  constructor
  · rintro (⟨h1, h2, h3⟩ | ⟨h1, h2, h3⟩)
    · exact ⟨⟨by omega, h2⟩, fun y hy => h3 y ((hmem y).1 hy).2⟩
    · rw [hcnt j h2, none_ahead] at h3
      have hR : RelZ a (x : Int) (j : Int) := by unfold RelZ; rw [hrow]; exact h1
      have hne : (j : Int) ≠ (x : Int) := fun e => h.free x h.xL (by rw [e] at hR; exact hR)
      refine ⟨⟨hne, ?_⟩, h3⟩
      rcases List.mem_append.1 (h.s.p.mem_iff.2 h2) with h4 | h4
      · exfalso
        have hO : ∀ {O : List Int}, FirstPre (RelZ a) O L → (j : Int) ∈ O → False := fun {O} => by
          induction O with
          | nil => intro _ h; cases h
          | cons u O ih =>
            intro hf hj
            rcases List.mem_cons.1 hj with h5 | h5
            · exact hf.1 (x : Int) (List.mem_cons.2 (.inr (List.mem_append.2 (.inr h.xL)))) (h5 ▸ hR)
            · exact ih hf.2.2 h5
        exact hO h.s.f h4
      · exact h4
  · rintro ⟨⟨h1, h2⟩, h3⟩
    have hjz : (j : Int) ∈ zs := h.s.p.mem_iff.1 (List.mem_append.2 (.inr h2))
    by_cases hR : hasR ws (j : Int) = true
    · exact .inr ⟨hR, hjz, by rw [hcnt j hjz, none_ahead]; exact h3⟩
    · refine .inl ⟨by omega, h2, fun y hy => ?_⟩
      by_cases hyx : y = (x : Int)
      · subst hyx; unfold RelZ; rw [hrow]; exact hR
      · exact h3 y ((hmem y).2 ⟨hyx, hy⟩)
end
end Go.Proofs.Ytpgcokkmhlhnpaa

namespace Go.Proofs.Ytpgcokkmhlhnpaa
open Go.RowKit
set_option linter.unusedVariables false

theorem RowsAt.farK {w : World} {C : Option Addr} {p g : Nat} {t : TypeId} {xss : List (List Nat)} {N : Int} {A : Option Addr} {n c : Nat} {yss : List (List Nat)} (h : RowsAt w C p xss) (hM : MatK w g t N A n c yss) (hn : 0 < n) : 0 < p → ∀ ad, C = some ad → ad.block ≠ g := by
  intro h0 ad e
  obtain ⟨b, off, B, m, d, xs, e2, _, hx, hc, hr⟩ := h.at_ h0
  rw [e] at e2
  cases e2
  intro hb
  have hb' : b = g := hb
  subst hb'
  rw [Blk.cell hM.1] at hc
  match off + 0, hc with
  | 0, hc => simp at hc
  | 1, hc =>
    simp at hc
    obtain ⟨rfl, rfl, rfl⟩ := hc
    obtain ⟨b3, o3, x, e3, _, _, _, h3⟩ := hr.at_ hn
    obtain ⟨b4, o4, B4, m4, d4, xs4, e4, _, _, h4, _⟩ := hM.2.at_ hn
    rw [e3] at e4
    cases e4
    rw [h3] at h4
    cases h4
  | k + 2, hc => simp at hc
theorem MatK.put2 {w : World} {g : Nat} {t : TypeId} {N : Int} {A : Option Addr} {n c : Nat} (h : MatB w g t N A n c) {G : Nat} {t' : TypeId} {M : Int} {B : Option Addr} {m d : Nat} {yss : List (List Nat)} (k : MatK w G t' M B m d yss) (hne : G ≠ g) (hb : 0 < m → ∀ ad, B = some ad → ad.block ≠ g) (x y : Value) : MatK ((w.setCell ⟨g, 0, none⟩ x).setCell ⟨g, 1, none⟩ y) G t' M B m d yss :=
  ⟨(k.1.farB (p := ⟨g, 0, none⟩) (by simpa using hne) _).farB (p := ⟨g, 1, none⟩) (by simpa using hne) _, k.2.putB h hb _ _⟩
theorem Ints.setCell {w : World} {A : Option Addr} {n : Nat} {zs : List Int} {p : Addr} (h : Ints w A n zs) (hne : ∀ ad, A = some ad → ad.block ≠ p.block) (u : Value) : Ints (w.setCell p u) A n zs := ⟨h.1.setCell hne u, h.2⟩
theorem Conn.lt {n : Nat} {a : List (List Nat)} (hG : Good n a) {i j : Nat} (h : Conn (Rel a) i j) : i < n ∧ j < n := by
  induction h with
  | one h => exact hG.has_lt h
  | step _ h ih => exact ⟨ih.1, (hG.has_lt h).2⟩
/-- what is laid so far: the rows ahead of i, and some of row i -/
def CloseR (n : Nat) (a : List (List Nat)) (i : Nat) (l : List Nat) (X : List (List Nat)) : Prop := Good n X ∧ ∀ x y : Nat, Rel X x y ↔ (x < i ∧ Conn (Rel a) x y) ∨ (x = i ∧ y ∈ l)
section
variable {n : Nat} {a X : List (List Nat)} {i : Nat} {l : List Nat}
theorem CloseR.start (hn : n ≤ 4096) : CloseR n a 0 [] (newM n) := ⟨Good.new hn, fun x y => by
  unfold Rel
  rw [newM_has]
  constructor
  · intro h; cases h
  · rintro (⟨h, _⟩ | ⟨_, h⟩)
    · omega
    · cases h⟩
theorem CloseR.set (h : CloseR n a i l X) {y : Nat} (hi : i < n) (hy : y < n) : CloseR n a i (l ++ [y]) (setM X (i : Int) (y : Int)) := ⟨h.1.set hi hy, fun u v => by
  rw [rel_set h.1 hi hy, h.2]
  simp only [List.mem_append, List.mem_singleton]
  constructor
  · rintro ((h1 | ⟨h1, h2⟩) | ⟨h1, h2⟩)
    · exact .inl h1
    · exact .inr ⟨h1, .inl h2⟩
    · exact .inr ⟨h1, .inr h2⟩
  · rintro (h1 | ⟨h1, h2 | h2⟩)
    · exact .inl (.inl h1)
    · exact .inl (.inr ⟨h1, h2⟩)
    · exact .inr ⟨h1, h2⟩⟩
theorem CloseR.next (h : CloseR n a i l X) (hG : Good n a) (hl : ∀ x : Nat, x ∈ l ↔ x < n ∧ Conn (Rel a) i x) : CloseR n a (i + 1) [] X := ⟨h.1, fun u v => by
  rw [h.2, hl]
  constructor
  · rintro (⟨h1, h2⟩ | ⟨rfl, _, h2⟩)
    · exact .inl ⟨by omega, h2⟩
    · exact .inl ⟨by omega, h2⟩
  · rintro (⟨h1, h2⟩ | ⟨_, h2⟩)
    · rcases Nat.lt_succ_iff_lt_or_eq.1 h1 with h3 | h3
      · exact .inl ⟨h3, h2⟩
      · subst h3
        exact .inr ⟨rfl, (Conn.lt hG h2).2, h2⟩
    · cases h2⟩
theorem CloseR.all (h : CloseR n a n [] X) (hG : Good n a) : X = closeK a n :=
  IsHull.unique (r := Rel a) ⟨h.1, fun u v => by
    rw [h.2]
    constructor
    · rintro (⟨_, h2⟩ | ⟨_, h2⟩)
      · exact h2
      · cases h2
    · intro h2
      exact .inl ⟨(Conn.lt hG h2).1, h2⟩⟩ (closeK_hull hG) fun _ _ => Iff.rfl
end
/-- a matrix all of whose blocks are the call's own -/
def RetMat1G (N : Int) (xss : List (List Nat)) (w : World) (e : Ending) (w' : World) : Prop :=
  ∃ A n c, e = .returned (.agg #[.int .i64 N, .slice A n c]) ∧ RowsG w.heap.size w' A n xss ∧ n ≤ c ∧ Below w.heap.size w w'
set_option maxRecDepth 100000 in
set_option maxHeartbeats 4000000 in
theorem ref4_CloseG (A : Option Addr) (n c : Nat) (a : List (List Nat)) (w : World) (hr : RowsAt w A n a) (hG : Good n a) (hn64 : n < 64) :
    Calls Try.prog 19 #[.agg #[.int .i64 (n : Int), .slice A n c]] w (RetMat1G (n : Int) (closeK a n) w) := by
  have hnn : n ≤ 4096 := hG.le
  obtain ⟨W0, hW0⟩ : ∃ W0, W0 = (w.alloc (.cells #[.int .i64 n, .slice A n c] 39)).alloc (.cells #[.int .i64 0, .slice none 0 0] 39) := ⟨_, rfl⟩
  have bb := Lib.hid (show Below w.heap.size w W0 by rw [hW0]; exact ((Below.refl _ _).alloc (Nat.le_refl _) _).alloc (by simp) _)
  have k1 := Lib.hid (show MatK W0 w.heap.size 39 n A n c a by rw [hW0]; exact (MatK.new w _ hr).below (below_alloc _ _))
  have m2 := Lib.hid (show MatB W0 (w.heap.size + 1) 39 0 none 0 0 by rw [hW0]; exact MatB.new1 w _ _)
  have cN := Lib.hid (fun W => ref3_NewG n hnn W)
  have cR := Lib.hid (fun (i : Nat) (hi : i < n) W (hW : RowsAt W A n a) => ref4_Reach A n c a i W hW hG hi)
  have cS := Lib.hid (fun (i y : Nat) (hi : i < n) (hy : y < n) C d X (hX : Good n X) W (hW : RowsG w.heap.size W C n X) (hs : w.heap.size ≤ W.heap.size) => ref3_SetG w.heap.size (n : Int) C n d X (i : Int) (y : Int) W hW hs rfl hnn (fun xs hx => by have := hX.small xs hx; omega) (by unfold inM; simp; omega))
  replace hG := Lib.hid hG
  clear hr
  have qk10 := k1.out.1.c0
  have qk11 := k1.out.1.c1
  go_enter Try.func19, Try.ntmps19
  go_wp2_with fail
  rw [← hW0]
  clear hW0
  go_wp2_with fail
  refine (cN.out W0).mono ?_; rintro e w1 ⟨A3, n3, c3, rfl, s3, hc3, b, -⟩
  have r3 := s3.at
  obtain rfl : n = n3 := by have := r3.len; simp [newM] at this; omega
  replace s3 := s3.mono (show w.heap.size ≤ W0.heap.size from bb.out.size)
  replace m2 := Lib.hid (m2.out.below b)
  obtain ⟨W1, hW1⟩ : ∃ W1, W1 = w1.alloc (.cells #[.int .i64 n, .slice A3 n c3] 39) := ⟨_, rfl⟩
  obtain ⟨G3, hG3⟩ : ∃ G, G = w1.heap.size := ⟨_, rfl⟩
  have ba : Below w1.heap.size w1 W1 := by rw [hW1]; exact below_alloc _ _
  have k3 := Lib.hid (show MatK W1 G3 39 n A3 n c3 (newM n) from ⟨by rw [hW1, hG3]; exact MatB.new _ _, r3.below ba⟩)
  replace s3 := Lib.hid (s3.below ba)
  have hlt := m2.out.lt
  have h23 : w.heap.size + 1 < G3 := by omega
  replace m2 := Lib.hid (m2.out.below ba)
  replace b := below_trans2 b ba
  replace k1 := Lib.hid (k1.out.below b)
  replace qk10 := k1.out.1.c0
  replace qk11 := k1.out.1.c1
  replace bb := Lib.hid (below_trans2 bb.out b)
  clear b
  rw [hW1] at qk10 qk11
  clear ba r3 hlt
  go_wp2_with fail
  rw [← hW1, ← hG3]
  clear hW1 hG3 qk10 qk11
  go_loopw [5] (fun t wr => ∃ (i : Nat) (A3 : Option Addr) (c3 : Nat) (X : List (List Nat)), i ≤ n ∧ t = .int .i64 i ∧ Hid (CloseR n a i [] X) ∧ Hid (n ≤ c3) ∧ Hid (MatK wr w.heap.size 39 n A n c a) ∧ Hid (MatB wr (w.heap.size + 1) 39 0 none 0 0) ∧ Hid (MatK wr G3 39 n A3 n c3 X) ∧ Hid (RowsG w.heap.size wr A3 n X) ∧ Hid (Below w.heap.size w wr)) (fun t _ => n - (intOf t).toNat)
  case atStart => exact ⟨0, A3, c3, newM n, Nat.zero_le _, rfl, Lib.hid (CloseR.start hnn), Lib.hid hc3, k1, m2, k3, s3, bb⟩
  case round =>
    clear k1 m2 k3 s3 bb
    obtain ⟨i, A3, c3, X, hi, rfl, hX, hc3', k1, m2, k3, s3, bb⟩ := hrel
    have qk10 := k1.out.1.c0
    have qk11 := k1.out.1.c1
    by_cases hlt : i < n
    · have cRi := Lib.hid (cR.out i hlt wr k1.out.2)
      go_wp2_with fail
      refine cRi.out.mono ?_; rintro e w2 ⟨B, m, d, l, rfl, hl, hmem, hll, hfr, b⟩
      have hlm : l.length = m := by have := hl.len; simpa using this
      have h3 : G3 < wr.heap.size := k3.out.1.lt
      have hfr3 : Hid (∀ ad, B = some ad → ad.block ≠ G3) := Lib.hid (fun ad e => by have := hfr ad e; omega)
      replace m2 := Lib.hid (m2.out.below b)
      replace s3 := Lib.hid (s3.out.below b)
      replace k1 := Lib.hid (k1.out.below b)
      replace qk10 := k1.out.1.c0
      replace qk11 := k1.out.1.c1
      replace k3 := Lib.hid (k3.out.below b)
      replace qk30 := k3.out.1.c0
      replace qk31 := k3.out.1.c1
      replace bb := Lib.hid (below_trans2 bb.out b)
      clear b
      replace hl := Lib.hid hl
      replace hmem := Lib.hid hmem
      have hm64 : m ≤ 64 := by omega
      replace hlm := Lib.hid hlm
      clear cRi hfr h3 hll
      go_wp2_with fail
      clear qk10 qk11 qk30 qk31
      go_loopw [7] (fun t wr => ∃ (k : Nat) (A3 : Option Addr) (c3 : Nat) (X : List (List Nat)), k ≤ m ∧ t = .int .i64 k ∧ Hid (CloseR n a i (l.take k) X) ∧ Hid (n ≤ c3) ∧ Hid (MatK wr w.heap.size 39 n A n c a) ∧ Hid (MatB wr (w.heap.size + 1) 39 0 none 0 0) ∧ Hid (MatK wr G3 39 n A3 n c3 X) ∧ Hid (RowsG w.heap.size wr A3 n X) ∧ Hid (Below w.heap.size w wr) ∧ Hid (Ints wr B m (l.map Int.ofNat))) (fun t _ => m - (intOf t).toNat)
      case atStart => exact ⟨0, A3, c3, X, Nat.zero_le _, rfl, hX, hc3', k1, m2, k3, s3, bb, hl⟩
      case round =>
        clear hX hc3' k1 m2 k3 s3 bb hl
        obtain ⟨k, A3, c3, X, hk, rfl, hX, hc3', k1, m2, k3, s3, bb, hl⟩ := hrel
        by_cases hkm : k < m
        · obtain ⟨b4, o4, x, rfl, hb4, hx, hx64, c4⟩ := hl.out.at_ hkm
          obtain ⟨y, hy, rfl⟩ : ∃ y : Nat, l[k]? = some y ∧ (y : Int) = x := by
            rw [List.getElem?_map] at hx
            cases hh : l[k]? with
            | none => rw [hh] at hx; cases hx
            | some y => rw [hh] at hx; exact ⟨y, rfl, by simpa using hx⟩
          have hyn : y < n := ((hmem.out y).1 (List.mem_of_getElem? hy)).1
          have cSk := Lib.hid (cS.out i y hlt hyn A3 c3 X hX.out.1)
          have hX2 := Lib.hid (hX.out.set hlt hyn)
          rw [show l.take k ++ [y] = l.take (k + 1) by rw [List.take_succ_eq_append_getElem (List.getElem?_eq_some_iff.1 hy).1, (List.getElem?_eq_some_iff.1 hy).2]] at hX2
          have hk0 : (0 : Int) ≤ (k : Int) := by omega
          have hkm' : (k : Int) < (m : Int) := by omega
          clear hx hx64 hy
          have qk30 := k3.out.1.c0
          have qk31 := k3.out.1.c1
          go_wp2_with fail
          refine wp_region_planT 8 [(true, 0), (true, 1), (true, 2), (true, 3), (true, 4), (true, 5), (false, 6), (true, 7)] 10 [8, 9] (by kernel_rfl) (by kernel_rfl) (fun W1 hW1 => ?_)
          replace k1 := Lib.hid (show MatK W1 w.heap.size 39 n A n c a by rw [hW1.out]; exact k1.out.drew)
          replace s3 := Lib.hid (show RowsG w.heap.size W1 A3 n X by rw [hW1.out]; exact s3.out.below (Below.refl _ _).drew)
          replace k3 := Lib.hid (show MatK W1 G3 39 n A3 n c3 X by rw [hW1.out]; exact k3.out.drew)
          replace m2 := Lib.hid (show MatB W1 (w.heap.size + 1) 39 0 none 0 0 by rw [hW1.out]; exact Blk.drew m2.out)
          replace bb := Lib.hid (show Below w.heap.size w W1 by rw [hW1.out]; exact bb.out.drew)
          replace hl := Lib.hid (show Ints W1 (some ⟨b4, o4, none⟩) m (l.map Int.ofNat) by rw [hW1.out]; exact hl.out)
          replace c4 : W1.cell? ⟨b4, o4 + k, none⟩ = some (.int .i64 (y : Int)) := by rw [hW1.out]; exact c4
          clear hW1 qk30 qk31
          simp only [List.drop_succ_cons, List.drop_zero]
          have qk30 := k3.out.1.c0
          have qk31 := k3.out.1.c1
          iterate 6
            refine wpPlanE_float (v := ?_) rfl (by rfl) (fun w' hw' => ?_) (fun K hK => ?_)
            rotate_left
            · (go_simp; try with_reducible rfl)
            go_simp
            refine hK _ ?_
            clear hK K
          clear c4 qk30 qk31
          refine wpPlanE_only rfl (by rfl) (fun K hK => ?_)
          go_simp
          refine (cSk.out W1 s3.out bb.out.size).mono ?_
          rintro e w3 ⟨D, nn, dd, rfl, sD, hcD, b, -⟩
          have rD := sD.at
          obtain rfl : n = nn := by have := rD.len; have := hX2.out.1.len; omega
          refine hK _ _ b ?_
          clear hK K cSk
          replace m2 := Lib.hid (m2.out.below b)
          replace hl := Lib.hid (hl.out.below b)
          replace k1 := Lib.hid (k1.out.below b)
          replace k3 := Lib.hid (k3.out.below b)
          replace bb := Lib.hid (below_trans2 bb.out b)
          replace rD := Lib.hid rD
          replace sD := Lib.hid sD
          clear s3
          replace hcD := Lib.hid hcD
          clear b
          iterate 1
            refine wpPlanE_float (v := ?_) rfl (by rfl) (fun w' hw' => ?_) (fun K hK => ?_)
            rotate_left
            · (go_simp; try with_reducible rfl)
            go_simp
            refine hK _ ?_
            clear hK K
          refine wpPlanE_nil ?_
          iterate 2
            refine wpPlanT_float (v := ?_) rfl (by rfl) (fun w' => ?_) (fun K hK => ?_)
            rotate_left
            · (go_simp; try with_reducible rfl)
            go_simp
            refine hK _ ?_
            clear hK K
          refine wpPlanT_nil ?_
          have qk30 := k3.out.1.c0
          have qk31 := k3.out.1.c1
          have f0 := k3.out.1.frozen 0
          have f1 := k3.out.1.frozen 1
          go_wp2_with fail
          refine NoPanic.normal ?_
          clear f0 f1 qk30 qk31
          obtain ⟨Wz, hWz⟩ : ∃ X : World, X = (w3.setCell ⟨G3, 0, none⟩ (.int .i64 n)).setCell ⟨G3, 1, none⟩ (.slice D n dd) := ⟨_, rfl⟩
          rw [← hWz]
          have hn0 : 0 < n := by omega
          have k3' := Lib.hid (show MatK Wz G3 39 n D n dd (setM X (i : Int) (y : Int)) by rw [hWz]; exact ⟨k3.out.1.put n D n dd, rD.out.putB k3.out.1 (rD.out.farK k3.out hn0) _ _⟩)
          have s3' := Lib.hid (show RowsG w.heap.size Wz D n (setM X (i : Int) (y : Int)) by rw [hWz]; exact sD.out.putB k3.out.1 (rD.out.farK k3.out hn0) _ _)
          have k1' := Lib.hid (show MatK Wz w.heap.size 39 n A n c a by rw [hWz]; exact MatK.put2 k3.out.1 k1.out (by omega) (k1.out.2.farK k3.out hn0) _ _)
          have m2' := Lib.hid (show MatB Wz (w.heap.size + 1) 39 0 none 0 0 by rw [hWz]; exact (m2.out.farB (p := ⟨G3, 0, none⟩) (by simp <;> omega) _).farB (p := ⟨G3, 1, none⟩) (by simp <;> omega) _)
          have hl' := Lib.hid (show Ints Wz (some ⟨b4, o4, none⟩) m (l.map Int.ofNat) by rw [hWz]; exact (hl.out.setCell (p := ⟨G3, 0, none⟩) (fun ad e => hfr3.out ad e) _).setCell (p := ⟨G3, 1, none⟩) (fun ad e => hfr3.out ad e) _)
          replace bb := Lib.hid (show Below w.heap.size w Wz by rw [hWz]; exact (bb.out.setCell (p := ⟨G3, 0, none⟩) (by simp <;> omega) _).setCell (p := ⟨G3, 1, none⟩) (by simp <;> omega) _)
          clear hWz k1 k3 m2 hl rD sD
          go_wp2_with fail
          go_roundw
          case rel => exact ⟨k + 1, D, dd, _, by omega, by go_num, hX2, hcD, k1', m2', k3', s3', bb, hl'⟩
          case measure => simp [intOf]; omega
        · obtain rfl : k = m := by omega
          rw [List.take_of_length_le (by rw [hlm.out]; exact Nat.le_refl _)] at hX
          have hX2 := Lib.hid (hX.out.next hG.out hmem.out)
          clear hl
          go_wp2_with fail
          go_roundw
          case rel => exact ⟨i + 1, A3, c3, X, by omega, by go_num, hX2, hc3', k1, m2, k3, s3, bb⟩
          case measure => simp [intOf]; omega
    · obtain rfl : i = n := by omega
      have he := hX.out.all hG.out
      have hone := hX.out.1.one hn64
      replace he := Lib.hid he
      replace hone := Lib.hid hone
      have qk30 := k3.out.1.c0
      have qk31 := k3.out.1.c1
      have f0 := m2.out.c0
      have f1 := m2.out.c1
      have g0 := m2.out.frozen 0
      have g1 := m2.out.frozen 1
      clear hX
      go_wp2_with fail
      have hcc := m2.out.two (.int .i64 i) (.slice A3 i c3)
      have hc1 := hcc.1
      have hc2 := hcc.2
      clear hcc f0 f1 g0 g1
      refine bodyPost_ret (v := .agg #[.int .i64 i, .slice A3 i c3]) (by simp [results, Try.results19, go_sem, hc1, hc2]) rfl ⟨_, _, _, rfl, ?_, hc3'.out, ?_⟩
      · rw [← he.out]
        exact s3.out.putB m2.out (k3.out.2.farM m2.out hone.out) _ _
      · exact (bb.out.setCell (p := ⟨w.heap.size + 1, 0, none⟩) (by simp) _).setCell (p := ⟨w.heap.size + 1, 1, none⟩) (by simp) _
theorem ref4_Close (A : Option Addr) (n c : Nat) (a : List (List Nat)) (w : World) (hr : RowsAt w A n a) (hG : Good n a) (hn64 : n < 64) :
    Calls Try.prog 19 #[.agg #[.int .i64 (n : Int), .slice A n c]] w (RetMat1 (n : Int) (closeK a n) w) :=
  (ref4_CloseG A n c a w hr hG hn64).mono fun _ _ ⟨A', n', c', h1, h2, h3, h4⟩ => ⟨A', n', c', h1, h2.at, h3, h4⟩

end Go.Proofs.Ytpgcokkmhlhnpaa

namespace Go.Proofs.Ytpgcokkmhlhnpaa
open Go.RowKit
set_option linter.unusedVariables false
theorem topo_below (i n : Int) (w : World) :
    Calls Try.prog 47 #[.int .i64 i, .int .i64 n] w fun e w' => e = .returned (.bool (belowZ i n)) ∧ w = w' := by
  unfold belowZ
  by_cases hi : 0 ≤ i
  · have d1 : decide (0 ≤ i) = true := decide_eq_true hi
    rw [d1, Bool.true_and]
    go_enter Try.func47, Try.ntmps47
    go_wp2
    go_ret
    exact ⟨rfl, rfl⟩
  · have d1 : decide (0 ≤ i) = false := decide_eq_false hi
    rw [d1, Bool.false_and]
    go_enter Try.func47, Try.ntmps47
    go_wp2
    go_ret
    exact ⟨rfl, rfl⟩
/-- a call that lays other words into a block -/
def RetBlk (g : Nat) (t : TypeId) (cs : List Value) (w : World) (e : Ending) (w' : World) : Prop := e = .returned (.tuple #[]) ∧ Blk w' g t cs ∧ OnlyAt g w w'
set_option maxHeartbeats 1000000 in
theorem topo_put (g n c : Nat) (xs : List Nat) (i : Nat) (w : World) (hB : Blk w g 99 (xs.map u64v)) (hl : xs.length = n) (hx : W64 xs) (hi : i < 64 * n) (hn : n ≤ 1073741824) :
    Calls Try.prog 48 #[.slice (some ⟨g, 0, none⟩) n c, .int .i64 (i : Int)] w (RetBlk g 99 ((setR xs (i : Int)).map u64v) w) := by
  obtain ⟨x, hxe⟩ : ∃ x, xs[i / 64]? = some x := ⟨_, List.getElem?_eq_getElem (by omega)⟩
  have hx64 : x < 18446744073709551616 := hx x (List.mem_of_getElem? hxe)
  have hS := setR_in (m := i) (by omega) hxe
  obtain ⟨r, hre⟩ : ∃ r, r = i % 64 := ⟨_, rfl⟩
  obtain ⟨q, hqe⟩ : ∃ q, q = i / 64 := ⟨_, rfl⟩
  have hr64 : r < 64 := by omega
  have hd1 : (i : Int).tdiv 64 = (q : Int) := by rw [Int.tdiv_eq_ediv_of_nonneg (by omega)]; omega
  have hd2 : (i : Int).tmod 64 = (r : Int) := by rw [Int.tmod_eq_emod_of_nonneg (by omega)]; omega
  have hw1 : IntKind.i64.wrap (q : Int) = (q : Int) := by rw [IntKind.wrap_i64]; omega
  have hw2 : IntKind.i64.wrap (r : Int) = (r : Int) := by rw [IntKind.wrap_i64]; omega
  rw [← hre, ← hqe] at hS
  rw [← hqe] at hxe
  have hE := u64_or_nat x (p2 r) hx64 (by have := p2_lt r hr64; omega)
  have hA1 : (0 : Int) ≤ (q : Int) := by omega
  have hA2 : (q : Int) < (n : Int) := by omega
  replace hE := Lib.hid hE
  replace hS := Lib.hid hS
  replace hxe := Lib.hid hxe
  replace hre := Lib.hid hre
  replace hqe := Lib.hid hqe
  replace hl := Lib.hid hl
  replace hi := Lib.hid hi
  replace hB := Lib.hid hB
  go_enter Try.func48, Try.ntmps48
  go_wp2_with fail
  refine wp_region_plan 10 [(true, 0), (true, 1), (true, 2), (true, 3), (true, 4), (true, 5), (true, 6), (false, 7), (true, 8), (true, 9)] (by kernel_rfl) (by kernel_rfl) (fun U hU => ?_)
  have hBU := Lib.hid (show Blk U g 99 (xs.map u64v) from by rw [hU.out]; exact hB.out.drew)
  have hOU := Lib.hid (show OnlyAt g w U from by rw [hU.out]; exact (OnlyAt.refl g w).drewN 1)
  clear hU hB
  have cL : U.cell? ⟨g, q, none⟩ = some (.int .u64 (x : Int)) := by rw [Blk.cell hBU.out q, List.getElem?_map, hxe.out]; rfl
  have fL := Blk.frozen hBU.out q
  simp only [List.drop_succ_cons]
  iterate 7
    refine wpPlan_float (v := ?_) rfl (by rfl) (fun w' hw' => ?_) (fun K hK => ?_)
    rotate_left
    · (go_simp; try with_reducible rfl)
    go_simp
    refine hK _ ?_
    clear hK K
  refine wpPlan_only rfl (by rfl) (fun K hK => ?_)
  go_simp
  refine (word_BitN r hr64 U).mono ?_
  rintro e x1 ⟨rfl, rfl⟩
  refine hK _ _ (Below.refl _ _) ?_
  clear hK K
  iterate 2
    refine wpPlan_float (v := ?_) rfl (by rfl) (fun w' hw' => ?_) (fun K hK => ?_)
    rotate_left
    · (go_simp; try with_reducible rfl)
    go_simp
    refine hK _ ?_
    clear hK K
  refine wpPlan_nil ?_
  go_wp2_with fail
  refine NoPanic.normal ?_
  go_wp2_with fail
  go_end0
  refine ⟨rfl, ?_, hOU.out.set _ _⟩
  rw [hE.out, hS.out, List.map_set]
  exact hBU.out.set_ _ _
/-- a bit is in both rows -/
def MeetR (xs ys : List Nat) : Prop := ∃ j : Nat, hasR xs (j : Int) = true ∧ hasR ys (j : Int) = true
theorem meet_yes {xs ys : List Nat} {k : Nat} (hx : xs.getD k 0 < 18446744073709551616) (h : xs.getD k 0 &&& ys.getD k 0 ≠ 0) : MeetR xs ys := by
  obtain ⟨b, hb⟩ : ∃ b, (xs.getD k 0 &&& ys.getD k 0).testBit b = true := by
    refine Classical.byContradiction fun hn => h ?_
    apply Nat.eq_of_testBit_eq; intro b
    rw [Nat.zero_testBit]
    cases hb : (xs.getD k 0 &&& ys.getD k 0).testBit b with
    | false => rfl
    | true => exact absurd ⟨b, hb⟩ hn
  rw [Nat.testBit_and, Bool.and_eq_true] at hb
  have hb64 : b < 64 := by
    rcases Nat.lt_or_ge b 64 with h1 | h1
    · exact h1
    · rw [bit_out hx h1] at hb; cases hb.1
  exact ⟨64 * k + b, by rw [hasR_w _ _ _ hb64]; exact hb.1, by rw [hasR_w _ _ _ hb64]; exact hb.2⟩
theorem meet_no {xs ys : List Nat} (h : ∀ k, k < xs.length → xs.getD k 0 &&& ys.getD k 0 = 0) : ¬ MeetR xs ys := fun ⟨j, h1, h2⟩ => by
  rw [hasR_nat] at h1 h2
  have hk : j / 64 < xs.length := by
    rcases Nat.lt_or_ge (j / 64) xs.length with h3 | h3
    · exact h3
    · rw [getD_out _ _ h3, Nat.zero_testBit] at h1; cases h1
  have := congrArg (·.testBit (j % 64)) (h _ hk)
  simp only [Nat.testBit_and, Nat.zero_testBit, h1, h2] at this
  cases this
set_option maxHeartbeats 1000000 in
theorem topo_meet (A B : Option Addr) (n m c d : Nat) (xs ys : List Nat) (w : World) (hr : Row w A n xs) (hs : Row w B m ys) (hnm : n ≤ m) (hn : m ≤ 1073741824) :
    Calls Try.prog 49 #[.slice A n c, .slice B m d] w fun e w' => (∃ b : Bool, e = .returned (.bool b) ∧ (b = true ↔ MeetR xs ys)) ∧ w = w' := by
  have hxl := Lib.hid hr.len
  go_enter Try.func49, Try.ntmps49
  go_wp2_with fail
  go_loopw [9] (fun i wr => ∃ k : Nat, k ≤ n ∧ i = .int .i64 k ∧ Hid (∀ q, q < k → xs.getD q 0 &&& ys.getD q 0 = 0) ∧ wr = w) (fun i _ => n - (intOf i).toNat)
  case atStart => exact ⟨0, Nat.zero_le _, rfl, Lib.hid (fun q h => by omega), rfl⟩
  case round =>
    obtain ⟨k, hk, rfl, hz, rfl⟩ := hrel
    by_cases hlt : k < n
    · obtain ⟨b1, o1, x, rfl, hb1, hx, hx64, hc1⟩ := hr.at_ hlt
      obtain ⟨b2, o2, y, rfl, hb2, hy, hy64, hc2⟩ := hs.at_ (show k < m by omega)
      have hE := Lib.hid (u64_and_nat x y hx64 hy64)
      have hxd := Lib.hid (Row.get hx)
      have hyd := Lib.hid (Row.get hy)
      have hk0 : (0 : Int) ≤ (k : Int) := by omega
      have hkn : (k : Int) < (n : Int) := by omega
      have hkm : (k : Int) < (m : Int) := by omega
      clear hx hy hr hs hb1 hb2
      by_cases h0 : x &&& y = 0
      · have ht : (bits BinOp.and IntKind.u64 (x : Int) (y : Int) != 0) = false := by rw [hE.out, h0]; rfl
        replace h0 := Lib.hid h0
        go_wp2_with fail
        go_roundw
        case rel =>
          refine ⟨k + 1, by omega, by go_num, Lib.hid (fun q hq => ?_), trivial⟩
          rcases Nat.lt_or_ge q k with h1 | h1
          · exact hz.out q h1
          · obtain rfl : q = k := by omega
            rw [hxd.out, hyd.out]; exact h0.out
        case measure => simp [intOf]; omega
      · have ht : (bits BinOp.and IntKind.u64 (x : Int) (y : Int) != 0) = true := by rw [hE.out, bne_iff_ne]; omega
        replace h0 := Lib.hid h0
        go_wp2_with fail
        go_ret
        exact ⟨⟨true, rfl, fun _ => meet_yes (k := k) (by rw [hxd.out]; exact hx64) (by rw [hxd.out, hyd.out]; exact h0.out), fun _ => rfl⟩, rfl⟩
    · obtain rfl : k = n := by omega
      go_wp2_with fail
      go_ret
      exact ⟨⟨false, rfl, fun h => (by cases h), fun h => absurd h (meet_no (fun q hq => hz.out q (by rw [hxl.out] at hq; exact hq)))⟩, rfl⟩
set_option maxRecDepth 100000 in
set_option maxHeartbeats 2000000 in
theorem topo_more (g o : Nat) (pre cs post : List Nat) (x : Nat) (w : World) (hB : Blk w g 101 ((pre ++ cs ++ post).map u64v)) (ho : pre.length = o) (hc : cs.length = 13) (hw : W64 cs) (hx : x < 18446744073709551616) (hfit : fitC moreF cs x) :
    Calls Try.prog 61 #[.pointer (some ⟨g, o, none⟩), .int .u64 (x : Int)] w (RetBlk g 101 ((pre ++ goC moreF cs x ++ post).map u64v) w) := by
    obtain ⟨C, hCe⟩ : ∃ C, C = ((pre ++ cs ++ post).map u64v) := ⟨_, rfl⟩
    replace hB := Lib.hid hB
    have hfit0 := Lib.hid hfit
    clear hfit
    have hx0 := Lib.hid hx
    have hkept := Lib.hid moreF_kept
    go_enter Try.func61, Try.ntmps61
    go_wp2_with fail
    go_loopw [1, 4] (fun s i wr => ∃ (x' k : Nat) (done rest : List Nat), s = .int .u64 (x' : Int) ∧ i = .int .i64 (k : Int) ∧ x' < 18446744073709551616 ∧ done.length = k ∧ k + rest.length = 13 ∧ Hid (W64 rest) ∧ Hid (goC moreF cs x = done ++ goC moreF rest x') ∧ Hid (fitC moreF rest x') ∧ Hid (Blk wr g 101 ((pre ++ (done ++ rest) ++ post).map u64v)) ∧ Hid (OnlyAt g w wr)) (fun _ i _ => 13 - (intOf i).toNat)
    case atStart => exact ⟨x, 0, [], cs, rfl, rfl, hx, rfl, by omega, Lib.hid hw, Lib.hid rfl, hfit0, hB, Lib.hid (OnlyAt.refl _ _)⟩
    case round =>
      clear hB hfit0 hx0
      obtain ⟨x', k, done, rest, rfl, rfl, hx', hdl, hkr, hwr, hgo, hfit, hB, hO⟩ := hrel
      by_cases h0 : x' = 0
      · subst h0
        go_wp2_with fail
        go_end0
        refine ⟨rfl, ?_, hO.out⟩
        rw [hgo.out, goC_zero hkept.out]
        exact hB.out
      · have hne : ((x' : Int) != 0) = true := by rw [bne_iff_ne]; omega
        cases rest with
        | nil => exact absurd hfit.out h0
        | cons c' rest =>
          replace h0 := Lib.hid h0
          simp only [List.length_cons] at hkr
          have hc64 := hwr.out c' (by simp)
          have hk13 : (k : Int) < 13 := by omega
          have hk0 : (0 : Int) ≤ (k : Int) := by omega
          have hce : ((pre ++ (done ++ c' :: rest) ++ post).map u64v)[o + k]? = some (.int .u64 (c' : Int)) := by
            rw [List.getElem?_map, show pre ++ (done ++ c' :: rest) ++ post = (pre ++ done) ++ (c' :: (rest ++ post)) by simp, List.getElem?_append_right (by rw [List.length_append]; omega), List.length_append, show o + k - (pre.length + done.length) = 0 by omega]
            rfl
          have hse : ∀ y : Nat, ((pre ++ (done ++ c' :: rest) ++ post).map u64v).set (o + k) (.int .u64 (y : Int)) = (pre ++ ((done ++ [y]) ++ rest) ++ post).map u64v := fun y => by
            rw [show pre ++ (done ++ c' :: rest) ++ post = (pre ++ done) ++ (c' :: (rest ++ post)) by simp, List.map_append, List.set_append_right _ _ (by rw [List.length_map, List.length_append]; omega), List.length_map, List.length_append, show o + k - (pre.length + done.length) = 0 by omega]
            simp [u64v]
          have hX := Lib.hid (u64_xor_nat c' x' hc64 hx')
          have hx2 : c' ^^^ x' < 18446744073709551616 := by have := Nat.xor_lt_two_pow (n := 64) (by simpa using hc64) (by simpa using hx'); simpa using this
          have hN := Lib.hid ((u64_andNot_nat x' (c' ^^^ x') hx' hx2))
          replace hse := Lib.hid hse
          replace hdl := Lib.hid hdl
          go_wp2_with fail
          refine wp_region_plan 9 [(true, 0), (true, 1), (true, 2), (true, 3), (true, 4), (true, 5), (true, 6), (true, 7), (true, 8)] (by kernel_rfl) (by kernel_rfl) (fun U hU => ?_)
          have hBU := Lib.hid (show Blk U g 101 ((pre ++ (done ++ c' :: rest) ++ post).map u64v) from by rw [hU.out]; exact hB.out.drew)
          have hOU := Lib.hid (show OnlyAt g w U from by rw [hU.out]; exact hO.out.drewN 1)
          clear hU hB hO
          have cL : U.cell? ⟨g, o + k, none⟩ = some (.int .u64 (c' : Int)) := by rw [Blk.cell hBU.out (o + k), hce]
          have fL := Blk.frozen hBU.out (o + k)
          replace hce := Lib.hid hce
          simp only [List.drop_succ_cons]
          iterate 9
            refine wpPlan_float (v := ?_) rfl (by rfl) (fun w' hw' => ?_) (fun K hK => ?_)
            rotate_left
            · (go_simp; try with_reducible rfl)
            go_simp
            refine hK _ ?_
            clear hK K
          rw [hX.out]
          obtain ⟨V, hV⟩ : ∃ V, V = U.setCell ⟨g, o + k, none⟩ (.int .u64 ((c' ^^^ x' : Nat) : Int)) := ⟨_, rfl⟩
          have hBV := Lib.hid (show Blk V g 101 ((pre ++ ((done ++ [c' ^^^ x']) ++ rest) ++ post).map u64v) from by rw [hV, ← hse.out]; exact hBU.out.set_ _ _)
          have hOV := Lib.hid (show OnlyAt g w V from by rw [hV]; exact hOU.out.set _ _)
          have cV : V.cell? ⟨g, o + k, none⟩ = some (.int .u64 ((c' ^^^ x' : Nat) : Int)) := by
            rw [Blk.cell hBV.out (o + k), ← hse.out, List.getElem?_set, if_pos rfl, if_pos (List.getElem?_eq_some_iff.1 hce.out).1]
          refine wpPlan_nil ?_
          go_wp2_with (rw [← hV]; clear hV)
          refine NoPanic.normal ?_
          clear cL fL
          go_wp2_with fail
          go_roundw
          case rel =>
            exact ⟨moreF c' x', k + 1, done ++ [c' ^^^ x'], rest, by rw [hN.out]; rfl, by go_num, Nat.lt_of_le_of_lt (hkept.out c' x') hx', by rw [List.length_append, hdl.out]; rfl, by omega, Lib.hid (fun z hz => hwr.out z (List.mem_cons.2 (.inr hz))), Lib.hid (by rw [hgo.out, List.append_assoc]; rfl), Lib.hid hfit.out, hBV, hOV⟩
          case measure => simp [intOf]; omega
set_option maxRecDepth 100000 in
set_option maxHeartbeats 2000000 in
theorem topo_less (g o : Nat) (pre cs post : List Nat) (x : Nat) (w : World) (hB : Blk w g 101 ((pre ++ cs ++ post).map u64v)) (ho : pre.length = o) (hc : cs.length = 13) (hw : W64 cs) (hx : x < 18446744073709551616) (hfit : fitC lessF cs x) :
    Calls Try.prog 65 #[.pointer (some ⟨g, o, none⟩), .int .u64 (x : Int)] w (RetBlk g 101 ((pre ++ goC lessF cs x ++ post).map u64v) w) := by
    obtain ⟨C, hCe⟩ : ∃ C, C = ((pre ++ cs ++ post).map u64v) := ⟨_, rfl⟩
    replace hB := Lib.hid hB
    have hfit0 := Lib.hid hfit
    clear hfit
    have hx0 := Lib.hid hx
    have hkept := Lib.hid lessF_kept
    go_enter Try.func65, Try.ntmps65
    go_wp2_with fail
    go_loopw [1, 4] (fun s i wr => ∃ (x' k : Nat) (done rest : List Nat), s = .int .u64 (x' : Int) ∧ i = .int .i64 (k : Int) ∧ x' < 18446744073709551616 ∧ done.length = k ∧ k + rest.length = 13 ∧ Hid (W64 rest) ∧ Hid (goC lessF cs x = done ++ goC lessF rest x') ∧ Hid (fitC lessF rest x') ∧ Hid (Blk wr g 101 ((pre ++ (done ++ rest) ++ post).map u64v)) ∧ Hid (OnlyAt g w wr)) (fun _ i _ => 13 - (intOf i).toNat)
    case atStart => exact ⟨x, 0, [], cs, rfl, rfl, hx, rfl, by omega, Lib.hid hw, Lib.hid rfl, hfit0, hB, Lib.hid (OnlyAt.refl _ _)⟩
    case round =>
      clear hB hfit0 hx0
      obtain ⟨x', k, done, rest, rfl, rfl, hx', hdl, hkr, hwr, hgo, hfit, hB, hO⟩ := hrel
      by_cases h0 : x' = 0
      · subst h0
        go_wp2_with fail
        go_end0
        refine ⟨rfl, ?_, hO.out⟩
        rw [hgo.out, goC_zero hkept.out]
        exact hB.out
      · have hne : ((x' : Int) != 0) = true := by rw [bne_iff_ne]; omega
        cases rest with
        | nil => exact absurd hfit.out h0
        | cons c' rest =>
          replace h0 := Lib.hid h0
          simp only [List.length_cons] at hkr
          have hc64 := hwr.out c' (by simp)
          have hk13 : (k : Int) < 13 := by omega
          have hk0 : (0 : Int) ≤ (k : Int) := by omega
          have hce : ((pre ++ (done ++ c' :: rest) ++ post).map u64v)[o + k]? = some (.int .u64 (c' : Int)) := by
            rw [List.getElem?_map, show pre ++ (done ++ c' :: rest) ++ post = (pre ++ done) ++ (c' :: (rest ++ post)) by simp, List.getElem?_append_right (by rw [List.length_append]; omega), List.length_append, show o + k - (pre.length + done.length) = 0 by omega]
            rfl
          have hse : ∀ y : Nat, ((pre ++ (done ++ c' :: rest) ++ post).map u64v).set (o + k) (.int .u64 (y : Int)) = (pre ++ ((done ++ [y]) ++ rest) ++ post).map u64v := fun y => by
            rw [show pre ++ (done ++ c' :: rest) ++ post = (pre ++ done) ++ (c' :: (rest ++ post)) by simp, List.map_append, List.set_append_right _ _ (by rw [List.length_map, List.length_append]; omega), List.length_map, List.length_append, show o + k - (pre.length + done.length) = 0 by omega]
            simp [u64v]
          have hX := Lib.hid (u64_xor_nat c' x' hc64 hx')
          have hx2 : c' ^^^ x' < 18446744073709551616 := by have := Nat.xor_lt_two_pow (n := 64) (by simpa using hc64) (by simpa using hx'); simpa using this
          have hN := Lib.hid ((u64_and_nat x' (c' ^^^ x') hx' hx2))
          replace hse := Lib.hid hse
          replace hdl := Lib.hid hdl
          go_wp2_with fail
          refine wp_region_plan 9 [(true, 0), (true, 1), (true, 2), (true, 3), (true, 4), (true, 5), (true, 6), (true, 7), (true, 8)] (by kernel_rfl) (by kernel_rfl) (fun U hU => ?_)
          have hBU := Lib.hid (show Blk U g 101 ((pre ++ (done ++ c' :: rest) ++ post).map u64v) from by rw [hU.out]; exact hB.out.drew)
          have hOU := Lib.hid (show OnlyAt g w U from by rw [hU.out]; exact hO.out.drewN 1)
          clear hU hB hO
          have cL : U.cell? ⟨g, o + k, none⟩ = some (.int .u64 (c' : Int)) := by rw [Blk.cell hBU.out (o + k), hce]
          have fL := Blk.frozen hBU.out (o + k)
          replace hce := Lib.hid hce
          simp only [List.drop_succ_cons]
          iterate 9
            refine wpPlan_float (v := ?_) rfl (by rfl) (fun w' hw' => ?_) (fun K hK => ?_)
            rotate_left
            · (go_simp; try with_reducible rfl)
            go_simp
            refine hK _ ?_
            clear hK K
          rw [hX.out]
          obtain ⟨V, hV⟩ : ∃ V, V = U.setCell ⟨g, o + k, none⟩ (.int .u64 ((c' ^^^ x' : Nat) : Int)) := ⟨_, rfl⟩
          have hBV := Lib.hid (show Blk V g 101 ((pre ++ ((done ++ [c' ^^^ x']) ++ rest) ++ post).map u64v) from by rw [hV, ← hse.out]; exact hBU.out.set_ _ _)
          have hOV := Lib.hid (show OnlyAt g w V from by rw [hV]; exact hOU.out.set _ _)
          have cV : V.cell? ⟨g, o + k, none⟩ = some (.int .u64 ((c' ^^^ x' : Nat) : Int)) := by
            rw [Blk.cell hBV.out (o + k), ← hse.out, List.getElem?_set, if_pos rfl, if_pos (List.getElem?_eq_some_iff.1 hce.out).1]
          refine wpPlan_nil ?_
          go_wp2_with (rw [← hV]; clear hV)
          refine NoPanic.normal ?_
          clear cL fL
          go_wp2_with fail
          go_roundw
          case rel =>
            exact ⟨lessF c' x', k + 1, done ++ [c' ^^^ x'], rest, by rw [hN.out]; rfl, by go_num, Nat.lt_of_le_of_lt (hkept.out c' x') hx', by rw [List.length_append, hdl.out]; rfl, by omega, Lib.hid (fun z hz => hwr.out z (List.mem_cons.2 (.inr hz))), Lib.hid (by rw [hgo.out, List.append_assoc]; rfl), Lib.hid hfit.out, hBV, hOV⟩
          case measure => simp [intOf]; omega
set_option maxHeartbeats 1000000 in
theorem topo_none (g o : Nat) (pre cs post : List Nat) (w : World) (hB : Blk w g 101 ((pre ++ cs ++ post).map u64v)) (ho : pre.length = o) (hc : cs.length = 13) (hw : W64 cs) :
    Calls Try.prog 62 #[.pointer (some ⟨g, o, none⟩)] w fun e w' => e = .returned (.int .u64 ((noneC cs : Nat) : Int)) ∧ w = w' := by
  replace hB := Lib.hid hB
  have hcl := Lib.hid hc
  go_enter Try.func62, Try.ntmps62
  go_wp2_with fail
  go_loopw [3, 7] (fun s i wr => ∃ (k : Nat) (y : Nat), k ≤ 13 ∧ i = .int .i64 (k : Int) ∧ s = .int .u64 (y : Int) ∧ y < 18446744073709551616 ∧ Hid (y = orC (cs.take k)) ∧ wr = w) (fun _ i _ => 13 - (intOf i).toNat)
  case atStart => exact ⟨0, 0, by omega, rfl, rfl, by omega, Lib.hid rfl, rfl⟩
  case round =>
    obtain ⟨k, y, hk, rfl, rfl, hy64, hy, rfl⟩ := hrel
    by_cases hlt : k < 13
    · obtain ⟨c', hce⟩ : ∃ c', cs[k]? = some c' := ⟨_, List.getElem?_eq_getElem (by omega)⟩
      have hc64 := hw c' (List.mem_of_getElem? hce)
      have cL : wr.cell? ⟨g, o + k, none⟩ = some (.int .u64 (c' : Int)) := by
        rw [Blk.cell hB.out (o + k), List.getElem?_map, List.append_assoc, List.getElem?_append_right (by omega), show o + k - pre.length = k by omega, List.getElem?_append_left (by omega), hce]; rfl
      have hE := Lib.hid (u64_or_nat y c' hy64 hc64)
      have hk13 : (k : Int) < 13 := by omega
      have hk0 : (0 : Int) ≤ (k : Int) := by omega
      replace hce := Lib.hid hce
      go_wp2_with fail
      go_roundw
      case rel =>
        refine ⟨k + 1, y ||| c', by omega, by go_num, by rw [hE.out], ?_, Lib.hid ?_, trivial⟩
        · have := Nat.or_lt_two_pow (n := 64) (by simpa using hy64) (by simpa using hc64); simpa using this
        · rw [List.take_add_one, hce.out, hy.out]; exact (orC_snoc _ _).symm
      case measure => simp [intOf]; omega
    · obtain rfl : k = 13 := by omega
      go_wp2_with fail
      go_ret
      refine ⟨?_, rfl⟩
      rw [List.take_of_length_le (by rw [hcl.out]; omega)] at hy
      have hyo := hy.out
      subst hyo
      rw [noneC_xor hw]
      rfl
end Go.Proofs.Ytpgcokkmhlhnpaa

namespace Go.Proofs.Ytpgcokkmhlhnpaa
open Go.RowKit
set_option linter.unusedVariables false

theorem own_only {w w' : World} {g base : Nat} {e : TypeId} {size n : Nat} {v : Value} {vs : List Value} (h : w.ownsRow base e size v n vs) (ho : OnlyAt g w w') (hne : v.ownBlock ≠ some g) : w'.ownsRow base e size v n vs := by
  refine ⟨h.1, ?_⟩
  rcases h.2 with ⟨h1, h2⟩ | ⟨k, cap, cur, rfl, hbg, hg, r⟩
  · exact .inl ⟨h1, h2⟩
  · exact .inr ⟨k, cap, cur, rfl, hbg, (ho.block k (fun e => hne (by rw [← e]; rfl))).trans hg, r⟩
theorem Blk.only {w w' : World} {g k : Nat} {t : TypeId} {cs : List Value} (h : Blk w k t cs) (ho : OnlyAt g w w') (hne : k ≠ g) : Blk w' k t cs := (ho.block k hne).trans h
theorem below_only {w w' w0 : World} {g : Nat} (h : Below w0.heap.size w0 w) (ho : OnlyAt g w w') (hg : w0.heap.size ≤ g) : Below w0.heap.size w0 w' := h.trans (ho.below.mono hg)

end Go.Proofs.Ytpgcokkmhlhnpaa
