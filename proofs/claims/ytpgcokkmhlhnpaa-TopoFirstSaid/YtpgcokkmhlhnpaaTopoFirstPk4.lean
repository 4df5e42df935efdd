/- Plain mathematics of layer 15's own code: numbers are taken off a mask of those that may go, counts tell how many are ahead. No function of the program is named. Contracts of the document's own answers of layer 4: Close, Add. The code's own contracts of layer 15: below, put, meet, counts (more, less, none). Contracts of package hull: copied, join, Close. The code's own contracts of layer 15: once (a mask of numbers), Perm, Respects. Plain mathematics of a search breadth first: why the path by which a number is met first is the first path. Nothing of the program is named. A search breadth first over a matrix, its memory: who isn't met as a row of bits, from whom as numbers, the queue. No function of the program is named. The code's own contracts of layer 15: the queue (take, free). -/
import Derived.Test.YtpgcokkmhlhnpaaTopoFirstPk3
import Derived.Test.YtpgcokkmhlhnpaaTopoFirstPk2
import Derived.Laws.BitsAllLaws
import Derived.Test.YtpgcokkmhlhnpaaTopoFirstPk1
namespace Go.Proofs.Ytpgcokkmhlhnpaa
open Go.RowKit
set_option linter.unusedVariables false
/-- a row with just these numbers -/
structure MaskIs (nw : Nat) (zs : List Int) (ms : List Nat) : Prop where
  len : ms.length = nw
  w64 : W64 ms
  has : ∀ j : Nat, hasR ms (j : Int) = true ↔ (j : Int) ∈ zs
theorem MaskIs.zero (nw : Nat) : MaskIs nw [] (List.replicate nw 0) := ⟨by simp, fun x hx => by rw [(List.mem_replicate.1 hx).2]; omega, fun j => by rw [hasR_zeros]; simp⟩
theorem MaskIs.snoc {nw : Nat} {zs : List Int} {ms : List Nat} (h : MaskIs nw zs ms) {j : Nat} (hj : j < 64 * nw) : MaskIs nw (zs ++ [(j : Int)]) (setR ms (j : Int)) :=
  ⟨by rw [setR_len]; exact h.len, setR_w64 h.w64 j, fun i => by
    rw [hasR_setR ms j i (by rw [h.len]; exact hj), Bool.or_eq_true, h.has, decide_eq_true_eq, List.mem_append, List.mem_singleton]
    exact or_congr_right (by omega)⟩
theorem FineZ.snoc {n : Nat} {zs : List Int} {z : Int} (h : FineZ n zs) (h1 : 0 ≤ z ∧ z < (n : Int)) (h2 : z ∉ zs) : FineZ n (zs ++ [z]) :=
  ⟨fun y hy => by
    rcases List.mem_append.1 hy with h3 | h3
    · exact h.1 y h3
    · rw [List.mem_singleton.1 h3]; exact h1, List.nodup_append.2 ⟨h.2, by simp, fun a ha b hb => by rw [List.mem_singleton.1 hb]; exact fun e => h2 (e ▸ ha)⟩⟩
theorem FineZ.len {n : Nat} {zs : List Int} (h : FineZ n zs) : zs.length ≤ n := by
  have h1 : (zs.map Int.toNat).Nodup := by
    refine List.pairwise_map.2 (List.Pairwise.imp_of_mem (fun {a b} ha hb hne => ?_) h.2)
    have := h.1 a ha
    have := h.1 b hb
    omega
  have := nodup_lt h1 (n := n) (fun x hx => by
    obtain ⟨z, hz, rfl⟩ := List.mem_map.1 hx
    have := h.1 z hz
    omega)
  simpa using this
theorem take_snoc {α : Type} {zs : List α} {q : Nat} {z : α} (h : zs[q]? = some z) : zs.take (q + 1) = zs.take q ++ [z] := by
  rw [List.take_add_one, h]; rfl
theorem fine_take {n q : Nat} {zs : List Int} (h : FineZ n zs) : FineZ n (zs.take q) := ⟨fun z hz => h.1 z (List.mem_of_mem_take hz), h.2.sublist (List.take_sublist _ _)⟩
theorem not_fine_at {n q : Nat} {zs : List Int} {z : Int} (hz : zs[q]? = some z) (h : ¬ (0 ≤ z ∧ z < (n : Int)) ∨ z ∈ zs.take q) : ¬ FineZ n zs := fun hF => by
  rcases h with h | h
  · exact h (fine_at hF hz)
  · have := (fine_take (q := q + 1) hF).2
    rw [take_snoc hz] at this
    exact (List.nodup_append.1 this).2.2 z h z (by simp) rfl
section
variable {n nw : Nat} {a : List (List Nat)} {zs O L : List Int} {ms ns ws : List Nat} {css : List (List Nat)}
/-- how many of L are ahead of each number of zs -/
def CntOk (a : List (List Nat)) (zs L : List Int) (css : List (List Nat)) : Prop := ∀ j : Nat, (j : Int) ∈ zs → cntQ css j = (L.filter fun y => hasM a y (j : Int)).length
/-- the first k words were counted up -/
structure UpI (nw : Nat) (f : Nat → Nat → Nat) (css0 : List (List Nat)) (ws ms : List Nat) (k : Nat) (css : List (List Nat)) : Prop where
  d : DimC nw css
  v : ∀ q, q < nw → css.getD q [] = if q < k then goC f (css0.getD q []) (ws.getD q 0 &&& ms.getD q 0) else css0.getD q []
theorem UpI.start {f : Nat → Nat → Nat} (h : DimC nw css) : UpI nw f css ws ms 0 css := ⟨h, fun q hq => by rw [if_neg (by omega)]⟩
theorem and_lt64 {x y : Nat} (h : x < 18446744073709551616) : x &&& y < 18446744073709551616 := Nat.lt_of_le_of_lt Nat.and_le_left h
theorem UpI.step {f : Nat → Nat → Nat} (hf : ∀ c x, f c x ≤ x) {css0 : List (List Nat)} {k : Nat} (hw : W64 ws) (h : UpI nw f css0 ws ms k css) (hk : k < nw) : UpI nw f css0 ws ms (k + 1) (css.set k (goC f (css.getD k []) (ws.getD k 0 &&& ms.getD k 0))) := by
  obtain ⟨c, h1, h2, h3, h4⟩ := h.d.at_ hk
  refine ⟨h.d.set ⟨by rw [goC_len, h2, h3], goC_w64 hf (by rw [h2]; exact h4) (and_lt64 (getD_w64 hw k))⟩, fun q hq => ?_⟩
  rw [getD_set_at (by rw [h.d.len]; exact hk)]
  by_cases e : q = k
  · subst e
    rw [if_pos rfl, if_pos (by omega), h.v q hq, if_neg (by omega)]
  · rw [if_neg e, h.v q hq]
    by_cases h5 : q < k
    · rw [if_pos h5, if_pos (by omega)]
    · rw [if_neg h5, if_neg (by omega)]
theorem bit_pair {q b : Nat} (hb : b < 64) : (ws.getD q 0 &&& ms.getD q 0).testBit b = (hasR ws ((64 * q + b : Nat) : Int) && hasR ms ((64 * q + b : Nat) : Int)) := by
  rw [Nat.testBit_and, hasR_w _ _ _ hb, hasR_w _ _ _ hb]
theorem cntQ_w {q b : Nat} (hb : b < 64) : cntQ css (64 * q + b) = cntC (css.getD q []) b := by
  unfold cntQ
  rw [show (64 * q + b) / 64 = q by omega, show (64 * q + b) % 64 = b by omega]
theorem count_lt {N : Nat} (hc : CntOk a zs L css) (hL : L.length ≤ N) {j : Nat} (hj : (j : Int) ∈ zs) : cntQ css j ≤ N := by
  rw [hc j hj]; exact Nat.le_trans (List.length_filter_le _ _) hL
/-- a row's counts fit -/
theorem more_fits (hD : DimC nw css) (hM : MaskIs nw zs ms) (hc : CntOk a zs L css) (hL : L.length ≤ 4096) {k : Nat} (hk : k < nw) (hw : W64 ws) : fitC moreF (css.getD k []) (ws.getD k 0 &&& ms.getD k 0) := by
  obtain ⟨c, h1, h2, h3, h4⟩ := hD.at_ hk
  refine fitC_more (by rw [h2]; exact h4) (and_lt64 (getD_w64 hw k)) fun b hb hx => ?_
  rw [bit_pair hb, Bool.and_eq_true] at hx
  have := count_lt hc hL ((hM.has _).1 hx.2)
  rw [cntQ_w hb] at this
  rw [h2] at this ⊢
  rw [h3]
  have : (2 : Nat) ^ 13 = 8192 := by decide
  omega
theorem CntOk.up (hM : MaskIs nw zs ms) (hc : CntOk a zs L css) (hD : DimC nw css) (hL : L.length ≤ 4096) (hw : W64 ws) {z : Int} (hrow : ∀ j : Nat, hasM a z (j : Int) = hasR ws (j : Int)) {css' : List (List Nat)} (h : UpI nw moreF css ws ms nw css') : CntOk a zs (L ++ [z]) css' := fun j hj => by
  have hhas := (hM.has j).2 hj
  have hk : j / 64 < nw := by
    rcases Nat.lt_or_ge (j / 64) nw with h1 | h1
    · exact h1
    · rw [hasR_nat, getD_out _ _ (by rw [hM.len]; exact h1), Nat.zero_testBit] at hhas; cases hhas
  have hb : j % 64 < 64 := Nat.mod_lt _ (by omega)
  have e : j = 64 * (j / 64) + j % 64 := by omega
  obtain ⟨c, h1, h2, h3, h4⟩ := hD.at_ hk
  have hx : (ws.getD (j / 64) 0 &&& ms.getD (j / 64) 0).testBit (j % 64) = hasR ws (j : Int) := by
    rw [bit_pair hb, ← e, hhas, Bool.and_true]
  have hcnt := count_lt hc hL hj
  have hold := hc j hj
  unfold cntQ at hcnt hold ⊢
  rw [h.v _ hk, if_pos hk, cntC_more (by rw [h2]; exact h4) (and_lt64 (getD_w64 hw _)) hb (by
    rw [h2] at hcnt ⊢
    rw [h3]
    have h5 : (2 : Nat) ^ 13 = 8192 := by decide
    have h6 : ((ws.getD (j / 64) 0 &&& ms.getD (j / 64) 0).testBit (j % 64)).toNat ≤ 1 := Bool.toNat_le _
    omega), hold, hx, ← hrow j, List.filter_append, List.length_append]
  cases hz : hasM a z (j : Int) <;> simp [hz]
/-- the numbers that may go, of the first k words -/
structure NxI (nw : Nat) (css : List (List Nat)) (ms : List Nat) (k : Nat) (ns : List Nat) : Prop where
  len : ns.length = nw
  w64 : W64 ns
  v : ∀ q, q < nw → ns.getD q 0 = if q < k then ms.getD q 0 &&& noneC (css.getD q []) else 0
theorem NxI.start : NxI nw css ms 0 (List.replicate nw 0) := ⟨by simp, fun x hx => by rw [(List.mem_replicate.1 hx).2]; omega, fun q hq => by
  rw [if_neg (by omega), List.getD_eq_getElem?_getD, List.getElem?_replicate, if_pos hq]; rfl⟩
theorem NxI.step (hw : W64 ms) {k : Nat} (h : NxI nw css ms k ns) (hk : k < nw) : NxI nw css ms (k + 1) (ns.set k (ms.getD k 0 &&& noneC (css.getD k []))) :=
  ⟨by rw [List.length_set]; exact h.len, mem_set_lt h.w64 (and_lt64 (getD_w64 hw k)), fun q hq => by
    rw [getD_set_at (by rw [h.len]; exact hk)]
    by_cases e : q = k
    · subst e; rw [if_pos rfl, if_pos (by omega)]
    · rw [if_neg e, h.v q hq]
      by_cases h5 : q < k
      · rw [if_pos h5, if_pos (by omega)]
      · rw [if_neg h5, if_neg (by omega)]⟩
/-- what is known of the queue: O has gone, L is left -/
structure KahnS (a : List (List Nat)) (n nw : Nat) (zs O L : List Int) (ms ns : List Nat) (css : List (List Nat)) : Prop where
  s : SortS (RelZ a) zs O L
  F : FineZ n zs
  M : MaskIs nw zs ms
  D : DimC nw css
  cnt : CntOk a zs L css
  nl : ns.length = nw
  nw64 : W64 ns
  nx : ∀ j : Nat, hasR ns (j : Int) = true ↔ ((j : Int) ∈ L ∧ ∀ y ∈ L, ¬ RelZ a y (j : Int))
theorem none_ahead {j : Nat} : (L.filter fun y => hasM a y (j : Int)).length = 0 ↔ ∀ y ∈ L, ¬ RelZ a y (j : Int) := by
  rw [List.length_eq_zero_iff, List.filter_eq_nil_iff]; rfl
theorem KahnS.start (hF : FineZ n zs) (hM : MaskIs nw zs ms) (hD : DimC nw css) (hc : CntOk a zs zs css) (h : NxI nw css ms nw ns) : KahnS a n nw zs [] zs ms ns css :=
  ⟨⟨by simp, trivial⟩, hF, hM, hD, hc, h.len, h.w64, fun j => by
    have hb : j % 64 < 64 := Nat.mod_lt _ (by omega)
    by_cases hk : j / 64 < nw
    · obtain ⟨c, h1, h2, h3, h4⟩ := hD.at_ hk
      rw [hasR_nat, h.v _ hk, if_pos hk, Nat.testBit_and, noneC_bit (by rw [h2]; exact h4) hb, Bool.and_eq_true, decide_eq_true_eq, ← hasR_nat, hM.has]
      refine and_congr_right fun hj => ?_
      rw [← none_ahead, ← hc j hj]; rfl
    · have e1 : hasR ns (j : Int) = false := by rw [hasR_nat, getD_out _ _ (by rw [h.len]; omega), Nat.zero_testBit]
      have e2 : hasR ms (j : Int) = false := by rw [hasR_nat, getD_out _ _ (by rw [hM.len]; omega), Nat.zero_testBit]
      rw [e1]
      constructor
      · intro h; cases h
      · intro h
        have := (hM.has j).2 h.1
        rw [e2] at this; cases this⟩
/-- a number that was taken off, whose followers wait yet -/
structure KahnT (a : List (List Nat)) (n nw : Nat) (zs O L : List Int) (x : Nat) (ms ns : List Nat) (css : List (List Nat)) : Prop where
  s : SortS (RelZ a) zs O L
  F : FineZ n zs
  M : MaskIs nw zs ms
  D : DimC nw css
  cnt : CntOk a zs L css
  nl : ns.length = nw
  nw64 : W64 ns
  xL : (x : Int) ∈ L
  free : ∀ y ∈ L, ¬ RelZ a y (x : Int)
  least : ∀ y ∈ L, y < (x : Int) → ∃ z ∈ L, RelZ a z y
  nx : ∀ j : Nat, hasR ns (j : Int) = true ↔ (j ≠ x ∧ (j : Int) ∈ L ∧ ∀ y ∈ L, ¬ RelZ a y (j : Int))
theorem KahnS.left (h : KahnS a n nw zs O L ms ns css) {y : Int} (hy : y ∈ L) : 0 ≤ y ∧ y < (n : Int) := h.F.1 y (h.s.p.mem_iff.1 (List.mem_append.2 (.inr hy)))
theorem KahnS.take (h : KahnS a n nw zs O L ms ns css) {x : Nat} {ns' : List Nat} (hx : hasR ns (x : Int) = true) (hl : ∀ j : Nat, j < x → hasR ns (j : Int) = false) (h1 : ns'.length = nw) (h2 : W64 ns') (h3 : ∀ j : Nat, hasR ns' (j : Int) = (hasR ns (j : Int) && decide (j ≠ x))) :
    KahnT a n nw zs O L x ms ns' css := by
  have hxx := (h.nx x).1 hx
  refine ⟨h.s, h.F, h.M, h.D, h.cnt, h1, h2, hxx.1, hxx.2, fun y hy hlt => ?_, fun j => ?_⟩
  · have h4 := h.left hy
    obtain ⟨j, rfl⟩ := Int.eq_ofNat_of_zero_le h4.1
    have h5 := hl j (by omega)
    refine not_free (fun hf => ?_)
    have := (h.nx j).2 ⟨hy, hf⟩
    rw [h5] at this; cases this
  · rw [h3, Bool.and_eq_true, h.nx, decide_eq_true_eq]
    exact ⟨fun ⟨h4, h5⟩ => ⟨h5, h4⟩, fun ⟨h4, h5⟩ => ⟨h5, h4⟩⟩
theorem KahnS.stuck (h : KahnS a n nw zs O L ms ns css) (h0 : ∀ j : Nat, hasR ns (j : Int) = false) : (L = [] ∧ SortIs (RelZ a) n zs O 0) ∨ (L ≠ [] ∧ SortIs (RelZ a) n zs [] 7) := by
  by_cases hL : L = []
  · subst hL; exact .inl ⟨rfl, h.s.done h.F⟩
  · refine .inr ⟨hL, .inr (.inr ⟨h.F, rfl, rfl, (· ∈ L), ?_, fun x hx => ⟨h.s.p.mem_iff.1 (List.mem_append.2 (.inr hx)), ?_⟩⟩)⟩
    · cases L with
      | nil => exact absurd rfl hL
      | cons x L => exact ⟨x, h.s.p.mem_iff.1 (by simp), by simp⟩
    · have h4 := h.left hx
      obtain ⟨j, rfl⟩ := Int.eq_ofNat_of_zero_le h4.1
      refine not_free (fun hf => ?_)
      have := (h.nx j).2 ⟨hx, hf⟩
      rw [h0] at this; cases this
theorem KahnT.fits {x : Nat} (h : KahnT a n nw zs O L x ms ns css) {ws : List Nat} (hrow : ∀ j : Nat, hasM a (x : Int) (j : Int) = hasR ws (j : Int)) (hw : W64 ws) (k : Nat) : fitC lessF (css.getD k []) (ws.getD k 0 &&& ms.getD k 0) := by
  refine fitC_less (and_lt64 (getD_w64 hw k)) fun b hb hx => ?_
  rw [bit_pair hb, Bool.and_eq_true] at hx
  have hj := (h.M.has _).1 hx.2
  have := h.cnt _ hj
  rw [cntQ_w hb] at this
  rw [this]
  refine List.length_pos_of_mem (List.mem_filter.2 ⟨h.xL, ?_⟩)
  rw [hrow]; exact hx.1
/-- the first k words were counted down, those with none ahead may go -/
structure DownI (nw : Nat) (css0 : List (List Nat)) (ns0 ws ms : List Nat) (k : Nat) (css : List (List Nat)) (ns : List Nat) : Prop where
  u : UpI nw lessF css0 ws ms k css
  len : ns.length = nw
  w64 : W64 ns
  v : ∀ q, q < nw → ns.getD q 0 = if q < k then ns0.getD q 0 ||| (ws.getD q 0 &&& ms.getD q 0 &&& noneC (goC lessF (css0.getD q []) (ws.getD q 0 &&& ms.getD q 0))) else ns0.getD q 0
theorem DownI.start (h : DimC nw css) (hl : ns.length = nw) (hw : W64 ns) : DownI nw css ns ws ms 0 css ns := ⟨UpI.start h, hl, hw, fun q hq => by rw [if_neg (by omega)]⟩
theorem DownI.step {css0 : List (List Nat)} {ns0 : List Nat} {k : Nat} (hw : W64 ws) (h : DownI nw css0 ns0 ws ms k css ns) (hk : k < nw) :
    DownI nw css0 ns0 ws ms (k + 1) (css.set k (goC lessF (css.getD k []) (ws.getD k 0 &&& ms.getD k 0))) (ns.set k (ns.getD k 0 ||| (ws.getD k 0 &&& ms.getD k 0 &&& noneC (goC lessF (css.getD k []) (ws.getD k 0 &&& ms.getD k 0))))) := by
  refine ⟨h.u.step lessF_kept hw hk, by rw [List.length_set]; exact h.len, mem_set_lt h.w64 ?_, fun q hq => ?_⟩
  · have := Nat.or_lt_two_pow (n := 64) (x := ns.getD k 0) (y := ws.getD k 0 &&& ms.getD k 0 &&& noneC (goC lessF (css.getD k []) (ws.getD k 0 &&& ms.getD k 0))) (by simpa using getD_w64 h.w64 k) (by simpa using and_lt64 (and_lt64 (getD_w64 hw k)))
    simpa using this
  · rw [getD_set_at (by rw [h.len]; exact hk)]
    by_cases e : q = k
    · subst e; rw [if_pos rfl, if_pos (by omega), h.v q hq, if_neg (by omega), h.u.v q hq, if_neg (by omega)]
    · rw [if_neg e, h.v q hq]
      by_cases h5 : q < k
      · rw [if_pos h5, if_pos (by omega)]
      · rw [if_neg h5, if_neg (by omega)]
theorem set_same {α : Type} {l : List α} {k : Nat} {d : α} (hk : k < l.length) : l.set k (l.getD k d) = l := by
  apply List.ext_getElem?; intro i
  rw [List.getElem?_set]
  by_cases h : k = i
  · subst h; rw [if_pos rfl, if_pos hk, List.getD_eq_getElem?_getD, List.getElem?_eq_getElem hk]; rfl
  · rw [if_neg h]
theorem DownI.skip {css0 : List (List Nat)} {ns0 : List Nat} {k : Nat} (hw : W64 ws) (h : DownI nw css0 ns0 ws ms k css ns) (hk : k < nw) (h0 : ws.getD k 0 &&& ms.getD k 0 = 0) : DownI nw css0 ns0 ws ms (k + 1) css ns := by
  have := h.step hw hk
  rwa [h0, goC_zero lessF_kept, Nat.zero_and, Nat.or_zero, set_same (by rw [h.u.d.len]; exact hk), set_same (by rw [h.len]; exact hk)] at this
theorem KahnT.next {x : Nat} (h : KahnT a n nw zs O L x ms ns css) {ws : List Nat} (hrow : ∀ j : Nat, hasM a (x : Int) (j : Int) = hasR ws (j : Int)) (hw : W64 ws) {css' : List (List Nat)} {ns' : List Nat} (hd : DownI nw css ns ws ms nw css' ns') :
    KahnS a n nw zs (O ++ [(x : Int)]) (L.erase (x : Int)) ms ns' css' := by
  have hp : L.Perm ((x : Int) :: L.erase (x : Int)) := List.perm_cons_erase h.xL
  have hnd : (O ++ L).Nodup := h.s.p.nodup_iff.2 h.F.2
  have hndL : L.Nodup := (List.nodup_append.1 hnd).2.1
  have hmem : ∀ y : Int, y ∈ L.erase (x : Int) ↔ y ≠ (x : Int) ∧ y ∈ L := fun y => hndL.mem_erase_iff
  have hs : SortS (RelZ a) zs (O ++ [(x : Int)]) (L.erase (x : Int)) := ⟨by
    refine List.Perm.trans ?_ h.s.p
    rw [List.append_assoc]
    exact hp.symm.append_left O, FirstPre.snoc hp h.free h.least h.s.f⟩
  have hcnt : CntOk a zs (L.erase (x : Int)) css' := fun j hj => by
    have hhas := (h.M.has j).2 hj
    have hk : j / 64 < nw := by
      rcases Nat.lt_or_ge (j / 64) nw with h1 | h1
      · exact h1
      · rw [hasR_nat, getD_out _ _ (by rw [h.M.len]; exact h1), Nat.zero_testBit] at hhas; cases hhas
    have hb : j % 64 < 64 := Nat.mod_lt _ (by omega)
    have e : j = 64 * (j / 64) + j % 64 := by omega
    have hx : (ws.getD (j / 64) 0 &&& ms.getD (j / 64) 0).testBit (j % 64) = hasR ws (j : Int) := by
      rw [bit_pair hb, ← e, hhas, Bool.and_true]
    have hold := h.cnt j hj
    rw [(hp.filter _).length_eq] at hold
    have hle := cntC_less (cs := css.getD (j / 64) []) (x := ws.getD (j / 64) 0 &&& ms.getD (j / 64) 0) (b := j % 64) (fun hxb => by
      have h5 : hasM a (x : Int) (j : Int) = true := by rw [hrow, ← hx]; exact hxb
      unfold cntQ at hold
      rw [hold, List.filter_cons, if_pos h5, List.length_cons]; omega)
    unfold cntQ at hold ⊢
    rw [hd.u.v _ hk, if_pos hk]
    rw [hx, ← hrow j, hold, List.filter_cons] at hle
    cases hz : hasM a (x : Int) (j : Int) with
    | true => simp only [hz, if_true, List.length_cons, Bool.toNat_true] at hle; omega
    | false => simp only [hz, Bool.toNat_false] at hle; simpa using hle
  refine ⟨hs, h.F, h.M, hd.u.d, hcnt, hd.len, hd.w64, fun j => ?_⟩
  have hb : j % 64 < 64 := Nat.mod_lt _ (by omega)
  have e : j = 64 * (j / 64) + j % 64 := by omega
  have key : hasR ns' (j : Int) = true ↔ (hasR ns (j : Int) = true ∨ (hasR ws (j : Int) = true ∧ (j : Int) ∈ zs ∧ cntQ css' j = 0)) := by
    by_cases hk : j / 64 < nw
    · obtain ⟨c, h1, h2, h3, h4⟩ := hd.u.d.at_ hk
      have hcq : goC lessF (css.getD (j / 64) []) (ws.getD (j / 64) 0 &&& ms.getD (j / 64) 0) = css'.getD (j / 64) [] := by rw [hd.u.v _ hk, if_pos hk]
      rw [hasR_nat ns', hd.v _ hk, if_pos hk, Nat.testBit_or, Nat.testBit_and, bit_pair hb, ← e, hcq, noneC_bit (by rw [h2]; exact h4) hb, ← hasR_nat, Bool.or_eq_true, Bool.and_eq_true, Bool.and_eq_true, decide_eq_true_eq, h.M.has, and_assoc]
      exact Iff.rfl
    · have e1 : hasR ns' (j : Int) = false := by rw [hasR_nat, getD_out _ _ (by rw [hd.len]; omega), Nat.zero_testBit]
      have e2 : hasR ns (j : Int) = false := by rw [hasR_nat, getD_out _ _ (by rw [h.nl]; omega), Nat.zero_testBit]
      have e3 : hasR ms (j : Int) = false := by rw [hasR_nat, getD_out _ _ (by rw [h.M.len]; omega), Nat.zero_testBit]
      rw [e1, e2]
      constructor
      · intro h; cases h
      · rintro (h5 | ⟨_, h5, _⟩)
        · cases h5
        · have := (h.M.has j).2 h5
          rw [e3] at this; cases this
  rw [key, h.nx, hmem]
  constructor
  · rintro (⟨h1, h2, h3⟩ | ⟨h1, h2, h3⟩)
    · exact ⟨⟨by omega, h2⟩, fun y hy => h3 y ((hmem y).1 hy).2⟩
    · rw [hcnt j h2, none_ahead] at h3
      have hR : RelZ a (x : Int) (j : Int) := by unfold RelZ; rw [hrow]; exact h1
      have hne : (j : Int) ≠ (x : Int) := fun e => h.free x h.xL (by rw [e] at hR; exact hR)
      refine ⟨⟨hne, ?_⟩, h3⟩
      rcases List.mem_append.1 (h.s.p.mem_iff.2 h2) with h4 | h4
      · exfalso
        have hO : ∀ {O : List Int}, FirstPre (RelZ a) O L → (j : Int) ∈ O → False := fun {O} => by
          induction O with
          | nil => intro _ h; cases h
          | cons u O ih =>
            intro hf hj
            rcases List.mem_cons.1 hj with h5 | h5
            · exact hf.1 (x : Int) (List.mem_cons.2 (.inr (List.mem_append.2 (.inr h.xL)))) (h5 ▸ hR)
            · exact ih hf.2.2 h5
        exact hO h.s.f h4
      · exact h4
  · rintro ⟨⟨h1, h2⟩, h3⟩
    have hjz : (j : Int) ∈ zs := h.s.p.mem_iff.1 (List.mem_append.2 (.inr h2))
    by_cases hR : hasR ws (j : Int) = true
    · exact .inr ⟨hR, hjz, by rw [hcnt j hjz, none_ahead]; exact h3⟩
    · refine .inl ⟨by omega, h2, fun y hy => ?_⟩
      by_cases hyx : y = (x : Int)
      · subst hyx; unfold RelZ; rw [hrow]; exact hR
      · exact h3 y ((hmem y).2 ⟨hyx, hy⟩)
end
end Go.Proofs.Ytpgcokkmhlhnpaa

namespace Go.Proofs.Ytpgcokkmhlhnpaa
open Go.RowKit
set_option linter.unusedVariables false

section
variable {n : Nat} {a X : List (List Nat)} {i : Nat} {l : List Nat}
end

end Go.Proofs.Ytpgcokkmhlhnpaa

namespace Go.Proofs.Ytpgcokkmhlhnpaa
open Go.RowKit
set_option linter.unusedVariables false
theorem topo_below (i n : Int) (w : World) :
    Calls Try.prog 47 #[.int .i64 i, .int .i64 n] w fun e w' => e = .returned (.bool (belowZ i n)) ∧ w = w' := by
  unfold belowZ
  by_cases hi : 0 ≤ i
  · have d1 : decide (0 ≤ i) = true := decide_eq_true hi
    rw [d1, Bool.true_and]
    go_enter Try.func47, Try.ntmps47
    go_wp2
    go_ret
    exact ⟨rfl, rfl⟩
  · have d1 : decide (0 ≤ i) = false := decide_eq_false hi
    rw [d1, Bool.false_and]
    go_enter Try.func47, Try.ntmps47
    go_wp2
    go_ret
    exact ⟨rfl, rfl⟩
/-- a call that lays other words into a block -/
def RetBlk (g : Nat) (t : TypeId) (cs : List Value) (w : World) (e : Ending) (w' : World) : Prop := e = .returned (.tuple #[]) ∧ Blk w' g t cs ∧ OnlyAt g w w'
set_option maxHeartbeats 1000000 in
theorem topo_put (g n c : Nat) (xs : List Nat) (i : Nat) (w : World) (hB : Blk w g 99 (xs.map u64v)) (hl : xs.length = n) (hx : W64 xs) (hi : i < 64 * n) (hn : n ≤ 1073741824) :
    Calls Try.prog 48 #[.slice (some ⟨g, 0, none⟩) n c, .int .i64 (i : Int)] w (RetBlk g 99 ((setR xs (i : Int)).map u64v) w) := by
  obtain ⟨x, hxe⟩ : ∃ x, xs[i / 64]? = some x := ⟨_, List.getElem?_eq_getElem (by omega)⟩
  have hx64 : x < 18446744073709551616 := hx x (List.mem_of_getElem? hxe)
  have hS := setR_in (m := i) (by omega) hxe
  obtain ⟨r, hre⟩ : ∃ r, r = i % 64 := ⟨_, rfl⟩
  obtain ⟨q, hqe⟩ : ∃ q, q = i / 64 := ⟨_, rfl⟩
  have hr64 : r < 64 := by omega
  have hd1 : (i : Int).tdiv 64 = (q : Int) := by rw [Int.tdiv_eq_ediv_of_nonneg (by omega)]; omega
  have hd2 : (i : Int).tmod 64 = (r : Int) := by rw [Int.tmod_eq_emod_of_nonneg (by omega)]; omega
  have hw1 : IntKind.i64.wrap (q : Int) = (q : Int) := by rw [IntKind.wrap_i64]; omega
  have hw2 : IntKind.i64.wrap (r : Int) = (r : Int) := by rw [IntKind.wrap_i64]; omega
  rw [← hre, ← hqe] at hS
  rw [← hqe] at hxe
  have hE := u64_or_nat x (p2 r) hx64 (by have := p2_lt r hr64; omega)
  have hA1 : (0 : Int) ≤ (q : Int) := by omega
  have hA2 : (q : Int) < (n : Int) := by omega
  replace hE := Lib.hid hE
  replace hS := Lib.hid hS
  replace hxe := Lib.hid hxe
  replace hre := Lib.hid hre
  replace hqe := Lib.hid hqe
  replace hl := Lib.hid hl
  replace hi := Lib.hid hi
  replace hB := Lib.hid hB
  go_enter Try.func48, Try.ntmps48
  go_wp2_with fail
  refine wp_region_plan 10 [(true, 0), (true, 1), (true, 2), (true, 3), (true, 4), (true, 5), (true, 6), (false, 7), (true, 8), (true, 9)] (by kernel_rfl) (by kernel_rfl) (fun U hU => ?_)
  have hBU := Lib.hid (show Blk U g 99 (xs.map u64v) from by rw [hU.out]; exact hB.out.drew)
  have hOU := Lib.hid (show OnlyAt g w U from by rw [hU.out]; exact (OnlyAt.refl g w).drewN 1)
  clear hU hB
  have cL : U.cell? ⟨g, q, none⟩ = some (.int .u64 (x : Int)) := by rw [Blk.cell hBU.out q, List.getElem?_map, hxe.out]; rfl
  have fL := Blk.frozen hBU.out q
  simp only [List.drop_succ_cons]
  iterate 7
    refine wpPlan_float (v := ?_) rfl (by rfl) (fun w' hw' => ?_) (fun K hK => ?_)
    rotate_left
    · (go_simp; try with_reducible rfl)
    go_simp
    refine hK _ ?_
    clear hK K
  refine wpPlan_only rfl (by rfl) (fun K hK => ?_)
  go_simp
  refine (word_BitN r hr64 U).mono ?_
  rintro e x1 ⟨rfl, rfl⟩
  refine hK _ _ (Below.refl _ _) ?_
  clear hK K
  iterate 2
    refine wpPlan_float (v := ?_) rfl (by rfl) (fun w' hw' => ?_) (fun K hK => ?_)
    rotate_left
    · (go_simp; try with_reducible rfl)
    go_simp
    refine hK _ ?_
    clear hK K
  refine wpPlan_nil ?_
  go_wp2_with fail
  refine NoPanic.normal ?_
  go_wp2_with fail
  go_end0
  refine ⟨rfl, ?_, hOU.out.set _ _⟩
  rw [hE.out, hS.out, List.map_set]
  exact hBU.out.set_ _ _
/-- a bit is in both rows -/
def MeetR (xs ys : List Nat) : Prop := ∃ j : Nat, hasR xs (j : Int) = true ∧ hasR ys (j : Int) = true
theorem meet_yes {xs ys : List Nat} {k : Nat} (hx : xs.getD k 0 < 18446744073709551616) (h : xs.getD k 0 &&& ys.getD k 0 ≠ 0) : MeetR xs ys := by
  obtain ⟨b, hb⟩ : ∃ b, (xs.getD k 0 &&& ys.getD k 0).testBit b = true := by
    refine Classical.byContradiction fun hn => h ?_
    apply Nat.eq_of_testBit_eq; intro b
    rw [Nat.zero_testBit]
    cases hb : (xs.getD k 0 &&& ys.getD k 0).testBit b with
    | false => rfl
    | true => exact absurd ⟨b, hb⟩ hn
  rw [Nat.testBit_and, Bool.and_eq_true] at hb
  have hb64 : b < 64 := by
    rcases Nat.lt_or_ge b 64 with h1 | h1
    · exact h1
    · rw [bit_out hx h1] at hb; cases hb.1
  exact ⟨64 * k + b, by rw [hasR_w _ _ _ hb64]; exact hb.1, by rw [hasR_w _ _ _ hb64]; exact hb.2⟩
theorem meet_no {xs ys : List Nat} (h : ∀ k, k < xs.length → xs.getD k 0 &&& ys.getD k 0 = 0) : ¬ MeetR xs ys := fun ⟨j, h1, h2⟩ => by
  rw [hasR_nat] at h1 h2
  have hk : j / 64 < xs.length := by
    rcases Nat.lt_or_ge (j / 64) xs.length with h3 | h3
    · exact h3
    · rw [getD_out _ _ h3, Nat.zero_testBit] at h1; cases h1
  have := congrArg (·.testBit (j % 64)) (h _ hk)
  simp only [Nat.testBit_and, Nat.zero_testBit, h1, h2] at this
  cases this
set_option maxHeartbeats 1000000 in
theorem topo_meet (A B : Option Addr) (n m c d : Nat) (xs ys : List Nat) (w : World) (hr : Row w A n xs) (hs : Row w B m ys) (hnm : n ≤ m) (hn : m ≤ 1073741824) :
    Calls Try.prog 49 #[.slice A n c, .slice B m d] w fun e w' => (∃ b : Bool, e = .returned (.bool b) ∧ (b = true ↔ MeetR xs ys)) ∧ w = w' := by
  have hxl := Lib.hid hr.len
  go_enter Try.func49, Try.ntmps49
  go_wp2_with fail
  go_loopw [9] (fun i wr => ∃ k : Nat, k ≤ n ∧ i = .int .i64 k ∧ Hid (∀ q, q < k → xs.getD q 0 &&& ys.getD q 0 = 0) ∧ wr = w) (fun i _ => n - (intOf i).toNat)
  case atStart => exact ⟨0, Nat.zero_le _, rfl, Lib.hid (fun q h => by omega), rfl⟩
  case round =>
    obtain ⟨k, hk, rfl, hz, rfl⟩ := hrel
    by_cases hlt : k < n
    · obtain ⟨b1, o1, x, rfl, hb1, hx, hx64, hc1⟩ := hr.at_ hlt
      obtain ⟨b2, o2, y, rfl, hb2, hy, hy64, hc2⟩ := hs.at_ (show k < m by omega)
      have hE := Lib.hid (u64_and_nat x y hx64 hy64)
      have hxd := Lib.hid (Row.get hx)
      have hyd := Lib.hid (Row.get hy)
      have hk0 : (0 : Int) ≤ (k : Int) := by omega
      have hkn : (k : Int) < (n : Int) := by omega
      have hkm : (k : Int) < (m : Int) := by omega
      clear hx hy hr hs hb1 hb2
      by_cases h0 : x &&& y = 0
      · have ht : (bits BinOp.and IntKind.u64 (x : Int) (y : Int) != 0) = false := by rw [hE.out, h0]; rfl
        replace h0 := Lib.hid h0
        go_wp2_with fail
        go_roundw
        case rel =>
          refine ⟨k + 1, by omega, by go_num, Lib.hid (fun q hq => ?_), trivial⟩
          rcases Nat.lt_or_ge q k with h1 | h1
          · exact hz.out q h1
          · obtain rfl : q = k := by omega
            rw [hxd.out, hyd.out]; exact h0.out
        case measure => simp [intOf]; omega
      · have ht : (bits BinOp.and IntKind.u64 (x : Int) (y : Int) != 0) = true := by rw [hE.out, bne_iff_ne]; omega
        replace h0 := Lib.hid h0
        go_wp2_with fail
        go_ret
        exact ⟨⟨true, rfl, fun _ => meet_yes (k := k) (by rw [hxd.out]; exact hx64) (by rw [hxd.out, hyd.out]; exact h0.out), fun _ => rfl⟩, rfl⟩
    · obtain rfl : k = n := by omega
      go_wp2_with fail
      go_ret
      exact ⟨⟨false, rfl, fun h => (by cases h), fun h => absurd h (meet_no (fun q hq => hz.out q (by rw [hxl.out] at hq; exact hq)))⟩, rfl⟩
set_option maxRecDepth 100000 in
set_option maxHeartbeats 2000000 in
theorem topo_more (g o : Nat) (pre cs post : List Nat) (x : Nat) (w : World) (hB : Blk w g 101 ((pre ++ cs ++ post).map u64v)) (ho : pre.length = o) (hc : cs.length = 13) (hw : W64 cs) (hx : x < 18446744073709551616) (hfit : fitC moreF cs x) :
    Calls Try.prog 61 #[.pointer (some ⟨g, o, none⟩), .int .u64 (x : Int)] w (RetBlk g 101 ((pre ++ goC moreF cs x ++ post).map u64v) w) := by
    obtain ⟨C, hCe⟩ : ∃ C, C = ((pre ++ cs ++ post).map u64v) := ⟨_, rfl⟩
    replace hB := Lib.hid hB
    have hfit0 := Lib.hid hfit
    clear hfit
    have hx0 := Lib.hid hx
    have hkept := Lib.hid moreF_kept
    go_enter Try.func61, Try.ntmps61
    go_wp2_with fail
    go_loopw [1, 4] (fun s i wr => ∃ (x' k : Nat) (done rest : List Nat), s = .int .u64 (x' : Int) ∧ i = .int .i64 (k : Int) ∧ x' < 18446744073709551616 ∧ done.length = k ∧ k + rest.length = 13 ∧ Hid (W64 rest) ∧ Hid (goC moreF cs x = done ++ goC moreF rest x') ∧ Hid (fitC moreF rest x') ∧ Hid (Blk wr g 101 ((pre ++ (done ++ rest) ++ post).map u64v)) ∧ Hid (OnlyAt g w wr)) (fun _ i _ => 13 - (intOf i).toNat)
    case atStart => exact ⟨x, 0, [], cs, rfl, rfl, hx, rfl, by omega, Lib.hid hw, Lib.hid rfl, hfit0, hB, Lib.hid (OnlyAt.refl _ _)⟩
    case round =>
      clear hB hfit0 hx0
      obtain ⟨x', k, done, rest, rfl, rfl, hx', hdl, hkr, hwr, hgo, hfit, hB, hO⟩ := hrel
      by_cases h0 : x' = 0
      · subst h0
        go_wp2_with fail
        go_end0
        refine ⟨rfl, ?_, hO.out⟩
        rw [hgo.out, goC_zero hkept.out]
        exact hB.out
      · have hne : ((x' : Int) != 0) = true := by rw [bne_iff_ne]; omega
        cases rest with
        | nil => exact absurd hfit.out h0
        | cons c' rest =>
          replace h0 := Lib.hid h0
          simp only [List.length_cons] at hkr
          have hc64 := hwr.out c' (by simp)
          have hk13 : (k : Int) < 13 := by omega
          have hk0 : (0 : Int) ≤ (k : Int) := by omega
          have hce : ((pre ++ (done ++ c' :: rest) ++ post).map u64v)[o + k]? = some (.int .u64 (c' : Int)) := by
            rw [List.getElem?_map, show pre ++ (done ++ c' :: rest) ++ post = (pre ++ done) ++ (c' :: (rest ++ post)) by simp, List.getElem?_append_right (by rw [List.length_append]; omega), List.length_append, show o + k - (pre.length + done.length) = 0 by omega]
            rfl
          have hse : ∀ y : Nat, ((pre ++ (done ++ c' :: rest) ++ post).map u64v).set (o + k) (.int .u64 (y : Int)) = (pre ++ ((done ++ [y]) ++ rest) ++ post).map u64v := fun y => by
            rw [show pre ++ (done ++ c' :: rest) ++ post = (pre ++ done) ++ (c' :: (rest ++ post)) by simp, List.map_append, List.set_append_right _ _ (by rw [List.length_map, List.length_append]; omega), List.length_map, List.length_append, show o + k - (pre.length + done.length) = 0 by omega]
            simp [u64v]
          have hX := Lib.hid (u64_xor_nat c' x' hc64 hx')
          have hx2 : c' ^^^ x' < 18446744073709551616 := by have := Nat.xor_lt_two_pow (n := 64) (by simpa using hc64) (by simpa using hx'); simpa using this
          have hN := Lib.hid ((u64_andNot_nat x' (c' ^^^ x') hx' hx2))
          replace hse := Lib.hid hse
          replace hdl := Lib.hid hdl
          go_wp2_with fail
          refine wp_region_plan 9 [(true, 0), (true, 1), (true, 2), (true, 3), (true, 4), (true, 5), (true, 6), (true, 7), (true, 8)] (by kernel_rfl) (by kernel_rfl) (fun U hU => ?_)
          have hBU := Lib.hid (show Blk U g 101 ((pre ++ (done ++ c' :: rest) ++ post).map u64v) from by rw [hU.out]; exact hB.out.drew)
          have hOU := Lib.hid (show OnlyAt g w U from by rw [hU.out]; exact hO.out.drewN 1)
          clear hU hB hO
          have cL : U.cell? ⟨g, o + k, none⟩ = some (.int .u64 (c' : Int)) := by rw [Blk.cell hBU.out (o + k), hce]
          have fL := Blk.frozen hBU.out (o + k)
          replace hce := Lib.hid hce
          simp only [List.drop_succ_cons]
          iterate 9
            refine wpPlan_float (v := ?_) rfl (by rfl) (fun w' hw' => ?_) (fun K hK => ?_)
            rotate_left
            · (go_simp; try with_reducible rfl)
            go_simp
            refine hK _ ?_
            clear hK K
          rw [hX.out]
          obtain ⟨V, hV⟩ : ∃ V, V = U.setCell ⟨g, o + k, none⟩ (.int .u64 ((c' ^^^ x' : Nat) : Int)) := ⟨_, rfl⟩
          have hBV := Lib.hid (show Blk V g 101 ((pre ++ ((done ++ [c' ^^^ x']) ++ rest) ++ post).map u64v) from by rw [hV, ← hse.out]; exact hBU.out.set_ _ _)
          have hOV := Lib.hid (show OnlyAt g w V from by rw [hV]; exact hOU.out.set _ _)
          have cV : V.cell? ⟨g, o + k, none⟩ = some (.int .u64 ((c' ^^^ x' : Nat) : Int)) := by
            rw [Blk.cell hBV.out (o + k), ← hse.out, List.getElem?_set, if_pos rfl, if_pos (List.getElem?_eq_some_iff.1 hce.out).1]
          refine wpPlan_nil ?_
          go_wp2_with (rw [← hV]; clear hV)
          refine NoPanic.normal ?_
          clear cL fL
          go_wp2_with fail
          go_roundw
          case rel =>
            exact ⟨moreF c' x', k + 1, done ++ [c' ^^^ x'], rest, by rw [hN.out]; rfl, by go_num, Nat.lt_of_le_of_lt (hkept.out c' x') hx', by rw [List.length_append, hdl.out]; rfl, by omega, Lib.hid (fun z hz => hwr.out z (List.mem_cons.2 (.inr hz))), Lib.hid (by rw [hgo.out, List.append_assoc]; rfl), Lib.hid hfit.out, hBV, hOV⟩
          case measure => simp [intOf]; omega
set_option maxRecDepth 100000 in
set_option maxHeartbeats 2000000 in
theorem topo_less (g o : Nat) (pre cs post : List Nat) (x : Nat) (w : World) (hB : Blk w g 101 ((pre ++ cs ++ post).map u64v)) (ho : pre.length = o) (hc : cs.length = 13) (hw : W64 cs) (hx : x < 18446744073709551616) (hfit : fitC lessF cs x) :
    Calls Try.prog 65 #[.pointer (some ⟨g, o, none⟩), .int .u64 (x : Int)] w (RetBlk g 101 ((pre ++ goC lessF cs x ++ post).map u64v) w) := by
    obtain ⟨C, hCe⟩ : ∃ C, C = ((pre ++ cs ++ post).map u64v) := ⟨_, rfl⟩
    replace hB := Lib.hid hB
    have hfit0 := Lib.hid hfit
    clear hfit
    have hx0 := Lib.hid hx
    have hkept := Lib.hid lessF_kept
    go_enter Try.func65, Try.ntmps65
    go_wp2_with fail
    go_loopw [1, 4] (fun s i wr => ∃ (x' k : Nat) (done rest : List Nat), s = .int .u64 (x' : Int) ∧ i = .int .i64 (k : Int) ∧ x' < 18446744073709551616 ∧ done.length = k ∧ k + rest.length = 13 ∧ Hid (W64 rest) ∧ Hid (goC lessF cs x = done ++ goC lessF rest x') ∧ Hid (fitC lessF rest x') ∧ Hid (Blk wr g 101 ((pre ++ (done ++ rest) ++ post).map u64v)) ∧ Hid (OnlyAt g w wr)) (fun _ i _ => 13 - (intOf i).toNat)
    case atStart => exact ⟨x, 0, [], cs, rfl, rfl, hx, rfl, by omega, Lib.hid hw, Lib.hid rfl, hfit0, hB, Lib.hid (OnlyAt.refl _ _)⟩
    case round =>
      clear hB hfit0 hx0
      obtain ⟨x', k, done, rest, rfl, rfl, hx', hdl, hkr, hwr, hgo, hfit, hB, hO⟩ := hrel
      by_cases h0 : x' = 0
      · subst h0
        go_wp2_with fail
        go_end0
        refine ⟨rfl, ?_, hO.out⟩
        rw [hgo.out, goC_zero hkept.out]
        exact hB.out
      · have hne : ((x' : Int) != 0) = true := by rw [bne_iff_ne]; omega
        cases rest with
        | nil => exact absurd hfit.out h0
        | cons c' rest =>
          replace h0 := Lib.hid h0
          simp only [List.length_cons] at hkr
          have hc64 := hwr.out c' (by simp)
          have hk13 : (k : Int) < 13 := by omega
          have hk0 : (0 : Int) ≤ (k : Int) := by omega
          have hce : ((pre ++ (done ++ c' :: rest) ++ post).map u64v)[o + k]? = some (.int .u64 (c' : Int)) := by
            rw [List.getElem?_map, show pre ++ (done ++ c' :: rest) ++ post = (pre ++ done) ++ (c' :: (rest ++ post)) by simp, List.getElem?_append_right (by rw [List.length_append]; omega), List.length_append, show o + k - (pre.length + done.length) = 0 by omega]
            rfl
          have hse : ∀ y : Nat, ((pre ++ (done ++ c' :: rest) ++ post).map u64v).set (o + k) (.int .u64 (y : Int)) = (pre ++ ((done ++ [y]) ++ rest) ++ post).map u64v := fun y => by
            rw [show pre ++ (done ++ c' :: rest) ++ post = (pre ++ done) ++ (c' :: (rest ++ post)) by simp, List.map_append, List.set_append_right _ _ (by rw [List.length_map, List.length_append]; omega), List.length_map, List.length_append, show o + k - (pre.length + done.length) = 0 by omega]
            simp [u64v]
          have hX := Lib.hid (u64_xor_nat c' x' hc64 hx')
          have hx2 : c' ^^^ x' < 18446744073709551616 := by have := Nat.xor_lt_two_pow (n := 64) (by simpa using hc64) (by simpa using hx'); simpa using this
          have hN := Lib.hid ((u64_and_nat x' (c' ^^^ x') hx' hx2))
          replace hse := Lib.hid hse
          replace hdl := Lib.hid hdl
          go_wp2_with fail
          refine wp_region_plan 9 [(true, 0), (true, 1), (true, 2), (true, 3), (true, 4), (true, 5), (true, 6), (true, 7), (true, 8)] (by kernel_rfl) (by kernel_rfl) (fun U hU => ?_)
          have hBU := Lib.hid (show Blk U g 101 ((pre ++ (done ++ c' :: rest) ++ post).map u64v) from by rw [hU.out]; exact hB.out.drew)
          have hOU := Lib.hid (show OnlyAt g w U from by rw [hU.out]; exact hO.out.drewN 1)
          clear hU hB hO
          have cL : U.cell? ⟨g, o + k, none⟩ = some (.int .u64 (c' : Int)) := by rw [Blk.cell hBU.out (o + k), hce]
          have fL := Blk.frozen hBU.out (o + k)
          replace hce := Lib.hid hce
          simp only [List.drop_succ_cons]
          iterate 9
            refine wpPlan_float (v := ?_) rfl (by rfl) (fun w' hw' => ?_) (fun K hK => ?_)
            rotate_left
            · (go_simp; try with_reducible rfl)
            go_simp
            refine hK _ ?_
            clear hK K
          rw [hX.out]
          obtain ⟨V, hV⟩ : ∃ V, V = U.setCell ⟨g, o + k, none⟩ (.int .u64 ((c' ^^^ x' : Nat) : Int)) := ⟨_, rfl⟩
          have hBV := Lib.hid (show Blk V g 101 ((pre ++ ((done ++ [c' ^^^ x']) ++ rest) ++ post).map u64v) from by rw [hV, ← hse.out]; exact hBU.out.set_ _ _)
          have hOV := Lib.hid (show OnlyAt g w V from by rw [hV]; exact hOU.out.set _ _)
          have cV : V.cell? ⟨g, o + k, none⟩ = some (.int .u64 ((c' ^^^ x' : Nat) : Int)) := by
            rw [Blk.cell hBV.out (o + k), ← hse.out, List.getElem?_set, if_pos rfl, if_pos (List.getElem?_eq_some_iff.1 hce.out).1]
          refine wpPlan_nil ?_
          go_wp2_with (rw [← hV]; clear hV)
          refine NoPanic.normal ?_
          clear cL fL
          go_wp2_with fail
          go_roundw
          case rel =>
            exact ⟨lessF c' x', k + 1, done ++ [c' ^^^ x'], rest, by rw [hN.out]; rfl, by go_num, Nat.lt_of_le_of_lt (hkept.out c' x') hx', by rw [List.length_append, hdl.out]; rfl, by omega, Lib.hid (fun z hz => hwr.out z (List.mem_cons.2 (.inr hz))), Lib.hid (by rw [hgo.out, List.append_assoc]; rfl), Lib.hid hfit.out, hBV, hOV⟩
          case measure => simp [intOf]; omega
set_option maxHeartbeats 1000000 in
theorem topo_none (g o : Nat) (pre cs post : List Nat) (w : World) (hB : Blk w g 101 ((pre ++ cs ++ post).map u64v)) (ho : pre.length = o) (hc : cs.length = 13) (hw : W64 cs) :
    Calls Try.prog 62 #[.pointer (some ⟨g, o, none⟩)] w fun e w' => e = .returned (.int .u64 ((noneC cs : Nat) : Int)) ∧ w = w' := by
  replace hB := Lib.hid hB
  have hcl := Lib.hid hc
  go_enter Try.func62, Try.ntmps62
  go_wp2_with fail
  go_loopw [3, 7] (fun s i wr => ∃ (k : Nat) (y : Nat), k ≤ 13 ∧ i = .int .i64 (k : Int) ∧ s = .int .u64 (y : Int) ∧ y < 18446744073709551616 ∧ Hid (y = orC (cs.take k)) ∧ wr = w) (fun _ i _ => 13 - (intOf i).toNat)
  case atStart => exact ⟨0, 0, by omega, rfl, rfl, by omega, Lib.hid rfl, rfl⟩
  case round =>
    obtain ⟨k, y, hk, rfl, rfl, hy64, hy, rfl⟩ := hrel
    by_cases hlt : k < 13
    · obtain ⟨c', hce⟩ : ∃ c', cs[k]? = some c' := ⟨_, List.getElem?_eq_getElem (by omega)⟩
      have hc64 := hw c' (List.mem_of_getElem? hce)
      have cL : wr.cell? ⟨g, o + k, none⟩ = some (.int .u64 (c' : Int)) := by
        rw [Blk.cell hB.out (o + k), List.getElem?_map, List.append_assoc, List.getElem?_append_right (by omega), show o + k - pre.length = k by omega, List.getElem?_append_left (by omega), hce]; rfl
      have hE := Lib.hid (u64_or_nat y c' hy64 hc64)
      have hk13 : (k : Int) < 13 := by omega
      have hk0 : (0 : Int) ≤ (k : Int) := by omega
      replace hce := Lib.hid hce
      go_wp2_with fail
      go_roundw
      case rel =>
        refine ⟨k + 1, y ||| c', by omega, by go_num, by rw [hE.out], ?_, Lib.hid ?_, trivial⟩
        · have := Nat.or_lt_two_pow (n := 64) (by simpa using hy64) (by simpa using hc64); simpa using this
        · rw [List.take_add_one, hce.out, hy.out]; exact (orC_snoc _ _).symm
      case measure => simp [intOf]; omega
    · obtain rfl : k = 13 := by omega
      go_wp2_with fail
      go_ret
      refine ⟨?_, rfl⟩
      rw [List.take_of_length_le (by rw [hcl.out]; omega)] at hy
      have hyo := hy.out
      subst hyo
      rw [noneC_xor hw]
      rfl
end Go.Proofs.Ytpgcokkmhlhnpaa

namespace Go.Proofs.Ytpgcokkmhlhnpaa
open Go.RowKit
set_option linter.unusedVariables false

theorem own_only {w w' : World} {g base : Nat} {e : TypeId} {size n : Nat} {v : Value} {vs : List Value} (h : w.ownsRow base e size v n vs) (ho : OnlyAt g w w') (hne : v.ownBlock ≠ some g) : w'.ownsRow base e size v n vs := by
  refine ⟨h.1, ?_⟩
  rcases h.2 with ⟨h1, h2⟩ | ⟨k, cap, cur, rfl, hbg, hg, r⟩
  · exact .inl ⟨h1, h2⟩
  · exact .inr ⟨k, cap, cur, rfl, hbg, (ho.block k (fun e => hne (by rw [← e]; rfl))).trans hg, r⟩
theorem Blk.only {w w' : World} {g k : Nat} {t : TypeId} {cs : List Value} (h : Blk w k t cs) (ho : OnlyAt g w w') (hne : k ≠ g) : Blk w' k t cs := (ho.block k hne).trans h
theorem below_only {w w' w0 : World} {g : Nat} (h : Below w0.heap.size w0 w) (ho : OnlyAt g w w') (hg : w0.heap.size ≤ g) : Below w0.heap.size w0 w' := h.trans (ho.below.mono hg)

end Go.Proofs.Ytpgcokkmhlhnpaa

namespace Go.Proofs.Ytpgcokkmhlhnpaa
open Go.RowKit
set_option linter.unusedVariables false
theorem Blk.row15 {w : World} {g n : Nat} {t : TypeId} {ms : List Nat} (h : Blk w g t (ms.map u64v)) (hl : ms.length = n) (hw : W64 ms) : Row w (some ⟨g, 0, none⟩) n ms :=
  ⟨by have := h.rd; rwa [List.length_map, hl] at this, hw⟩
theorem words15 {n nw : Nat} (h : nw = (wordsZ (n : Int)).toNat) : wordsZ (n : Int) = (nw : Int) ∧ n ≤ 64 * nw ∧ 64 * nw ≤ n + 63 := by
  have h1 : wordsZ (n : Int) = ((n : Int) + 63) / 64 := by unfold wordsZ; rw [if_neg (by omega)]
  refine ⟨?_, ?_, ?_⟩ <;> rw [h, h1] <;> omega
/-- a mask of the numbers, where they are a matrix's, and unlike -/
def RetOnce (n nw : Nat) (zs : List Int) (w : World) (e : Ending) (w' : World) : Prop :=
  (FineZ n zs ∧ ∃ (g : Nat) (ms : List Nat), e = .returned (.tuple #[.slice (some ⟨g, 0, none⟩) nw nw, .bool true]) ∧ w.heap.size ≤ g ∧ Blk w' g 99 (ms.map u64v) ∧ MaskIs nw zs ms ∧ Below w.heap.size w w') ∨
  (¬ FineZ n zs ∧ e = .returned (.tuple #[.slice none 0 0, .bool false]) ∧ Below w.heap.size w w')
set_option maxRecDepth 100000 in
set_option maxHeartbeats 2000000 in
theorem topo_once (D : Option Addr) (m d : Nat) (zs : List Int) (n nw : Nat) (w : World) (hL : LAt encI w D m zs) (hm : m ≤ 1048576) (hn : n ≤ 1048576) (hnw : nw = (wordsZ (n : Int)).toNat) :
    Calls Try.prog 39 #[.slice D m d, .int .i64 (n : Int)] w (RetOnce n nw zs w) := by
  obtain ⟨hnz, hn1, hn2⟩ := words15 hnw
  have hWds := Lib.hid (fun W => row_Words (n : Int) (by omega) (by omega) W)
  rw [hnz] at hWds
  have mk64 := mk_u64 .i64 .i64 nw nw (Nat.le_refl _) (by omega)
  replace hnz := Lib.hid hnz
  replace hnw := Lib.hid hnw
  have hml := Lib.hid hL.len
  obtain ⟨g, hg⟩ : ∃ g, g = w.heap.size := ⟨_, rfl⟩
  obtain ⟨W1, hW1⟩ : ∃ W, W = w.alloc (.cells (zeros nw (.int .u64 0)) 99) := ⟨_, rfl⟩
  have hB0 := Lib.hid (show Blk W1 g 99 ((List.replicate nw 0).map u64v) from by rw [hW1, hg, ← replicate_zero_u64]; exact Blk.new w _ _)
  have hb0 := Lib.hid (show Below w.heap.size w W1 from by rw [hW1]; exact below_alloc _ _)
  have hgl := Lib.hid (show w.heap.size ≤ g from by rw [hg]; exact Nat.le_refl _)
  have hLw := Lib.hid hL
  clear hL
  go_enter Try.func39, Try.ntmps39
  go_wp2_with fail
  refine (hWds.out _).mono ?_; rintro e w' ⟨rfl, rfl⟩
  go_wp2_with (rw [← hW1, ← hg]; clear hW1 hg)
  clear mk64
  go_loopw [14] (fun t wr => ∃ (q : Nat) (ms : List Nat), q ≤ m ∧ t = .int .i64 (q : Int) ∧ Hid (MaskIs nw (zs.take q) ms) ∧ Hid (FineZ n (zs.take q)) ∧ Hid (Blk wr g 99 (ms.map u64v)) ∧ Hid (Below w.heap.size w wr)) (fun t _ => m - (intOf t).toNat)
  case atStart => exact ⟨0, _, Nat.zero_le _, rfl, Lib.hid (MaskIs.zero nw), Lib.hid ⟨fun z hz => (by cases hz), List.nodup_nil⟩, hB0, hb0⟩
  case round =>
    clear hB0 hb0
    obtain ⟨q, ms, hq, rfl, hM, hF, hB, hb⟩ := hrel
    by_cases hlt : q < m
    · have hlt' : (q : Int) < (m : Int) := by omega
      obtain ⟨lb, lo, z, rfl, hlb, hz, zok, j0⟩ := (hLw.out.below hb.out).int hlt
      have bq : 0 ≤ (q : Int) := by omega
      have hbel := Lib.hid (fun W => topo_below z (n : Int) W)
      have hno := Lib.hid (fun h => not_fine_at (n := n) hz h)
      have hts := Lib.hid (take_snoc hz)
      replace hz := Lib.hid hz
      replace hlt := Lib.hid hlt
      by_cases hin : 0 ≤ z ∧ z < (n : Int)
      · rw [belowZ_yes hin.1 hin.2] at hbel
        have hrow := Lib.hid (hB.out.row15 hM.out.len hM.out.w64)
        have hhas := Lib.hid (row_Has _ nw nw ms z wr hrow.out (by omega) zok.1 zok.2)
        obtain ⟨j, rfl⟩ := Int.eq_ofNat_of_zero_le hin.1
        have hj : j < 64 * nw := by omega
        cases hh : hasR ms (j : Int) with
        | true =>
          have hn := Lib.hid (hno.out (.inr ((hM.out.has j).1 hh)))
          rw [hh] at hhas
          replace hh := Lib.hid hh
          replace hin := Lib.hid hin
          go_wp2_with fail
          refine (hbel.out _).mono ?_; rintro e w' ⟨rfl, rfl⟩
          go_wp2_with fail
          refine hhas.out.mono ?_; rintro e w' ⟨rfl, rfl⟩
          go_wp2_with fail
          exact bodyPost_ret (v := .tuple #[.slice none 0 0, .bool false]) (by simp [results, go_sem]) rfl (.inr ⟨hn.out, rfl, hb.out⟩)
        | false =>
          have hnm : Hid ((j : Int) ∉ zs.take q) := Lib.hid (fun h => by have := (hM.out.has j).2 h; rw [hh] at this; cases this)
          have hput := Lib.hid (topo_put g nw nw ms j wr hB.out hM.out.len hM.out.w64 hj (by omega))
          rw [hh] at hhas
          replace hh := Lib.hid hh
          replace hin := Lib.hid hin
          go_wp2_with fail
          refine (hbel.out _).mono ?_; rintro e w' ⟨rfl, rfl⟩
          go_wp2_with fail
          refine hhas.out.mono ?_; rintro e w' ⟨rfl, rfl⟩
          go_wp2_with fail
          refine hput.out.mono ?_; rintro e w2 ⟨rfl, hB2, hO2⟩
          clear j0
          go_wp2_with fail
          go_roundw
          case rel =>
            refine ⟨q + 1, _, by have := hlt.out; omega, by go_num, Lib.hid ?_, Lib.hid ?_, Lib.hid hB2, Lib.hid (below_only hb.out hO2 hgl.out)⟩
            · rw [hts.out]; exact hM.out.snoc hj
            · rw [hts.out]; exact hF.out.snoc hin.out hnm.out
          case measure => have := hlt.out; simp [intOf]; omega
      · rw [belowZ_no (by omega)] at hbel
        have hn := Lib.hid (hno.out (.inl hin))
        replace hin := Lib.hid hin
        go_wp2_with fail
        refine (hbel.out _).mono ?_; rintro e w' ⟨rfl, rfl⟩
        go_wp2_with fail
        exact bodyPost_ret (v := .tuple #[.slice none 0 0, .bool false]) (by simp [results, go_sem]) rfl (.inr ⟨hn.out, rfl, hb.out⟩)
    · obtain rfl : q = m := by omega
      have e : zs.take q = zs := List.take_of_length_le (by rw [hml.out]; exact Nat.le_refl _)
      rw [e] at hM hF
      replace e := Lib.hid e
      go_wp2_with fail
      exact bodyPost_ret (v := .tuple #[.slice (some ⟨g, 0, none⟩) nw nw, .bool true]) (by simp [results, go_sem]) rfl (.inl ⟨hF.out, g, ms, rfl, hgl.out, hB.out, hM.out, hb.out⟩)
set_option maxRecDepth 100000 in
set_option maxHeartbeats 2000000 in
theorem topo_Perm (D : Option Addr) (m d : Nat) (zs : List Int) (N : Int) (w : World) (hL : LAt encI w D m zs) (hm : m ≤ 1048576) :
    Calls Try.prog 21 #[.slice D m d, .int .i64 N] w (RetIff (PermB zs N) w) := by
  have hml := hL.len
  by_cases hN : N = (m : Int)
  · subst hN
    have hiff := Lib.hid (show PermB zs (m : Int) ↔ FineZ m zs from by unfold PermB FineZ; rw [hml]; exact ⟨fun h => h.2, fun h => ⟨rfl, h⟩⟩)
    have cO := Lib.hid (topo_once D m d zs m _ w hL hm hm rfl)
    clear hL hml
    have e0 : ((m : Int) != (m : Int)) = false := by simp
    go_enter Try.func21, Try.ntmps21
    go_wp2_with fail
    refine cO.out.mono ?_; rintro e w' (⟨hF, g, ms, rfl, -, -, -, hb⟩ | ⟨hF, rfl, hb⟩)
    · replace hF := Lib.hid hF
      go_wp2_with fail
      go_ret
      exact ⟨true, rfl, ⟨fun _ => hiff.out.2 hF.out, fun _ => rfl⟩, hb⟩
    · replace hF := Lib.hid hF
      go_wp2_with fail
      go_ret
      exact ⟨false, rfl, ⟨fun h => (by cases h), fun h => absurd (hiff.out.1 h) hF.out⟩, hb⟩
  · have hno := Lib.hid (show ¬ PermB zs N from fun h => hN (by rw [← h.1, hml]))
    clear hL hml
    have e0 : ((m : Int) != N) = true := by rw [bne_iff_ne]; exact fun e => hN e.symm
    replace hN := Lib.hid hN
    go_enter Try.func21, Try.ntmps21
    go_wp2_with fail
    go_ret
    exact ⟨false, rfl, ⟨fun h => (by cases h), fun h => absurd h hno.out⟩, Below.refl _ _⟩
theorem respO_iff {r : Int → Int → Prop} {l : List Int} : RespO r l ↔ ∀ q (z : Int), l[q]? = some z → ∀ y ∈ l.take (q + 1), ¬ r z y := by
  unfold RespO
  constructor
  · intro h q z hz y hy
    obtain ⟨k, hk, rfl⟩ := List.getElem_of_mem hy
    rw [List.length_take] at hk
    have hq := (List.getElem?_eq_some_iff.1 hz).1
    have := h q k hq (by omega)
    rw [List.getD_eq_getElem?_getD, hz, List.getD_eq_getElem?_getD, List.getElem?_eq_getElem (by omega)] at this
    rw [List.getElem_take]
    exact this
  · intro h i k hi hk
    have h1 := h i l[i] (List.getElem?_eq_getElem hi) (l.getD k 0) (by
      rw [List.getD_eq_getElem?_getD, List.getElem?_eq_getElem (by omega : k < l.length)]
      exact List.mem_take_iff_getElem.2 ⟨k, by omega, rfl⟩)
    rw [List.getD_eq_getElem?_getD, List.getElem?_eq_getElem hi]
    exact h1
set_option maxRecDepth 100000 in
set_option maxHeartbeats 2000000 in
theorem topo_Respects (A : Option Addr) (n c : Nat) (a : List (List Nat)) (D : Option Addr) (m d : Nat) (zs : List Int) (w : World) (hr : RowsAt w A n a) (hG : Good n a) (hL : LAt encI w D m zs) (hm : m ≤ 1048576) :
    Calls Try.prog 22 #[.agg #[.int .i64 (n : Int), .slice A n c], .slice D m d] w (RetIff (RespO (RelZ a) zs) w) := by
  obtain ⟨nw, hnw⟩ : ∃ nw, nw = (wordsZ (n : Int)).toNat := ⟨_, rfl⟩
  obtain ⟨hnz, hn1, hn2⟩ := words15 hnw
  have hn4 := hG.le
  have hWds := Lib.hid (fun W => row_Words (n : Int) (by omega) (by omega) W)
  rw [hnz] at hWds
  have mk64 := mk_u64 .i64 .i64 nw nw (Nat.le_refl _) (by omega)
  replace hnz := Lib.hid hnz
  replace hnw := Lib.hid hnw
  have hml := Lib.hid hL.len
  -- a call with the matrix (A n c a): it is boxed at g, the world is W0 then
  have hM0 := Lib.hid (MatK.new (N := (n : Int)) (c := c) w 39 hr)
  obtain ⟨g, hg⟩ : ∃ g, g = w.heap.size := ⟨_, rfl⟩
  obtain ⟨W0, hW0⟩ : ∃ W, W = w.alloc (.cells #[.int .i64 (n : Int), .slice A n c] 39) := ⟨_, rfl⟩
  rw [← hW0, ← hg] at hM0
  have hbo := Lib.hid (show Below w.heap.size w W0 from by rw [hW0]; exact below_alloc _ _)
  have m0 := hM0.out.1.c0
  have m1 := hM0.out.1.c1
  obtain ⟨gm, hgm⟩ : ∃ g, g = W0.heap.size := ⟨_, rfl⟩
  obtain ⟨W1, hW1⟩ : ∃ W, W = W0.alloc (.cells (zeros nw (.int .u64 0)) 99) := ⟨_, rfl⟩
  have hB0 := Lib.hid (show Blk W1 gm 99 ((List.replicate nw 0).map u64v) from by rw [hW1, hgm, ← replicate_zero_u64]; exact Blk.new W0 _ _)
  have b1 : Below W0.heap.size W0 W1 := by rw [hW1]; exact below_alloc _ _
  have hb0 := Lib.hid (below_trans2 hbo.out b1)
  have hMs := Lib.hid (Blk.below hM0.out.1 b1 hM0.out.1.lt)
  have hgl := Lib.hid (show w.heap.size ≤ gm from by rw [hgm]; exact hbo.out.size)
  have hne := Lib.hid (show g ≠ gm from by rw [hgm]; exact Nat.ne_of_lt hM0.out.1.lt)
  have hLw := Lib.hid hL
  have hrw := Lib.hid hr
  replace hG := Lib.hid hG
  clear hL hr b1 hM0 hbo
  go_enter Try.func22, Try.ntmps22
  go_wp2_with (rw [← hW0, ← hg]; clear hW0 hg)
  refine (hWds.out _).mono ?_; rintro e w' ⟨rfl, rfl⟩
  go_wp2_with (rw [← hW1, ← hgm]; clear hW1 hgm)
  clear mk64 m0 m1
  go_loopw [14] (fun t wr => ∃ (q : Nat) (ms : List Nat), q ≤ m ∧ t = .int .i64 (q : Int) ∧ Hid (ms.length = nw ∧ W64 ms ∧ ∀ j : Nat, hasR ms (j : Int) = true ↔ (j < n ∧ (j : Int) ∈ zs.take q)) ∧ Hid (∀ p (z : Int), p < q → zs[p]? = some z → ∀ y ∈ zs.take (p + 1), ¬ RelZ a z y) ∧ Hid (Blk wr gm 99 (ms.map u64v)) ∧ Hid (Blk wr g 39 [.int .i64 (n : Int), .slice A n c]) ∧ Hid (Below w.heap.size w wr)) (fun t _ => m - (intOf t).toNat)
  case atStart => exact ⟨0, _, Nat.zero_le _, rfl, Lib.hid ⟨by simp, (MaskIs.zero nw).w64, fun j => by rw [hasR_zeros]; simp⟩, Lib.hid (fun p z h => by omega), hB0, hMs, hb0⟩
  case round =>
    clear hB0 hb0 hMs
    obtain ⟨q, ms, hq, rfl, hM, hF, hB, hMs, hb⟩ := hrel
    by_cases hlt : q < m
    · have hlt' : (q : Int) < (m : Int) := by omega
      obtain ⟨lb, lo, z, rfl, hlb, hz, zok, j0⟩ := (hLw.out.below hb.out).int hlt
      have bq : 0 ≤ (q : Int) := by omega
      have hbel := Lib.hid (fun W => topo_below z (n : Int) W)
      have hts := Lib.hid (take_snoc hz)
      replace hz := Lib.hid hz
      replace hlt := Lib.hid hlt
      have m0 := Blk.cell hMs.out 0
      have m1 := Blk.cell hMs.out 1
      by_cases hin : 0 ≤ z ∧ z < (n : Int)
      · rw [belowZ_yes hin.1 hin.2] at hbel
        obtain ⟨j, rfl⟩ := Int.eq_ofNat_of_zero_le hin.1
        have hjn : j < n := by omega
        have hj : j < 64 * nw := by omega
        have hput := Lib.hid (topo_put gm nw nw ms j wr hB.out hM.out.1 hM.out.2.1 hj (by omega))
        replace hin := Lib.hid hin
        go_wp2_with fail
        refine (hbel.out _).mono ?_; rintro e w' ⟨rfl, rfl⟩
        go_wp2_with fail
        refine hput.out.mono ?_; rintro e w2 ⟨rfl, hB2, hO2⟩
        have hb2 := Lib.hid (below_only hb.out hO2 hgl.out)
        have hMs2 := Lib.hid (Blk.only hMs.out hO2 hne.out)
        have hM2 : Hid ((setR ms (j : Int)).length = nw ∧ W64 (setR ms (j : Int)) ∧ ∀ i : Nat, hasR (setR ms (j : Int)) (i : Int) = true ↔ (i < n ∧ (i : Int) ∈ zs.take (q + 1))) := Lib.hid ⟨by rw [setR_len]; exact hM.out.1, setR_w64 hM.out.2.1 j, fun i => by
          rw [hasR_setR ms j i (by rw [hM.out.1]; exact hj), Bool.or_eq_true, hM.out.2.2, decide_eq_true_eq, hts.out, List.mem_append, List.mem_singleton]
          constructor
          · rintro (⟨h1, h2⟩ | rfl)
            · exact ⟨h1, .inl h2⟩
            · exact ⟨hjn, .inr rfl⟩
          · rintro ⟨h1, h2 | h2⟩
            · exact .inl ⟨h1, h2⟩
            · exact .inr (by omega)⟩
        obtain ⟨rb, ro, B, mm, dd, xs, rfl, hrb, hxs, hr0, hRow⟩ := (hrw.out.below hb2.out).at_ hjn
        have hrow := hG.out.row xs (List.mem_of_getElem? hxs)
        have hxl : mm = nw := by rw [← hRow.len, hrow.2.2.1]; exact hnw.out.symm
        have m0 := Blk.cell hMs2.out 0
        have m1 := Blk.cell hMs2.out 1
        have hRel := Lib.hid (fun y : Int => hasM_in (j := y) hxs)
        have cM := Lib.hid (topo_meet B (some ⟨gm, 0, none⟩) mm nw dd nw xs (setR ms (j : Int)) w2 hRow (Blk.row15 hB2 hM2.out.1 hM2.out.2.1) (by omega) (by omega))
        have hmeet : Hid (MeetR xs (setR ms (j : Int)) ↔ ∃ y ∈ zs.take (q + 1), RelZ a (j : Int) y) := Lib.hid (by
          constructor
          · rintro ⟨i, h1, h2⟩
            exact ⟨(i : Int), ((hM2.out.2.2 i).1 h2).2, by unfold RelZ; rw [hRel.out]; exact h1⟩
          · rintro ⟨y, h1, h2⟩
            obtain ⟨i', j', h3, rfl, h4, h5, h6⟩ := RelZ.nat hG.out h2
            refine ⟨j', ?_, (hM2.out.2.2 j').2 ⟨h5, h1⟩⟩
            unfold RelZ at h2; rw [hRel.out] at h2; exact h2)
        have hjn' : (j : Int) < (n : Int) := by omega
        have hj0 : 0 ≤ (j : Int) := by omega
        replace hB2 := Lib.hid hB2
        replace hxs := Lib.hid hxs
        replace hrow := Lib.hid hrow
        replace hxl := Lib.hid hxl
        clear hRow j0 hO2 hrb
        go_wp2_with fail
        refine cM.out.mono ?_; rintro e w3 ⟨⟨bb, rfl, hbb⟩, rfl⟩
        rw [hmeet.out] at hbb
        replace hbb := Lib.hid hbb
        cases bb with
        | true =>
          go_wp2_with fail
          go_ret
          refine ⟨false, rfl, ⟨fun h => (by cases h), fun h => ?_⟩, hb2.out⟩
          obtain ⟨y, h1, h2⟩ := hbb.out.1 trivial
          exact absurd h2 (respO_iff.1 h q _ hz.out y h1)
        | false =>
          go_wp2_with fail
          go_roundw
          case rel =>
            refine ⟨q + 1, _, by have := hlt.out; omega, by go_num, hM2, Lib.hid (fun p x hp hx y hy hR => ?_), hB2, hMs2, hb2⟩
            rcases Nat.lt_or_ge p q with h1 | h1
            · exact hF.out p x h1 hx y hy hR
            · obtain rfl : p = q := by omega
              have e := hz.out
              rw [hx] at e
              injection e with e
              subst e
              have := hbb.out.2 ⟨y, hy, hR⟩
              cases this
          case measure => have := hlt.out; simp [intOf]; omega
      · rw [belowZ_no (by omega)] at hbel
        have hM2 : Hid (ms.length = nw ∧ W64 ms ∧ ∀ i : Nat, hasR ms (i : Int) = true ↔ (i < n ∧ (i : Int) ∈ zs.take (q + 1))) := Lib.hid ⟨hM.out.1, hM.out.2.1, fun i => by
          rw [hM.out.2.2, hts.out, List.mem_append, List.mem_singleton]
          constructor
          · rintro ⟨h1, h2⟩
            exact ⟨h1, .inl h2⟩
          · rintro ⟨h1, h2 | h2⟩
            · exact ⟨h1, h2⟩
            · exact absurd ⟨by omega, by omega⟩ hin⟩
        have hF2 : Hid (∀ p (x : Int), p < q + 1 → zs[p]? = some x → ∀ y ∈ zs.take (p + 1), ¬ RelZ a x y) := Lib.hid (fun p x hp hx y hy hR => by
          rcases Nat.lt_or_ge p q with h1 | h1
          · exact hF.out p x h1 hx y hy hR
          · obtain rfl : p = q := by omega
            have e := hz.out
            rw [hx] at e
            injection e with e
            subst e
            obtain ⟨i', j', h3, h4, h5, h6, h7⟩ := RelZ.nat hG.out hR
            exact hin ⟨by omega, by omega⟩)
        replace hin := Lib.hid hin
        go_wp2_with fail
        refine (hbel.out _).mono ?_; rintro e w' ⟨rfl, rfl⟩
        go_wp2_with fail
        go_roundw
        case rel => exact ⟨q + 1, _, by have := hlt.out; omega, by go_num, hM2, hF2, hB, hMs, hb⟩
        case measure => have := hlt.out; simp [intOf]; omega
    · obtain rfl : q = m := by omega
      have hyes := Lib.hid (show RespO (RelZ a) zs from respO_iff.2 (fun p z hz => hF.out p z (by have := (List.getElem?_eq_some_iff.1 hz).1; rw [hml.out] at this; exact this) hz))
      go_wp2_with fail
      go_ret
      exact ⟨true, rfl, ⟨fun _ => hyes.out, fun _ => rfl⟩, hb.out⟩
end Go.Proofs.Ytpgcokkmhlhnpaa

namespace Go.Proofs.Ytpgcokkmhlhnpaa
set_option linter.unusedVariables false

section
variable {r : Nat → Nat → Prop} {n x : Nat} {T D : Nat → Prop} {p : Nat → List Nat} {q : List (Nat × List Nat)}

end
end Go.Proofs.Ytpgcokkmhlhnpaa

namespace Go.Proofs.Ytpgcokkmhlhnpaa
open Go.RowKit
set_option linter.unusedVariables false

/-! ### rows of bits -/
theorem hasR_off {ls : List Nat} {k L i : Nat} (h : ls[k]? = some L) (hi : i < 64) (u : Nat) : hasR (ls.set k (offN L i)) (u : Int) = (hasR ls (u : Int) && decide (u ≠ 64 * k + i)) := by
  have hk : k < ls.length := (List.getElem?_eq_some_iff.1 h).1
  rw [hasR_nat, hasR_nat]
  by_cases e : u / 64 = k
  · have e1 : (ls.set k (offN L i)).getD (u / 64) 0 = offN L i := by
      rw [List.getD_eq_getElem?_getD, e, List.getElem?_set, if_pos rfl, if_pos hk]; rfl
    have e2 : ls.getD (u / 64) 0 = L := by rw [e]; exact Row.get h
    rw [e1, e2, offN_bit L i (u % 64) hi (by omega)]
    congr 1
    rw [decide_eq_decide]; omega
  · have e1 : (ls.set k (offN L i)).getD (u / 64) 0 = ls.getD (u / 64) 0 := by
      rw [List.getD_eq_getElem?_getD, List.getElem?_set, if_neg (by omega), ← List.getD_eq_getElem?_getD]
    rw [e1, decide_eq_true (show u ≠ 64 * k + i by omega), Bool.and_true]

/-! ### the search -/
section
variable {n : Nat} {a : List (List Nat)} {x N z b : Nat} {ls fs zs : List Nat}
end

/-! ### memory -/
end Go.Proofs.Ytpgcokkmhlhnpaa

namespace Go.Proofs.Ytpgcokkmhlhnpaa
open Go.RowKit
set_option linter.unusedVariables false
/-- two blocks alone have changed -/
structure TwoAt (g k : Nat) (w w' : World) : Prop where
  os : w'.os = w.os
  tape : w'.tape = w.tape
  output : w'.output = w.output
  size : w'.heap.size = w.heap.size
  block : ∀ i, i ≠ g → i ≠ k → w'.heap[i]? = w.heap[i]?
theorem TwoAt.refl (g k : Nat) (w : World) : TwoAt g k w w := ⟨rfl, rfl, rfl, rfl, fun _ _ _ => rfl⟩
theorem TwoAt.drewN {g k : Nat} {w w' : World} (h : TwoAt g k w w') (n : Nat) : TwoAt g k w (w'.drewN n) := ⟨h.os, h.tape, h.output, h.size, h.block⟩
theorem TwoAt.trans {g k : Nat} {a b c : World} (h : TwoAt g k a b) (h2 : TwoAt g k b c) : TwoAt g k a c :=
  ⟨h2.os.trans h.os, h2.tape.trans h.tape, h2.output.trans h.output, h2.size.trans h.size, fun i h3 h4 => (h2.block i h3 h4).trans (h.block i h3 h4)⟩
theorem TwoAt.one {g k : Nat} {w w' : World} (h : OnlyAt g w w') : TwoAt g k w w' := ⟨h.os, h.tape, h.output, h.size, fun i h1 _ => h.block i h1⟩
theorem TwoAt.two {g k : Nat} {w w' : World} (h : OnlyAt k w w') : TwoAt g k w w' := ⟨h.os, h.tape, h.output, h.size, fun i _ h1 => h.block i h1⟩
theorem TwoAt.set {g k : Nat} {w w' : World} (h : TwoAt g k w w') (o : Nat) (u : Value) : TwoAt g k w (w'.setCell ⟨g, o, none⟩ u) :=
  h.trans (TwoAt.one ((OnlyAt.refl g w').set o u))
theorem TwoAt.own {w w' : World} {g j base : Nat} {e : TypeId} {size n : Nat} {v : Value} {vs : List Value} (ho : TwoAt g j w w') (h : w.ownsRow base e size v n vs) (hne : v.ownBlock ≠ some g) (hne2 : v.ownBlock ≠ some j) : w'.ownsRow base e size v n vs := by
  refine ⟨h.1, ?_⟩
  rcases h.2 with ⟨h1, h2⟩ | ⟨k, cap, cur, rfl, hbg, hg, r⟩
  · exact .inl ⟨h1, h2⟩
  · exact .inr ⟨k, cap, cur, rfl, hbg, (ho.block k (fun e => hne (by rw [← e]; rfl)) (fun e => hne2 (by rw [← e]; rfl))).trans hg, r⟩
/-- the queue's variable at g, the mask of all at gm, of those that may go at gn, the counts at gc -/
structure QuS (w0 : World) (g gm gn gc nw : Nat) (A : Option Addr) (n c : Nat) (ms ns : List Nat) (css : List (List Nat)) (w : World) : Prop where
  s : Blk w g 98 [.slice A n c, .slice (some ⟨gm, 0, none⟩) nw nw, .slice (some ⟨gn, 0, none⟩) nw nw, .slice (some ⟨gc, 0, none⟩) nw nw]
  m : Blk w gm 99 (ms.map u64v)
  x : Blk w gn 99 (ns.map u64v)
  k : Blk w gc 101 (css.flatten.map u64v)
  nmn : gm ≠ gn
  bg : w0.heap.size ≤ g
  bm : w0.heap.size ≤ gm
  bn : w0.heap.size ≤ gn
  bc : w0.heap.size ≤ gc
  bel : Below w0.heap.size w0 w
section
variable {w0 w w' : World} {g gm gn gc nw n c : Nat} {A : Option Addr} {ms ns : List Nat} {css : List (List Nat)}
theorem blk_ne {g k : Nat} {t t' : TypeId} {cs cs' : List Value} (h : Blk w g t cs) (h' : Blk w k t' cs') (ht : t ≠ t') : g ≠ k := fun e => by
  subst e
  have := h.symm.trans h'
  simp only [Option.some.injEq, Obj.cells.injEq] at this
  exact ht this.2.1
theorem QuS.gn' (h : QuS w0 g gm gn gc nw A n c ms ns css w) : g ≠ gn := blk_ne h.s h.x (by decide)
theorem QuS.gc' (h : QuS w0 g gm gn gc nw A n c ms ns css w) : g ≠ gc := blk_ne h.s h.k (by decide)
theorem QuS.mc (h : QuS w0 g gm gn gc nw A n c ms ns css w) : gm ≠ gc := blk_ne h.m h.k (by decide)
theorem QuS.nc (h : QuS w0 g gm gn gc nw A n c ms ns css w) : gn ≠ gc := blk_ne h.x h.k (by decide)
theorem QuS.later (h : QuS w0 g gm gn gc nw A n c ms ns css w) (hb : Below w.heap.size w w') : QuS w0 g gm gn gc nw A n c ms ns css w' :=
  ⟨h.s.below hb h.s.lt, h.m.below hb h.m.lt, h.x.below hb h.x.lt, h.k.below hb h.k.lt, h.nmn, h.bg, h.bm, h.bn, h.bc, below_trans2 h.bel hb⟩
theorem QuS.cells (h : QuS w0 g gm gn gc nw A n c ms ns css w) : w.cell? ⟨g, 0, none⟩ = some (.slice A n c) ∧ w.cell? ⟨g, 1, none⟩ = some (.slice (some ⟨gm, 0, none⟩) nw nw) ∧ w.cell? ⟨g, 2, none⟩ = some (.slice (some ⟨gn, 0, none⟩) nw nw) ∧ w.cell? ⟨g, 3, none⟩ = some (.slice (some ⟨gc, 0, none⟩) nw nw) :=
  ⟨h.s.cell 0, h.s.cell 1, h.s.cell 2, h.s.cell 3⟩
theorem QuS.setN (h : QuS w0 g gm gn gc nw A n c ms ns css w) (k y : Nat) : QuS w0 g gm gn gc nw A n c ms (ns.set k y) css (w.setCell ⟨gn, k, none⟩ (.int .u64 (y : Int))) :=
  ⟨h.s.far h.gn' _, h.m.far h.nmn _, by rw [List.map_set]; exact h.x.set_ k _, h.k.far (Ne.symm h.nc) _, h.nmn, h.bg, h.bm, h.bn, h.bc, h.bel.setCell h.bn _⟩
theorem QuS.setC (h : QuS w0 g gm gn gc nw A n c ms ns css w) {css' : List (List Nat)} (hk : Blk w' gc 101 (css'.flatten.map u64v)) (ho : OnlyAt gc w w') : QuS w0 g gm gn gc nw A n c ms ns css' w' :=
  ⟨h.s.only ho h.gc', h.m.only ho h.mc, h.x.only ho h.nc, hk, h.nmn, h.bg, h.bm, h.bn, h.bc, below_only h.bel ho h.bc⟩
theorem QuS.grown {row : Option Nat} (h : QuS w0 g gm gn gc nw A n c ms ns css w) (hb : w.grownBy w' row) (h1 : row ≠ some g) (h2 : row ≠ some gm) (h3 : row ≠ some gn) (h4 : row ≠ some gc) (hbel : Below w0.heap.size w w') : QuS w0 g gm gn gc nw A n c ms ns css w' :=
  ⟨h.s.grown hb (Ne.symm h1), h.m.grown hb (Ne.symm h2), h.x.grown hb (Ne.symm h3), h.k.grown hb (Ne.symm h4), h.nmn, h.bg, h.bm, h.bn, h.bc, h.bel.trans hbel⟩
end
/-- the least number that may go was taken off, or there is none -/
def RetTake (w0 : World) (g gm gn gc nw : Nat) (A : Option Addr) (n c : Nat) (ms ns : List Nat) (css : List (List Nat)) (w : World) (e : Ending) (w' : World) : Prop :=
  ((∀ j : Nat, hasR ns (j : Int) = false) ∧ e = .returned (.tuple #[.int .i64 0, .bool false]) ∧ QuS w0 g gm gn gc nw A n c ms ns css w' ∧ OnlyAt gn w w') ∨
  (∃ (x : Nat) (ns' : List Nat), hasR ns (x : Int) = true ∧ (∀ j : Nat, j < x → hasR ns (j : Int) = false) ∧ ns'.length = nw ∧ W64 ns' ∧ (∀ j : Nat, hasR ns' (j : Int) = (hasR ns (j : Int) && decide (j ≠ x))) ∧ x < 64 * nw ∧
    e = .returned (.tuple #[.int .i64 (x : Int), .bool true]) ∧ QuS w0 g gm gn gc nw A n c ms ns' css w' ∧ OnlyAt gn w w')
set_option maxRecDepth 100000 in
set_option maxHeartbeats 2000000 in
theorem topo_take (w0 : World) (g gm gn gc nw : Nat) (A : Option Addr) (n c : Nat) (ms ns : List Nat) (css : List (List Nat)) (w : World) (h : QuS w0 g gm gn gc nw A n c ms ns css w) (hl : ns.length = nw) (hw : W64 ns) (hnw : nw ≤ 1048576) :
    Calls Try.prog 41 #[.pointer (some ⟨g, 0, none⟩)] w (RetTake w0 g gm gn gc nw A n c ms ns css w) := by
  obtain ⟨s0, s1, s2, s3⟩ := h.cells
  replace h := Lib.hid h
  have hll := Lib.hid hl
  go_enter Try.func41, Try.ntmps41
  go_wp2_with fail
  go_loopw [12] (fun i wr => ∃ k : Nat, k ≤ nw ∧ i = .int .i64 k ∧ Hid (∀ q, q < k → ns.getD q 0 = 0) ∧ wr = w) (fun i _ => nw - (intOf i).toNat)
  case atStart => exact ⟨0, Nat.zero_le _, rfl, Lib.hid (fun q h => by omega), rfl⟩
  case round =>
    obtain ⟨k, hk, rfl, hz, rfl⟩ := hrel
    by_cases hlt : k < nw
    · obtain ⟨y, hy⟩ : ∃ y, ns[k]? = some y := ⟨_, List.getElem?_eq_getElem (by omega)⟩
      have hy64 := hw y (List.mem_of_getElem? hy)
      have hyd := Lib.hid (Row.get hy)
      have cL : wr.cell? ⟨gn, k, none⟩ = some (.int .u64 (y : Int)) := by rw [Blk.cell h.out.x k, List.getElem?_map, hy]; rfl
      have hk0 : (0 : Int) ≤ (k : Int) := by omega
      have hkn : (k : Int) < (nw : Int) := by omega
      replace hy := Lib.hid hy
      by_cases h0 : y = 0
      · subst h0
        go_wp2_with fail
        go_roundw
        case rel =>
          refine ⟨k + 1, by omega, by go_num, Lib.hid (fun q hq => ?_), trivial⟩
          rcases Nat.lt_or_ge q k with h1 | h1
          · exact hz.out q h1
          · obtain rfl : q = k := by omega
            exact hyd.out
        case measure => simp [intOf]; omega
      · have hne : ((y : Int) != 0) = true := by rw [bne_iff_ne]; omega
        have hl64 := low0_lt y hy64 h0
        have hfirst := word_First y hy64
        obtain ⟨i, hie⟩ : ∃ i, i = low0 y := ⟨_, rfl⟩
        have hbit := low0_bit y hl64
        have hbef := low0_before y
        rw [← hie] at hl64 hfirst hbit hbef
        have hoff := Lib.hid (off_eq y i hy64 hl64)
        have hof64 := offN_lt y i hy64
        have hBit := Lib.hid (fun W => word_BitN i hl64 W)
        have hw1 : IntKind.i64.wrap ((k : Int) * 64) = (k : Int) * 64 := by rw [IntKind.wrap_i64]; omega
        have hw2 : IntKind.i64.wrap ((k : Int) * 64 + (i : Int)) = (k : Int) * 64 + (i : Int) := by rw [IntKind.wrap_i64]; omega
        have hx1 : hasR ns ((64 * k + i : Nat) : Int) = true := by rw [hasR_w _ _ _ hl64, hyd.out]; exact hbit
        have hx2 : ∀ j : Nat, j < 64 * k + i → hasR ns (j : Int) = false := fun j hj => by
          rw [hasR_nat]
          rcases Nat.lt_or_ge (j / 64) k with h1 | h1
          · rw [hz.out _ h1, Nat.zero_testBit]
          · rw [show j / 64 = k by omega, hyd.out]; exact hbef _ (by omega)
        have hx3 : ∀ j : Nat, hasR (ns.set k (offN y i)) (j : Int) = (hasR ns (j : Int) && decide (j ≠ 64 * k + i)) := fun j => hasR_off hy.out hl64 j
        replace hx1 := Lib.hid hx1
        replace hx2 := Lib.hid hx2
        replace hx3 := Lib.hid hx3
        replace hbit := Lib.hid hbit
        replace hbef := Lib.hid hbef
        replace hie := Lib.hid hie
        replace hfirst := Lib.hid hfirst
        replace h0 := Lib.hid h0
        go_wp2_with fail
        refine (hfirst.out _).mono ?_; rintro e w' ⟨rfl, rfl⟩
        go_wp2_with fail
        refine wp_region_plan 11 [(true, 0), (true, 1), (true, 2), (true, 3), (true, 4), (true, 5), (true, 6), (true, 7), (false, 8), (true, 9), (true, 10)] (by kernel_rfl) (by kernel_rfl) (fun U hU => ?_)
        have hSU := Lib.hid (show QuS w0 g gm gn gc nw A n c ms ns css U from by rw [hU.out]; exact h.out.later (Below.refl _ _).drew)
        have hOU := Lib.hid (show OnlyAt gn wr U from by rw [hU.out]; exact (OnlyAt.refl _ _).drewN 1)
        clear hU h s0 s1 s2 s3
        obtain ⟨s0, s1, s2, s3⟩ := hSU.out.cells
        have cL : U.cell? ⟨gn, k, none⟩ = some (.int .u64 (y : Int)) := by rw [Blk.cell hSU.out.x k, List.getElem?_map, hy.out]; rfl
        have fL := Blk.frozen hSU.out.x k
        simp only [List.drop_succ_cons]
        iterate 8
          refine wpPlan_float (v := ?_) rfl (by rfl) (fun w' hw' => ?_) (fun K hK => ?_)
          rotate_left
          · (go_simp; try with_reducible rfl)
          go_simp
          refine hK _ ?_
          clear hK K
        refine wpPlan_only rfl (by rfl) (fun K hK => ?_)
        go_simp
        refine (hBit.out U).mono ?_
        rintro e x1 ⟨rfl, rfl⟩
        refine hK _ _ (Below.refl _ _) ?_
        clear hK K
        iterate 2
          refine wpPlan_float (v := ?_) rfl (by rfl) (fun w' hw' => ?_) (fun K hK => ?_)
          rotate_left
          · (go_simp; try with_reducible rfl)
          go_simp
          refine hK _ ?_
          clear hK K
        rw [hoff.out]
        obtain ⟨V, hV⟩ : ∃ V, V = U.setCell ⟨gn, k, none⟩ (.int .u64 ((offN y i : Nat) : Int)) := ⟨_, rfl⟩
        have hSV := Lib.hid (show QuS w0 g gm gn gc nw A n c ms (ns.set k (offN y i)) css V from by rw [hV]; exact hSU.out.setN k _)
        have hOV := Lib.hid (show OnlyAt gn wr V from by rw [hV]; exact hOU.out.set _ _)
        refine wpPlan_nil ?_
        go_wp2_with (rw [← hV]; clear hV)
        refine NoPanic.normal ?_
        clear s0 s1 s2 s3 cL fL
        go_wp2_with fail
        rw [show ((k : Int) * 64 + (i : Int)) = ((64 * k + i : Nat) : Int) by omega]
        exact bodyPost_ret (v := .tuple #[.int .i64 ((64 * k + i : Nat) : Int), .bool true]) (by simp [results, go_sem]) rfl (.inr ⟨64 * k + i, _, hx1.out, hx2.out, by rw [List.length_set]; exact hll.out, mem_set_lt hw hof64, hx3.out, by omega, rfl, hSV.out, hOV.out⟩)
    · obtain rfl : k = nw := by omega
      have hno : Hid (∀ j : Nat, hasR ns (j : Int) = false) := Lib.hid (fun j => by
        rw [hasR_nat]
        rcases Nat.lt_or_ge (j / 64) k with h1 | h1
        · rw [hz.out _ h1, Nat.zero_testBit]
        · rw [getD_out _ _ (by rw [hll.out]; exact h1), Nat.zero_testBit])
      go_wp2_with fail
      exact bodyPost_ret (v := .tuple #[.int .i64 0, .bool false]) (by simp [results, go_sem]) rfl (.inl ⟨hno.out, rfl, h.out, OnlyAt.refl _ _⟩)
end Go.Proofs.Ytpgcokkmhlhnpaa
