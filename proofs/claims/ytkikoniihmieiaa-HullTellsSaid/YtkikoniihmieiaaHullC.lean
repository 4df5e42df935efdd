/- Contracts of package hull: Add. -/
import Derived.Test.YtkikoniihmieiaaHullB
import Derived.Test.YtkikoniihmieiaaMatMemB
import Derived.Test.YtkikoniihmieiaaMatSet
namespace Go.Proofs.Ytkikoniihmieiaa
open Go.RowKit
set_option linter.unusedVariables false

/-- the first q rows turned by f -/
def mapPre (f : Nat → List Nat → List Nat) (a : List (List Nat)) (q : Nat) : List (List Nat) := (List.range a.length).map fun i => if i < q then f i (a.getD i []) else a.getD i []
section
variable {f : Nat → List Nat → List Nat} {a : List (List Nat)} {q : Nat}
theorem mapPre_len : (mapPre f a q).length = a.length := by simp [mapPre]
theorem mapPre_get {i : Nat} {r : List Nat} (h : a[i]? = some r) : (mapPre f a q)[i]? = some (if i < q then f i r else r) := by
  unfold mapPre
  have hi := (List.getElem?_eq_some_iff.1 h).1
  rw [List.getElem?_map, List.getElem?_range hi, Option.map_some, getD_at h]
theorem mapPre_zero : mapPre f a 0 = a := by
  unfold mapPre
  simp only [Nat.not_lt_zero, if_false]
  rw [map_range_getD a [] (fun x => x)]; simp
theorem mapPre_succ {r : List Nat} (h : a[q]? = some r) : mapPre f a (q + 1) = (mapPre f a q).set q (f q r) := by
  apply List.ext_getElem?
  intro i
  rw [List.getElem?_set]
  by_cases hi : i < a.length
  · have hx : a[i]? = some a[i] := List.getElem?_eq_getElem hi
    rw [mapPre_get hx, mapPre_len]
    by_cases hq : q = i
    · subst hq
      rw [h] at hx
      injection hx with hx
      rw [if_pos (by omega), if_pos rfl, if_pos hi, hx]
    · rw [if_neg hq, mapPre_get hx]
      by_cases h1 : i < q
      · rw [if_pos h1, if_pos (by omega)]
      · rw [if_neg h1, if_neg (by omega)]
  · rw [List.getElem?_eq_none (by rw [mapPre_len]; omega)]
    split
    · rename_i h1
      subst h1
      exact absurd (List.getElem?_eq_some_iff.1 h).1 hi
    · rw [List.getElem?_eq_none (by rw [mapPre_len]; omega)]
theorem mapPre_same {r : List Nat} (h : a[q]? = some r) (hf : f q r = r) : mapPre f a (q + 1) = mapPre f a q := by
  rw [mapPre_succ h, hf]
  exact set_self (by rw [mapPre_get h, if_neg (Nat.lt_irrefl _)])
end
theorem RowsF.put {w : World} {lo hi : Nat} {vs : List Value} {xss : List (List Nat)} (h : RowsF w lo hi vs xss) {k : Nat} {v : Value} {xs : List Nat} (hv : RowF w lo hi v xs) : RowsF w lo hi (vs.set k v) (xss.set k xs) := by
  refine ⟨by simp [h.1], fun i u ys h1 h2 => ?_⟩
  rw [List.getElem?_set] at h1 h2
  by_cases hk : k = i
  · rw [if_pos hk] at h1 h2
    split at h1
    · split at h2
      · injection h1 with h1
        injection h2 with h2
        subst h1 h2
        exact hv
      · cases h2
    · cases h1
  · rw [if_neg hk] at h1 h2
    exact h.2 i u ys h1 h2

/-! ### one pair more -/
def addRow (i : Nat) (g : List Nat) (q : Nat) (r : List Nat) : List Nat := if ((q == i) || hasR r (i : Int)) && !subR g r then orR r g else r
def addM (a : List (List Nat)) (i j : Nat) : List (List Nat) := mapPre (addRow i (setR (a.getD j []) (j : Int))) a a.length
theorem addRow_facts {n : Nat} {a : List (List Nat)} (ha : Good n a) {i j : Nat} (hi : i < n) (hj : j < n) {q : Nat} {r : List Nat} (hr : a[q]? = some r) :
    W64 (addRow i (setR (a.getD j []) (j : Int)) q r) ∧ (addRow i (setR (a.getD j []) (j : Int)) q r).length = r.length ∧
      ∀ y : Nat, hasR (addRow i (setR (a.getD j []) (j : Int)) q r) (y : Int) = (hasR r (y : Int) || (((q == i) || hasR r (i : Int)) && (hasM a (j : Int) (y : Int) || decide (y = j)))) := by
  obtain ⟨s, hs, hws, hls⟩ := ha.at_ hj
  have h1 := ha.row r (List.mem_of_getElem? hr)
  have h2 := ha.row s (List.mem_of_getElem? hs)
  have hwg : W64 (setR s (j : Int)) := setR_w64 hws j
  have hg : ∀ y : Nat, hasR (setR s (j : Int)) (y : Int) = (hasM a (j : Int) (y : Int) || decide (y = j)) := fun y => by rw [hasR_setR s j y (by omega), hasM_in hs]
  rw [getD_at hs]
  unfold addRow
  cases hc : (q == i) || hasR r (i : Int) with
  | false =>
    rw [Bool.false_and, if_neg (by simp)]
    exact ⟨h1.1, rfl, fun y => by rw [Bool.false_and, Bool.or_false]⟩
  | true =>
    rw [Bool.true_and]
    cases hsb : subR (setR s (j : Int)) r with
    | true =>
      rw [if_neg (by simp)]
      refine ⟨h1.1, rfl, fun y => ?_⟩
      rw [Bool.true_and, ← hg y]
      cases hy : hasR (setR s (j : Int)) (y : Int) with
      | false => rw [Bool.or_false]
      | true => rw [(subR_iff _ r hwg).1 hsb y hy]; rfl
    | false =>
      rw [if_pos (by simp)]
      refine ⟨orR_w64 h1.1 hwg, by rw [orR_len, setR_len, h1.2.2.1, h2.2.2.1, Nat.max_self], fun y => ?_⟩
      rw [hasR_orR, hg y, Bool.true_and]
theorem addM_good {n : Nat} {a : List (List Nat)} (ha : Good n a) {i j : Nat} (hi : i < n) (hj : j < n) : Good n (addM a i j) := by
  unfold addM
  refine ⟨ha.le, by rw [mapPre_len, ha.len], fun r hr => ?_⟩
  obtain ⟨q, hq⟩ := List.getElem?_of_mem hr
  have hql : q < a.length := by
    have := (List.getElem?_eq_some_iff.1 hq).1
    rwa [mapPre_len] at this
  have hx : a[q]? = some a[q] := List.getElem?_eq_getElem hql
  rw [mapPre_get hx, if_pos hql] at hq
  injection hq with hq
  subst hq
  have h0 := ha.row _ (List.mem_of_getElem? hx)
  obtain ⟨h1, h2, h3⟩ := addRow_facts ha hi hj hx
  refine ⟨h1, by rw [h2]; exact h0.2.1, by rw [h2]; exact h0.2.2.1, fun y hy => ?_⟩
  rw [h3 y, h0.2.2.2 y hy, decide_eq_false (by omega), Bool.or_false]
  cases hh : hasM a (j : Int) (y : Int) with
  | false => simp
  | true => exact absurd (ha.has_lt hh).2 (by omega)
theorem addM_rel {n : Nat} {a : List (List Nat)} (ha : Good n a) {i j : Nat} (hi : i < n) (hj : j < n) (x y : Nat) : Rel (addM a i j) x y ↔ AddR (Rel a) i j x y := by
  unfold AddR
  by_cases hx : x < n
  · obtain ⟨r, hr, _, _⟩ := ha.at_ hx
    have h1 : (addM a i j)[x]? = some (addRow i (setR (a.getD j []) (j : Int)) x r) := by
      unfold addM
      rw [mapPre_get hr, if_pos (by rw [ha.len]; exact hx)]
    obtain ⟨_, _, h3⟩ := addRow_facts ha hi hj hr
    unfold Rel
    rw [hasM_in h1, h3 y, hasM_in hr, hasM_in hr]
    simp only [Bool.or_eq_true, Bool.and_eq_true, beq_iff_eq, decide_eq_true_eq]
    constructor
    · rintro (h | ⟨h, h'⟩)
      · exact .inl h
      · exact .inr ⟨h, h'.symm⟩
    · rintro (h | ⟨h, h'⟩)
      · exact .inl h
      · exact .inr ⟨h, h'.symm⟩
  · unfold Rel
    rw [hasM_out (xss := addM a i j) (.inr (by unfold addM; rw [mapPre_len, ha.len]; omega)), hasM_out (xss := a) (i := (x : Int)) (.inr (by rw [ha.len]; omega)), hasM_out (xss := a) (i := (x : Int)) (.inr (by rw [ha.len]; omega))]
    simp
    intro h
    omega
theorem addM_hull {n : Nat} {a : List (List Nat)} (ha : Good n a) (hc : ClosedM a) {i j : Nat} (hi : i < n) (hj : j < n) : addM a i j = closeK (setM a (i : Int) (j : Int)) n := by
  refine IsHull.unique (r := Rel (setM a (i : Int) (j : Int))) ⟨addM_good ha hi hj, fun x y => ?_⟩ (closeK_hull (ha.set hi hj)) (fun _ _ => Iff.rfl)
  rw [addM_rel ha hi hj, AddR.conn hc]
  exact Conn.same (fun x y => (rel_set ha hi hj x y).symm) x y

/-- what is known at each round of Add -/
structure AddI (w : World) (n : Nat) (A : Option Addr) (c G cap base : Nat) (Cg : Option Addr) (ng : Nat) (g : List Nat) (vs : List Value) (xss : List (List Nat)) (wr : World) : Prop where
  own : wr.ownsRow base 53 1 (.slice (some ⟨G, 0, none⟩) n cap) n vs
  rows : RowsF wr w.heap.size (G + 1) vs xss
  mat : MatB wr w.heap.size 24 n A n c
  res : MatB wr (w.heap.size + 1) 24 0 none 0 0
  gain : Row wr Cg ng g
  bel : Below w.heap.size w wr
  big : w.heap.size + 1 < G ∧ G < wr.heap.size
theorem AddI.later {w : World} {n : Nat} {A : Option Addr} {c G cap base : Nat} {Cg : Option Addr} {ng : Nat} {g : List Nat} {vs : List Value} {xss : List (List Nat)} {wr w' : World} (h : AddI w n A c G cap base Cg ng g vs xss wr) (hb : Below wr.heap.size wr w') : AddI w n A c G cap base Cg ng g vs xss w' :=
  ⟨own_below h.own hb, h.rows.below hb, h.mat.below_ hb, h.res.below_ hb, h.gain.below hb, below_trans2 h.bel hb, h.big.1, Nat.lt_of_lt_of_le h.big.2 hb.size⟩
theorem AddI.put {w : World} {n : Nat} {A : Option Addr} {c G cap base : Nat} {Cg : Option Addr} {ng : Nat} {g : List Nat} {vs : List Value} {xss : List (List Nat)} {wr : World} (h : AddI w n A c G cap base Cg ng g vs xss wr) (hg : 0 < ng → ∀ ad, Cg = some ad → ad.block ≠ G)
    {k : Nat} {v : Value} {xs : List Nat} (hv : RowF wr w.heap.size (G + 1) v xs) : AddI w n A c G cap base Cg ng g (vs.set k v) (xss.set k xs) (wr.setCell ⟨G, k, none⟩ v) :=
  ⟨(h.own.stored k v).1, (h.rows.set (p := ⟨G, k, none⟩) (by have := h.big; simp; omega) (by simp) v).put (hv.set (p := ⟨G, k, none⟩) (by have := h.big; simp; omega) (by simp) v), h.mat.far (by have := h.big; simp; omega) _, h.res.far (by have := h.big; simp; omega) _,
    h.gain.setCell' hg _, h.bel.setCell (by have := h.big; simp; omega) _, h.big.1, by simpa using h.big.2⟩
set_option maxRecDepth 100000 in
set_option maxHeartbeats 2000000 in
theorem hull_Add (A : Option Addr) (n c : Nat) (a : List (List Nat)) (i j : Nat) (w : World) (hr : RowsAt w A n a) (hG : Good n a) (hcl : ClosedM a) (hi : i < n) (hj : j < n) :
    Calls Try.prog 34 #[.agg #[.int .i64 (n : Int), .slice A n c], .int .i64 (i : Int), .int .i64 (j : Int)] w (RetMat (n : Int) (closeK (setM a (i : Int) (j : Int)) n) 0 w) := by
  have hal : a.length = n := hG.len
  have hnn : n ≤ 4096 := hG.le
  have hres : mapPre (addRow i (setR (a.getD j []) (j : Int))) a n = closeK (setM a (i : Int) (j : Int)) n := by
    rw [← addM_hull hG hcl hi hj]; unfold addM; rw [hal]
  obtain ⟨W0, hW0⟩ : ∃ W0, W0 = (w.alloc (.cells #[.int .i64 n, .slice A n c] 24)).alloc (.cells #[.int .i64 0, .slice none 0 0] 24) := ⟨_, rfl⟩
  have ha : Below w.heap.size w W0 := by rw [hW0]; exact ((Below.refl _ _).alloc (Nat.le_refl _) _).alloc (by simp) _
  have hB1 : MatB W0 w.heap.size 24 n A n c := by rw [hW0]; exact (MatB.new w _).below_ (below_alloc _ _)
  have hB2 : MatB W0 (w.heap.size + 1) 24 0 none 0 0 := by rw [hW0]; exact MatB.new1 w _ _
  have hs0 : W0.heap.size = w.heap.size + 2 := by rw [hW0]; simp
  have l0 := hB1.c0
  have l1 := hB1.c1
  have hb1 := Lib.hid (belowZ_yes (i := (i : Int)) (n := (n : Int)) (by omega) (by omega))
  have hb2 := Lib.hid (belowZ_yes (i := (j : Int)) (n := (n : Int)) (by omega) (by omega))
  have hbi := Lib.hid (fun W => hull_below (i : Int) n (by omega) (by omega) (by omega) (by omega) W)
  have hbj := Lib.hid (fun W => hull_below (j : Int) n (by omega) (by omega) (by omega) (by omega) W)
  have hr0 := hr.below ha
  obtain ⟨b, off, B, m, d, s, rfl, hbl, hs, hc, hsr⟩ := hr0.at_ hj
  obtain ⟨vs0, hvd, hvr⟩ := hr0
  have hm : m ≤ 64 := by have := hsr.len; have := hG.small s (List.mem_of_getElem? hs); omega
  obtain ⟨g, hg⟩ : ∃ g, g = setR s (j : Int) := ⟨_, rfl⟩
  rw [getD_at hs, ← hg] at hres
  have hglen : g.length = m := by rw [hg, setR_len]; exact hsr.len
  have hSet := row_Set B m d s (j : Int) W0 hsr (by omega) (by omega) (by omega)
  rw [← hg] at hSet
  replace hSet := Lib.hid hSet
  have hj0 : (0 : Int) ≤ (j : Int) := by omega
  have hjn : (j : Int) < (n : Int) := by omega
  have h1c := Lib.hid (one_rows hvr)
  replace ha := Lib.hid ha
  replace hB1 := Lib.hid hB1
  replace hB2 := Lib.hid hB2
  replace hs0 := Lib.hid hs0
  replace hal := Lib.hid hal
  replace hvd := Lib.hid hvd
  replace hvr := Lib.hid hvr
  replace hres := Lib.hid hres
  replace hg := Lib.hid hg
  replace hr := Lib.hid hr
  replace hG := Lib.hid hG
  replace hglen := Lib.hid hglen
  clear hs hsr hcl
  go_enter Try.func34, Try.ntmps34
  go_wp2_with fail
  rw [← hW0]
  clear hW0
  go_wp2_with fail
  refine (hbi.out W0).mono ?_; rintro e w' ⟨rfl, rfl⟩
  rw [hb1.out]
  go_wp2_with fail
  refine (hbj.out W0).mono ?_; rintro e w' ⟨rfl, rfl⟩
  rw [hb2.out]
  go_wp2_with fail
  refine hSet.out.mono ?_; rintro e w1 ⟨Cg, ng, cg, rfl, hrg, hbb1⟩
  have hng : ng = m := by have := hrg.len; have := hglen.out; omega
  subst hng
  have hM1 := Lib.hid (hB1.out.below_ hbb1)
  have hR1 := Lib.hid (hB2.out.below_ hbb1)
  have l0 := hM1.out.c0
  have l1 := hM1.out.c1
  have hs1 : w.heap.size + 2 ≤ w1.heap.size := by have := hbb1.size; have := hs0.out; omega
  have hclone := Lib.hid (clone_rows b off n c vs0 w1 (hvd.out.below hbb1) h1c.out (by omega) (by omega))
  have hv1 := Lib.hid (hvr.out.below hbb1)
  have hbel1 := Lib.hid (below_trans2 ha.out hbb1)
  replace hrg := Lib.hid hrg
  clear hbb1 hc hSet hbi hbj hb1 hb2
  go_wp2_with fail
  refine hclone.out.mono ?_; rintro e w2 ⟨G, cap, rfl, hown, hbb2⟩
  have hgb : Hid (0 < ng → ∀ ad, Cg = some ad → ad.block ≠ G) := Lib.hid (fun h0 ad e => by
    obtain ⟨b', off', e', hb', _⟩ := hrg.out.1.2 h0
    rw [e] at e'
    injection e' with e'
    subst e'
    have := own_lt_block hown G rfl
    intro hh
    have hh' : b' = G := hh
    omega)
  have hI : Hid (AddI w n (some ⟨b, off, none⟩) c G cap w1.heap.size Cg ng g vs0 a w2) := Lib.hid
    { own := hown
      rows := ⟨hv1.out.1, fun q v xs h1 h2 => by
        obtain ⟨b2, off2, B2, m2, d2, xs2, e2, _, hx2, hc2, hr2⟩ := (hr.out).at_ (k := q) (by have := (List.getElem?_eq_some_iff.1 h2).1; have := hal.out; omega)
        rw [h2] at hx2
        injection hx2 with hx2
        subst hx2
        have hv := hvd.out.at_ (k := q) (by have := (List.getElem?_eq_some_iff.1 h2).1; have := hal.out; omega)
        obtain ⟨b3, off3, u, e3, _, hu, hc3⟩ := hv
        rw [h1] at hu
        injection hu with hu
        subst hu
        rw [e2] at e3
        injection e3 with e3
        injection e3 with e3 e4 e5
        subst e3 e4
        have hb2 : b2 < w.heap.size := by
          obtain ⟨b4, off4, _, _, _, _, e4, hb4, _⟩ := (hr.out).at_ (k := q) (by have := (List.getElem?_eq_some_iff.1 h2).1; have := hal.out; omega)
          rw [e2] at e4
          cases e4
          exact hb4
        have hcc : W0.cell? ⟨b2, off2 + q, none⟩ = w.cell? ⟨b2, off2 + q, none⟩ := ha.out.cell (p := ⟨b2, off2 + q, none⟩) hb2
        rw [hcc, hc2] at hc3
        injection hc3 with hc3
        subst hc3
        exact RowF.old hr2 (below_trans2 hbel1.out hbb2) (Nat.le_refl _)⟩
      mat := hM1.out.below_ hbb2
      res := hR1.out.below_ hbb2
      gain := hrg.out.below hbb2
      bel := below_trans2 hbel1.out hbb2
      big := ⟨by have := own_lt_block hown G rfl; omega, (hown.lt G rfl).2⟩ }
  have q1 := hI.out.mat.c1
  clear hown hbb2 hclone hM1 hR1 l0 l1 hrg hv1 hbel1 hvd hvr h1c hB1 hB2
  go_wp2_with fail
  clear q1
  go_loopw [38] (fun t wr => ∃ (k : Nat) (vs : List Value), k ≤ n ∧ t = .int .i64 k ∧ Hid (AddI w n (some ⟨b, off, none⟩) c G cap w1.heap.size Cg ng g vs (mapPre (addRow i g) a k) wr)) (fun t _ => n - (intOf t).toNat)
  case atStart => exact ⟨0, vs0, Nat.zero_le _, rfl, Lib.hid (by rw [mapPre_zero]; exact hI.out)⟩
  case round =>
    clear hI
    obtain ⟨k, vs, hk, rfl, hI⟩ := hrel
    by_cases hlt : k < n
    · obtain ⟨b', off', B', m', d', r, e', hbl', hx, hc', hrr⟩ := (hr.out.below hI.out.bel).at_ hlt
      cases e'
      have hm' : m' ≤ 64 := by have := hrr.len; have := hG.out.small r (List.mem_of_getElem? hx); omega
      have hk0 : (0 : Int) ≤ (k : Int) := by omega
      have hkn : (k : Int) < (n : Int) := by omega
      have hHas := Lib.hid (row_Has B' m' d' r (i : Int) wr hrr (by omega) (by omega) (by omega))
      have hSub := Lib.hid (row_Sub Cg B' ng m' cg d' g r wr hI.out.gain hrr (by omega) (by omega))
      have hOr := Lib.hid (fun W h1 h2 => row_OrO B' Cg m' ng d' cg r g W h1 h2 (by omega) (by omega))
      have hbig : G + 1 ≤ wr.heap.size := hI.out.big.2
      replace hx := Lib.hid hx
      replace hrr := Lib.hid hrr
      by_cases hki : k = i
      · subst hki
        cases hsb : subR g r with
        | true =>
          go_wp2_with fail
          refine hSub.out.mono ?_; rintro e w' ⟨rfl, rfl⟩
          rw [hsb]
          have hadd : addRow k g k r = r := by unfold addRow; rw [hsb]; simp
          have hst : Hid (mapPre (addRow k g) a (k + 1) = mapPre (addRow k g) a k) := Lib.hid (mapPre_same hx.out hadd)
          clear hadd
          go_wp2_with fail
          go_roundw
          case rel => exact ⟨k + 1, vs, by omega, by go_num, Lib.hid (by rw [hst.out]; exact hI.out)⟩
          case measure => simp [intOf]; omega
        | false =>
          go_wp2_with fail
          refine hSub.out.mono ?_; rintro e w' ⟨rfl, rfl⟩
          rw [hsb]
          have hadd : addRow k g k r = orR r g := by unfold addRow; rw [hsb]; simp
          have hst : Hid (mapPre (addRow k g) a (k + 1) = (mapPre (addRow k g) a k).set k (orR r g)) := Lib.hid (by rw [mapPre_succ hx.out, hadd])
          clear hadd
          go_wp2_with fail
          refine (hOr.out wr hrr.out hI.out.gain).mono ?_; rintro e w1 ⟨C, p, q, rfl, ho, hx64, hb1⟩
          replace hI := Lib.hid (hI.out.later hb1)
          have hC : Hid (RowF w1 w.heap.size (G + 1) (.slice C p q) (orR r g)) := Lib.hid (RowF.new ho hx64 hbig)
          have hvl : vs.length = n := by have := hI.out.own.1; simpa using this
          obtain ⟨u, hu⟩ : ∃ u, vs[k]? = some u := ⟨_, List.getElem?_eq_getElem (by omega)⟩
          have hcg := hI.out.own.cellAt k (by omega)
          rw [hu] at hcg
          have hfg := hI.out.own.frozenAt k
          clear ho hx64 hb1 hOr hSub hu hvl
          go_wp2_with fail
          go_roundw
          case rel => exact ⟨k + 1, vs.set k (.slice C p q), by omega, by go_num, Lib.hid (by rw [hst.out]; exact hI.out.put hgb.out hC.out)⟩
          case measure => simp [intOf]; omega
      · have hne : ((k : Int) == (i : Int)) = false := beq_eq_false_iff_ne.2 (by omega)
        have hne2 : (k == i) = false := beq_eq_false_iff_ne.2 hki
        replace hne2 := Lib.hid hne2
        cases hh : hasR r (i : Int) with
        | false =>
          go_wp2_with fail
          refine hHas.out.mono ?_; rintro e w' ⟨rfl, rfl⟩
          rw [hh]
          have hadd : addRow i g k r = r := by unfold addRow; rw [hh, hne2.out]; simp
          have hst : Hid (mapPre (addRow i g) a (k + 1) = mapPre (addRow i g) a k) := Lib.hid (mapPre_same hx.out hadd)
          clear hadd
          go_wp2_with fail
          go_roundw
          case rel => exact ⟨k + 1, vs, by omega, by go_num, Lib.hid (by rw [hst.out]; exact hI.out)⟩
          case measure => simp [intOf]; omega
        | true =>
          go_wp2_with fail
          refine hHas.out.mono ?_; rintro e w' ⟨rfl, rfl⟩
          rw [hh]
          cases hsb : subR g r with
          | true =>
            go_wp2_with fail
            refine hSub.out.mono ?_; rintro e w' ⟨rfl, rfl⟩
            rw [hsb]
            have hadd : addRow i g k r = r := by unfold addRow; rw [hsb]; simp
            have hst : Hid (mapPre (addRow i g) a (k + 1) = mapPre (addRow i g) a k) := Lib.hid (mapPre_same hx.out hadd)
            clear hadd
            go_wp2_with fail
            go_roundw
            case rel => exact ⟨k + 1, vs, by omega, by go_num, Lib.hid (by rw [hst.out]; exact hI.out)⟩
            case measure => simp [intOf]; omega
          | false =>
            go_wp2_with fail
            refine hSub.out.mono ?_; rintro e w' ⟨rfl, rfl⟩
            rw [hsb]
            have hadd : addRow i g k r = orR r g := by unfold addRow; rw [hsb, hh]; simp
            have hst : Hid (mapPre (addRow i g) a (k + 1) = (mapPre (addRow i g) a k).set k (orR r g)) := Lib.hid (by rw [mapPre_succ hx.out, hadd])
            clear hadd
            go_wp2_with fail
            refine (hOr.out wr hrr.out hI.out.gain).mono ?_; rintro e w1 ⟨C, p, q, rfl, ho, hx64, hb1⟩
            replace hI := Lib.hid (hI.out.later hb1)
            have hC : Hid (RowF w1 w.heap.size (G + 1) (.slice C p q) (orR r g)) := Lib.hid (RowF.new ho hx64 hbig)
            have hvl : vs.length = n := by have := hI.out.own.1; simpa using this
            obtain ⟨u, hu⟩ : ∃ u, vs[k]? = some u := ⟨_, List.getElem?_eq_getElem (by omega)⟩
            have hcg := hI.out.own.cellAt k (by omega)
            rw [hu] at hcg
            have hfg := hI.out.own.frozenAt k
            clear ho hx64 hb1 hOr hSub hu hvl
            go_wp2_with fail
            go_roundw
            case rel => exact ⟨k + 1, vs.set k (.slice C p q), by omega, by go_num, Lib.hid (by rw [hst.out]; exact hI.out.put hgb.out hC.out)⟩
            case measure => simp [intOf]; omega
    · obtain rfl : k = n := by omega
      have l0 := hI.out.mat.c0
      have f0 := hI.out.res.c0
      have f1 := hI.out.res.c1
      have g0 := hI.out.res.frozen 0
      have g1 := hI.out.res.frozen 1
      go_wp2_with fail
      have hcc := hI.out.res.two (.int .i64 k) (.slice (some ⟨G, 0, none⟩) k cap)
      have hc1 := hcc.1
      have hc2 := hcc.2
      clear hcc f0 f1 g0 g1 l0
      refine bodyPost_ret (v := .tuple #[.agg #[.int .i64 k, .slice (some ⟨G, 0, none⟩) k cap], .int .i64 0]) (by simp [results, Try.results34, go_sem, hc1, hc2]) rfl ⟨_, _, _, rfl, ⟨vs, ?_, ?_⟩, own_cap hI.out.own, ?_⟩
      · exact Rd.of_own' (own_far (own_far hI.out.own (p := ⟨w.heap.size + 1, 0, none⟩) (by have := hI.out.big; simp [Value.ownBlock]; omega) _) (p := ⟨w.heap.size + 1, 1, none⟩) (by have := hI.out.big; simp [Value.ownBlock]; omega) _)
      · rw [← hres.out]
        exact ((hI.out.rows.set (p := ⟨w.heap.size + 1, 0, none⟩) (by simp) (by have := hI.out.big; simp; omega) _).set (p := ⟨w.heap.size + 1, 1, none⟩) (by simp) (by have := hI.out.big; simp; omega) _).rows
      · exact (hI.out.bel.setCell (by simp) _).setCell (by simp) _

end Go.Proofs.Ytkikoniihmieiaa
