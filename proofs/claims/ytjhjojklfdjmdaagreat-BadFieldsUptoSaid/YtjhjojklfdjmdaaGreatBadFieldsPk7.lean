/- The code's own contracts of layer 18: pairs that lead to one number are put into the rows of a closed matrix (meet, lead). The code's own contracts of layer 18: the first writes of edges, by their second ones (firsts). The code's own contracts of layer 18: the hull of a closed matrix with more pairs (added). Words for memory: slices of operations of a call's own, each in a block of its own. No function of the program is named here. Words for memory: lists of anything, each in a block of its own, in a row of slices that is written in place; what lies apart from them stays. No function of the program is named. Plain mathematics of layer 12: items of a session are neighbours; what follows for their order and the rows of the matrix. Nothing of the program is named. -/
import Derived.Test.YtjhjojklfdjmdaaGreatBadFieldsPk6
import Derived.Test.YtjhjojklfdjmdaaGreatBadFieldsPk3
import Derived.Test.YtjhjojklfdjmdaaGreatBadFieldsPk2
import Derived.Test.YtjhjojklfdjmdaaGreatBadFieldsPk4
import Derived.Test.YtjhjojklfdjmdaaGreatBadFieldsPk1
import Derived.OneCell
namespace Go.Proofs.YtjhjojklfdjmdaaGreat
open Go.RowKit
set_option linter.unusedVariables false

/-- rows as RowsAt, all of whose blocks are among S -/
def RowsS (S : Nat → Prop) (w : World) (A : Option Addr) (n : Nat) (xss : List (List Nat)) : Prop := ∃ vs, Rd w A n vs ∧ RowsC w vs xss ∧ (∀ ad, A = some ad → S ad.block) ∧ ∀ v ∈ vs, ∀ g, v.ownBlock = some g → S g
section
variable {S T : Nat → Prop} {w w' : World} {A : Option Addr} {n : Nat} {xss : List (List Nat)}
theorem RowsS.at (h : RowsS S w A n xss) : RowsAt w A n xss := by
  obtain ⟨vs, h1, h2, -, -⟩ := h; exact ⟨vs, h1, h2⟩
theorem RowsS.of (h : RowsAt w A n xss) (hS : ∀ g, S g) : RowsS S w A n xss := by
  obtain ⟨vs, h1, h2⟩ := h; exact ⟨vs, h1, h2, fun _ _ => hS _, fun _ _ g _ => hS g⟩
theorem RowsS.below (h : RowsS S w A n xss) (hb : Below w.heap.size w w') : RowsS S w' A n xss := by
  obtain ⟨vs, h1, h2, h3, h4⟩ := h; exact ⟨vs, h1.below hb, h2.below hb, h3, h4⟩
theorem RowsS.mono (h : RowsS S w A n xss) (hs : ∀ g, S g → T g) : RowsS T w A n xss := by
  obtain ⟨vs, h1, h2, h3, h4⟩ := h; exact ⟨vs, h1, h2, fun ad e => hs _ (h3 ad e), fun v hv g e => hs _ (h4 v hv g e)⟩
/-- its blocks are there -/
theorem RowsS.there (h : RowsS S w A n xss) (hn : 0 < n) (hp : ∀ xs ∈ xss, 0 < xs.length) : RowsS (fun g => S g ∧ g < w.heap.size) w A n xss := by
  obtain ⟨vs, h1, h2, h3, h4⟩ := h
  refine ⟨vs, h1, h2, fun ad e => ⟨h3 ad e, ?_⟩, fun v hv g e => ⟨h4 v hv g e, ?_⟩⟩
  · obtain ⟨b, off, e2, hb, -⟩ := h1.2 hn
    rw [e] at e2; injection e2 with e2; subst e2; exact hb
  · obtain ⟨i, hi⟩ := List.getElem?_of_mem hv
    have hil : i < xss.length := by rw [← h2.1]; exact (List.getElem?_eq_some_iff.1 hi).1
    obtain ⟨B, m, c, e3, hr⟩ := h2.2 i v xss[i] hi (List.getElem?_eq_getElem hil)
    have hm : 0 < m := by rw [← hr.len]; exact hp _ (List.getElem_mem hil)
    obtain ⟨b, off, e4, hb, -⟩ := hr.1.2 hm
    subst e3; subst e4
    injection e with e
    rw [← e]; exact hb
theorem RowsS.putB {M : Nat} {t : TypeId} {N : Int} {B : Option Addr} {m c : Nat} (hM : MatB w M t N B m c) (h : RowsS S w A n xss) (hne : 0 < n → ∀ ad, A = some ad → ad.block ≠ M) (x y : Value) :
    RowsS S ((w.setCell ⟨M, 0, none⟩ x).setCell ⟨M, 1, none⟩ y) A n xss := by
  obtain ⟨vs, h1, h2, h3, h4⟩ := h
  refine ⟨vs, ?_, ⟨h2.1, fun i v xs a b => ?_⟩, h3, h4⟩
  · rcases Nat.eq_zero_or_pos n with rfl | hm
    · rw [h1.of_nil]; exact Rd.nil _ _
    · exact (h1.setCell (hne hm) x).setCell (hne hm) y
  · obtain ⟨B', m', c', e, hr⟩ := h2.2 i v xs a b
    exact ⟨B', m', c', e, hr.putB hM x y⟩
theorem RowsS.grown {row : Option Nat} (h : RowsS S w A n xss) (hg : w.grownBy w' row) (hrow : ∀ g, row = some g → ¬ S g) : RowsS S w' A n xss := by
  obtain ⟨vs, h1, h2, h3, h4⟩ := h
  refine ⟨vs, ⟨h1.1, fun h0 => ?_⟩, ⟨h2.1, fun i v xs a b => ?_⟩, h3, h4⟩
  · obtain ⟨b, off, e, hb, hc⟩ := h1.2 h0
    exact ⟨b, off, e, Nat.lt_of_lt_of_le hb hg.size, fun j u hu => (World.cell?_of_block (hg.block b hb (fun e' => hrow b e'.symm (h3 _ e)))).trans (hc j u hu)⟩
  · obtain ⟨B', m', c', e, ⟨⟨hr1, hr2⟩, hr3⟩⟩ := h2.2 i v xs a b
    refine ⟨B', m', c', e, ⟨⟨hr1, fun h0 => ?_⟩, hr3⟩⟩
    obtain ⟨b', off, e2, hb, hc⟩ := hr2 h0
    exact ⟨b', off, e2, Nat.lt_of_lt_of_le hb hg.size, fun j u hu => (World.cell?_of_block (hg.block b' hb (fun e' => hrow b' e'.symm (h4 v (List.mem_of_getElem? a) b' (by rw [e, e2]; rfl))))).trans (hc j u hu)⟩
end
/-- the rows of a matrix, whose outer cells (block G) are a call's own and written in place -/
structure LeadI (S : Nat → Prop) (w0 : World) (base G n cap : Nat) (vs : List Value) (xss : List (List Nat)) (wr : World) : Prop where
  own : wr.ownsRow base 88 1 (.slice (some ⟨G, 0, none⟩) n cap) n vs
  rows : RowsF wr G (G + 1) vs xss
  src : ∀ v ∈ vs, ∀ g, v.ownBlock = some g → S g ∨ w0.heap.size ≤ g
  big : w0.heap.size ≤ G ∧ G < wr.heap.size
section
variable {S : Nat → Prop} {w0 wr w' : World} {base G n cap : Nat} {vs : List Value} {xss : List (List Nat)}
theorem LeadI.later (h : LeadI S w0 base G n cap vs xss wr) (hb : Below wr.heap.size wr w') : LeadI S w0 base G n cap vs xss w' :=
  ⟨own_below h.own hb, h.rows.below hb, h.src, h.big.1, Nat.lt_of_lt_of_le h.big.2 hb.size⟩
theorem LeadI.put (h : LeadI S w0 base G n cap vs xss wr) {k : Nat} {v : Value} {xs : List Nat} (hv : RowF wr G (G + 1) v xs) (hs : ∀ g, v.ownBlock = some g → S g ∨ w0.heap.size ≤ g) : LeadI S w0 base G n cap (vs.set k v) (xss.set k xs) (wr.setCell ⟨G, k, none⟩ v) :=
  ⟨(h.own.stored k v).1, (h.rows.set (p := ⟨G, k, none⟩) (Nat.le_refl _) (by simp) v).put (hv.set (p := ⟨G, k, none⟩) (Nat.le_refl _) (by simp) v), fun u hu g e => by
    rcases List.mem_or_eq_of_mem_set hu with h1 | h1
    · exact h.src u h1 g e
    · subst h1; exact hs g e, h.big.1, by simpa using h.big.2⟩
theorem LeadI.vlen (h : LeadI S w0 base G n cap vs xss wr) : vs.length = n := by have := h.own.1; simpa using this
theorem LeadI.get (h : LeadI S w0 base G n cap vs xss wr) {k : Nat} (hk : k < n) {r : List Nat} (hr : xss[k]? = some r) : ∃ B m d, vs[k]? = some (.slice B m d) ∧ wr.cell? ⟨G, k, none⟩ = some (.slice B m d) ∧ wr.frozen? ⟨G, k, none⟩ = false ∧ Row wr B m r := by
  have hl : k < vs.length := by rw [h.vlen]; exact hk
  have hv : vs[k]? = some vs[k] := List.getElem?_eq_getElem hl
  obtain ⟨B, m, d, e, hrow, -⟩ := h.rows.2 k _ r hv hr
  rw [e] at hv
  exact ⟨B, m, d, hv, by rw [h.own.cellAt k (by omega)]; exact hv, h.own.frozenAt k, hrow⟩
theorem LeadI.at (h : LeadI S w0 base G n cap vs xss wr) : RowsS (fun g => S g ∨ w0.heap.size ≤ g) wr (some ⟨G, 0, none⟩) n xss :=
  ⟨vs, Rd.of_own' h.own, h.rows.rows, fun ad e => by injection e with e; subst e; exact .inr h.big.1, h.src⟩
end
set_option maxHeartbeats 1000000 in
theorem seen_meet (A B : Option Addr) (n m c d : Nat) (xs ys : List Nat) (w : World) (hr : Row w A n xs) (hs : Row w B m ys) (hnm : n ≤ m) (hm : m ≤ 1073741824) :
    Calls Tryz.prog 150 #[.slice A n c, .slice B m d] w fun e w' => e = .returned (.bool (metR xs ys)) ∧ w = w' := by
  have hl := Lib.hid hr.len
  have hme : Hid (metR xs ys = metK xs ys n) := Lib.hid (by unfold metR metK; rw [hl.out])
  replace hr := Lib.hid hr
  replace hs := Lib.hid hs
  go_enter Tryz.func150, Tryz.ntmps150
  go_wp2
  go_loop [9] (fun i => ∃ k : Nat, k ≤ n ∧ i = .int .i64 k ∧ Hid (metK xs ys k = false)) (fun i => n - (intOf i).toNat)
  case atStart => exact ⟨0, Nat.zero_le _, rfl, Lib.hid rfl⟩
  case round =>
    obtain ⟨k, hk, rfl, hall⟩ := hrel
    by_cases hlt : k < n
    · obtain ⟨b, off, x, rfl, hbk, hx, hx64, hc⟩ := hr.out.at_ hlt
      obtain ⟨b2, off2, y, rfl, hbk2, hy, hy64, hc2⟩ := hs.out.at_ (Nat.lt_of_lt_of_le hlt hnm)
      have hgx := Row.get hx
      have hgy := Row.get hy
      have hT := u64_and_nat x y hx64 hy64
      have hkm : (k : Int) < (m : Int) := by omega
      have hkn : (k : Int) < (n : Int) := by omega
      have hst := metK_succ xs ys k
      rw [hall.out, Bool.false_or, hgx, hgy] at hst
      obtain ⟨z, hz⟩ : ∃ z, z = x &&& y := ⟨_, rfl⟩
      rw [← hz] at hT hst
      replace hz := Lib.hid hz
      replace hT := Lib.hid hT
      clear hx hy hgx hgy hlt
      by_cases hz0 : z = 0
      · have e1 : ((z : Int) != 0) = false := by rw [hz0]; rfl
        have hst' : Hid (metK xs ys (k + 1) = false) := Lib.hid (by rw [hst, hz0]; rfl)
        have hT0 : (bits BinOp.and IntKind.u64 (x : Int) (y : Int) != 0) = false := by rw [hT.out]; exact e1
        clear hst hz0 e1
        go_wp2
        go_round
        case rel => exact ⟨k + 1, by omega, by go_num, hst'⟩
        case measure => simp [intOf]; omega
      · have e1 : ((z : Int) != 0) = true := by rw [bne_iff_ne]; omega
        have hst' : Hid (metR xs ys = true) := Lib.hid (by rw [hme.out]; exact metK_mono (k := k + 1) (by omega) (by rw [hst, bne_iff_ne]; exact hz0))
        have hT0 : (bits BinOp.and IntKind.u64 (x : Int) (y : Int) != 0) = true := by rw [hT.out]; exact e1
        clear hst hz0 e1
        go_wp2
        go_ret
        exact ⟨by rw [hst'.out]; rfl, rfl⟩
    · obtain rfl : k = n := by omega
      have hlt' : ¬ (k : Int) < (k : Int) := by omega
      clear hlt
      go_wp2
      go_ret
      exact ⟨by rw [hme.out, hall.out]; rfl, rfl⟩
theorem BelowB.setG {g : Nat} {w w' : World} (h : BelowB g w w') (o : Nat) (u : Value) : BelowB g w (w'.setCell ⟨g, o, none⟩ u) :=
  ⟨h.os, h.tape, h.output, by simpa using h.size, fun k hk hg => (Below.heap_setCell _ _ _ _ (by simpa using hg)).trans (h.block k hk hg)⟩
/-- what 'lead' does -/
def RetLead (S : Nat → Prop) (w0 : World) (base G n cap : Nat) (xss : List (List Nat)) (w : World) (e : Ending) (w' : World) : Prop := e = .returned (.tuple #[]) ∧ ∃ vs, LeadI S w0 base G n cap vs xss w' ∧ BelowB G w w'
set_option maxRecDepth 100000 in
set_option maxHeartbeats 2000000 in
theorem seen_lead (S : Nat → Prop) (w0 : World) (base G n cap fm fc : Nat) (F : Option Addr) (vs0 : List Value) (a : List (List Nat)) (fs : List Nat) (j : Nat) (w : World) (h0 : LeadI S w0 base G n cap vs0 a w) (hF0 : Row w F fm fs) (hfm : fm = (wordsZ (n : Int)).toNat) (hFG : 0 < fm → ∀ ad, F = some ad → ad.block ≠ G) (hG : Good n a) (hj : j < n) :
    Calls Tryz.prog 143 #[.slice (some ⟨G, 0, none⟩) n cap, .slice F fm fc, .int .i64 (j : Int)] w (RetLead S w0 base G n cap (leadM a fs j) w) := by
  have hal := hG.len
  have hnn : n ≤ 4096 := hG.le
  obtain ⟨s, hs⟩ : ∃ s, a[j]? = some s := ⟨_, List.getElem?_eq_getElem (by omega)⟩
  obtain ⟨B0, m0, d0, hv0, c0, f0, hsr⟩ := h0.get hj hs
  have hm0 : m0 ≤ 64 := by have := hsr.len; have := hG.small s (List.mem_of_getElem? hs); omega
  have hlen0 : m0 = fm := by rw [← hsr.len, hfm, (hG.row s (List.mem_of_getElem? hs)).2.2.1]
  obtain ⟨g, hg⟩ : ∃ g, g = setR s (j : Int) := ⟨_, rfl⟩
  have hres : Hid (mapPre (leadRow fs g) a n = leadM a fs j) := Lib.hid (by unfold leadM; rw [getD_at hs, ← hg, hal])
  have hglen : Hid (g.length = m0) := Lib.hid (by rw [hg, setR_len]; exact hsr.len)
  have hSet := row_SetO B0 m0 d0 s (j : Int) w hsr (by omega) (by omega) (by omega)
  rw [← hg] at hSet
  replace hSet := Lib.hid hSet
  have hj0 : (0 : Int) ≤ (j : Int) := by omega
  have hjn : (j : Int) < (n : Int) := by omega
  have hI0 := Lib.hid h0
  have hF0' := Lib.hid hF0
  have hfm64 : fm ≤ 64 := by omega
  replace hFG := Lib.hid hFG
  replace hal := Lib.hid hal
  replace hg := Lib.hid hg
  replace hG := Lib.hid hG
  replace hfm := Lib.hid hfm
  replace hlen0 := Lib.hid hlen0
  clear hs hsr h0 hF0 hv0
  go_enter Tryz.func143, Tryz.ntmps143
  go_wp2_with fail
  refine hSet.out.mono ?_; rintro e w1 ⟨Cg, ng, cg, rfl, ho, hg64, hb1⟩
  have hgG : Hid (0 < ng → ∀ ad, Cg = some ad → ad.block ≠ G) := Lib.hid (fun _ ad e => by
    have := own_lt_block ho ad.block (by rw [e]; rfl)
    have := hI0.out.big.2
    omega)
  have hgn := Lib.hid (Row.of_own ho hg64)
  have hng : ng ≤ 64 := by have := hgn.out.len; have := hglen.out; omega
  have hI := Lib.hid (hI0.out.later hb1)
  have hF := Lib.hid (hF0'.out.below hb1)
  have hbb : Hid (BelowB G w w1) := Lib.hid (BelowB.of hb1)
  clear c0 f0 hSet ho hb1 hI0 hF0'
  go_wp2_with fail
  go_loopw [17] (fun t wr => ∃ (k : Nat) (vs : List Value), k ≤ n ∧ t = .int .i64 k ∧ Hid (LeadI S w0 base G n cap vs (mapPre (leadRow fs g) a k) wr) ∧ Hid (Row wr F fm fs) ∧ Hid (Row wr Cg ng g) ∧ Hid (BelowB G w wr)) (fun t _ => n - (intOf t).toNat)
  case atStart => exact ⟨0, vs0, Nat.zero_le _, rfl, Lib.hid (by rw [mapPre_zero]; exact hI.out), hF, hgn, hbb⟩
  case round =>
    clear hI hF hgn hbb
    obtain ⟨k, vs, hk, rfl, hI, hF, hgn, hbb⟩ := hrel
    by_cases hlt : k < n
    · obtain ⟨r, hx⟩ : ∃ r, a[k]? = some r := ⟨_, List.getElem?_eq_getElem (by have := hal.out; omega)⟩
      have hxk : (mapPre (leadRow fs g) a k)[k]? = some r := by rw [mapPre_get hx, if_neg (Nat.lt_irrefl _)]
      obtain ⟨B, m, d, hv, c0, f0, hrr⟩ := hI.out.get hlt hxk
      have hm : m ≤ 64 := by have := hrr.len; have := hG.out.small r (List.mem_of_getElem? hx); omega
      have hmf : m ≤ fm := by rw [← hrr.len, (hG.out.row r (List.mem_of_getElem? hx)).2.2.1, ← hfm.out]; exact Nat.le_refl _
      have hk0 : (0 : Int) ≤ (k : Int) := by omega
      have hkn : (k : Int) < (n : Int) := by omega
      have hHas := Lib.hid (row_Has F fm fc fs (k : Int) wr hF.out (by omega) (by omega) (by omega))
      have hMet := Lib.hid (seen_meet B F m fm d fc r fs wr hrr hF.out hmf (by omega))
      have hSub := Lib.hid (row_Sub Cg B ng m cg d g r wr hgn.out hrr (by omega) (by omega))
      have hOr := Lib.hid (fun W h1 h2 => row_OrO B Cg m ng d cg r g W h1 h2 (by omega) (by omega))
      replace hx := Lib.hid hx
      replace hrr := Lib.hid hrr
      replace hv := Lib.hid hv
      clear hxk hlt
      cases hh : hasR fs (k : Int) with
      | true =>
        go_wp2_with fail
        refine hHas.out.mono ?_; rintro e w' ⟨rfl, rfl⟩
        rw [hh]
        cases hsb : subR g r with
        | true =>
          go_wp2_with fail
          refine hSub.out.mono ?_; rintro e w' ⟨rfl, rfl⟩
          rw [hsb]
          -- row k stays as it is (rw [hsb]; simp)
          have hadd : leadRow fs g k r = r := by unfold leadRow; rw [hsb]; simp
          have hst : Hid (mapPre (leadRow fs g) a (k + 1) = mapPre (leadRow fs g) a k) := Lib.hid (mapPre_same hx.out hadd)
          clear hadd
          go_wp2_with fail
          go_roundw
          case rel => exact ⟨k + 1, vs, by omega, by go_num, Lib.hid (by rw [hst.out]; exact hI.out), hF, hgn, hbb⟩
          case measure => simp [intOf]; omega
        | false =>
          go_wp2_with fail
          refine hSub.out.mono ?_; rintro e w' ⟨rfl, rfl⟩
          rw [hsb]
          -- row k gains (rw [hsb, hh]; simp)
          have hadd : leadRow fs g k r = orR r g := by unfold leadRow; rw [hsb, hh]; simp
          have hst : Hid (mapPre (leadRow fs g) a (k + 1) = (mapPre (leadRow fs g) a k).set k (orR r g)) := Lib.hid (by rw [mapPre_succ hx.out, hadd])
          clear hadd
          go_wp2_with fail
          refine (hOr.out wr hrr.out hgn.out).mono ?_; rintro e w1 ⟨C, p, q, rfl, ho, hx64, hb1⟩
          have hwrb := Lib.hid hI.out.big.2
          have hCl := Lib.hid (own_lt_block ho)
          replace hI := Lib.hid (hI.out.later hb1)
          replace hF := Lib.hid (hF.out.below hb1)
          replace hgn := Lib.hid (hgn.out.below hb1)
          replace hbb := Lib.hid (hbb.out.trans (BelowB.of hb1))
          have hC : Hid (RowF w1 G (G + 1) (.slice C p q) (orR r g)) := Lib.hid (RowF.new ho hx64 hwrb.out)
          have hsC : Hid (∀ g, (Value.slice C p q).ownBlock = some g → S g ∨ w0.heap.size ≤ g) := Lib.hid (fun g e => .inr (by have := hCl.out g e; have := hI.out.big; have := hwrb.out; omega))
          obtain ⟨u, hu⟩ : ∃ u, vs[k]? = some u := ⟨_, List.getElem?_eq_getElem (by rw [hI.out.vlen]; omega)⟩
          have hcg := hI.out.own.cellAt k (by omega)
          rw [hu] at hcg
          have hfg := hI.out.own.frozenAt k
          clear ho hx64 hb1 hOr hSub hu hCl c0 f0 hv
          go_wp2_with fail
          go_roundw
          case rel => exact ⟨k + 1, vs.set k (.slice C p q), by omega, by go_num, Lib.hid (by rw [hst.out]; exact hI.out.put hC.out hsC.out), Lib.hid (hF.out.setCell' hFG.out _), Lib.hid (hgn.out.setCell' hgG.out _), Lib.hid (hbb.out.setG k _)⟩
          case measure => simp [intOf]; omega
      | false =>
        go_wp2_with fail
        refine hHas.out.mono ?_; rintro e w' ⟨rfl, rfl⟩
        rw [hh]
        cases hmt : metR r fs with
        | false =>
          go_wp2_with fail
          refine hMet.out.mono ?_; rintro e w' ⟨rfl, rfl⟩
          rw [hmt]
          -- row k stays as it is (rw [hh, hmt]; simp)
          have hadd : leadRow fs g k r = r := by unfold leadRow; rw [hh, hmt]; simp
          have hst : Hid (mapPre (leadRow fs g) a (k + 1) = mapPre (leadRow fs g) a k) := Lib.hid (mapPre_same hx.out hadd)
          clear hadd
          go_wp2_with fail
          go_roundw
          case rel => exact ⟨k + 1, vs, by omega, by go_num, Lib.hid (by rw [hst.out]; exact hI.out), hF, hgn, hbb⟩
          case measure => simp [intOf]; omega
        | true =>
          go_wp2_with fail
          refine hMet.out.mono ?_; rintro e w' ⟨rfl, rfl⟩
          rw [hmt]
          cases hsb : subR g r with
          | true =>
            go_wp2_with fail
            refine hSub.out.mono ?_; rintro e w' ⟨rfl, rfl⟩
            rw [hsb]
            -- row k stays as it is (rw [hsb]; simp)
            have hadd : leadRow fs g k r = r := by unfold leadRow; rw [hsb]; simp
            have hst : Hid (mapPre (leadRow fs g) a (k + 1) = mapPre (leadRow fs g) a k) := Lib.hid (mapPre_same hx.out hadd)
            clear hadd
            go_wp2_with fail
            go_roundw
            case rel => exact ⟨k + 1, vs, by omega, by go_num, Lib.hid (by rw [hst.out]; exact hI.out), hF, hgn, hbb⟩
            case measure => simp [intOf]; omega
          | false =>
            go_wp2_with fail
            refine hSub.out.mono ?_; rintro e w' ⟨rfl, rfl⟩
            rw [hsb]
            -- row k gains (rw [hsb, hmt]; simp)
            have hadd : leadRow fs g k r = orR r g := by unfold leadRow; rw [hsb, hmt]; simp
            have hst : Hid (mapPre (leadRow fs g) a (k + 1) = (mapPre (leadRow fs g) a k).set k (orR r g)) := Lib.hid (by rw [mapPre_succ hx.out, hadd])
            clear hadd
            go_wp2_with fail
            refine (hOr.out wr hrr.out hgn.out).mono ?_; rintro e w1 ⟨C, p, q, rfl, ho, hx64, hb1⟩
            have hwrb := Lib.hid hI.out.big.2
            have hCl := Lib.hid (own_lt_block ho)
            replace hI := Lib.hid (hI.out.later hb1)
            replace hF := Lib.hid (hF.out.below hb1)
            replace hgn := Lib.hid (hgn.out.below hb1)
            replace hbb := Lib.hid (hbb.out.trans (BelowB.of hb1))
            have hC : Hid (RowF w1 G (G + 1) (.slice C p q) (orR r g)) := Lib.hid (RowF.new ho hx64 hwrb.out)
            have hsC : Hid (∀ g, (Value.slice C p q).ownBlock = some g → S g ∨ w0.heap.size ≤ g) := Lib.hid (fun g e => .inr (by have := hCl.out g e; have := hI.out.big; have := hwrb.out; omega))
            obtain ⟨u, hu⟩ : ∃ u, vs[k]? = some u := ⟨_, List.getElem?_eq_getElem (by rw [hI.out.vlen]; omega)⟩
            have hcg := hI.out.own.cellAt k (by omega)
            rw [hu] at hcg
            have hfg := hI.out.own.frozenAt k
            clear ho hx64 hb1 hOr hSub hu hCl c0 f0 hv
            go_wp2_with fail
            go_roundw
            case rel => exact ⟨k + 1, vs.set k (.slice C p q), by omega, by go_num, Lib.hid (by rw [hst.out]; exact hI.out.put hC.out hsC.out), Lib.hid (hF.out.setCell' hFG.out _), Lib.hid (hgn.out.setCell' hgG.out _), Lib.hid (hbb.out.setG k _)⟩
            case measure => simp [intOf]; omega
    · obtain rfl : k = n := by omega
      have hlt' : ¬ (k : Int) < (k : Int) := by omega
      clear hlt
      go_wp2_with fail
      go_end0
      exact ⟨rfl, vs, by rw [← hres.out]; exact hI.out, hbb.out⟩
end Go.Proofs.YtjhjojklfdjmdaaGreat

namespace Go.Proofs.YtjhjojklfdjmdaaGreat
open Go.RowKit
set_option linter.unusedVariables false

/-- a row of n rows, each nil or in a block of its own -/
structure FstM (H n : Nat) (w : World) (us : List Value) (xss : List (List Nat)) : Prop where
  o : w.ownsRow H 88 1 (.slice (some ⟨H, 0, none⟩) n n) n us
  rows : OwnRows 89 w (H + 1) us xss
  nil : ∀ k : Nat, xss[k]? = some [] → us[k]? = some (.slice none 0 0)
section
variable {H n : Nat} {w w' : World} {us : List Value} {xss : List (List Nat)}
theorem FstM.later (h : FstM H n w us xss) (hb : Below w.heap.size w w') : FstM H n w' us xss := ⟨own_below h.o hb, h.rows.below hb, h.nil⟩
theorem FstM.ulen (h : FstM H n w us xss) : us.length = n := by have := h.o.1; simpa using this
theorem FstM.lt (h : FstM H n w us xss) : H < w.heap.size := (h.o.lt H rfl).2
theorem FstM.get (h : FstM H n w us xss) {k : Nat} (hk : k < n) {xs : List Nat} (hx : xss[k]? = some xs) : ∃ A m c, us[k]? = some (.slice A m c) ∧ w.cell? ⟨H, k, none⟩ = some (.slice A m c) ∧ w.frozen? ⟨H, k, none⟩ = false ∧ Row w A m xs ∧ w.ownsRow (H + 1) 89 1 (.slice A m c) m (xs.map u64v) ∧ W64 xs ∧ (xs = [] → A = none ∧ m = 0 ∧ c = 0) ∧ (xs ≠ [] → ∃ g, A = some ⟨g, 0, none⟩) := by
  have hl : k < us.length := by rw [h.ulen]; exact hk
  have hu : us[k]? = some us[k] := List.getElem?_eq_getElem hl
  obtain ⟨A, m, c, e, ho, hw⟩ := h.rows.2.1 k _ xs hu hx
  rw [e] at hu
  refine ⟨A, m, c, hu, by rw [h.o.cellAt k (by omega)]; exact hu, h.o.frozenAt k, Row.of_own ho hw, ho, hw, fun h0 => ?_, fun h0 => ?_⟩
  · subst h0
    have h1 := h.nil k hx
    rw [hu] at h1
    injection h1 with h1
    injection h1 with h1 h2 h3
    exact ⟨h1, h2, h3⟩
  · rcases ho.2 with ⟨h1, h2⟩ | ⟨g, cap, cur, h1, -⟩
    · exfalso
      have := ho.1
      rw [h2, List.length_map] at this
      exact h0 (List.eq_nil_of_length_eq_zero (by simpa using this))
    · injection h1 with h1
      exact ⟨g, h1⟩
theorem FstM.start (w : World) (hn : n ≤ maxLen) : FstM w.heap.size n (w.alloc (.cells (zeros n (.slice none 0 0)) 88)) (List.replicate n (.slice none 0 0)) (List.replicate n []) := by
  refine ⟨own_zeros w n _ _ hn, ⟨by simp, fun i v xs h1 h2 => ?_, fun i j v v' g _ h1 h2 h3 => ?_⟩, fun k h => ?_⟩
  · have e1 := List.eq_of_mem_replicate (List.mem_of_getElem? h1)
    have e2 := List.eq_of_mem_replicate (List.mem_of_getElem? h2)
    subst e1; subst e2
    exact ⟨none, 0, 0, rfl, World.ownsRow_nil _ _ _ _, fun x hx => by cases hx⟩
  · rw [List.eq_of_mem_replicate (List.mem_of_getElem? h1)] at h3
    cases h3
  · have hk := (List.getElem?_eq_some_iff.1 h).1
    rw [List.length_replicate] at hk
    rw [List.getElem?_replicate, if_pos hk]
/-- a new row is laid in its place -/
theorem FstM.put (h : FstM H n w us xss) (hb : Below w.heap.size w w') {s m c : Nat} {A : Option Addr} {ys : List Nat} (ho : w'.ownsRow w.heap.size 89 1 (.slice A m c) m (ys.map u64v)) (hy : W64 ys) (h0 : ys ≠ []) (hs : s < n) :
    FstM H n (w'.setCell ⟨H, s, none⟩ (.slice A m c)) (us.set s (.slice A m c)) (xss.set s ys) := by
  have h' := h.later hb
  have hH := h.lt
  have hsl : s < us.length := by rw [h.ulen]; exact hs
  have hfar : ∀ g, (Value.slice A m c).ownBlock = some g → w.heap.size ≤ g := own_lt_block ho
  have hold : ∀ (i : Nat) (v : Value) (g : Nat), us[i]? = some v → v.ownBlock = some g → H + 1 ≤ g ∧ g < w.heap.size := fun i v g h1 h2 => h.rows.lt v (List.mem_of_getElem? h1) g h2
  refine ⟨(h'.o.stored s _).1, ⟨by simp [h.rows.1], fun i v xs h1 h2 => ?_, fun i j v v' g hij h1 h2 h3 h4 => ?_⟩, fun k hk => ?_⟩
  · rw [List.getElem?_set] at h1 h2
    by_cases hi : s = i
    · subst hi
      rw [if_pos rfl, if_pos hsl] at h1
      rw [if_pos rfl, if_pos (by rw [← h.rows.1]; exact hsl)] at h2
      injection h1 with h1
      injection h2 with h2
      subst h1; subst h2
      exact ⟨A, m, c, rfl, own_far (own_base ho (by omega)) (fun e => by have := hfar _ e; simp at this; omega) _, hy⟩
    · rw [if_neg hi] at h1 h2
      obtain ⟨A', m', c', e, h5, h6⟩ := h'.rows.2.1 i v xs h1 h2
      exact ⟨A', m', c', e, own_far h5 (fun e' => by have := own_lt_block h5 _ e'; simp at this; omega) _, h6⟩
  · rw [List.getElem?_set] at h1 h2
    by_cases hi : s = i
    · subst hi
      rw [if_pos rfl, if_pos hsl] at h1
      rw [if_neg hij] at h2
      injection h1 with h1
      subst h1
      have := hfar g h3
      have := hold j v' g h2 h4
      omega
    · rw [if_neg hi] at h1
      by_cases hj : s = j
      · subst hj
        rw [if_pos rfl, if_pos hsl] at h2
        injection h2 with h2
        subst h2
        have := hfar g h4
        have := hold i v g h1 h3
        omega
      · rw [if_neg hj] at h2
        exact h.rows.2.2 i j v v' g hij h1 h2 h3 h4
  · rw [List.getElem?_set] at hk ⊢
    by_cases hi : s = k
    · rw [if_pos hi] at hk
      split at hk
      · injection hk with hk
        exact absurd hk h0
      · cases hk
    · rw [if_neg hi] at hk ⊢
      exact h.nil k hk
/-- a word is written -/
theorem FstM.word (h : FstM H n w us xss) {s g m c : Nat} {xs : List Nat} (hv : us[s]? = some (.slice (some ⟨g, 0, none⟩) m c)) (hx : xss[s]? = some xs) (q y : Nat) (hy : y < 18446744073709551616) (h0 : xs ≠ []) : FstM H n (w.setCell ⟨g, q, none⟩ (u64v y)) us (xss.set s (xs.set q y)) := by
  have hg : H + 1 ≤ g := (h.rows.lt _ (List.mem_of_getElem? hv) g rfl).1
  refine ⟨own_far h.o (fun e => by injection e with e; simp at e; omega) _, h.rows.put hv hx q y hy, fun k hk => ?_⟩
  rw [List.getElem?_set] at hk
  by_cases hi : s = k
  · rw [if_pos hi] at hk
    split at hk
    · injection hk with hk
      have : (xs.set q y).length = 0 := by rw [hk]; rfl
      rw [List.length_set] at this
      exact absurd (List.eq_nil_of_length_eq_zero this) h0
    · cases hk
  · rw [if_neg hi] at hk
    exact h.nil k hk
end
/-- the rows of the first k edges -/
def fstX (n N : Nat) (es : List Ed) : List (List Nat) := (List.range n).map (fstR N es)
theorem fstX_nil (n N : Nat) : fstX n N [] = List.replicate n [] := by
  unfold fstX
  apply List.ext_getElem?
  intro k
  rw [List.getElem?_map, List.getElem?_replicate]
  by_cases hk : k < n
  · rw [List.getElem?_range hk, if_pos hk]; rfl
  · rw [List.getElem?_eq_none (by simpa using hk), if_neg hk]; rfl
theorem fstX_at {n N : Nat} (es : List Ed) {k : Nat} (hk : k < n) : (fstX n N es)[k]? = some (fstR N es k) := by
  unfold fstX; rw [List.getElem?_map, List.getElem?_range hk]; rfl
theorem fstX_step {n N q : Nat} {es : List Ed} {e : Ed} {b : Nat} (h : es[q]? = some e) (hb : e.w2 = (b : Int)) (hn : b < n) : fstX n N (es.take (q + 1)) = (fstX n N (es.take q)).set b (setR (if fstR N (es.take q) b = [] then List.replicate N 0 else fstR N (es.take q) b) e.w1) := by
  apply List.ext_getElem?
  intro k
  rw [List.getElem?_set]
  by_cases hk : k < n
  · rw [fstX_at _ hk, fstX_at _ hk, fstR_take h]
    by_cases hbk : b = k
    · subst hbk
      rw [if_pos rfl, if_pos (by unfold fstX; simpa using hk)]
      unfold fstO
      rw [if_pos hb]
    · rw [if_neg hbk, fstO_other (by rw [hb]; omega)]
  · have h1 : ∀ l, (fstX n N l)[k]? = none := fun l => List.getElem?_eq_none (by unfold fstX; simpa using hk)
    rw [h1, h1]
    split
    · rw [if_neg (by unfold fstX; simp; omega)]
    · rfl
theorem wrap_nat18 {q : Nat} (h : q ≤ 4096) : IntKind.i64.wrap (q : Int) = (q : Int) := by rw [IntKind.wrap_i64]; omega
/-- the first writes, by second ones -/
def RetFst (n N : Nat) (es : List Ed) (w : World) (e : Ending) (w' : World) : Prop := ∃ H us, e = .returned (.slice (some ⟨H, 0, none⟩) n n) ∧ w.heap.size ≤ H ∧ FstM H n w' us (fstX n N es) ∧ Below w.heap.size w w'
set_option maxRecDepth 100000 in
set_option maxHeartbeats 4000000 in
theorem seen_firsts (n N m c : Nat) (E : Option Addr) (es : List Ed) (w : World) (hL : LAt encE w E m es) (hn : n ≤ 4096) (hN : N = wordsN (n : Int)) (hm : m ≤ 16777216) (hes : ∀ e ∈ es, ∃ a b : Nat, e.w1 = (a : Int) ∧ e.w2 = (b : Int) ∧ a < n ∧ b < n) :
    Calls Tryz.prog 142 #[.int .i64 (n : Int), .slice E m c] w (RetFst n N es w) := by
  have hmk := mk_rows .i64 .i64 n n (Nat.le_refl _) (by omega)
  have hnN : n ≤ 64 * N := by rw [hN]; unfold wordsN wordsZ; split <;> omega
  have hN64 : N ≤ 64 := by rw [hN]; unfold wordsN wordsZ; split <;> omega
  have cN := Lib.hid (fun W => row_NewO (n : Int) (by omega) (by omega) W)
  rw [← hN] at cN
  obtain ⟨H, hH⟩ : ∃ g, g = w.heap.size := ⟨_, rfl⟩
  obtain ⟨W0, hW0⟩ : ∃ W, W = w.alloc (.cells (zeros n (.slice none 0 0)) 88) := ⟨_, rfl⟩
  have hb0 := Lib.hid (show Below w.heap.size w W0 from by rw [hW0]; exact below_alloc _ _)
  have hM0 := Lib.hid (show FstM H n W0 (List.replicate n (.slice none 0 0)) (fstX n N (es.take 0)) from by rw [hW0, hH, List.take_zero, fstX_nil]; exact FstM.start w (by unfold maxLen; omega))
  have hHw := Lib.hid (show w.heap.size ≤ H from by rw [hH]; exact Nat.le_refl _)
  have hnilT : ∀ W : World, (binOp .eql 88 (.slice none 0 0) (.slice none 0 0)).run Tryz.prog W = .ok (.bool true) W := fun W => by kernel_rfl
  have hnilF : ∀ (g m c : Nat) (W : World), (binOp .eql 88 (.slice (some ⟨g, 0, none⟩) m c) (.slice none 0 0)).run Tryz.prog W = .ok (.bool false) W := fun g m c W => by kernel_rfl
  replace hL := Lib.hid hL
  replace hes := Lib.hid hes
  replace hN := Lib.hid hN
  go_enter Tryz.func142, Tryz.ntmps142
  go_wp2_with (rw [← hW0, ← hH]; clear hW0; replace hH := Lib.hid hH)
  clear hmk
  go_loopw [12] (fun t wr => ∃ (q : Nat) (us : List Value), q ≤ m ∧ t = .int .i64 (q : Int) ∧ Hid (Below w.heap.size w wr) ∧ Hid (FstM H n wr us (fstX n N (es.take q)))) (fun t _ => m - (intOf t).toNat)
  case atStart => exact ⟨0, _, Nat.zero_le _, rfl, hb0, hM0⟩
  case round =>
    clear hb0 hM0
    obtain ⟨q, us, hq, rfl, hb, hM⟩ := hrel
    by_cases hlt : q < m
    · have hlt' : (q : Int) < (m : Int) := by omega
      have hq0 : 0 ≤ (q : Int) ∧ (q : Int) < (m : Int) := ⟨by omega, hlt'⟩
      obtain ⟨eb, eo, e, rfl, hebl, hex, heo, x0, x1, x2⟩ := (hL.out.below hb.out).edge hlt
      obtain ⟨a, b, ha, hbb, han, hbn⟩ := hes.out e (List.mem_of_getElem? hex)
      rw [ha] at x0
      rw [hbb] at x1
      have hstep := fstX_step (n := n) (N := N) hex hbb hbn
      rw [ha] at hstep
      obtain ⟨ge, hge⟩ : ∃ g, g = wr.heap.size := ⟨_, rfl⟩
      obtain ⟨W3, hW3⟩ : ∃ W, W = wr.alloc (.cells #[.int .i64 (a : Int), .int .i64 (b : Int), .int .i64 e.rd] 84) := ⟨_, rfl⟩
      have b3 : Below wr.heap.size wr W3 := by rw [hW3]; exact below_alloc _ _
      have hE := Lib.hid (show Blk W3 ge 84 [.int .i64 (a : Int), .int .i64 (b : Int), .int .i64 e.rd] from by rw [hW3, hge]; exact Blk.new wr _ _)
      have hgH := Lib.hid (show H < ge from by rw [hge]; exact hM.out.lt)
      replace hb := Lib.hid (below_trans2 hb.out b3)
      replace hM := Lib.hid (hM.out.later b3)
      have hbn' : (b : Int) < (n : Int) := by omega
      have hb0' : (0 : Int) ≤ (b : Int) := by omega
      have he0 := hE.out.cell 0
      have he1 := hE.out.cell 1
      simp only [List.getElem?_cons_zero, List.getElem?_cons_succ] at he0 he1
      have hx := fstX_at (n := n) (N := N) (es.take q) hbn
      obtain ⟨A', m', cc, k1, k2, k3, k4, k5, k6, k7, k8⟩ := hM.out.get hbn hx
      have hfac := (fstR_facts (N := N) (by omega) (es.take q) (fun e he => by obtain ⟨a, b, h1, h2, h3, h4⟩ := hes.out e (List.mem_of_mem_take he); exact ⟨a, h1, by omega⟩) b).2.1
      obtain ⟨xs, hxs⟩ : ∃ xs, xs = fstR N (es.take q) b := ⟨_, rfl⟩
      rw [← hxs] at hx hstep k4 k5 k6 k7 k8 hfac
      have hk4 := k4.len
      replace hxs := Lib.hid hxs
      replace hex := Lib.hid hex
      replace heo := Lib.hid heo
      clear hebl ha hbb
      by_cases hz : xs = []
      · obtain ⟨e1, e2, e3⟩ := k7 hz
        subst e1; subst e2; subst e3
        rw [if_pos hz] at hstep
        have hW3s := Lib.hid (show wr.heap.size ≤ W3.heap.size from b3.size)
        replace hstep := Lib.hid hstep
        clear b3 k4 k5 k6 k7 k8 hfac hk4 k1 k3 hx
        go_wp2_with (rw [← hW3, ← hge]; clear hW3; replace hge := Lib.hid hge; clear x0 x1 x2)
        refine wp_region_plan 6 [(true, 0), (true, 1), (true, 2), (true, 3), (false, 4), (true, 5)] (by kernel_rfl) (by kernel_rfl) (fun U hU => ?_)
        have hU' : Below W3.heap.size W3 U := by rw [hU.out]; exact (Below.refl _ _).drew
        have hMU := Lib.hid (hM.out.later hU')
        have hbU := Lib.hid (below_trans2 hb.out hU')
        have hEU := Lib.hid (hE.out.below hU' hE.out.lt)
        replace he1 : U.cell? ⟨ge, 1, none⟩ = some (.int .i64 (b : Int)) := by rw [hU.out]; exact he1
        clear hM hb hE hU hU' he0 k2
        simp only [List.drop_succ_cons, List.drop_zero]
        iterate 4
          refine wpPlan_float (v := ?_) rfl (by rfl) (fun w' hw' => ?_) (fun K hK => ?_)
          rotate_left
          · (go_simp; try with_reducible rfl)
          go_simp
          refine hK _ ?_
          clear hK K
        clear he1
        refine wpPlan_only rfl (by rfl) (fun K hK => ?_)
        go_simp
        refine (cN.out U).mono ?_
        rintro e' w4 ⟨A1, n1, c1, rfl, ho1, hx1, b4⟩
        refine hK _ _ b4 ?_
        clear hK K
        have hn1 : n1 = N := by have := ho1.1; simpa using this.symm
        subst hn1
        have hN0 : 0 < n1 := by omega
        obtain ⟨g, cap, hv1, -⟩ := ho1.form hN0
        injection hv1 with e1 e2 e3
        subst e1; subst e3
        have hE4 := hEU.out.below b4 hEU.out.lt
        have hb4 := below_trans2 hbU.out b4
        have hMl := hMU.out.lt
        have hF4 := (hMU.out.later b4).o.frozenAt b
        have hC4 := (hMU.out.later b4).o.cellAt b (by omega)
        obtain ⟨u4, hu4⟩ : ∃ u, us[b]? = some u := ⟨_, List.getElem?_eq_getElem (by rw [hMU.out.ulen]; omega)⟩
        rw [hu4] at hC4
        have hM := Lib.hid (hMU.out.put b4 ho1 hx1 (fun e => by have := congrArg List.length e; simp at this; omega) hbn)
        have hv := Lib.hid (show (us.set b (.slice (some ⟨g, 0, none⟩) n1 c1))[b]? = some (.slice (some ⟨g, 0, none⟩) n1 c1) from List.getElem?_set_self (by rw [hMU.out.ulen]; exact hbn))
        have hx := Lib.hid (show ((fstX n n1 (es.take q)).set b (List.replicate n1 0))[b]? = some (List.replicate n1 0) from List.getElem?_set_self (by unfold fstX; simpa using hbn))
        have hS : ((fstX n n1 (es.take q)).set b (List.replicate n1 0)).set b (setR (List.replicate n1 0) (a : Int)) = fstX n n1 (es.take (q + 1)) := by rw [List.set_set]; exact hstep.out.symm
        obtain ⟨W5, hW5⟩ : ∃ W, W = w4.setCell ⟨H, b, none⟩ (.slice (some ⟨g, 0, none⟩) n1 c1) := ⟨_, rfl⟩
        have hE := Lib.hid (show Blk W5 ge 84 [.int .i64 (a : Int), .int .i64 (b : Int), .int .i64 e.rd] from by rw [hW5]; exact hE4.far (by have := hgH.out; simp; omega) _)
        have hb := Lib.hid (show Below w.heap.size w W5 from by rw [hW5]; exact hb4.setCell (by exact hHw.out) _)
        rw [← hW5] at hM
        obtain ⟨xs, hxs'⟩ : ∃ xs, xs = List.replicate n1 0 := ⟨_, rfl⟩
        rw [← hxs'] at hx hS hM
        have hxl0 : xs.length = n1 := by rw [hxs']; simp
        obtain ⟨cc, hcc⟩ : ∃ c, c = c1 := ⟨_, rfl⟩
        rw [← hcc] at hv hM hW5 ⊢
        obtain ⟨N, hNN⟩ : ∃ N, N = n1 := ⟨_, rfl⟩
        obtain ⟨vv, hvv⟩ : ∃ v, v = us.set b (.slice (some ⟨g, 0, none⟩) n1 cc) := ⟨_, rfl⟩
        obtain ⟨YY, hYY⟩ : ∃ Y, Y = (fstX n n1 (es.take q)).set b xs := ⟨_, rfl⟩
        rw [← hvv] at hv hM
        rw [← hYY] at hx hS hM
        replace hxs' := Lib.hid hxs'
        replace hcc := Lib.hid hcc
        replace hvv := Lib.hid hvv
        replace hYY := Lib.hid hYY
        clear ho1 hx1 b4 hE4 hb4 hMU hbU hEU hu4 hMl hstep hz
        subst hNN
        iterate 1
          refine wpPlan_float (v := ?_) rfl (by rfl) (fun w' hw' => ?_) (fun K hK => ?_)
          rotate_left
          · (go_simp; try with_reducible rfl)
          go_simp
          refine hK _ ?_
          clear hK K
        refine wpPlan_nil ?_
        go_wp2
        rw [← hW5]
        replace hW5 := Lib.hid hW5
        refine NoPanic.normal ?_
        -- in the world W5: hM : FstM H n W5 vv YY, hv : vv[b]? = some (.slice (some ⟨g, 0, none⟩) N cc), hx : YY[b]? = some xs, hS : YY.set b (setR xs a) = .. ; the edge's box hE
        have hxl : xs.length = N := hxl0
        have hx64 : W64 xs := (hM.out.get hbn hx.out).elim (fun A h => by obtain ⟨m, c, -, -, -, -, -, h7, -⟩ := h; exact h7)
        obtain ⟨qq, hqq⟩ : ∃ q, q = a / 64 := ⟨_, rfl⟩
        obtain ⟨r, hre⟩ : ∃ r, r = a % 64 := ⟨_, rfl⟩
        have hql : qq < N := by omega
        have hr64 : r < 64 := by omega
        obtain ⟨x, hxq⟩ : ∃ x, xs[qq]? = some x := ⟨_, List.getElem?_eq_getElem (by omega)⟩
        have hxb : x < 18446744073709551616 := hx64 x (List.mem_of_getElem? hxq)
        have hSa := setR_in (m := a) (xs := xs) (by rw [hxl]; omega) (by rw [← hqq]; exact hxq)
        rw [← hqq, ← hre] at hSa
        have hEo := Lib.hid (u64_or_nat x (p2 r) hxb (by have := p2_lt r hr64; omega))
        have hO := Lib.hid (or_p2_lt hxb hr64)
        rw [hSa] at hS
        replace hS := Lib.hid hS
        obtain ⟨A', m', c', k1, k2, k3, k4, k5, -⟩ := hM.out.get hbn hx.out
        rw [hv.out] at k1
        injection k1 with k1
        injection k1 with k1 k1' k1''
        subst k1; subst k1'; subst k1''
        have hc : (W5).cell? ⟨g, qq, none⟩ = some (.int .u64 (x : Int)) := by
          rw [k5.cellAt _ (by omega), List.getElem?_map, hxq]; rfl
        have hf := k5.frozenAt qq
        have hgl := Lib.hid (k5.lt g rfl)
        have he0 := hE.out.cell 0
        have he1 := hE.out.cell 1
        simp only [List.getElem?_cons_zero, List.getElem?_cons_succ] at he0 he1
        replace hxq := Lib.hid hxq
        clear hx64 hSa k4 k5
        go_wp2_with fail
        have hq1 : (a : Int).tdiv 64 = (qq : Int) := by rw [Int.tdiv_eq_ediv_of_nonneg (by omega)]; omega
        have hr1 : (a : Int).tmod 64 = (r : Int) := by rw [Int.tmod_eq_emod_of_nonneg (by omega)]; omega
        have hwq : IntKind.i64.wrap (qq : Int) = (qq : Int) := wrap_nat18 (by omega)
        have hwr : IntKind.i64.wrap (r : Int) = (r : Int) := wrap_nat18 (by omega)
        have hA1 : (0 : Int) ≤ (qq : Int) := by omega
        have hA2 : (qq : Int) < (N : Int) := by omega
        refine still_tail 16 (by kernel_rfl) (by kernel_rfl) (fun Z hZ => ?_)
        replace hc : Z.cell? ⟨g, qq, none⟩ = some (.int .u64 (x : Int)) := by rw [hZ.out]; exact hc
        replace hf : Z.frozen? ⟨g, qq, none⟩ = false := by rw [hZ.out]; exact hf
        replace k2 : Z.cell? ⟨H, b, none⟩ = some (.slice (some ⟨g, 0, none⟩) N cc) := by rw [hZ.out]; exact k2
        replace he0 : Z.cell? ⟨ge, 0, none⟩ = some (.int .i64 (a : Int)) := by rw [hZ.out]; exact he0
        replace he1 : Z.cell? ⟨ge, 1, none⟩ = some (.int .i64 (b : Int)) := by rw [hZ.out]; exact he1
        have hM' := Lib.hid (show FstM H n Z _ _ from by rw [hZ.out]; exact hM.out.later (Below.refl _ _).drew)
        have hb' := Lib.hid (show Below w.heap.size w Z from by rw [hZ.out]; exact hb.out.drew)
        replace hqq := Lib.hid hqq
        replace hre := Lib.hid hre
        clear hZ k3
        simp only [List.take_succ_cons, List.take_zero, List.drop_succ_cons, List.drop_zero]
        repeat
          refine @wpStill_step _ _ _ _ _ _ _ ?_
          intro K hK
          go_simp
          refine hK _ ?_
          clear hK K
        refine @wpStill_step _ _ _ _ _ _ _ ?_
        intro K hK
        go_simp
        refine ⟨_, still_call (word_BitN _ hr64 _), hK _ ?_⟩
        clear hK K
        repeat
          refine @wpStill_step _ _ _ _ _ _ _ ?_
          intro K hK
          go_simp
          refine hK _ ?_
          clear hK K
        refine wpStill_nil ?_
        go_wp2
        go_roundw
        case rel =>
          refine ⟨q + 1, vv, by omega, by go_num, Lib.hid (hb'.out.setCell (by have := hgl.out; have := hHw.out; simp; omega) _), Lib.hid ?_⟩
          rw [hEo.out]
          have h1 := hM'.out.word hv.out hx.out qq _ hO.out (fun e => by rw [e] at hxl; simp at hxl; omega)
          rw [hS.out] at h1
          exact h1
        case measure => simp [intOf]; omega
      · obtain ⟨g, rfl⟩ := k8 hz
        rw [if_neg hz] at hstep
        have hxl0 : xs.length = N := by
          rcases hfac with ⟨h1, -⟩ | ⟨h1, -⟩
          · exact absurd h1 hz
          · exact h1
        have hmN : N = m' := by omega
        subst hmN
        have hv := Lib.hid k1
        replace hx := Lib.hid hx
        have hS := hstep.symm
        replace hz := Lib.hid hz
        clear hstep k4 k5 k6 k7 k8 hfac hk4 b3 k1 k3
        go_wp2_with (rw [← hW3, ← hge]; clear hW3; replace hge := Lib.hid hge; clear x0 x1 x2)
        -- in the world W3: hM : FstM H n W3 us fstX n N (es.take q), hv : us[b]? = some (.slice (some ⟨g, 0, none⟩) N cc), hx : fstX n N (es.take q)[b]? = some xs, hS : fstX n N (es.take q).set b (setR xs a) = .. ; the edge's box hE
        have hxl : xs.length = N := hxl0
        have hx64 : W64 xs := (hM.out.get hbn hx.out).elim (fun A h => by obtain ⟨m, c, -, -, -, -, -, h7, -⟩ := h; exact h7)
        obtain ⟨qq, hqq⟩ : ∃ q, q = a / 64 := ⟨_, rfl⟩
        obtain ⟨r, hre⟩ : ∃ r, r = a % 64 := ⟨_, rfl⟩
        have hql : qq < N := by omega
        have hr64 : r < 64 := by omega
        obtain ⟨x, hxq⟩ : ∃ x, xs[qq]? = some x := ⟨_, List.getElem?_eq_getElem (by omega)⟩
        have hxb : x < 18446744073709551616 := hx64 x (List.mem_of_getElem? hxq)
        have hSa := setR_in (m := a) (xs := xs) (by rw [hxl]; omega) (by rw [← hqq]; exact hxq)
        rw [← hqq, ← hre] at hSa
        have hEo := Lib.hid (u64_or_nat x (p2 r) hxb (by have := p2_lt r hr64; omega))
        have hO := Lib.hid (or_p2_lt hxb hr64)
        rw [hSa] at hS
        replace hS := Lib.hid hS
        obtain ⟨A', m', c', k1, k2, k3, k4, k5, -⟩ := hM.out.get hbn hx.out
        rw [hv.out] at k1
        injection k1 with k1
        injection k1 with k1 k1' k1''
        subst k1; subst k1'; subst k1''
        have hc : (W3).cell? ⟨g, qq, none⟩ = some (.int .u64 (x : Int)) := by
          rw [k5.cellAt _ (by omega), List.getElem?_map, hxq]; rfl
        have hf := k5.frozenAt qq
        have hgl := Lib.hid (k5.lt g rfl)
        have he0 := hE.out.cell 0
        have he1 := hE.out.cell 1
        simp only [List.getElem?_cons_zero, List.getElem?_cons_succ] at he0 he1
        replace hxq := Lib.hid hxq
        clear hx64 hSa k4 k5
        go_wp2_with fail
        have hq1 : (a : Int).tdiv 64 = (qq : Int) := by rw [Int.tdiv_eq_ediv_of_nonneg (by omega)]; omega
        have hr1 : (a : Int).tmod 64 = (r : Int) := by rw [Int.tmod_eq_emod_of_nonneg (by omega)]; omega
        have hwq : IntKind.i64.wrap (qq : Int) = (qq : Int) := wrap_nat18 (by omega)
        have hwr : IntKind.i64.wrap (r : Int) = (r : Int) := wrap_nat18 (by omega)
        have hA1 : (0 : Int) ≤ (qq : Int) := by omega
        have hA2 : (qq : Int) < (N : Int) := by omega
        refine still_tail 16 (by kernel_rfl) (by kernel_rfl) (fun Z hZ => ?_)
        replace hc : Z.cell? ⟨g, qq, none⟩ = some (.int .u64 (x : Int)) := by rw [hZ.out]; exact hc
        replace hf : Z.frozen? ⟨g, qq, none⟩ = false := by rw [hZ.out]; exact hf
        replace k2 : Z.cell? ⟨H, b, none⟩ = some (.slice (some ⟨g, 0, none⟩) N cc) := by rw [hZ.out]; exact k2
        replace he0 : Z.cell? ⟨ge, 0, none⟩ = some (.int .i64 (a : Int)) := by rw [hZ.out]; exact he0
        replace he1 : Z.cell? ⟨ge, 1, none⟩ = some (.int .i64 (b : Int)) := by rw [hZ.out]; exact he1
        have hM' := Lib.hid (show FstM H n Z _ _ from by rw [hZ.out]; exact hM.out.later (Below.refl _ _).drew)
        have hb' := Lib.hid (show Below w.heap.size w Z from by rw [hZ.out]; exact hb.out.drew)
        replace hqq := Lib.hid hqq
        replace hre := Lib.hid hre
        clear hZ k3
        simp only [List.take_succ_cons, List.take_zero, List.drop_succ_cons, List.drop_zero]
        repeat
          refine @wpStill_step _ _ _ _ _ _ _ ?_
          intro K hK
          go_simp
          refine hK _ ?_
          clear hK K
        refine @wpStill_step _ _ _ _ _ _ _ ?_
        intro K hK
        go_simp
        refine ⟨_, still_call (word_BitN _ hr64 _), hK _ ?_⟩
        clear hK K
        repeat
          refine @wpStill_step _ _ _ _ _ _ _ ?_
          intro K hK
          go_simp
          refine hK _ ?_
          clear hK K
        refine wpStill_nil ?_
        go_wp2
        go_roundw
        case rel =>
          refine ⟨q + 1, us, by omega, by go_num, Lib.hid (hb'.out.setCell (by have := hgl.out; have := hHw.out; simp; omega) _), Lib.hid ?_⟩
          rw [hEo.out]
          have h1 := hM'.out.word hv.out hx.out qq _ hO.out (fun e => by rw [e] at hxl; simp at hxl; omega)
          rw [hS.out] at h1
          exact h1
        case measure => simp [intOf]; omega
    · obtain rfl : q = m := by omega
      have hlt' : ¬ (q : Int) < (q : Int) := by omega
      have hall : es.take q = es := List.take_of_length_le (by rw [hL.out.len]; exact Nat.le_refl _)
      rw [hall] at hM
      clear hlt
      go_wp2_with fail
      go_ret
      exact ⟨H, us, rfl, hHw.out, hM.out, hb.out⟩
end Go.Proofs.YtjhjojklfdjmdaaGreat

namespace Go.Proofs.YtjhjojklfdjmdaaGreat
open Go.RowKit
set_option linter.unusedVariables false
section
variable {H n : Nat} {w w' : World} {us : List Value} {xss : List (List Nat)}
theorem own_keptB18 {w w' : World} {g base size n : Nat} {e : TypeId} {v : Value} {xs : List Value} (h : w.ownsRow base e size v n xs) (hb : BelowB g w w') (hg : g < base) : w'.ownsRow base e size v n xs :=
  h.kept (row := some g) ⟨hb.os, hb.tape, hb.output, hb.size, fun k hk hne => hb.block k hk (fun e => hne (by rw [e]))⟩ (by
    cases hv : v.ownBlock with
    | none => exact .inl rfl
    | some k => exact .inr (fun e => by injection e with e; have := own_lt_block h k hv; omega))
theorem FstM.keptB {G : Nat} (h : FstM H n w us xss) (hb : BelowB G w w') (hg : G < H) : FstM H n w' us xss :=
  ⟨own_keptB18 h.o hb hg, ⟨h.rows.1, fun i v xs h1 h2 => by
    obtain ⟨A, m, c, e, h3, h4⟩ := h.rows.2.1 i v xs h1 h2
    exact ⟨A, m, c, e, own_keptB18 h3 hb (by omega), h4⟩, h.rows.2.2⟩, h.nil⟩
end
/-- the hull of all, in rows whose blocks are told -/
def RetAdd (S : Nat → Prop) (n : Nat) (X : List (List Nat)) (w : World) (e : Ending) (w' : World) : Prop := ∃ A c, e = .returned (.agg #[.int .i64 (n : Int), .slice A n c]) ∧ RowsS (fun g => S g ∨ w.heap.size ≤ g) w' A n X ∧ n ≤ c ∧ Below w.heap.size w w' ∧ ∀ ad, A = some ad → w.heap.size ≤ ad.block
set_option maxRecDepth 100000 in
set_option maxHeartbeats 4000000 in
theorem seen_added (S : Nat → Prop) (A : Option Addr) (n c : Nat) (X : List (List Nat)) (E : Option Addr) (m d : Nat) (es : List Ed) (w : World) (hr : RowsS S w A n X) (hG : Good n X) (hc : ClosedM X) (hn : 0 < n) (hL : LAt encE w E m es) (hm : m ≤ 16777216) (hes : ∀ e ∈ es, ∃ a b : Nat, e.w1 = (a : Int) ∧ e.w2 = (b : Int) ∧ a < n ∧ b < n) :
    Calls Tryz.prog 122 #[.agg #[.int .i64 (n : Int), .slice A n c], .slice E m d] w (RetAdd S n (closeK ((edP es).foldl setP X) n) w) := by
  have hnn := hG.le
  obtain ⟨N, hN⟩ : ∃ N, N = wordsN (n : Int) := ⟨_, rfl⟩
  have hN0 : 0 < N := by rw [hN]; unfold wordsN wordsZ; split <;> omega
  have hnN : n ≤ 64 * N := by rw [hN]; unfold wordsN wordsZ; split <;> omega
  have hres := Lib.hid (adX_close hN0 hnN hG hc hes)
  have hgk := Lib.hid (fun k (hk : k ≤ n) => (adX_hull hN0 hnN hG hc hes k hk).1)
  have hfr := Lib.hid (fun k => (fstR_facts (N := N) hN0 es (fun e he => by obtain ⟨a, b, h1, h2, h3, h4⟩ := hes e he; exact ⟨a, h1, by omega⟩) k).2.1)
  obtain ⟨vs0, hrd, hrc, hA, hS⟩ := hr
  obtain ⟨W0, hW0⟩ : ∃ W0, W0 = (w.alloc (.cells #[.int .i64 n, .slice A n c] 57)).alloc (.cells #[.int .i64 0, .slice none 0 0] 57) := ⟨_, rfl⟩
  have ha : Below w.heap.size w W0 := by rw [hW0]; exact ((Below.refl _ _).alloc (Nat.le_refl _) _).alloc (by simp) _
  have hB1 := Lib.hid (show MatB W0 w.heap.size 57 n A n c from by rw [hW0]; exact (MatB.new w _).below_ (below_alloc _ _))
  have hB2 := Lib.hid (show MatB W0 (w.heap.size + 1) 57 0 none 0 0 from by rw [hW0]; exact MatB.new1 w _ _)
  have hs0 := Lib.hid (show W0.heap.size = w.heap.size + 2 from by rw [hW0]; simp)
  have l0 := hB1.out.c0
  have l1 := hB1.out.c1
  obtain ⟨b, off, rfl, hbl⟩ : ∃ b off, A = some ⟨b, off, none⟩ ∧ b < w.heap.size := by obtain ⟨b, off, e, h, -⟩ := hrd.2 hn; exact ⟨b, off, e, h⟩
  have cC := Lib.hid (clone_rows b off n c vs0 W0 (hrd.below ha) (one_rows (hrc.below ha)) hn (by omega))
  have hrc0 := Lib.hid (hrc.below ha)
  have hneT : ∀ (g m c : Nat) (W : World), (binOp .neq 88 (.slice (some ⟨g, 0, none⟩) m c) (.slice none 0 0)).run Tryz.prog W = .ok (.bool true) W := fun g m c W => by kernel_rfl
  have hneF : ∀ (W : World), (binOp .neq 88 (.slice none 0 0) (.slice none 0 0)).run Tryz.prog W = .ok (.bool false) W := fun W => by kernel_rfl
  have hL0 := Lib.hid (hL.below ha)
  have ha' := Lib.hid ha
  have cF := Lib.hid (fun W hW => seen_firsts n N m d E es W hW hnn hN hm hes)
  replace hN := Lib.hid hN
  replace hS := Lib.hid hS
  replace hes := Lib.hid hes
  replace hG := Lib.hid hG
  clear hrd hrc hL ha hA hbl
  go_enter Tryz.func122, Tryz.ntmps122
  go_wp2_with (rw [← hW0]; clear hW0)
  refine cC.out.mono ?_; rintro e w1 ⟨G, cap, rfl, hown, b1⟩
  have hGs := (hown.lt G rfl)
  have hI := Lib.hid (show LeadI S w W0.heap.size G n cap vs0 X w1 from ⟨hown, ⟨hrc0.out.1, fun i v xs h1 h2 => by
    obtain ⟨B, m', c', e, hrow⟩ := hrc0.out.2 i v xs h1 h2
    subst e
    exact RowF.old hrow b1 hGs.1⟩, fun v hv g e => .inl (hS.out v hv g e), by have := hs0.out; omega, hGs.2⟩)
  have hB1w := Lib.hid (hB1.out.below_ b1)
  have hB2w := Lib.hid (hB2.out.below_ b1)
  have hLw := Lib.hid (hL0.out.below b1)
  have hbw := Lib.hid (below_trans2 ha'.out b1)
  have hGb : Hid (W0.heap.size ≤ G) := Lib.hid hGs.1
  have l0 := hB1w.out.c0
  have l1 := hB1w.out.c1
  clear hown b1 hGs cC hrc0 hB1 hB2 hL0 ha'
  go_wp2_with fail
  refine (cF.out w1 hLw.out).mono ?_; rintro e w2 ⟨H, us, rfl, hHs, hM, b2⟩
  have hGH : Hid (G < H) := Lib.hid (Nat.lt_of_lt_of_le hI.out.big.2 hHs)
  replace hI := Lib.hid (hI.out.later b2)
  replace hB1w := Lib.hid (hB1w.out.below_ b2)
  replace hB2w := Lib.hid (hB2w.out.below_ b2)
  replace hbw := Lib.hid (below_trans2 hbw.out b2)
  replace hM := Lib.hid hM
  clear b2 l0 l1 cF hLw hHs
  go_wp2_with fail
  go_loopw [16] (fun t wr => ∃ (k : Nat) (vs : List Value), k ≤ n ∧ t = .int .i64 (k : Int) ∧ Hid (LeadI S w W0.heap.size G n cap vs (adX N X es k) wr) ∧ Hid (FstM H n wr us (fstX n N es)) ∧ Hid (MatB wr w.heap.size 57 n (some ⟨b, off, none⟩) n c) ∧ Hid (MatB wr (w.heap.size + 1) 57 0 none 0 0) ∧ Hid (Below w.heap.size w wr)) (fun t _ => n - (intOf t).toNat)
  case atStart => exact ⟨0, vs0, Nat.zero_le _, rfl, hI, hM, hB1w, hB2w, hbw⟩
  case round =>
    clear hI hM hB1w hB2w hbw
    obtain ⟨k, vs, hk, rfl, hI, hM, hB1w, hB2w, hbw⟩ := hrel
    by_cases hlt : k < n
    · have hlt' : (k : Int) < (n : Int) := by omega
      have hk0 : 0 ≤ (k : Int) ∧ (k : Int) < (n : Int) := ⟨by omega, hlt'⟩
      have hx := fstX_at (n := n) (N := N) es hlt
      obtain ⟨F, fm, fc, k1, k2, k3, k4, k5, k6, k7, k8⟩ := hM.out.get hlt hx
      have hf := hfr.out k
      obtain ⟨fs, hfs⟩ : ∃ l, l = fstR N es k := ⟨_, rfl⟩
      have hst : adX N X es (k + 1) = if fs = [] then adX N X es k else leadM (adX N X es k) fs k := by rw [hfs]; rfl
      rw [← hfs] at k4 k5 k6 k7 k8 hf
      have hk4 := k4.len
      by_cases hz : fs = []
      · obtain ⟨e1, e2, e3⟩ := k7 hz
        subst e1; subst e2; subst e3
        rw [if_pos hz] at hst
        replace hst := Lib.hid hst
        clear k4 k5 k6 k7 k8 hf hk4 hz hfs hx k1 k3 hlt
        go_wp2_with fail
        exact ⟨⟨k + 1, vs, by omega, by go_num, Lib.hid (by rw [hst.out]; exact hI.out), hM, hB1w, hB2w, hbw⟩, by simp [intOf]; omega⟩
      · obtain ⟨g, rfl⟩ := k8 hz
        rw [if_neg hz] at hst
        have hfm : fm = (wordsZ (n : Int)).toNat := by
          rcases hf with ⟨h1, -⟩ | ⟨h1, -⟩
          · exact absurd h1 hz
          · rw [← hk4, h1]; exact hN.out
        have hgH := own_lt_block k5 g rfl
        have cL := Lib.hid (seen_lead S w W0.heap.size G n cap fm fc (some ⟨g, 0, none⟩) vs (adX N X es k) fs k wr hI.out k4 hfm (fun _ ad e => by injection e with e; subst e; have := hGH.out; simp; omega) (hgk.out k (by omega)) hlt)
        rw [← hst] at cL
        have hMl := Lib.hid hI.out.big
        clear k4 k5 k6 k7 k8 hf hk4 hz hfs hx hst hfm hgH k1 k3 hlt
        go_wp2_with fail
        refine cL.out.mono ?_; rintro e w3 ⟨rfl, vs', hI', hbb⟩
        have hGw : w.heap.size + 2 ≤ G := by have := hs0.out; have := hGb.out; omega
        have hM' := Lib.hid (hM.out.keptB hbb hGH.out)
        have hB1' := Lib.hid (show MatB w3 w.heap.size 57 n (some ⟨b, off, none⟩) n c from hbb.blk hB1w.out (by omega))
        have hB2' := Lib.hid (show MatB w3 (w.heap.size + 1) 57 0 none 0 0 from hbb.blk hB2w.out (by omega))
        have hbw' := Lib.hid (hbw.out.trans (hbb.below hbw.out.size (by omega)))
        replace hI' := Lib.hid hI'
        clear hbb hM hB1w hB2w hbw hI cL
        go_wp2_with fail
        exact ⟨⟨k + 1, vs', by omega, by go_num, hI', hM', hB1', hB2', hbw'⟩, by simp [intOf]; omega⟩
    · obtain rfl : k = n := by omega
      have hlt' : ¬ (k : Int) < (k : Int) := by omega
      have l0 := hB1w.out.c0
      have f0 := hB2w.out.c0
      have f1 := hB2w.out.c1
      have g0 := hB2w.out.frozen 0
      have g1 := hB2w.out.frozen 1
      have hcc := hB2w.out.two (.int .i64 (k : Int)) (.slice (some ⟨G, 0, none⟩) k cap)
      have hc1 := Lib.hid hcc.1
      have hc2 := Lib.hid hcc.2
      have hGw := Lib.hid (show w.heap.size + 2 ≤ G from by have := hs0.out; have := hGb.out; omega)
      have hat := Lib.hid (hI.out.at.putB hB2w.out (fun _ ad e => by injection e with e; subst e; have := hGw.out; simp; omega) (.int .i64 (k : Int)) (.slice (some ⟨G, 0, none⟩) k cap))
      have hcap := Lib.hid (own_cap hI.out.own)
      have hbf := Lib.hid ((hbw.out.setCell (p := ⟨w.heap.size + 1, 0, none⟩) (by simp) (.int .i64 (k : Int))).setCell (p := ⟨w.heap.size + 1, 1, none⟩) (by simp) (.slice (some ⟨G, 0, none⟩) k cap))
      clear hlt hcc hI hM hB1w hB2w hbw
      go_wp2_with fail
      refine bodyPost_ret (v := .agg #[.int .i64 (k : Int), .slice (some ⟨G, 0, none⟩) k cap]) (by simp [results, Tryz.results122, go_sem, hc1.out, hc2.out]) rfl ⟨_, _, rfl, ?_, hcap.out, hbf.out, fun ad e => ?_⟩
      · rw [← hres.out]; exact hat.out
      · injection e with e; subst e; have := hGw.out; simp; omega
end Go.Proofs.YtjhjojklfdjmdaaGreat

namespace Go.Proofs.YtjhjojklfdjmdaaGreat
open Go.RowKit
set_option linter.unusedVariables false

theorem Blk.not_row' {w : World} {g : Nat} {t e : TypeId} {cs : List Value} {base size n : Nat} {v : Value} {xs : List Value} (h : Blk w g t cs) (hte : t ≠ e) (hr : w.ownsRow base e size v n xs) : v.ownBlock ≠ some g := by
  rcases hr.2 with ⟨rfl, _⟩ | ⟨k, cap, cur, rfl, _, hk, _⟩
  · intro h; cases h
  · intro he
    have : k = g := by simpa [Value.ownBlock] using he
    subst this
    rw [show w.heap[k]? = _ from h] at hk
    injection hk with hk
    injection hk with _ h2 _
    exact hte h2
theorem rows_apart {w : World} {b1 b2 s1 s2 n1 n2 : Nat} {e1 e2 : TypeId} {v1 v2 : Value} {xs1 xs2 : List Value} (h1 : w.ownsRow b1 e1 s1 v1 n1 xs1) (h2 : w.ownsRow b2 e2 s2 v2 n2 xs2) (hne : e1 ≠ e2) {b : Nat} (hb : v1.ownBlock = some b) : v2.ownBlock ≠ some b := by
  rcases h1.2 with ⟨rfl, _⟩ | ⟨g, cap, cur, rfl, _, hg, _⟩
  · cases hb
  · have : g = b := by simpa [Value.ownBlock] using hb
    subst this
    rcases h2.2 with ⟨rfl, _⟩ | ⟨k, cap2, cur2, rfl, _, hk, _⟩
    · intro h; cases h
    · intro he
      have : k = g := by simpa [Value.ownBlock] using he
      subst this
      rw [hg] at hk
      injection hk with hk
      injection hk with _ h2 _
      exact hne h2
/-- the i-th cell of an own row of one-cell elements is put -/
theorem own_put {w : World} {base g n c : Nat} {e : TypeId} {vs : List Value} (h : w.ownsRow base e 1 (.slice (some ⟨g, 0, none⟩) n c) n vs) {i : Nat} (hi : i < n) (u : Value) :
    (w.setCell ⟨g, i, none⟩ u).ownsRow base e 1 (.slice (some ⟨g, 0, none⟩) n c) n (vs.set i u) := by
  refine ⟨by rw [List.length_set]; exact h.1, ?_⟩
  rcases h.2 with ⟨h1, _⟩ | ⟨k, cap, cur, hv, hb, hk, hnc, hcm, hcs, ht⟩
  · cases h1
  · injection hv with h1 h2 h3
    injection h1 with h1
    injection h1 with h1
    subst h1; subst h3
    refine .inr ⟨g, c, cur.set! i u, rfl, hb, ?_, hnc, hcm, by simpa using hcs, ?_⟩
    · simp [World.setCell, Array.getElem?_modify, hk]
    · rw [Array.set!_eq_setIfInBounds, Array.toList_setIfInBounds, ← ht, List.take_set]
section
variable {T e : TypeId} {w w' : World} {base b2 : Nat} {vs : List Value} {hs : List (List OpT)}
end
end Go.Proofs.YtjhjojklfdjmdaaGreat

namespace Go.Proofs.YtjhjojklfdjmdaaGreat
open Go.RowKit
set_option linter.unusedVariables false

/-- lists of a call's own, each in a block of its own -/
structure OwnN {α : Type} (E : Enc α) (T : TypeId) (w : World) (base : Nat) (vs : List Value) (ls : List (List α)) : Prop where
  len : vs.length = ls.length
  row : ∀ (i : Nat) (v : Value) (l : List α), vs[i]? = some v → ls[i]? = some l → (∀ x ∈ l, E.ok x) ∧ w.ownsRow base T E.sz v l.length (E.all l)
  dis : ∀ (i j : Nat) (v u : Value) (b : Nat), vs[i]? = some v → vs[j]? = some u → v.ownBlock = some b → u.ownBlock = some b → i = j
/-- the row of them, n slices at go -/
structure SlotsM {α : Type} (E : Enc α) (tS tE : TypeId) (B go n : Nat) (w : World) (vs : List Value) (ls : List (List α)) : Prop where
  o : w.ownsRow B tS 1 (.slice (some ⟨go, 0, none⟩) n n) n vs
  s : OwnN E tE w B vs ls
/-- block k is neither the row's nor a list's -/
def Apart (go : Nat) (vs : List Value) (k : Nat) : Prop := k ≠ go ∧ ∀ v ∈ vs, v.ownBlock ≠ some k
/-- from w0 to w nothing has changed but the row and its lists -/
structure Mv (go : Nat) (w0 : World) (vs0 : List Value) (w : World) (vs : List Value) : Prop where
  os : w.os = w0.os
  tape : w.tape = w0.tape
  output : w.output = w0.output
  size : w0.heap.size ≤ w.heap.size
  block : ∀ k, k < w0.heap.size → Apart go vs0 k → w.heap[k]? = w0.heap[k]? ∧ Apart go vs k
section
variable {go : Nat} {w0 w w' : World} {vs0 vs vs' : List Value}
theorem Mv.refl (go : Nat) (w : World) (vs : List Value) : Mv go w vs w vs := ⟨rfl, rfl, rfl, Nat.le_refl _, fun k _ h => ⟨rfl, h⟩⟩
theorem Mv.trans (h : Mv go w0 vs0 w vs) (k : Mv go w vs w' vs') : Mv go w0 vs0 w' vs' :=
  ⟨k.os.trans h.os, k.tape.trans h.tape, k.output.trans h.output, Nat.le_trans h.size k.size, fun i hi ha => by
    obtain ⟨h1, h2⟩ := h.block i hi ha
    obtain ⟨h3, h4⟩ := k.block i (Nat.lt_of_lt_of_le hi h.size) h2
    exact ⟨h3.trans h1, h4⟩⟩
theorem Mv.of (go : Nat) (vs : List Value) (h : Below w.heap.size w w') : Mv go w vs w' vs := ⟨h.os, h.tape, h.output, h.size, fun k hk ha => ⟨h.block k hk, ha⟩⟩
theorem Mv.later (h : Mv go w0 vs0 w vs) (hb : Below w.heap.size w w') : Mv go w0 vs0 w' vs := h.trans (Mv.of go vs hb)
theorem Mv.blk {k : Nat} {t : TypeId} {cs : List Value} (h : Mv go w0 vs0 w vs) (hk : Blk w0 k t cs) (ha : Apart go vs0 k) : Blk w k t cs := (h.block k hk.lt ha).1.trans hk
theorem Mv.apart {k : Nat} (h : Mv go w0 vs0 w vs) (hk : k < w0.heap.size) (ha : Apart go vs0 k) : Apart go vs k := (h.block k hk ha).2
theorem Mv.lat {α : Type} {E : Enc α} {A : Option Addr} {n : Nat} {xs : List α} (h : Mv go w0 vs0 w vs) (hL : LAt E w0 A n xs) (ha : ∀ ad, A = some ad → Apart go vs0 ad.block) : LAt E w A n xs :=
  ⟨hL.1, hL.2.1, fun hn => by
    obtain ⟨b, off, e, hb, hc⟩ := hL.2.2 hn
    exact ⟨b, off, e, Nat.lt_of_lt_of_le hb h.size, fun j u hu => (World.cell?_of_block (w := w0) (h.block b hb (ha _ e)).1).trans (hc j u hu)⟩⟩
end
section
variable {α : Type} {E : Enc α} {tS tE : TypeId} {B go n : Nat} {w w' : World} {vs : List Value} {ls : List (List α)}
theorem OwnN.nils (E : Enc α) (T : TypeId) (w : World) (base n : Nat) : OwnN E T w base (List.replicate n (.slice none 0 0)) (List.replicate n []) := by
  refine ⟨by simp, fun i v l h1 h2 => ?_, fun i j v u b h1 h2 h3 h4 => ?_⟩
  · have e1 := List.eq_of_mem_replicate (List.mem_of_getElem? h1)
    have e2 := List.eq_of_mem_replicate (List.mem_of_getElem? h2)
    subst e1; subst e2
    exact ⟨fun x hx => by simp at hx, World.ownsRow_nil _ _ _ _⟩
  · rw [List.eq_of_mem_replicate (List.mem_of_getElem? h1)] at h3
    cases h3
theorem OwnN.below {base : Nat} {T : TypeId} (h : OwnN E T w base vs ls) (hb : Below w.heap.size w w') : OwnN E T w' base vs ls :=
  ⟨h.len, fun i v l h1 h2 => ⟨(h.row i v l h1 h2).1, own_below (h.row i v l h1 h2).2 hb⟩, h.dis⟩
theorem SlotsM.later (h : SlotsM E tS tE B go n w vs ls) (hb : Below w.heap.size w w') : SlotsM E tS tE B go n w' vs ls := ⟨own_below h.o hb, h.s.below hb⟩
theorem SlotsM.fresh (h : SlotsM E tS tE B go n w vs ls) {k : Nat} (hk : w.heap.size ≤ k) : Apart go vs k := by
  refine ⟨fun e => ?_, fun v hv e => ?_⟩
  · have := (h.o.lt go rfl).2; omega
  · obtain ⟨i, hi, hv⟩ := List.getElem_of_mem hv
    have hil : i < ls.length := by rw [← h.s.len]; exact hi
    have := ((h.s.row i v ls[i] (by rw [← hv]; exact List.getElem?_eq_getElem hi) (List.getElem?_eq_getElem hil)).2.lt k e).2
    omega
theorem SlotsM.vlen (h : SlotsM E tS tE B go n w vs ls) : vs.length = n := by simpa using h.o.1
/-- list s and its slice -/
theorem SlotsM.get (h : SlotsM E tS tE B go n w vs ls) {s : Nat} (hs : s < n) : ∃ A m c l, vs[s]? = some (.slice A m c) ∧ ls[s]? = some l ∧ l.length = m ∧ w.cell? ⟨go, s, none⟩ = some (.slice A m c) ∧ w.frozen? ⟨go, s, none⟩ = false ∧
    w.ownsRow B tE E.sz (.slice A m c) m (E.all l) ∧ (∀ x ∈ l, E.ok x) ∧ m ≤ c ∧ c ≤ 9223372036854775807 ∧ LAt E w A m l := by
  have hvl : s < vs.length := by rw [h.vlen]; exact hs
  have hll : s < ls.length := by rw [← h.s.len]; exact hvl
  have hv := List.getElem?_eq_getElem hvl
  have hl := List.getElem?_eq_getElem hll
  obtain ⟨hok, hr⟩ := h.s.row s _ _ hv hl
  obtain ⟨A, c, e, h1, h2, h3⟩ := LAt.of_own hr hok rfl
  obtain ⟨b', off', u', e', _, hu', hc'⟩ := (Rd.of_own' h.o).at_ hs
  injection e' with e'
  injection e' with e1 e2
  rw [hv] at hu'
  injection hu' with hu'
  subst e1; subst e2
  rw [Nat.zero_add, ← hu', e] at hc'
  refine ⟨A, _, c, ls[s], by rw [hv, e], hl, rfl, hc', ?_, by rw [← e]; exact hr, hok, h1, h2, h3⟩
  rcases h.o.2 with ⟨k1, _⟩ | ⟨k, cap, cur, k1, _, k2, _⟩
  · cases k1
  · injection k1 with k1
    injection k1 with k1
    injection k1 with k1
    subst k1
    simp [World.frozen?, k2]
/-- list s has grown, and its slice is laid in place -/
theorem SlotsM.put {w4 : World} {s : Nat} {v v' : Value} {l l' : List α} (h : SlotsM E tS tE B go n w vs ls) (hne : tS ≠ tE) (hv : vs[s]? = some v) (hl : ls[s]? = some l) (hg : w.grownBy w4 v.ownBlock)
    (hr : w4.ownsRow B tE E.sz v' l'.length (E.all l')) (hok : ∀ x ∈ l', E.ok x) (hb : v'.ownBlock = v.ownBlock ∨ v'.ownBlock = some w.heap.size) :
    SlotsM E tS tE B go n (w4.setCell ⟨go, s, none⟩ v') (vs.set s v') (ls.set s l') ∧ Mv go w vs (w4.setCell ⟨go, s, none⟩ v') (vs.set s v') ∧ w4.cell? ⟨go, s, none⟩ = some v ∧ w4.frozen? ⟨go, s, none⟩ = false := by
  have hsn : s < n := by rw [← h.vlen]; exact (List.getElem?_eq_some_iff.1 hv).1
  have hsv : s < vs.length := (List.getElem?_eq_some_iff.1 hv).1
  have hsl : s < ls.length := (List.getElem?_eq_some_iff.1 hl).1
  obtain ⟨A, m, c, l0, q1, -, -, q2, q3, -⟩ := h.get hsn
  have hrow := (h.s.row s v l hv hl).2
  have hgo := (h.o.lt go rfl).2
  have hgoB : B ≤ go := (h.o.lt go rfl).1
  have hvgo : v.ownBlock ≠ some go := rows_apart h.o hrow hne rfl
  have hgo4 : w4.heap[go]? = w.heap[go]? := hg.block go hgo (fun e => hvgo e.symm)
  have ho4 : w4.ownsRow B tS 1 (.slice (some ⟨go, 0, none⟩) n n) n vs := own_grown h.o hrow hne hg
  have hv'go : v'.ownBlock ≠ some go := by
    rcases hb with e | e
    · rw [e]; exact hvgo
    · rw [e]; intro e2; injection e2 with e2; omega
  have hfresh : ∀ (k : Nat) (x : Value) (b : Nat), vs[k]? = some x → x.ownBlock = some b → b < w.heap.size ∧ b ≠ go := by
    intro k x b hk hx
    have hkl : k < ls.length := by rw [← h.s.len]; exact (List.getElem?_eq_some_iff.1 hk).1
    have h2 := (h.s.row k x ls[k] hk (List.getElem?_eq_getElem hkl)).2
    exact ⟨(h2.lt b hx).2, fun e => rows_apart h.o h2 hne rfl (by rw [hx, e])⟩
  have key : ∀ (k : Nat) (x : Value), k ≠ s → (vs.set s v')[k]? = some x → vs[k]? = some x := fun k x hk h => by rwa [List.getElem?_set_ne (fun e => hk e.symm)] at h
  have self : ∀ (x : Value), (vs.set s v')[s]? = some x → x = v' := fun x h => by rw [List.getElem?_set_self hsv] at h; injection h with h; exact h.symm
  refine ⟨⟨own_put ho4 hsn v', by simp [h.s.len], fun k x p h1 h2 => ?_, fun k j x u b h1 h2 hx hu => ?_⟩, ⟨hg.os, hg.tape, hg.output, by simpa using hg.size, fun k hk ha => ⟨?_, ha.1, fun x hx => ?_⟩⟩, ?_, by
    have q4 := q3
    unfold World.frozen? at q4 ⊢
    rw [show (⟨go, s, none⟩ : Addr).block = go from rfl, hgo4]
    exact q4⟩
  · by_cases hk : s = k
    · subst hk
      rw [List.getElem?_set_self hsv] at h1
      rw [List.getElem?_set_self hsl] at h2
      injection h1 with h1
      injection h2 with h2
      subst h1; subst h2
      exact ⟨hok, ownsRow_setCell_other (a := ⟨go, s, none⟩) hr hv'go v'⟩
    · rw [List.getElem?_set_ne hk] at h1 h2
      obtain ⟨h3, h4⟩ := h.s.row k x p h1 h2
      refine ⟨h3, ownsRow_setCell_other (a := ⟨go, s, none⟩) (h4.kept hg ?_) (rows_apart h.o h4 hne rfl) v'⟩
      cases hxb : x.ownBlock with
      | none => exact .inl rfl
      | some b => exact .inr (fun e => hk (h.s.dis s k v x b hv h1 (by rw [← e]) hxb))
  · by_cases hk : k = s
    · by_cases hj : j = s
      · rw [hk, hj]
      · subst hk
        have e1 := self x h1
        subst e1
        have h2' := key j u hj h2
        rcases hb with hb | hb
        · exact (h.s.dis k j v u b hv h2' (by rw [← hb]; exact hx) hu)
        · have := hfresh j u b h2' hu
          rw [hb] at hx; injection hx with hx
          omega
    · have h1' := key k x hk h1
      by_cases hj : j = s
      · subst hj
        have e1 := self u h2
        subst e1
        rcases hb with hb | hb
        · exact (h.s.dis k j x v b h1' hv hx (by rw [← hb]; exact hu))
        · have := hfresh k x b h1' hx
          rw [hb] at hu; injection hu with hu
          omega
      · exact h.s.dis k j x u b h1' (key j u hj h2) hx hu
  · rw [Below.heap_setCell _ _ _ _ (show k ≠ (⟨go, s, none⟩ : Addr).block from ha.1)]
    exact hg.block k hk (fun e => ha.2 v (List.mem_of_getElem? hv) e.symm)
  · rcases List.mem_or_eq_of_mem_set hx with h1 | h1
    · exact ha.2 x h1
    · subst h1
      rcases hb with e | e
      · rw [e]; exact ha.2 v (List.mem_of_getElem? hv)
      · rw [e]; intro e2; injection e2 with e2; omega
  · rw [World.cell?_of_block (w := w) (a := ⟨go, s, none⟩) hgo4, q2, ← q1, hv]
theorem SlotsM.start (w : World) (tE : TypeId) (hn : n ≤ maxLen) : SlotsM E tS tE w.heap.size w.heap.size n (w.alloc (.cells (zeros n (.slice none 0 0)) tS)) (List.replicate n (.slice none 0 0)) (List.replicate n []) :=
  ⟨own_zeros w n _ _ hn, OwnN.nils E tE _ _ n⟩
end
end Go.Proofs.YtjhjojklfdjmdaaGreat

namespace Go.Proofs.YtjhjojklfdjmdaaGreat
set_option linter.unusedVariables false

/-- items of a session are neighbours, and their places rise by one -/
def Nbr (is : List It) : Prop := ∀ (i : Nat) (x y : It), is[i]? = some x → is[i + 1]? = some y → (x.se = y.se ∧ y.pl = x.pl + 1) ∨ x.se < y.se
theorem nbr_hist (hs : List (List OpT)) : Nbr (hisF hs).2 := fun i x y hx hy => by
  have hi : i + 1 < (allO hs).length := by rw [← hisF_len hs]; exact (List.getElem?_eq_some_iff.1 hy).1
  obtain ⟨s, p, x', x1, x2, x3, x4, x5, x6, x7⟩ := items_at (hs := hs) (i := i) (by omega)
  obtain ⟨t, q, y', y1, y2, y3, y4, y5, y6, y7⟩ := items_at (hs := hs) (i := i + 1) hi
  rw [hx] at x2; injection x2 with x2; subst x2
  rw [hy] at y2; injection y2 with y2; subst y2
  rcases Nat.lt_trichotomy s t with h | h | h
  · exact .inr (by omega)
  · subst h; exact .inl ⟨by omega, by omega⟩
  · exfalso
    obtain ⟨os, hos⟩ : ∃ os, hs[t]? = some os := ⟨_, List.getElem?_eq_getElem y7⟩
    have hgd : hs.getD t [] = os := by rw [List.getD_eq_getElem?_getD, hos]; rfl
    rw [hgd] at y6
    have b1 := baseO_succ hos
    have := baseO_mono (hs := hs) (show t + 1 ≤ s by omega)
    omega
theorem Nbr.chain {is : List It} (h : Nbr is) : ∀ (d i : Nat) (x y : It), is[i]? = some x → is[i + d]? = some y → (x.se = y.se ∧ y.pl = x.pl + (d : Int)) ∨ x.se < y.se
  | 0, i, x, y, hx, hy => by
    rw [Nat.add_zero, hx] at hy; injection hy with hy; subst hy
    exact .inl ⟨rfl, by omega⟩
  | d + 1, i, x, y, hx, hy => by
    obtain ⟨z, hz⟩ : ∃ z, is[i + d]? = some z := ⟨_, List.getElem?_eq_getElem (by have := (List.getElem?_eq_some_iff.1 hy).1; omega)⟩
    have h1 := h.chain d i x z hx hz
    have h2 := h (i + d) z y hz (by rw [Nat.add_assoc]; exact hy)
    omega
theorem Nbr.le {is : List It} (h : Nbr is) {i j : Nat} {x y : It} (hij : i ≤ j) (hx : is[i]? = some x) (hy : is[j]? = some y) : (x.se = y.se ∧ y.pl = x.pl + ((j - i : Nat) : Int)) ∨ x.se < y.se :=
  h.chain (j - i) i x y hx (by rw [show i + (j - i) = j by omega]; exact hy)
theorem Nbr.ahead {is : List It} (h : Nbr is) {i j : Nat} {x y : It} (hx : is[i]? = some x) (hy : is[j]? = some y) : aheadF is i j = (decide (x.se = y.se) && decide (i < j)) := by
  rw [aheadF_at (by omega) (by omega) (by rw [Int.toNat_natCast]; exact hx) (by rw [Int.toNat_natCast]; exact hy), Bool.eq_iff_iff, Bool.and_eq_true, Bool.and_eq_true, decide_eq_true_eq, decide_eq_true_eq, decide_eq_true_eq]
  rcases Nat.le_total i j with hij | hij
  · have := h.le hij hx hy
    omega
  · have := h.le hij hy hx
    omega
/-- b is the first item of o's session -/
structure FirstIs (is : List It) (o b : Nat) : Prop where
  le : b ≤ o
  same : ∀ (i : Nat) (x y : It), b ≤ i → i ≤ o → is[i]? = some x → is[o]? = some y → x.se = y.se
  new : 0 < b → ∀ x y, is[b - 1]? = some x → is[o]? = some y → x.se ≠ y.se
theorem FirstIs.lower {is : List It} {o b : Nat} (hN : Nbr is) (h : FirstIs is o b) {i : Nat} {x y : It} (hi : i < b) (hx : is[i]? = some x) (hy : is[o]? = some y) : x.se ≠ y.se := by
  have hob : o < is.length := (List.getElem?_eq_some_iff.1 hy).1
  have hle := h.le
  obtain ⟨z, hz⟩ : ∃ z, is[b - 1]? = some z := ⟨_, List.getElem?_eq_getElem (by omega)⟩
  have h1 := h.new (by omega) z y hz hy
  have h2 := hN.le (show i ≤ b - 1 by omega) hx hz
  have h3 := hN.le (show b - 1 ≤ o by omega) hz hy
  omega
theorem FirstIs.ahead {is : List It} {o b : Nat} (hN : Nbr is) (h : FirstIs is o b) (ho : o < is.length) {i : Nat} (hi : i < is.length) : aheadF is i o = decide (b ≤ i ∧ i < o) := by
  obtain ⟨x, hx⟩ : ∃ z, is[i]? = some z := ⟨_, List.getElem?_eq_getElem hi⟩
  obtain ⟨y, hy⟩ : ∃ z, is[o]? = some z := ⟨_, List.getElem?_eq_getElem ho⟩
  rw [hN.ahead hx hy, Bool.eq_iff_iff, Bool.and_eq_true, decide_eq_true_eq, decide_eq_true_eq, decide_eq_true_eq]
  constructor
  · rintro ⟨h1, h2⟩
    refine ⟨?_, h2⟩
    rcases Nat.lt_or_ge i b with hb | hb
    · exact absurd h1 (h.lower hN hb hx hy)
    · exact hb
  · rintro ⟨h1, h2⟩
    exact ⟨h.same i x y h1 (by omega) hx hy, h2⟩
def spanI (b n : Nat) : List Int := (List.range' b n).map fun (i : Nat) => (i : Int)
theorem spanI_succ (b n : Nat) : spanI b (n + 1) = spanI b n ++ [((b + n : Nat) : Int)] := by
  unfold spanI; rw [List.range'_1_concat, List.map_append]; rfl
theorem spanI_len (b n : Nat) : (spanI b n).length = n := by unfold spanI; simp
theorem spanI_ok (b n : Nat) : ∀ z ∈ spanI b n, 0 ≤ z ∧ z < ((b + n : Nat) : Int) := fun z hz => by
  unfold spanI at hz
  obtain ⟨i, hi, rfl⟩ := List.mem_map.1 hz
  have := List.mem_range'_1.1 hi
  omega
theorem FirstIs.past {is : List It} {o b : Nat} (hN : Nbr is) (h : FirstIs is o b) (ho : o < is.length) : pastF is (o : Int) is.length = spanI b (o + 1 - b) := by
  unfold pastF pastN spanI
  rw [filter_span h.le ho _ (fun i hi => by
    rw [h.ahead hN ho hi, Bool.eq_iff_iff, Bool.or_eq_true, decide_eq_true_eq, decide_eq_true_eq, decide_eq_true_eq]; have := h.le; omega)]
theorem past_none {is : List It} {o : Int} (h : o < 0 ∨ (is.length : Int) ≤ o) : pastF is o is.length = [] := by
  unfold pastF pastN
  rw [List.filter_eq_nil_iff.2 (fun a ha => by
    have := List.mem_range.1 ha
    rw [aheadF_out (by omega), decide_eq_false (by omega)]; simp)]
  rfl
/-- a session ends ahead of e -/
def EndAt (is : List It) (e : Nat) : Prop := 0 < e → ∀ x y, is[e - 1]? = some x → is[e]? = some y → x.se ≠ y.se
theorem EndAt.all (is : List It) : EndAt is is.length := fun h x y _ hy => by
  rw [List.getElem?_eq_none (Nat.le_refl _)] at hy; cases hy
/-- the items from s to below e are one session -/
structure Seg (is : List It) (s e : Nat) : Prop where
  lt : s < e
  le : e ≤ is.length
  at_ : ∀ i j : Nat, s ≤ i → i < e → aheadF is i j = decide (i < j ∧ j < e)
theorem FirstIs.seg {is : List It} {s e : Nat} (hN : Nbr is) (he : 0 < e) (hl : e ≤ is.length) (hE : EndAt is e) (h : FirstIs is (e - 1) s) : Seg is s e ∧ EndAt is s := by
  have hle := h.le
  obtain ⟨z, hz⟩ : ∃ z, is[e - 1]? = some z := ⟨_, List.getElem?_eq_getElem (by omega)⟩
  refine ⟨⟨by omega, hl, fun i j hi hie => ?_⟩, fun h0 x y hx hy => ?_⟩
  · obtain ⟨x, hx⟩ : ∃ z, is[i]? = some z := ⟨_, List.getElem?_eq_getElem (by omega)⟩
    have hxz := h.same i x z hi (by omega) hx hz
    rcases Nat.lt_or_ge j is.length with hj | hj
    · obtain ⟨y, hy⟩ : ∃ z, is[j]? = some z := ⟨_, List.getElem?_eq_getElem hj⟩
      rw [hN.ahead hx hy, Bool.eq_iff_iff, Bool.and_eq_true, decide_eq_true_eq, decide_eq_true_eq, decide_eq_true_eq]
      constructor
      · rintro ⟨h1, h2⟩
        refine ⟨h2, ?_⟩
        rcases Nat.lt_or_ge j e with hje | hje
        · exact hje
        · exfalso
          obtain ⟨u, hu⟩ : ∃ z, is[e]? = some z := ⟨_, List.getElem?_eq_getElem (by omega)⟩
          have h3 := hE he z u hz hu
          have h4 := hN.le (show e - 1 ≤ e by omega) hz hu
          have h5 := hN.le hje hu hy
          omega
      · rintro ⟨h1, h2⟩
        exact ⟨by rw [hxz]; exact (h.same j y z (by omega) (by omega) hy hz).symm, h1⟩
    · rw [aheadF_out (by omega)]
      symm; rw [decide_eq_false_iff_not]; omega
  · have := h.same s y z (Nat.le_refl _) hle hy hz
    rw [this]
    exact h.new h0 x z hx hz
/-- the rows of the last items, those ahead of them empty -/
def partM (is : List It) (e : Nat) : List (List Nat) := (List.range is.length).map fun i => if i < e then [] else (poM is).getD i []
theorem partM_len (is : List It) (e : Nat) : (partM is e).length = is.length := by simp [partM]
theorem partM_none (is : List It) : partM is is.length = List.replicate is.length [] := by
  unfold partM
  apply List.ext_getElem?
  intro i
  rw [List.getElem?_map, List.getElem?_range_eq, List.getElem?_replicate]
  by_cases h : i < is.length
  · rw [if_pos h, if_pos h]; simp [h]
  · rw [if_neg h, if_neg h]; rfl
where
  List.getElem?_range_eq {n i : Nat} : (List.range n)[i]? = if i < n then some i else none := by
    by_cases h : i < n
    · rw [if_pos h, List.getElem?_range h]
    · rw [if_neg h, List.getElem?_eq_none (by simp; omega)]
theorem poM_len' (is : List It) : (poM is).length = is.length := (DimM.fold is.length _).1
theorem partM_all (is : List It) : partM is 0 = poM is := by
  unfold partM
  apply List.ext_getElem?
  intro i
  rw [List.getElem?_map]
  by_cases h : i < is.length
  · rw [List.getElem?_range h]
    have := List.getElem?_eq_getElem (l := poM is) (i := i) (by rw [poM_len']; exact h)
    rw [this]; simp [List.getD_eq_getElem?_getD, this]
  · rw [List.getElem?_eq_none (by simp; omega), List.getElem?_eq_none (by rw [poM_len']; omega)]; rfl
theorem partM_get {is : List It} {e i : Nat} (h1 : e ≤ i) (h2 : i < is.length) : (partM is e)[i]? = some ((poM is).getD i []) := by
  unfold partM
  rw [List.getElem?_map, List.getElem?_range h2]
  simp; omega
theorem partM_set {is : List It} {e : Nat} (h : e < is.length) : (partM is (e + 1)).set e ((poM is).getD e []) = partM is e := by
  unfold partM
  rw [map_range_set]
  apply List.map_congr_left
  intro j hj
  by_cases hje : j = e
  · subst hje; simp
  · simp only [if_neg hje]
    by_cases h1 : j < e
    · rw [if_pos h1, if_pos (by omega)]
    · rw [if_neg h1, if_neg (by omega)]
theorem poM_row {is : List It} (h : is.length ≤ 4096) {i : Nat} (hi : i < is.length) : ((poM is).getD i []).length = (wordsZ (is.length : Int)).toNat ∧ W64 ((poM is).getD i []) ∧ ∀ j : Nat, hasR ((poM is).getD i []) (j : Int) = aheadF is i j := by
  obtain ⟨hG, hh⟩ := poM_good h
  obtain ⟨r, hr⟩ : ∃ r, (poM is)[i]? = some r := ⟨_, List.getElem?_eq_getElem (by rw [poM_len']; exact hi)⟩
  have hd : (poM is).getD i [] = r := getD_at hr
  rw [hd]
  refine ⟨(DimM.fold is.length _).2 i r hr, (hG.row r (List.mem_of_getElem? hr)).1, fun j => ?_⟩
  rw [← hh i j, hasM_in hr]
/-- the row of a session's last item -/
theorem Seg.last {is : List It} {s e : Nat} (h : Seg is s e) (hn : is.length ≤ 4096) : (poM is).getD (e - 1) [] = List.replicate (wordsZ (is.length : Int)).toNat 0 := by
  have hlt := h.lt
  have hle := h.le
  obtain ⟨r1, r2, r3⟩ := poM_row hn (i := e - 1) (by omega)
  refine row_ext r2 (fun x hx => by rw [(List.mem_replicate.1 hx).2]; omega) (by rw [r1, List.length_replicate]) (fun i _ => ?_)
  rw [r3, hasR_zeros, h.at_ (e - 1) i (by omega) (by omega), decide_eq_false (by omega)]
/-- .. and of one ahead of it: the next one, and what stands behind that -/
theorem Seg.step {is : List It} {s e i : Nat} (h : Seg is s e) (hn : is.length ≤ 4096) (hs : s ≤ i) (hi : i + 1 < e) : setR ((poM is).getD (i + 1) []) ((i + 1 : Nat) : Int) = (poM is).getD i [] := by
  have hle := h.le
  obtain ⟨r1, r2, r3⟩ := poM_row hn (i := i) (by omega)
  obtain ⟨q1, q2, q3⟩ := poM_row hn (i := i + 1) (by omega)
  have hw := words_pos (n := is.length) (by omega)
  refine row_ext (setR_w64 q2 _) r2 (by rw [setR_len, r1, q1]) (fun j _ => ?_)
  rw [hasR_setR _ _ _ (by rw [q1]; omega), r3, q3, h.at_ i j hs (by omega), h.at_ (i + 1) j (by omega) hi, Bool.eq_iff_iff, Bool.or_eq_true, decide_eq_true_eq, decide_eq_true_eq, decide_eq_true_eq]
  omega
end Go.Proofs.YtjhjojklfdjmdaaGreat
