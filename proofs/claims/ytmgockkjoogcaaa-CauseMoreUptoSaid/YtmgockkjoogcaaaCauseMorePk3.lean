/- The contracts of the document's own answers of layer 9, first half: find, texts, items, Ints, Same, Small. The contract of the document's own answer of layer 9: Of. The contracts of the document's own answers of layer 9: Same, Small. The contracts of the document's own answers of layer 11: From, Fill, Whole, Readers. Words for memory: slices of rows (matrices), pairs. No function of the program is named here. Contracts of package mat: below, fits, Has; and of the document's own answers: in, Has, Small. Contracts of package mat: Set (with slices.Clone of rows). Contracts of package mat: Set (refused). Contracts of package mat: New. Contracts of package mat: New (refused), put. Contracts of package mat: Of. Words for memory: rows that lie apart from a span of blocks; mathematics of 'or'. Contracts of package mat: join, Or. Contracts of package mat: fits, Right. Contracts of package mat: Sub, Same (by slices.EqualFunc). Contracts of package mat: Pairs. -/
import Derived.Test.YtmgockkjoogcaaaProg
import Derived.Test.YtmgockkjoogcaaaCauseMorePk1
import Derived.Test.YtmgockkjoogcaaaCauseMorePk2
import Derived.BigQuiet
import Derived.Deep.RegionHeld3
import Derived.Deep.DrawnRows
namespace Go.Proofs.Ytmgockkjoogcaaa
open Go.RowKit
set_option linter.unusedVariables false

theorem list_eq {α : Type} {s t : List α} (hl : s.length = t.length) (h : ∀ k, k < s.length → s[k]? = t[k]?) : s = t :=
  List.ext_getElem? (fun k => by
    by_cases hk : k < s.length
    · exact h k hk
    · rw [List.getElem?_eq_none (by omega), List.getElem?_eq_none (by omega)])
set_option maxRecDepth 100000 in
set_option maxHeartbeats 1000000 in
theorem ref9_find (A : Option Addr) (n c : Nat) (l : List ByteArray) (s : ByteArray) (w : World) (hL : LAt encS w A n l) (hn : n ≤ 9223372036854775807) :
    Calls Try.prog 43 #[.slice A n c, .string s] w fun e w' => e = .returned (.int .i64 (findZ l s)) ∧ w' = w := by
  have hl := Lib.hid hL.len
  replace hL := Lib.hid hL
  go_enter Try.func43, Try.ntmps43
  go_wp2_with fail
  go_loop [5] (fun t => ∃ q : Nat, t = .int .i64 q ∧ q ≤ n ∧ Hid (∀ i, i < q → l[i]? ≠ some s)) (fun t => n - (intOf t).toNat)
  case atStart => exact ⟨0, rfl, by omega, Lib.hid (fun j hj => absurd hj (by omega))⟩
  case round =>
    obtain ⟨q, rfl, hq, hall⟩ := hrel
    by_cases hlt : q < n
    · obtain ⟨b, off, x, rfl, hb, hx, hok, hc⟩ := hL.out.str hlt
      have hlt' : (q : Int) < (n : Int) := by omega
      by_cases hxs : x = s
      · subst hxs
        have e1 : (x.toList == x.toList) = true := by simp
        have hres := Lib.hid (findZ_at hx hall.out)
        replace hx := Lib.hid hx
        clear hlt
        go_wp2_with fail
        go_ret
        exact ⟨by rw [hres.out]; rfl, rfl⟩
      · have e1 : (x.toList == s.toList) = false := by
          rw [beq_eq_false_iff_ne]
          exact fun h => hxs (toList_inj h)
        have hall' : Hid (∀ i, i < q + 1 → l[i]? ≠ some s) := Lib.hid (fun i hi => by
          rcases Nat.lt_succ_iff_lt_or_eq.1 hi with h1 | h1
          · exact hall.out i h1
          · subst h1; rw [hx]; exact fun e => hxs (by injection e))
        replace hx := Lib.hid hx
        clear hlt hxs hall
        go_wp2_with fail
        go_round
        case rel => exact ⟨q + 1, by go_num, by omega, hall'⟩
        case measure => simp [intOf]; omega
    · have hlt' : ¬ (q : Int) < (n : Int) := by omega
      have hres : Hid (findZ l s = -1) := Lib.hid (findZ_none (fun i hi => hall.out i (by rw [hl.out] at hi; omega)))
      clear hlt hall
      go_wp2_with fail
      go_ret
      exact ⟨by rw [hres.out]; rfl, rfl⟩

end Go.Proofs.Ytmgockkjoogcaaa

namespace Go.Proofs.Ytmgockkjoogcaaa
open Go.RowKit
set_option linter.unusedVariables false

theorem Blk.not_row {w : World} {g : Nat} {t e : TypeId} {cs : List Value} {base size n : Nat} {v : Value} {xs : List Value} (h : Blk w g t cs) (hte : t ≠ e) (hr : w.ownsRow base e size v n xs) : v.ownBlock ≠ some g := by
  rcases hr.2 with ⟨rfl, _⟩ | ⟨k, cap, cur, rfl, _, hk, _⟩
  · intro h; cases h
  · intro he
    have : k = g := by simpa [Value.ownBlock] using he
    subst this
    rw [show w.heap[k]? = _ from h] at hk
    injection hk with hk
    injection hk with _ h2 _
    exact hte h2
theorem Blk.kept {w w' : World} {g : Nat} {t : TypeId} {cs : List Value} {row : Option Nat} (h : Blk w g t cs) (hg : w.grownBy w' row) (hne : row ≠ some g) : Blk w' g t cs :=
  (hg.block g h.lt (fun e => hne e.symm)).trans h
theorem own_farT {w : World} {g i : Nat} {t e : TypeId} {cs : List Value} {base size n : Nat} {v : Value} {xs : List Value} (hr : w.ownsRow base e size v n xs) (h : Blk w g t cs) (hte : t ≠ e) (u : Value) : (w.setCell ⟨g, i, none⟩ u).ownsRow base e size v n xs := by
  have hne := h.not_row hte hr
  refine ⟨hr.1, ?_⟩
  rcases hr.2 with h1 | ⟨k, cap, cur, rfl, hb, hk, r⟩
  · exact .inl h1
  · refine .inr ⟨k, cap, cur, rfl, hb, ?_, r⟩
    rw [Below.heap_setCell w ⟨g, i, none⟩ u k (fun e => hne (by rw [e]; rfl))]
    exact hk
/-- what is built may be told -/
structure StOk (st : StF) : Prop where
  s : ∀ x ∈ st.1, x.size ≤ 9223372036854775807
  i : ∀ x ∈ st.2, It.Ok x
  l : st.1.length ≤ st.2.length
  n : st.2.length ≤ 4398046511104
theorem StOk.nil : StOk ([], []) := ⟨fun x h => by simp at h, fun x h => by simp at h, Nat.le_refl _, by simp⟩
theorem StOk.one {st : StF} (h : StOk st) {se pl : Nat} {o : OpT} (hn : st.2.length < 4398046511104) (hse : se ≤ 4398046511104) (hpl : pl ≤ 4398046511104) (ho : (-9223372036854775808 ≤ o.2.2 ∧ o.2.2 < 9223372036854775808) ∧ o.2.1.size ≤ 9223372036854775807) : StOk (oneF se st (o, pl)) := by
  have hl := addV_len st.1 o.2.1
  have hf := findZ_range (addV st.1 o.2.1) o.2.1
  have h1 := h.l
  refine ⟨fun x hx => ?_, fun x hx => ?_, ?_, ?_⟩
  · simp only [oneF] at hx
    by_cases hfz : findZ st.1 o.2.1 < 0
    · rw [addV_new hfz] at hx
      rcases List.mem_append.1 hx with hx | hx
      · exact h.s x hx
      · rw [List.mem_singleton.1 hx]; exact ho.2
    · rw [addV_old hfz] at hx; exact h.s x hx
  · simp only [oneF] at hx
    rcases List.mem_append.1 hx with hx | hx
    · exact h.i x hx
    · rw [List.mem_singleton.1 hx]
      have := h.n
      exact ⟨by simp only; omega, by simp only; omega, by simp only; omega, by simp only; omega, by simp only; omega, by simp only; omega, ho.1.1, ho.1.2⟩
  · simp only [oneF, List.length_append, List.length_cons, List.length_nil]; omega
  · simp only [oneF, List.length_append, List.length_cons, List.length_nil]; omega
/-- while facts are built: in the variable g1, of which the answer's is g0 -/
structure FI (w wr : World) (g0 g1 : Nat) (v u : Value) (st : StF) : Prop where
  r : Blk wr g0 29 [.slice none 0 0, .slice none 0 0, .slice none 0 0]
  f : Blk wr g1 29 [v, u, .slice none 0 0]
  ov : wr.ownsRow w.heap.size 9 1 v st.1.length (encS.all st.1)
  ou : wr.ownsRow w.heap.size 73 5 u st.2.length (encT.all st.2)
  b : Below w.heap.size w wr
  ok : StOk st
  l0 : w.heap.size ≤ g0
  l1 : g0 < g1
theorem FI.later {w wr w' : World} {g0 g1 : Nat} {v u : Value} {st : StF} (h : FI w wr g0 g1 v u st) (hb : Below wr.heap.size wr w') : FI w w' g0 g1 v u st :=
  ⟨h.r.below hb h.r.lt, h.f.below hb h.f.lt, own_below h.ov hb, own_below h.ou hb, below_trans2 h.b hb, h.ok, h.l0, h.l1⟩
theorem info_str : (Try.prog.info? 9).map (fun i => (i.zero, i.size, i.bytes)) = some (some (.string .empty), 1, 16) := by kernel_rfl
theorem info_item : (Try.prog.info? 73).map (fun i => (i.zero, i.size, i.bytes)) = some (some (.agg #[.int .i64 0, .int .i64 0, .bool false, .int .i64 0, .int .i64 0]), 5, 40) := by kernel_rfl
set_option maxRecDepth 100000 in
set_option maxHeartbeats 4000000 in
theorem ref9_Of (A : Option Addr) (n c : Nat) (hs : List (List OpT)) (w : World) (hH : HistAt w A n hs) (hn : n ≤ 1099511627776) (hF : (allO hs).length ≤ 1099511627776) :
    Calls Try.prog 25 #[.slice A n c] w fun e w' => ∃ v : FV, e = .returned (.tuple #[.agg #[.slice v.A v.n v.c, .slice v.B v.m v.d, .slice v.C v.k v.e], .int .i64 (if rightL hs = true then 0 else 1)]) ∧
      FactsAt w' v (if rightL hs = true then facO hs else ⟨[], [], []⟩) ∧ Below w.heap.size w w' := by
  obtain ⟨i0, hi, hz0, hz1, hz2⟩ := info_parts info_str
  obtain ⟨j0, ji, jz0, jz1, jz2⟩ := info_parts info_item
  replace hi := Lib.hid hi
  replace hz0 := Lib.hid hz0
  replace hz1 := Lib.hid hz1
  replace hz2 := Lib.hid hz2
  replace ji := Lib.hid ji
  replace jz0 := Lib.hid jz0
  replace jz1 := Lib.hid jz1
  replace jz2 := Lib.hid jz2
  have hlen := Lib.hid hH.len
  have hH0 := Lib.hid hH
  obtain ⟨W0, hW0⟩ : ∃ W, W = w.alloc (.cells #[.slice none 0 0, .slice none 0 0, .slice none 0 0] 29) := ⟨_, rfl⟩
  obtain ⟨g0, hg0⟩ : ∃ g, g = w.heap.size := ⟨_, rfl⟩
  have k0 : Blk W0 g0 29 [.slice none 0 0, .slice none 0 0, .slice none 0 0] := by rw [hW0, hg0]; exact Blk.new w _ _
  have bb := Lib.hid (show Below w.heap.size w W0 from by rw [hW0]; exact (Below.refl _ w).alloc (Nat.le_refl _) _)
  have cR := Lib.hid (ref6_Right A n c hs W0 (hH.below bb.out) (by omega) (by omega))
  replace hF := Lib.hid hF
  cases hr : rightL hs with
  | false =>
    rw [hr] at cR
    replace hr := Lib.hid hr
    clear hH
    go_enter Try.func25, Try.ntmps25
    go_wp2_with (rw [← hW0, ← hg0]; clear hW0; replace hg0 := Lib.hid hg0)
    refine cR.out.mono ?_; rintro e w1 ⟨rfl, b⟩
    replace bb := Lib.hid (below_trans2 bb.out b)
    replace k0 := k0.below b k0.lt
    clear b
    have c0 := k0.cell 0
    have c1 := k0.cell 1
    have c2 := k0.cell 2
    have f0 := k0.frozen 0
    have f1 := k0.frozen 1
    have f2 := k0.frozen 2
    go_wp2_with fail
    have k3 := ((k0.set_ 0 (.slice none 0 0)).set_ 1 (.slice none 0 0)).set_ 2 (.slice none 0 0)
    have e0 := k3.cell 0
    have e1 := k3.cell 1
    have e2 := k3.cell 2
    refine bodyPost_ret (v := .tuple #[.agg #[.slice none 0 0, .slice none 0 0, .slice none 0 0], .int .i64 1]) (by simp [results, Try.results25, go_sem, e0, e1, e2]) rfl ⟨⟨none, 0, 0, none, 0, 0, none, 0, 0⟩, rfl, ⟨LAt.nil _ _ _, Nat.le_refl _, by simp, LAt.nil _ _ _, Nat.le_refl _, by simp, LAt.nil _ _ _, Nat.le_refl _, by simp⟩, ?_⟩
    exact ((bb.out.setCell (by rw [hg0.out]; exact Nat.le_refl _) _).setCell (by rw [hg0.out]; exact Nat.le_refl _) _).setCell (by rw [hg0.out]; exact Nat.le_refl _) _
  | true =>
    rw [hr] at cR
    replace hr := Lib.hid hr
    replace hH := Lib.hid (hH.below bb.out)
    go_enter Try.func25, Try.ntmps25
    go_wp2_with (rw [← hW0, ← hg0]; clear hW0; replace hg0 := Lib.hid hg0)
    refine cR.out.mono ?_; rintro e w1 ⟨rfl, b⟩
    replace bb := Lib.hid (below_trans2 bb.out b)
    replace hH := Lib.hid (hH.out.below b)
    replace k0 := k0.below b k0.lt
    obtain ⟨W1, hW1⟩ : ∃ W, W = w1.alloc (.cells #[.slice none 0 0, .slice none 0 0, .slice none 0 0] 29) := ⟨_, rfl⟩
    obtain ⟨g1, hg1⟩ : ∃ g, g = w1.heap.size := ⟨_, rfl⟩
    have hFI : FI w W1 g0 g1 (.slice none 0 0) (.slice none 0 0) ([], []) := by
      have b1 : Below w1.heap.size w1 W1 := by rw [hW1]; exact (Below.refl _ w1).alloc (Nat.le_refl _) _
      exact ⟨k0.below b1 k0.lt, by rw [hW1, hg1]; exact Blk.new w1 _ _, World.ownsRow_nil _ _ _ _, World.ownsRow_nil _ _ _ _, below_trans2 bb.out b1, StOk.nil, by rw [hg0.out]; exact Nat.le_refl _, by rw [hg1]; exact k0.lt⟩
    replace hH := Lib.hid (hH.out.below (show Below w1.heap.size w1 W1 from by rw [hW1]; exact (Below.refl _ w1).alloc (Nat.le_refl _) _))
    replace hFI := Lib.hid hFI
    clear b k0 bb cR
    go_wp2_with (rw [← hW1, ← hg1]; clear hW1; replace hg1 := Lib.hid hg1)
    go_loopw [5] (fun i wr => ∃ (k : Nat) (v u : Value), k ≤ n ∧ i = .int .i64 k ∧ Hid (FI w wr g0 g1 v u (hisF (hs.take k))) ∧ Hid (HistAt wr A n hs)) (fun i _ => n - (intOf i).toNat)
    case atStart => exact ⟨0, _, _, Nat.zero_le _, rfl, hFI, hH⟩
    case round =>
      obtain ⟨k, v, u, hk, rfl, hI, hHr⟩ := hrel
      by_cases hlt : k < n
      · obtain ⟨b1, off, B, m, cc, os, rfl, hbl, hos, hcell, hmc, hm63, hO⟩ := hHr.out.at_ hlt
        have hlt' : (k : Int) < (n : Int) := by omega
        have hol := Lib.hid hO.len
        have htk := Lib.hid (List.take_succ_eq_append_getElem (List.getElem?_eq_some_iff.1 hos).1)
        rw [(List.getElem?_eq_some_iff.1 hos).2] at htk
        replace hos := Lib.hid hos
        replace hO := Lib.hid hO
        go_wp2_with fail
        go_loopw [6] (fun i wr => ∃ (j : Nat) (v u : Value), j ≤ m ∧ i = .int .i64 j ∧ Hid (FI w wr g0 g1 v u (sesF k (os.take j) (hisF (hs.take k)))) ∧ Hid (HistAt wr (some ⟨b1, off, none⟩) n hs)) (fun i _ => m - (intOf i).toNat)
        case atStart => exact ⟨0, v, u, Nat.zero_le _, rfl, hI, hHr⟩
        case round =>
          clear hI hHr hcell hO
          obtain ⟨j, v, u, hj, rfl, hI, hHr⟩ := hrel
          obtain ⟨b1', off', B, m', cc, os', e1, hbl, hos', hcell, hmc, hm63, hO⟩ := hHr.out.at_ hlt
          injection e1 with e1
          injection e1 with e1 e2
          subst e1; subst e2
          obtain rfl : os' = os := by rw [hos.out] at hos'; injection hos' with h; exact h.symm
          obtain rfl : m' = m := by rw [← hO.len]; exact hol.out
          clear hos'
          by_cases hjm : j < m'
          · obtain ⟨b2, off2, o, rfl, hb2, ho, hok, x0, x1, x2⟩ := hO.at_ hjm
            have hjm' : (j : Int) < (m' : Int) := by omega
            have htj := Lib.hid (List.take_succ_eq_append_getElem (List.getElem?_eq_some_iff.1 ho).1)
            rw [(List.getElem?_eq_some_iff.1 ho).2] at htj
            obtain ⟨st, hst⟩ : ∃ st, st = sesF k (os'.take j) (hisF (hs.take k)) := ⟨_, rfl⟩
            rw [← hst] at hI
            have hone : Hid (sesF k (os'.take (j + 1)) (hisF (hs.take k)) = oneF k st (o, j)) := Lib.hid (by
              rw [htj.out, sesF_snoc, ← hst, List.length_take, hol.out, Nat.min_eq_left (by omega)])
            have hstl : st.2.length < 1099511627776 := by
              have h1 := (sesF_len k (os'.take j) (hisF (hs.take k))).1
              have h2 := hisF_len (hs.take k)
              have h3 := allO_take_le hs (k + 1)
              rw [allO_take_succ hos.out, List.length_append, hol.out] at h3
              rw [← hst, h2, List.length_take] at h1
              have := hF.out
              omega
            have hjb : j ≤ 4398046511104 := by
              have h3 := allO_take_le hs (k + 1)
              rw [allO_take_succ hos.out, List.length_append, hol.out] at h3
              have := hF.out
              omega
            have hok4 := hI.out.ok.one (se := k) (pl := j) (o := o) (by omega) (by omega) (by omega) hok
            have hitok : It.Ok ⟨k, j, o.1, findZ (addV st.1 o.2.1) o.2.1, o.2.2⟩ := hok4.i _ (by simp [oneF])
            replace hst := Lib.hid hst
            replace ho := Lib.hid ho
            replace htj := Lib.hid htj
            have hhI := hI
            obtain ⟨A1, c1, rfl, h11, h12, hLv⟩ := LAt.of_own hI.out.ov hI.out.ok.s rfl
            obtain ⟨Wo, hWo⟩ : ∃ W, W = wr.alloc (.cells #[.bool o.1, .string o.2.1, .int .i64 o.2.2] 50) := ⟨_, rfl⟩
            obtain ⟨g2, hg2⟩ : ∃ g, g = wr.heap.size := ⟨_, rfl⟩
            have bo : Below wr.heap.size wr Wo := by rw [hWo]; exact (Below.refl _ _).alloc (Nat.le_refl _) _
            have ko : Blk Wo g2 50 [.bool o.1, .string o.2.1, .int .i64 o.2.2] := by rw [hWo, hg2]; exact Blk.new wr _ _
            have I3 := hI.out.later bo
            have hne : g1 ≠ g2 := by have := hI.out.f.lt; omega
            have hne' : g2 ≠ g1 := fun e => hne e.symm
            have cf := Lib.hid (ref9_find A1 st.1.length c1 st.1 o.2.1 Wo (hLv.below bo) (by omega))
            replace hHr := Lib.hid (hHr.out.below bo)
            have q0 := I3.f.cell 0
            have q1 := I3.f.cell 1
            have p0 := ko.cell 0
            have p1 := ko.cell 1
            have p2 := ko.cell 2
            clear hjm hI hLv hO
            replace I3 := Lib.hid I3
            replace hitok := Lib.hid hitok
            replace hok4 := Lib.hid hok4
            obtain ⟨V, hV⟩ : ∃ V, V = findZ st.1 o.2.1 := ⟨_, rfl⟩
            rw [← hV] at cf
            have hVr := findZ_range st.1 o.2.1
            rw [← hV] at hVr
            replace hone := Lib.hid hone.out
            go_wp2_with (rw [← hWo, ← hg2]; clear hWo; replace hg2 := Lib.hid hg2)
            refine cf.out.mono ?_; rintro e wx ⟨rfl, hwx⟩
            rw [hwx]
            clear hwx cf
            by_cases hV0 : V < 0
            · have hadd : Hid (addV st.1 o.2.1 = st.1 ++ [o.2.1]) := Lib.hid (addV_new (by rw [← hV]; exact hV0))
              have hVis : Hid (findZ (addV st.1 o.2.1) o.2.1 = (st.1.length : Int)) := Lib.hid (by rw [addV_find, if_pos (by rw [← hV]; exact hV0)])
              rw [hVis.out] at hitok
              have hsl := hok4.out.s o.2.1 (addV_mem _ _)
              obtain ⟨W3, hW3⟩ : ∃ W, W = Wo.alloc (.cells #[.string o.2.1] 9) := ⟨_, rfl⟩
              have b3 : Below Wo.heap.size Wo W3 := by rw [hW3]; exact (Below.refl _ _).alloc (Nat.le_refl _) _
              have hlit : LAt encS W3 (some ⟨Wo.heap.size, 0, none⟩) 1 [o.2.1] := by rw [hW3]; exact LAt.lit1 (E := encS) Wo _ o.2.1 hsl
              have I4 := I3.out.later b3
              have ko3 := ko.below b3 ko.lt
              have hstn := I4.ok.l
              replace hV := Lib.hid hV
              go_wp2_with (first
                | (rw [← hW3]
                   clear hW3
                   at_builtin
                   refine wpList_append_L (E := encS) rfl (.tmp 46) (.tmp 49) _ rfl w.heap.size 9 i0 _ 16 Try.underlying25 hi.out hz0.out hz1.out hz2.out rfl _ st.1.length st.1 (by rfl) I4.ov _ 1 1 [o.2.1] rfl hlit (by unfold maxLen; omega) (by omega) I4.b.size ?_
                   intro v' w4 hown' hbb hg hob
                   obtain ⟨A3, c3, rfl, h31, h32, hL3⟩ := LAt.of_own hown' (fun x hx => (List.mem_append.1 hx).elim (I4.ok.s x) (fun h => by rw [List.mem_singleton.1 h]; exact hsl)) (by simp)
                   have kf4 := I4.f.kept hg (I4.f.not_row (by decide) I4.ov)
                   have kr4 := I4.r.kept hg (I4.r.not_row (by decide) I4.ov)
                   have ko4 := ko3.kept hg (ko3.not_row (by decide) I4.ov)
                   have ou4 := own_grown I4.ou I4.ov (by decide) hg
                   have b4 := I4.b.trans hbb
                   clear q0 q1 p0 p1 p2
                   have q0 := kf4.cell 0
                   have q1 := kf4.cell 1
                   have s0 := kf4.frozen 0
                   have p0 := ko4.cell 0
                   have p1 := ko4.cell 1
                   have p2 := ko4.cell 2
                   obtain ⟨W5, hW5⟩ : ∃ W, W = w4.setCell ⟨g1, 0, none⟩ (.slice A3 (st.1.length + 1) c3) := ⟨_, rfl⟩
                   have kf5 : Blk W5 g1 29 [.slice A3 (st.1.length + 1) c3, u, .slice none 0 0] := by rw [hW5]; exact kf4.set_ 0 _
                   have kr5 : Blk W5 g0 29 [.slice none 0 0, .slice none 0 0, .slice none 0 0] := by rw [hW5]; exact kr4.far (p := ⟨g1, 0, none⟩) (by have := I3.out.l1; show g0 ≠ g1; omega) _
                   have ov5 : W5.ownsRow w.heap.size 9 1 (.slice A3 (st.1.length + 1) c3) (st.1.length + 1) (encS.all (st.1 ++ [o.2.1])) := by rw [hW5]; exact own_farT (i := 0) hown' kf4 (by decide) _
                   have ou5 : W5.ownsRow w.heap.size 73 5 u st.2.length (encT.all st.2) := by rw [hW5]; exact own_farT (i := 0) ou4 kf4 (by decide) _
                   have b5 : Below w.heap.size w W5 := by rw [hW5]; exact b4.setCell (p := ⟨g1, 0, none⟩) (by have := I3.out.l0; have := I3.out.l1; show w.heap.size ≤ g1; omega) _
                   clear hbb hg hob hlit ko3 I4 b3 hL3 h31 h32 kf4 kr4 ko4 ou4 b4 hown'
                   -- an item more, its number is (st.1.length : Int); the world is W5: ov5, ou5, kf5, kr5, b5 : what stands there
                   obtain ⟨W6, hW6⟩ : ∃ W, W = W5.alloc (.cells #[.int .i64 (k : Int), .int .i64 (j : Int), .bool o.1, .int .i64 (st.1.length : Int), .int .i64 o.2.2] 73) := ⟨_, rfl⟩
                   have b6 : Below W5.heap.size W5 W6 := by rw [hW6]; exact (Below.refl _ _).alloc (Nat.le_refl _) _
                   have hlit6 : LAt encT W6 (some ⟨W5.heap.size, 0, none⟩) 1 [⟨k, j, o.1, (st.1.length : Int), o.2.2⟩] := by rw [hW6]; exact LAt.lit1 (E := encT) W5 _ ⟨k, j, o.1, (st.1.length : Int), o.2.2⟩ hitok.out
                   have ov6 := Lib.hid (own_below ov5 b6)
                   have ou6 := Lib.hid (own_below ou5 b6)
                   have kf6 := Lib.hid (kf5.below b6 kf5.lt)
                   have kr6 := Lib.hid (kr5.below b6 kr5.lt)
                   have hw6 : w.heap.size ≤ W6.heap.size := Nat.le_trans b5.size b6.size
                   have bw6 := Lib.hid (below_trans2 b5 b6)
                   replace hlit6 := Lib.hid hlit6
                   clear ov5 ou5 kf5 kr5 b5 b6
                   rw [show W5.heap.size = w4.heap.size from by rw [hW5]; simp] at hlit6
                   )
                | (rw [← hW5, ← hW6]
                   clear hW5 hW6
                   at_builtin
                   refine wpList_append_L (E := encT) rfl (.tmp 53) (.tmp 62) _ rfl w.heap.size 73 j0 _ 40 Try.underlying26 ji.out jz0.out jz1.out jz2.out rfl _ st.2.length st.2 (by rfl) ou6.out _ 1 1 _ rfl hlit6.out (by unfold maxLen; omega) (by omega) hw6 ?_
                   intro v7 w7 hown7 hbb7 hg7 hob7
                   obtain ⟨A7, c7, rfl, h71, h72, hL7⟩ := LAt.of_own hown7 (fun x hx => (List.mem_append.1 hx).elim (I3.out.ok.i x) (fun h => by rw [List.mem_singleton.1 h]; exact hitok.out)) (by simp)
                   have kf7 := kf6.out.kept hg7 (kf6.out.not_row (by decide) ou6.out)
                   have kr7 := kr6.out.kept hg7 (kr6.out.not_row (by decide) ou6.out)
                   have ov7 := own_grown ov6.out ou6.out (by decide) hg7
                   have b7 : Below w.heap.size w w7 := bw6.out.trans hbb7
                   have r0 := kf7.cell 0
                   have r1 := kf7.cell 1
                   have r2 := kf7.cell 2
                   have s1 := kf7.frozen 1
                   have kf8 := Lib.hid (kf7.set_ 1 (.slice A7 (st.2.length + 1) c7))
                   have kr8 := Lib.hid (kr7.far (p := ⟨g1, 1, none⟩) (by have := I3.out.l1; show g0 ≠ g1; omega) (.slice A7 (st.2.length + 1) c7))
                   have ov8 := Lib.hid (own_farT (i := 1) ov7 kf7 (by decide) (.slice A7 (st.2.length + 1) c7))
                   have ou8 := Lib.hid (own_farT (i := 1) hown7 kf7 (by decide) (.slice A7 (st.2.length + 1) c7))
                   have b8 := Lib.hid (b7.setCell (p := ⟨g1, 1, none⟩) (by have := I3.out.l0; have := I3.out.l1; show w.heap.size ≤ g1; omega) (.slice A7 (st.2.length + 1) c7))
                   clear ov6 ou6 kf6 kr6 hlit6 hown7 hbb7 hg7 hob7 kf7 kr7 ov7 b7 hL7 h71 h72 hw6 bw6
                   ))
              exact ⟨⟨j + 1, _, _, by omega, by go_num, Lib.hid (by
                rw [hone.out]
                unfold oneF
                rw [hVis.out]
                refine ⟨kr8.out, kf8.out, ?_, by rw [List.length_append]; exact ou8.out, b8.out, by have := hok4.out; unfold oneF at this; rw [hVis.out] at this; exact this, I3.out.l0, I3.out.l1⟩
                show World.ownsRow _ _ _ _ _ (addV st.1 o.2.1).length (encS.all (addV st.1 o.2.1))
                rw [hadd.out]
                have h := ov8.out
                first | exact h | (rw [List.length_append]; exact h)), Lib.hid (hH0.out.below b8.out)⟩, by simp [intOf]; omega⟩
            · have hadd : Hid (addV st.1 o.2.1 = st.1) := Lib.hid (addV_old (by rw [← hV]; exact hV0))
              have hVis : Hid (findZ (addV st.1 o.2.1) o.2.1 = V) := Lib.hid (by rw [addV_find, if_neg (by rw [← hV]; exact hV0), hV])
              rw [hVis.out] at hitok
              replace hV := Lib.hid hV
              have ov5 := I3.out.ov
              have ou5 := I3.out.ou
              have kf5 := I3.out.f
              have kr5 := I3.out.r
              have b5 := I3.out.b
              -- an item more, its number is V; the world is Wo: ov5, ou5, kf5, kr5, b5 : what stands there
              obtain ⟨W6, hW6⟩ : ∃ W, W = Wo.alloc (.cells #[.int .i64 (k : Int), .int .i64 (j : Int), .bool o.1, .int .i64 V, .int .i64 o.2.2] 73) := ⟨_, rfl⟩
              have b6 : Below Wo.heap.size Wo W6 := by rw [hW6]; exact (Below.refl _ _).alloc (Nat.le_refl _) _
              have hlit6 : LAt encT W6 (some ⟨Wo.heap.size, 0, none⟩) 1 [⟨k, j, o.1, V, o.2.2⟩] := by rw [hW6]; exact LAt.lit1 (E := encT) Wo _ ⟨k, j, o.1, V, o.2.2⟩ hitok.out
              have ov6 := Lib.hid (own_below ov5 b6)
              have ou6 := Lib.hid (own_below ou5 b6)
              have kf6 := Lib.hid (kf5.below b6 kf5.lt)
              have kr6 := Lib.hid (kr5.below b6 kr5.lt)
              have hw6 : w.heap.size ≤ W6.heap.size := Nat.le_trans b5.size b6.size
              have bw6 := Lib.hid (below_trans2 b5 b6)
              replace hlit6 := Lib.hid hlit6
              clear ov5 ou5 kf5 kr5 b5 b6
              go_wp2_with (
                rw [← hW6]
                clear hW6
                at_builtin
                refine wpList_append_L (E := encT) rfl (.tmp 53) (.tmp 62) _ rfl w.heap.size 73 j0 _ 40 Try.underlying26 ji.out jz0.out jz1.out jz2.out rfl _ st.2.length st.2 (by rfl) ou6.out _ 1 1 _ rfl hlit6.out (by unfold maxLen; omega) (by omega) hw6 ?_
                intro v7 w7 hown7 hbb7 hg7 hob7
                obtain ⟨A7, c7, rfl, h71, h72, hL7⟩ := LAt.of_own hown7 (fun x hx => (List.mem_append.1 hx).elim (I3.out.ok.i x) (fun h => by rw [List.mem_singleton.1 h]; exact hitok.out)) (by simp)
                have kf7 := kf6.out.kept hg7 (kf6.out.not_row (by decide) ou6.out)
                have kr7 := kr6.out.kept hg7 (kr6.out.not_row (by decide) ou6.out)
                have ov7 := own_grown ov6.out ou6.out (by decide) hg7
                have b7 : Below w.heap.size w w7 := bw6.out.trans hbb7
                have r0 := kf7.cell 0
                have r1 := kf7.cell 1
                have r2 := kf7.cell 2
                have s1 := kf7.frozen 1
                have kf8 := Lib.hid (kf7.set_ 1 (.slice A7 (st.2.length + 1) c7))
                have kr8 := Lib.hid (kr7.far (p := ⟨g1, 1, none⟩) (by have := I3.out.l1; show g0 ≠ g1; omega) (.slice A7 (st.2.length + 1) c7))
                have ov8 := Lib.hid (own_farT (i := 1) ov7 kf7 (by decide) (.slice A7 (st.2.length + 1) c7))
                have ou8 := Lib.hid (own_farT (i := 1) hown7 kf7 (by decide) (.slice A7 (st.2.length + 1) c7))
                have b8 := Lib.hid (b7.setCell (p := ⟨g1, 1, none⟩) (by have := I3.out.l0; have := I3.out.l1; show w.heap.size ≤ g1; omega) (.slice A7 (st.2.length + 1) c7))
                clear ov6 ou6 kf6 kr6 hlit6 hown7 hbb7 hg7 hob7 kf7 kr7 ov7 b7 hL7 h71 h72 hw6 bw6
                )
              exact ⟨⟨j + 1, _, _, by omega, by go_num, Lib.hid (by
                rw [hone.out]
                unfold oneF
                rw [hVis.out]
                refine ⟨kr8.out, kf8.out, ?_, by rw [List.length_append]; exact ou8.out, b8.out, by have := hok4.out; unfold oneF at this; rw [hVis.out] at this; exact this, I3.out.l0, I3.out.l1⟩
                show World.ownsRow _ _ _ _ _ (addV st.1 o.2.1).length (encS.all (addV st.1 o.2.1))
                rw [hadd.out]
                have h := ov8.out
                first | exact h | (rw [List.length_append]; exact h)), Lib.hid (hH0.out.below b8.out)⟩, by simp [intOf]; omega⟩
          · have hjm' : ¬ (j : Int) < (m' : Int) := by omega
            have htk2 : os'.take j = os' := List.take_of_length_le (by rw [hol.out]; omega)
            rw [htk2] at hI
            have hnx : Hid (hisF (hs.take (k + 1)) = sesF k os' (hisF (hs.take k))) := Lib.hid (by
              rw [htk.out, hisF_snoc, List.length_take, hlen.out, Nat.min_eq_left (by omega)])
            rw [← hnx.out] at hI
            clear hjm htk2 hO
            go_wp2_with fail
            exact ⟨⟨k + 1, _, _, by omega, by go_num, hI, hHr⟩, by simp [intOf]; omega⟩
      · have hkn' : ¬ (k : Int) < (n : Int) := by omega
        rw [show hs.take k = hs from List.take_of_length_le (by rw [hlen.out]; omega)] at hI
        obtain ⟨A1, c1, rfl, h11, h12, hLv⟩ := LAt.of_own hI.out.ov hI.out.ok.s rfl
        obtain ⟨A2, c2, rfl, h21, h22, hLu⟩ := LAt.of_own hI.out.ou hI.out.ok.i rfl
        obtain ⟨N, hN⟩ : ∃ N, N = (hisF hs).1.length := ⟨_, rfl⟩
        obtain ⟨M, hM⟩ : ∃ M, M = (hisF hs).2.length := ⟨_, rfl⟩
        have kf := hI.out.f
        have kr := hI.out.r
        rw [← hN] at kf hLv h11
        rw [← hM] at kf hLu h21
        have q0 := kf.cell 0
        have q1 := kf.cell 1
        have q2 := kf.cell 2
        have s0 := kr.frozen 0
        have s1 := kr.frozen 1
        have s2 := kr.frozen 2
        have p0 := kr.cell 0
        have p1 := kr.cell 1
        have p2 := kr.cell 2
        have k3 := ((kr.set_ 0 (.slice A1 N c1)).set_ 1 (.slice A2 M c2)).set_ 2 (.slice none 0 0)
        have e0 := k3.cell 0
        have e1 := k3.cell 1
        have e2 := k3.cell 2
        have bl := hI.out.l0
        have bS : ∀ i (u : Value) (X : World), Below w.heap.size w X → Below w.heap.size w (X.setCell ⟨g0, i, none⟩ u) := fun i u X h => h.setCell (p := ⟨g0, i, none⟩) bl u
        have bE := bS 2 (.slice none 0 0) _ (bS 1 (.slice A2 M c2) _ (bS 0 (.slice A1 N c1) _ hI.out.b))
        have ovX := own_farT (i := 2) (own_farT (i := 1) (own_farT (i := 0) hI.out.ov kr (by decide) (.slice A1 N c1)) (kr.set_ 0 _) (by decide) (.slice A2 M c2)) ((kr.set_ 0 _).set_ 1 _) (by decide) (.slice none 0 0)
        have ouX := own_farT (i := 2) (own_farT (i := 1) (own_farT (i := 0) hI.out.ou kr (by decide) (.slice A1 N c1)) (kr.set_ 0 _) (by decide) (.slice A2 M c2)) ((kr.set_ 0 _).set_ 1 _) (by decide) (.slice none 0 0)
        have hLX := LAt.of_own' ovX hI.out.ok.s rfl
        have hUX := LAt.of_own' ouX hI.out.ok.i rfl
        rw [← hN] at hLX
        rw [← hM] at hUX
        replace hLX := Lib.hid hLX
        replace hUX := Lib.hid hUX
        replace bE := Lib.hid bE
        clear ovX ouX bS hLv hLu kf kr k3 hlt hn
        replace hI := Lib.hid True.intro
        replace hN := Lib.hid hN
        replace hM := Lib.hid hM
        go_wp2_with fail
        refine bodyPost_ret (v := .tuple #[.agg #[.slice A1 N c1, .slice A2 M c2, .slice none 0 0], .int .i64 0]) (by simp [results, Try.results25, go_sem, e0, e1, e2]) rfl ⟨⟨A1, N, c1, A2, M, c2, none, 0, 0⟩, rfl, ?_, bE.out⟩
        exact ⟨hLX.out, h11, h12, hUX.out, h21, h22, LAt.nil _ _ _, Nat.le_refl _, by simp⟩

end Go.Proofs.Ytmgockkjoogcaaa

namespace Go.Proofs.Ytmgockkjoogcaaa
open Go.RowKit
set_option linter.unusedVariables false

theorem fac_eq (f g : Fac) : decide (f = g) = (decide (f.vars = g.vars) && decide (f.items = g.items) && decide (f.frm = g.frm)) := by
  obtain ⟨a, b, c⟩ := f
  obtain ⟨x, y, z⟩ := g
  simp only [Fac.mk.injEq, Bool.decide_and, Bool.and_assoc]
theorem fac_no {f g : Fac} (h : (decide (f.vars = g.vars) && decide (f.items = g.items)) = false) : decide (f = g) = false := by rw [fac_eq, h]; rfl

end Go.Proofs.Ytmgockkjoogcaaa

namespace Go.Proofs.Ytmgockkjoogcaaa
open Go.RowKit
set_option linter.unusedVariables false
/-- a call's answer: numbers -/
def RetIL (xs : List Int) (w : World) (e : Ending) (w' : World) : Prop := ∃ A n c, e = .returned (.slice A n c) ∧ LAt encI w' A n xs ∧ n ≤ c ∧ c ≤ 9223372036854775807 ∧ Below w.heap.size w w'
theorem info_int1 : (Try.prog.info? 3).map (fun i => (i.zero, i.size, i.bytes)) = some (some (.int .i64 0), 1, 8) := by kernel_rfl
set_option maxRecDepth 100000 in
set_option maxHeartbeats 1000000 in
theorem ref11_From (v : FV) (f : Fac) (w : World) (hF : FactsAt w v f) (hm : v.m ≤ 1048576) :
    Calls Try.prog 45 #[.agg #[.slice v.A v.n v.c, .slice v.B v.m v.d, .slice v.C v.k v.e]] w (RetIL (fromF f.items) w) := by
  have hil := hF.is.len
  obtain ⟨i0, hi, hz0, hz1, hz2⟩ := info_parts info_int1
  replace hi := Lib.hid hi
  replace hz0 := Lib.hid hz0
  replace hz1 := Lib.hid hz1
  replace hz2 := Lib.hid hz2
  -- a call with facts v: they are boxed at g, the world is W0 then
  have hB0 := Lib.hid (FBox.new hF)
  obtain ⟨g, hg⟩ : ∃ g, g = w.heap.size := ⟨_, rfl⟩
  obtain ⟨W0, hW0⟩ : ∃ W, W = w.alloc (.cells #[.slice v.A v.n v.c, .slice v.B v.m v.d, .slice v.C v.k v.e] 29) := ⟨_, rfl⟩
  rw [← hW0, ← hg] at hB0
  clear hF
  have hgW : g < W0.heap.size := hB0.out.k.lt
  have p0 := hB0.out.c0
  have p1 := hB0.out.c1
  have p2 := hB0.out.c2
  go_enter Try.func45, Try.ntmps45
  go_wp2_with (rw [← hW0, ← hg]; clear hW0 hg)
  clear p0 p1 p2
  go_loopw [3, 4] (fun u t wr => ∃ k : Nat, k ≤ v.m ∧ t = .int .i64 k ∧ Hid (Below W0.heap.size W0 wr) ∧ Hid (wr.ownsRow W0.heap.size 3 1 u k (encI.all ((fromF f.items).take k)))) (fun _ t _ => v.m - (intOf t).toNat)
  case atStart => exact ⟨0, Nat.zero_le _, rfl, Lib.hid (Below.refl _ _), Lib.hid (World.ownsRow_nil _ _ _ _)⟩
  case round =>
    obtain ⟨k, hk, rfl, hb, hown⟩ := hrel
    have hB := Lib.hid (hB0.out.later hb.out)
    have p0 := hB.out.c0
    have p1 := hB.out.c1
    have p2 := hB.out.c2
    by_cases hlt : k < v.m
    · have hlt' : (k : Int) < (v.m : Int) := by omega
      obtain ⟨ib, io, x, hxB, hib, hx, hxo, i0', i1, i2, i3, i4⟩ := hB.out.f.is.item hlt
      rw [hxB] at p1
      have htk := Lib.hid (fromF_take hx)
      have hone : fromOne f.items x = if x.wr = true then -3 else if x.vl = 0 then -1 else match writeF f.items x.va x.vl with | some w => (w : Int) | none => -2 := rfl
      have hrg := fromOne_range f.items x
      obtain ⟨z, hz⟩ : ∃ z, z = fromOne f.items x := ⟨_, rfl⟩
      rw [← hz] at htk hone hrg
      obtain ⟨xs, xp, xw, xa, xl⟩ := x
      simp only at i0' i1 i2 i3 i4 hone
      obtain ⟨V, hV⟩ : ∃ W, W = wr.alloc (.cells #[.int .i64 xs, .int .i64 xp, .bool xw, .int .i64 xa, .int .i64 xl] 73) := ⟨_, rfl⟩
      obtain ⟨gx, hgx⟩ : ∃ g, g = wr.heap.size := ⟨_, rfl⟩
      have bV : Below wr.heap.size wr V := by rw [hV]; exact (Below.refl _ _).alloc (Nat.le_refl _) _
      have kIt : Blk V gx 73 [.int .i64 xs, .int .i64 xp, .bool xw, .int .i64 xa, .int .i64 xl] := by rw [hV, hgx]; exact Blk.new wr _ _
      have hBV := Lib.hid (hB.out.later bV)
      have j3 := kIt.cell 3
      have j4 := kIt.cell 4
      simp only [List.getElem?_cons_zero, List.getElem?_cons_succ] at j3 j4
      have w0 := hBV.out.c0
      have w1 := hBV.out.c1
      have w2 := hBV.out.c2
      have cW := ref10_Write v f xa xl V hBV.out.f
      unfold RetWrite at cW
      obtain ⟨o, ho⟩ : ∃ o, o = writeF f.items xa xl := ⟨_, rfl⟩
      rw [← ho] at cW hone
      obtain ⟨r1, hr1⟩ : ∃ r : Int, r = ((o.getD 0 : Nat) : Int) := ⟨_, rfl⟩
      obtain ⟨r2, hr2⟩ : ∃ r, r = o.isSome := ⟨_, rfl⟩
      rw [← hr1, ← hr2] at cW
      have hzz : z = if xw = true then -3 else if xl = 0 then -1 else if r2 = true then r1 else -2 := by
        rw [hone, hr1, hr2]
        cases o <;> rfl
      replace cW := Lib.hid cW
      replace ho := Lib.hid ho
      replace hr1 := Lib.hid hr1
      replace hr2 := Lib.hid hr2
      replace kIt := Lib.hid kIt
      have bW := Lib.hid (below_trans2 hb.out bV)
      have hownV := Lib.hid (own_below hown.out bV)
      clear hone hx hxo hxB hlt hz bV hb hown hB
      go_wp2_with (rw [← hV, ← hgx]; clear hV; replace hgx := Lib.hid hgx)
      refine cW.out.mono ?_; rintro e w3 ⟨rfl, b3⟩
      replace kIt := Lib.hid (kIt.out.below b3 kIt.out.lt)
      replace bW := Lib.hid (below_trans2 bW.out b3)
      replace hownV := Lib.hid (own_below hownV.out b3)
      clear w0 w1 w2 p0 p1 p2 j3 j4 i0' i1 i2 i3 i4 b3 cW hBV
      have j2 := kIt.out.cell 2
      have j4 := kIt.out.cell 4
      simp only [List.getElem?_cons_zero, List.getElem?_cons_succ] at j2 j4
      obtain ⟨gl, hgl⟩ : ∃ g, g = w3.heap.size := ⟨_, rfl⟩
      cases xw with
      | true =>
        -- what item k reads from is -3: it is appended
        have hzv : z = -3 := by rw [hzz]; rfl
        rw [hzv] at htk hrg
        obtain ⟨VL, hVL⟩ : ∃ W, W = w3.alloc (.cells #[.int .i64 (-3)] 3) := ⟨_, rfl⟩
        have bL : Below w3.heap.size w3 VL := by rw [hVL]; exact (Below.refl _ _).alloc (Nat.le_refl _) _
        have hlit := Lib.hid (show LAt encI VL (some ⟨gl, 0, none⟩) 1 [(-3 : Int)] from by rw [hVL, hgl]; exact LAt.lit1 (E := encI) w3 3 (-3) ⟨by omega, by omega⟩)
        have hownL := Lib.hid (own_below hownV.out bL)
        have bWL := Lib.hid (below_trans2 bW.out bL)
        have hbase := Lib.hid bWL.out.size
        clear hzv hzz bL hownV bW
        go_wp2_with (first
          | (rw [← hVL, ← hgl]; clear hVL hgl)
          | (at_builtin; refine wpList_append_L (E := encI) rfl (.tmp 37) (.tmp 39) _ rfl W0.heap.size 3 i0 _ 8 Try.underlying27 hi.out hz0.out hz1.out hz2.out rfl _ k ((fromF f.items).take k) (by rfl) hownL.out _ 1 1 _ rfl hlit.out (by unfold maxLen; omega) (by omega) hbase.out ?_; intro v' w7 hown' hb7 _ _))
        refine ⟨⟨k + 1, by omega, by go_num, Lib.hid (bWL.out.trans hb7), Lib.hid (by rw [htk.out]; exact hown')⟩, by simp [intOf]; omega⟩
      | false =>
        by_cases h0 : xl = 0
        · have e0 : (xl == 0) = true := by simp [h0]
          replace h0 := Lib.hid h0
          -- what item k reads from is -1: it is appended
          have hzv : z = -1 := by rw [hzz]; (rw [if_neg (by simp), if_pos h0.out])
          rw [hzv] at htk hrg
          obtain ⟨VL, hVL⟩ : ∃ W, W = w3.alloc (.cells #[.int .i64 (-1)] 3) := ⟨_, rfl⟩
          have bL : Below w3.heap.size w3 VL := by rw [hVL]; exact (Below.refl _ _).alloc (Nat.le_refl _) _
          have hlit := Lib.hid (show LAt encI VL (some ⟨gl, 0, none⟩) 1 [(-1 : Int)] from by rw [hVL, hgl]; exact LAt.lit1 (E := encI) w3 3 (-1) ⟨by omega, by omega⟩)
          have hownL := Lib.hid (own_below hownV.out bL)
          have bWL := Lib.hid (below_trans2 bW.out bL)
          have hbase := Lib.hid bWL.out.size
          clear hzv hzz bL hownV bW
          go_wp2_with (first
            | (rw [← hVL, ← hgl]; clear hVL hgl)
            | (at_builtin; refine wpList_append_L (E := encI) rfl (.tmp 37) (.tmp 39) _ rfl W0.heap.size 3 i0 _ 8 Try.underlying27 hi.out hz0.out hz1.out hz2.out rfl _ k ((fromF f.items).take k) (by rfl) hownL.out _ 1 1 _ rfl hlit.out (by unfold maxLen; omega) (by omega) hbase.out ?_; intro v' w7 hown' hb7 _ _))
          refine ⟨⟨k + 1, by omega, by go_num, Lib.hid (bWL.out.trans hb7), Lib.hid (by rw [htk.out]; exact hown')⟩, by simp [intOf]; omega⟩
        · have e0 : (xl == 0) = false := by simp [h0]
          replace h0 := Lib.hid h0
          cases r2 with
          | true =>
            -- what item k reads from is r1: it is appended
            have hzv : z = r1 := by rw [hzz]; (rw [if_neg (by simp), if_neg h0.out]; rfl)
            rw [hzv] at htk hrg
            obtain ⟨VL, hVL⟩ : ∃ W, W = w3.alloc (.cells #[.int .i64 (r1)] 3) := ⟨_, rfl⟩
            have bL : Below w3.heap.size w3 VL := by rw [hVL]; exact (Below.refl _ _).alloc (Nat.le_refl _) _
            have hlit := Lib.hid (show LAt encI VL (some ⟨gl, 0, none⟩) 1 [(r1 : Int)] from by rw [hVL, hgl]; exact LAt.lit1 (E := encI) w3 3 (r1) ⟨by omega, by omega⟩)
            have hownL := Lib.hid (own_below hownV.out bL)
            have bWL := Lib.hid (below_trans2 bW.out bL)
            have hbase := Lib.hid bWL.out.size
            clear hzv hzz bL hownV bW
            go_wp2_with (first
              | (rw [← hVL, ← hgl]; clear hVL hgl)
              | (at_builtin; refine wpList_append_L (E := encI) rfl (.tmp 37) (.tmp 39) _ rfl W0.heap.size 3 i0 _ 8 Try.underlying27 hi.out hz0.out hz1.out hz2.out rfl _ k ((fromF f.items).take k) (by rfl) hownL.out _ 1 1 _ rfl hlit.out (by unfold maxLen; omega) (by omega) hbase.out ?_; intro v' w7 hown' hb7 _ _))
            refine ⟨⟨k + 1, by omega, by go_num, Lib.hid (bWL.out.trans hb7), Lib.hid (by rw [htk.out]; exact hown')⟩, by simp [intOf]; omega⟩
          | false =>
            -- what item k reads from is -2: it is appended
            have hzv : z = -2 := by rw [hzz]; (rw [if_neg (by simp), if_neg h0.out]; rfl)
            rw [hzv] at htk hrg
            obtain ⟨VL, hVL⟩ : ∃ W, W = w3.alloc (.cells #[.int .i64 (-2)] 3) := ⟨_, rfl⟩
            have bL : Below w3.heap.size w3 VL := by rw [hVL]; exact (Below.refl _ _).alloc (Nat.le_refl _) _
            have hlit := Lib.hid (show LAt encI VL (some ⟨gl, 0, none⟩) 1 [(-2 : Int)] from by rw [hVL, hgl]; exact LAt.lit1 (E := encI) w3 3 (-2) ⟨by omega, by omega⟩)
            have hownL := Lib.hid (own_below hownV.out bL)
            have bWL := Lib.hid (below_trans2 bW.out bL)
            have hbase := Lib.hid bWL.out.size
            clear hzv hzz bL hownV bW
            go_wp2_with (first
              | (rw [← hVL, ← hgl]; clear hVL hgl)
              | (at_builtin; refine wpList_append_L (E := encI) rfl (.tmp 37) (.tmp 39) _ rfl W0.heap.size 3 i0 _ 8 Try.underlying27 hi.out hz0.out hz1.out hz2.out rfl _ k ((fromF f.items).take k) (by rfl) hownL.out _ 1 1 _ rfl hlit.out (by unfold maxLen; omega) (by omega) hbase.out ?_; intro v' w7 hown' hb7 _ _))
            refine ⟨⟨k + 1, by omega, by go_num, Lib.hid (bWL.out.trans hb7), Lib.hid (by rw [htk.out]; exact hown')⟩, by simp [intOf]; omega⟩
    · have hlt' : ¬ (k : Int) < (v.m : Int) := by omega
      have hkm : k = v.m := by omega
      subst hkm
      rw [List.take_of_length_le (by rw [fromF_len, hil]; exact Nat.le_refl _)] at hown
      obtain ⟨A, c, rfl, hnc, hcm, hL⟩ := LAt.of_own hown.out (fun z hz => by
        obtain ⟨x, _, rfl⟩ := List.mem_map.1 hz
        have := fromOne_range f.items x
        exact ⟨by omega, by omega⟩) (by rw [fromF_len, hil])
      clear hlt
      go_wp2_with fail
      go_ret
      exact ⟨A, _, c, rfl, hL, hnc, hcm, hB.out.o⟩
set_option maxRecDepth 100000 in
set_option maxHeartbeats 1000000 in
theorem ref11_Fill (v : FV) (f : Fac) (w : World) (hF : FactsAt w v f) (hm : v.m ≤ 1048576) :
    Calls Try.prog 27 #[.agg #[.slice v.A v.n v.c, .slice v.B v.m v.d, .slice v.C v.k v.e]] w (RetFacts (fillF f) w) := by
  -- a call with facts v: they are boxed at g, the world is W0 then
  have hB0 := Lib.hid (FBox.new hF)
  obtain ⟨g, hg⟩ : ∃ g, g = w.heap.size := ⟨_, rfl⟩
  obtain ⟨W0, hW0⟩ : ∃ W, W = w.alloc (.cells #[.slice v.A v.n v.c, .slice v.B v.m v.d, .slice v.C v.k v.e] 29) := ⟨_, rfl⟩
  rw [← hW0, ← hg] at hB0
  clear hF
  obtain ⟨gr, hgr⟩ : ∃ g, g = W0.heap.size := ⟨_, rfl⟩
  obtain ⟨W1, hW1⟩ : ∃ W, W = W0.alloc (.cells #[.slice none 0 0, .slice none 0 0, .slice none 0 0] 29) := ⟨_, rfl⟩
  have b1 : Below W0.heap.size W0 W1 := by rw [hW1]; exact (Below.refl _ _).alloc (Nat.le_refl _) _
  have kR : Blk W1 gr 29 [.slice none 0 0, .slice none 0 0, .slice none 0 0] := by rw [hW1, hgr]; exact Blk.new W0 _ _
  have hB1 := Lib.hid (hB0.out.later b1)
  have hgw : w.heap.size ≤ gr := by rw [hgr]; exact hB0.out.o.size
  clear hB0 b1
  go_enter Try.func27, Try.ntmps27
  go_wp2_with (first | (rw [← hW0, ← hg]; clear hW0 hg) | (rw [← hW1, ← hgr]; clear hW1; replace hgr := Lib.hid hgr))
  refine wp_region_plan 7 [(true, 0), (true, 1), (true, 2), (true, 3), (true, 4), (false, 5), (true, 6)] (by kernel_rfl) (by kernel_rfl) (fun V hV => ?_)
  have hB := Lib.hid (show FBox w g v f V from by rw [hV.out]; exact hB1.out.later (Below.refl _ _).drew)
  replace kR := Lib.hid (show Blk V gr 29 [.slice none 0 0, .slice none 0 0, .slice none 0 0] from by rw [hV.out]; exact kR)
  clear hV hB1
  have p0 := hB.out.c0
  have p1 := hB.out.c1
  have p2 := hB.out.c2
  have cF := Lib.hid (ref11_From v f V hB.out.f hm)
  simp only [List.drop_succ_cons, List.drop_zero]
  iterate 5
    refine wpPlan_float (v := ?_) rfl (by rfl) (fun w' hw' => ?_) (fun K hK => ?_)
    rotate_left
    · (go_simp; try with_reducible rfl)
    go_simp
    refine hK _ ?_
    clear hK K
  refine wpPlan_only rfl (by rfl) (fun K hK => ?_)
  go_simp
  refine cF.out.mono ?_
  rintro e w3 ⟨C, k, ce, rfl, hL, hke, hem, b3⟩
  refine hK _ _ b3 ?_
  clear hK K
  replace hB := Lib.hid (hB.out.later b3)
  replace kR := kR.out.below b3 kR.out.lt
  iterate 1
    refine wpPlan_float (v := ?_) rfl (by rfl) (fun w' hw' => ?_) (fun K hK => ?_)
    rotate_left
    · (go_simp; try with_reducible rfl)
    go_simp
    refine hK _ ?_
    clear hK K
  refine wpPlan_nil ?_
  have hY := (⟨hB.out.f.vs, hB.out.f.vc, hB.out.f.vm, hB.out.f.is, hB.out.f.ic, hB.out.f.im, hL, hke, hem⟩ : FactsAt w3 ⟨v.A, v.n, v.c, v.B, v.m, v.d, C, k, ce⟩ (fillF f))
  have hY3 := Lib.hid (hY.put kR (fun u hu => by simp only [List.mem_cons, List.not_mem_nil, or_false] at hu; rcases hu with rfl | rfl | rfl <;> exact ⟨_, _, _, rfl⟩))
  have k4 := ((kR.set_ 0 (.slice v.A v.n v.c)).set_ 1 (.slice v.B v.m v.d)).set_ 2 (.slice C k ce)
  have e0 := k4.cell 0
  have e1 := k4.cell 1
  have e2 := k4.cell 2
  have c0 := kR.cell 0
  have c1 := kR.cell 1
  have c2 := kR.cell 2
  have f0 := kR.frozen 0
  have f1 := kR.frozen 1
  have f2 := kR.frozen 2
  have hb3 := Lib.hid (((hB.out.o.setCell (p := ⟨gr, 0, none⟩) hgw (.slice v.A v.n v.c)).setCell (p := ⟨gr, 1, none⟩) hgw (.slice v.B v.m v.d)).setCell (p := ⟨gr, 2, none⟩) hgw (.slice C k ce))
  clear k4 kR hY hL b3 p0 p1 p2
  go_wp2_with fail
  refine NoPanic.normal ?_
  go_wp2_with fail
  exact bodyPost_ret (v := .agg #[.slice v.A v.n v.c, .slice v.B v.m v.d, .slice C k ce]) (by simp [results, Try.results27, go_sem, e0, e1, e2]) rfl ⟨⟨v.A, v.n, v.c, v.B, v.m, v.d, C, k, ce⟩, rfl, hY3.out, hb3.out⟩
end Go.Proofs.Ytmgockkjoogcaaa

namespace Go.Proofs.Ytmgockkjoogcaaa
open Go.RowKit

/-- a value that is a slice that reads as the words xs -/
def RowV (w : World) (v : Value) (xs : List Nat) : Prop := ∃ A n c, v = .slice A n c ∧ Row w A n xs
/-- cells that read as rows -/
def RowsC (w : World) (vs : List Value) (xss : List (List Nat)) : Prop := vs.length = xss.length ∧ ∀ (i : Nat) (v : Value) (xs : List Nat), vs[i]? = some v → xss[i]? = some xs → RowV w v xs
/-- the slice '.slice A n c' of rows reads as xss -/
def RowsAt (w : World) (A : Option Addr) (n : Nat) (xss : List (List Nat)) : Prop := ∃ vs, Rd w A n vs ∧ RowsC w vs xss
section
variable {w w' : World} {A : Option Addr} {n : Nat} {vs : List Value} {xss : List (List Nat)} {v : Value} {xs : List Nat}
theorem RowV.below (h : RowV w v xs) (hb : Below w.heap.size w w') : RowV w' v xs := by
  obtain ⟨A, n, c, e, hr⟩ := h; exact ⟨A, n, c, e, hr.below hb⟩
theorem RowsC.below (h : RowsC w vs xss) (hb : Below w.heap.size w w') : RowsC w' vs xss := ⟨h.1, fun i v xs h1 h2 => (h.2 i v xs h1 h2).below hb⟩
theorem RowsC.nil (w : World) : RowsC w [] [] := ⟨rfl, fun i v xs h => by simp at h⟩
theorem RowsC.snoc (h : RowsC w vs xss) (hv : RowV w v xs) : RowsC w (vs ++ [v]) (xss ++ [xs]) := by
  refine ⟨by simp [h.1], fun i u ys h1 h2 => ?_⟩
  rcases Nat.lt_or_ge i vs.length with hi | hi
  · rw [List.getElem?_append_left hi] at h1
    rw [List.getElem?_append_left (by rw [← h.1]; exact hi)] at h2
    exact h.2 i u ys h1 h2
  · rw [List.getElem?_append_right hi] at h1
    rw [List.getElem?_append_right (by rw [← h.1]; exact hi)] at h2
    rw [← h.1] at h2
    rcases Nat.eq_zero_or_pos (i - vs.length) with h0 | h0
    · rw [h0] at h1 h2
      simp at h1 h2
      subst h1 h2
      exact hv
    · rw [List.getElem?_eq_none (by simp; omega)] at h1; cases h1
theorem RowsC.set (h : RowsC w vs xss) (hv : RowV w v xs) (k : Nat) : RowsC w (vs.set k v) (xss.set k xs) := by
  refine ⟨by simp [h.1], fun i u ys h1 h2 => ?_⟩
  rw [List.getElem?_set] at h1 h2
  by_cases hk : k = i
  · rw [if_pos hk] at h1 h2
    by_cases hl : k < vs.length
    · rw [if_pos hl] at h1
      rw [if_pos (by rw [← h.1]; exact hl)] at h2
      injection h1 with h1
      injection h2 with h2
      subst h1 h2
      exact hv
    · rw [if_neg hl] at h1; cases h1
  · rw [if_neg hk] at h1 h2
    exact h.2 i u ys h1 h2
theorem RowsAt.len (h : RowsAt w A n xss) : xss.length = n := by
  obtain ⟨vs, h1, h2⟩ := h; rw [← h2.1, h1.1]
theorem RowsAt.below (h : RowsAt w A n xss) (hb : Below w.heap.size w w') : RowsAt w' A n xss := by
  obtain ⟨vs, h1, h2⟩ := h; exact ⟨vs, h1.below hb, h2.below hb⟩
theorem RowsAt.nil (w : World) (A : Option Addr) : RowsAt w A 0 [] := ⟨[], Rd.nil _ _, RowsC.nil _⟩
theorem RowsAt.at_ {k : Nat} (h : RowsAt w A n xss) (hk : k < n) : ∃ b off B m c xs, A = some ⟨b, off, none⟩ ∧ b < w.heap.size ∧ xss[k]? = some xs ∧ w.cell? ⟨b, off + k, none⟩ = some (.slice B m c) ∧ Row w B m xs := by
  obtain ⟨vs, h1, h2⟩ := h
  obtain ⟨b, off, u, hA, hb, hu, hc⟩ := h1.at_ hk
  have hl : k < xss.length := by rw [← h2.1, h1.1]; exact hk
  obtain ⟨B, m, c, e, hr⟩ := h2.2 k u xss[k] hu (List.getElem?_eq_getElem hl)
  subst e
  exact ⟨b, off, B, m, c, xss[k], hA, hb, List.getElem?_eq_getElem hl, hc, hr⟩
theorem RowsAt.w64 (h : RowsAt w A n xss) : ∀ xs ∈ xss, W64 xs := by
  intro xs hx
  obtain ⟨k, hk⟩ := List.getElem?_of_mem hx
  have hl : k < xss.length := (List.getElem?_eq_some_iff.1 hk).1
  obtain ⟨b, off, B, m, c, xs', _, _, hx', _, hr⟩ := h.at_ (k := k) (by rw [← h.len]; exact hl)
  rw [hk] at hx'
  injection hx' with hx'
  subst hx'
  exact hr.2
theorem RowsAt.of_own {base : Nat} {e : TypeId} (h : w.ownsRow base e 1 v n vs) (hr : RowsC w vs xss) : ∃ A c, v = .slice A n c ∧ RowsAt w A n xss := by
  obtain ⟨A, c, hv, hd⟩ := Rd.of_own h
  exact ⟨A, c, hv, vs, hd, hr⟩
end

section
variable {w w' : World} {A : Option Addr} {n : Nat} {vs : List Value} {xs : List Nat} {p : Addr}
theorem Rd.setCell (h : Rd w A n vs) (hne : ∀ ad, A = some ad → ad.block ≠ p.block) (u : Value) : Rd (w.setCell p u) A n vs :=
  ⟨h.1, fun hn => by
    obtain ⟨b, off, e, hb, hc⟩ := h.2 hn
    have hbp := hne _ e
    refine ⟨b, off, e, by simpa using hb, fun j x hx => ?_⟩
    rw [World.cell?_setCell_other w p ⟨b, off + j, none⟩ u (fun e => hbp (by rw [e]))]
    exact hc j x hx⟩
theorem Row.setCell (h : Row w A n xs) (hne : ∀ ad, A = some ad → ad.block ≠ p.block) (u : Value) : Row (w.setCell p u) A n xs := ⟨h.1.setCell hne u, h.2⟩
theorem own_far {base : Nat} {e : TypeId} {size : Nat} {v : Value} (h : w.ownsRow base e size v n vs) (hne : v.ownBlock ≠ some p.block) (u : Value) : (w.setCell p u).ownsRow base e size v n vs := by
  refine ⟨h.1, ?_⟩
  rcases h.2 with ⟨h1, h2⟩ | ⟨g, cap, cur, rfl, hbg, hg, r⟩
  · exact .inl ⟨h1, h2⟩
  · refine .inr ⟨g, cap, cur, rfl, hbg, ?_, r⟩
    rw [Below.heap_setCell w p u g (fun e => hne (by rw [← e]; rfl))]; exact hg
end

theorem own_drewN {w : World} {base : Nat} {e : TypeId} {size : Nat} {v : Value} {n : Nat} {xs : List Value} (h : w.ownsRow base e size v n xs) (q : Nat) : (w.drewN q).ownsRow base e size v n xs := h
theorem own_base {w : World} {base base' : Nat} {e : TypeId} {size n : Nat} {v : Value} {vs : List Value} (h : w.ownsRow base e size v n vs) (hb : base' ≤ base) : w.ownsRow base' e size v n vs :=
  ⟨h.1, h.2.imp id fun ⟨g, cap, cur, hv, hg, r⟩ => ⟨g, cap, cur, hv, Nat.le_trans hb hg, r⟩⟩

theorem own_cap {w : World} {base : Nat} {e : TypeId} {size n c : Nat} {A : Option Addr} {vs : List Value} (h : w.ownsRow base e size (.slice A n c) n vs) : n ≤ c := by
  rcases h.2 with ⟨h1, h2⟩ | ⟨g, cap, cur, hv, _, _, hnc, _⟩
  · omega
  · injection hv with _ _ h3
    omega
/-- rows of the call's own, no two in one block -/
def OwnRows (t : TypeId) (w : World) (base : Nat) (vs : List Value) (xss : List (List Nat)) : Prop :=
  vs.length = xss.length ∧
  (∀ (i : Nat) (v : Value) (xs : List Nat), vs[i]? = some v → xss[i]? = some xs → ∃ A m c, v = .slice A m c ∧ w.ownsRow base t 1 (.slice A m c) m (xs.map u64v) ∧ W64 xs) ∧
  (∀ (i j : Nat) (v v' : Value) (g : Nat), i ≠ j → vs[i]? = some v → vs[j]? = some v' → v.ownBlock = some g → v'.ownBlock ≠ some g)
section
variable {t : TypeId} {w w' : World} {base : Nat} {vs : List Value} {xss : List (List Nat)}
theorem OwnRows.nil (t : TypeId) (w : World) (base : Nat) : OwnRows t w base [] [] := ⟨rfl, fun i v xs h => by simp at h, fun i j v v' g _ h => by simp at h⟩
theorem OwnRows.below (h : OwnRows t w base vs xss) (hb : Below w.heap.size w w') : OwnRows t w' base vs xss :=
  ⟨h.1, fun i v xs h1 h2 => by
    obtain ⟨A, m, c, e, ho, hx⟩ := h.2.1 i v xs h1 h2
    exact ⟨A, m, c, e, own_below ho hb, hx⟩, h.2.2⟩
theorem OwnRows.rows (h : OwnRows t w base vs xss) : RowsC w vs xss :=
  ⟨h.1, fun i v xs h1 h2 => by
    obtain ⟨A, m, c, e, ho, hx⟩ := h.2.1 i v xs h1 h2
    exact ⟨A, m, c, e, Row.of_own ho hx⟩⟩
theorem OwnRows.base_ {base' : Nat} (h : OwnRows t w base vs xss) (hb : base' ≤ base) : OwnRows t w base' vs xss :=
  ⟨h.1, fun i v xs h1 h2 => by
    obtain ⟨A, m, c, e, ho, hx⟩ := h.2.1 i v xs h1 h2
    exact ⟨A, m, c, e, own_base ho hb, hx⟩, h.2.2⟩
theorem OwnRows.lt (h : OwnRows t w base vs xss) : ∀ v ∈ vs, ∀ g, v.ownBlock = some g → base ≤ g ∧ g < w.heap.size := by
  intro v hv g hg
  obtain ⟨k, hk⟩ := List.getElem?_of_mem hv
  have hl : k < xss.length := by rw [← h.1]; exact (List.getElem?_eq_some_iff.1 hk).1
  obtain ⟨A, m, c, rfl, ho, _⟩ := h.2.1 k v xss[k] hk (List.getElem?_eq_getElem hl)
  exact ho.lt g hg
theorem OwnRows.far (h : OwnRows t w base vs xss) {p : Addr} (hp : p.block < base) (u : Value) : OwnRows t (w.setCell p u) base vs xss :=
  ⟨h.1, fun i v xs h1 h2 => by
    obtain ⟨A, m, c, e, ho, hx⟩ := h.2.1 i v xs h1 h2
    exact ⟨A, m, c, e, own_far ho (fun hh => by have := own_lt_block ho _ hh; omega) u, hx⟩, h.2.2⟩
theorem own_block_lt {e : TypeId} {size n : Nat} {v : Value} (h : w.ownsRow base e size v n vs) : ∀ g, v.ownBlock = some g → g < w.heap.size := fun g hg => (h.lt g hg).2
theorem OwnRows.snoc (h : OwnRows t w base vs xss) (hb : Below w.heap.size w w') {A : Option Addr} {m c : Nat} {xs : List Nat} (ho : w'.ownsRow w.heap.size t 1 (.slice A m c) m (xs.map u64v)) (hx : W64 xs) (hbase : base ≤ w.heap.size) :
    OwnRows t w' base (vs ++ [.slice A m c]) (xss ++ [xs]) := by
  have h' := h.below hb
  refine ⟨by simp [h.1], fun i v ys h1 h2 => ?_, fun i j v v' g hij h1 h2 h3 h4 => ?_⟩
  · rcases Nat.lt_or_ge i vs.length with hi | hi
    · rw [List.getElem?_append_left hi] at h1
      rw [List.getElem?_append_left (by rw [← h.1]; exact hi)] at h2
      exact h'.2.1 i v ys h1 h2
    · rw [List.getElem?_append_right hi] at h1
      rw [List.getElem?_append_right (by rw [← h.1]; exact hi)] at h2
      rw [← h.1] at h2
      rcases Nat.eq_zero_or_pos (i - vs.length) with h0 | h0
      · rw [h0] at h1 h2
        simp at h1 h2
        subst h1 h2
        exact ⟨A, m, c, rfl, own_base ho hbase, hx⟩
      · rw [List.getElem?_eq_none (by simp; omega)] at h1; cases h1
  · have old : ∀ k u g, k < vs.length → vs[k]? = some u → u.ownBlock = some g → g < w.heap.size := fun k u g hk hu hg => by
      obtain ⟨A', m', c', rfl, ho', _⟩ := h.2.1 k u (xss[k]'(by rw [← h.1]; exact hk)) hu (List.getElem?_eq_getElem (by rw [← h.1]; exact hk))
      exact own_block_lt ho' g hg
    have new : ∀ k u g, vs.length ≤ k → (vs ++ [Value.slice A m c])[k]? = some u → u.ownBlock = some g → k = vs.length ∧ w.heap.size ≤ g := fun k u g hk hu hg => by
      rw [List.getElem?_append_right hk] at hu
      rcases Nat.eq_zero_or_pos (k - vs.length) with h0 | h0
      · rw [h0] at hu
        simp at hu
        subst hu
        exact ⟨by omega, own_lt_block ho g hg⟩
      · rw [List.getElem?_eq_none (by simp; omega)] at hu; cases hu
    rcases Nat.lt_or_ge i vs.length with hi | hi <;> rcases Nat.lt_or_ge j vs.length with hj | hj
    · rw [List.getElem?_append_left hi] at h1
      rw [List.getElem?_append_left hj] at h2
      exact h.2.2 i j v v' g hij h1 h2 h3 h4
    · rw [List.getElem?_append_left hi] at h1
      have a := old i v g hi h1 h3
      have b := (new j v' g hj h2 h4).2
      omega
    · rw [List.getElem?_append_left hj] at h2
      have a := old j v' g hj h2 h4
      have b := (new i v g hi h1 h3).2
      omega
    · have a := (new i v g hi h1 h3).1
      have b := (new j v' g hj h2 h4).1
      omega
theorem OwnRows.put (h : OwnRows t w base vs xss) {i : Nat} {g m c : Nat} {xs : List Nat} (hv : vs[i]? = some (.slice (some ⟨g, 0, none⟩) m c)) (hx : xss[i]? = some xs) (q y : Nat) (hy : y < 18446744073709551616) :
    OwnRows t (w.setCell ⟨g, q, none⟩ (u64v y)) base vs (xss.set i (xs.set q y)) := by
  refine ⟨by simp [h.1], fun k v ys h1 h2 => ?_, h.2.2⟩
  rw [List.getElem?_set] at h2
  by_cases hk : i = k
  · subst hk
    rw [if_pos rfl, if_pos (by exact (List.getElem?_eq_some_iff.1 hx).1)] at h2
    injection h2 with h2
    rw [hv] at h1
    injection h1 with h1
    obtain ⟨A, m', c', e, ho, hw⟩ := h.2.1 i _ xs hv hx
    injection e with e1 e2 e3
    subst e1 e2 e3 h1 h2
    refine ⟨_, _, _, rfl, ?_, fun x hx' => ?_⟩
    · rw [List.map_set]; exact (ho.stored q (u64v y)).1
    · rcases List.mem_or_eq_of_mem_set hx' with h5 | h5
      · exact hw x h5
      · rw [h5]; exact hy
  · rw [if_neg hk] at h2
    obtain ⟨A, m', c', e, ho, hw⟩ := h.2.1 k v ys h1 h2
    subst e
    exact ⟨A, m', c', rfl, own_far ho (h.2.2 i k _ _ g hk hv h1 rfl) _, hw⟩
end

/-- the slice '.slice A n c' of pairs of numbers reads as ps -/
def PairsAt (w : World) (A : Option Addr) (n : Nat) (ps : List (Int × Int)) : Prop :=
  ps.length = n ∧ (∀ p ∈ ps, (-9223372036854775808 ≤ p.1 ∧ p.1 < 9223372036854775808) ∧ (-9223372036854775808 ≤ p.2 ∧ p.2 < 9223372036854775808)) ∧
  (0 < n → ∃ b off, A = some ⟨b, off, none⟩ ∧ b < w.heap.size ∧ ∀ (j : Nat) (p : Int × Int), ps[j]? = some p → w.cell? ⟨b, off + j * 2, none⟩ = some (.int .i64 p.1) ∧ w.cell? ⟨b, off + j * 2 + 1, none⟩ = some (.int .i64 p.2))
section
variable {w w' : World} {A : Option Addr} {n : Nat} {ps : List (Int × Int)}
theorem PairsAt.below (h : PairsAt w A n ps) (hb : Below w.heap.size w w') : PairsAt w' A n ps :=
  ⟨h.1, h.2.1, fun hn => by
    obtain ⟨b, off, e, hbl, hc⟩ := h.2.2 hn
    exact ⟨b, off, e, Nat.lt_of_lt_of_le hbl hb.size, fun j p hp => by
      obtain ⟨h1, h2⟩ := hc j p hp
      exact ⟨(hb.cell (p := ⟨b, off + j * 2, none⟩) hbl).trans h1, (hb.cell (p := ⟨b, off + j * 2 + 1, none⟩) hbl).trans h2⟩⟩⟩
theorem PairsAt.at_ {k : Nat} (h : PairsAt w A n ps) (hk : k < n) : ∃ b off p, A = some ⟨b, off, none⟩ ∧ b < w.heap.size ∧ ps[k]? = some p ∧ ((-9223372036854775808 ≤ p.1 ∧ p.1 < 9223372036854775808) ∧ (-9223372036854775808 ≤ p.2 ∧ p.2 < 9223372036854775808)) ∧
    w.cell? ⟨b, off + k * 2, none⟩ = some (.int .i64 p.1) ∧ w.cell? ⟨b, off + k * 2 + 1, none⟩ = some (.int .i64 p.2) := by
  obtain ⟨b, off, e, hb, hc⟩ := h.2.2 (by omega)
  have hl : k < ps.length := by rw [h.1]; exact hk
  exact ⟨b, off, ps[k], e, hb, List.getElem?_eq_getElem hl, h.2.1 _ (List.getElem_mem hl), (hc k _ (List.getElem?_eq_getElem hl)).1, (hc k _ (List.getElem?_eq_getElem hl)).2⟩
end

/-- block g is the matrix that a variable holds -/
def MatB (w : World) (g : Nat) (t : TypeId) (N : Int) (A : Option Addr) (n c : Nat) : Prop := Blk w g t [.int .i64 N, .slice A n c]
section
variable {w w' : World} {g : Nat} {t : TypeId} {N : Int} {A : Option Addr} {n c : Nat}
theorem MatB.c0 (h : MatB w g t N A n c) : w.cell? ⟨g, 0, none⟩ = some (.int .i64 N) := Blk.cell h 0
theorem MatB.c1 (h : MatB w g t N A n c) : w.cell? ⟨g, 1, none⟩ = some (.slice A n c) := Blk.cell h 1
theorem MatB.new (w : World) (t : TypeId) : MatB (w.alloc (.cells #[.int .i64 N, .slice A n c] t)) w.heap.size t N A n c := Blk.new w t _
theorem MatB.new1 (w : World) (o : Obj) (t : TypeId) : MatB ((w.alloc o).alloc (.cells #[.int .i64 N, .slice A n c] t)) (w.heap.size + 1) t N A n c := by
  have h := MatB.new (N := N) (A := A) (n := n) (c := c) (w.alloc o) t
  rwa [show (w.alloc o).heap.size = w.heap.size + 1 from by simp] at h
theorem MatB.two (h : MatB w g t N A n c) (x y : Value) : ((w.setCell ⟨g, 0, none⟩ x).setCell ⟨g, 1, none⟩ y).cell? ⟨g, 0, none⟩ = some x ∧ ((w.setCell ⟨g, 0, none⟩ x).setCell ⟨g, 1, none⟩ y).cell? ⟨g, 1, none⟩ = some y := by
  have h2 := (Blk.set_ (Blk.set_ h 0 x) 1 y)
  exact ⟨by rw [h2.cell 0]; rfl, by rw [h2.cell 1]; rfl⟩
theorem MatB.put (h : MatB w g t N A n c) (N' : Int) (A' : Option Addr) (n' c' : Nat) : MatB ((w.setCell ⟨g, 0, none⟩ (.int .i64 N')).setCell ⟨g, 1, none⟩ (.slice A' n' c')) g t N' A' n' c' :=
  Blk.set_ (Blk.set_ h 0 (.int .i64 N')) 1 (.slice A' n' c')
theorem MatB.below_ (h : MatB w g t N A n c) (hb : Below w.heap.size w w') : MatB w' g t N A n c := Blk.below h hb h.lt
end

/-- what a call that answers a matrix and an error ends in -/
def RetMat (N : Int) (xss : List (List Nat)) (er : Int) (w : World) (e : Ending) (w' : World) : Prop :=
  ∃ A n c, e = .returned (.tuple #[.agg #[.int .i64 N, .slice A n c], .int .i64 er]) ∧ RowsAt w' A n xss ∧ n ≤ c ∧ Below w.heap.size w w'
/-- .. a matrix of the call's own, rows and all (te: the type of rows, tw: of words) -/
def RetMatO (te tw : TypeId) (N : Int) (xss : List (List Nat)) (w : World) (e : Ending) (w' : World) : Prop :=
  ∃ A n c vs, e = .returned (.tuple #[.agg #[.int .i64 N, .slice A n c], .int .i64 0]) ∧ w'.ownsRow w.heap.size te 1 (.slice A n c) n vs ∧ OwnRows tw w' w.heap.size vs xss ∧ (∀ v ∈ vs, ∀ g, v.ownBlock = some g → (Value.slice A n c).ownBlock ≠ some g) ∧ Below w.heap.size w w'
theorem RetMatO.ret {te tw : TypeId} {N : Int} {xss : List (List Nat)} {w w' : World} {e : Ending} (h : RetMatO te tw N xss w e w') : RetMat N xss 0 w e w' := by
  obtain ⟨A, n, c, vs, he, ho, hr, _, hb⟩ := h
  exact ⟨A, n, c, he, ⟨vs, Rd.of_own' ho, hr.rows⟩, own_cap ho, hb⟩
/-- what a call that answers a matrix ends in -/
def RetMat1 (N : Int) (xss : List (List Nat)) (w : World) (e : Ending) (w' : World) : Prop :=
  ∃ A n c, e = .returned (.agg #[.int .i64 N, .slice A n c]) ∧ RowsAt w' A n xss ∧ n ≤ c ∧ Below w.heap.size w w'
/-- a call that answers a bool, and leaves what was there -/
def RetB (b : Bool) (w : World) (e : Ending) (w' : World) : Prop := e = .returned (.bool b) ∧ Below w.heap.size w w'

end Go.Proofs.Ytmgockkjoogcaaa

namespace Go.Proofs.Ytmgockkjoogcaaa
open Go.RowKit
set_option linter.unusedVariables false

theorem bcell {W w1 : World} (hb : Below W.heap.size W w1) : (∀ b o, b < W.heap.size → w1.cell? ⟨b, o, none⟩ = W.cell? ⟨b, o, none⟩) ∧ (∀ b o, b < W.heap.size → w1.frozen? ⟨b, o, none⟩ = W.frozen? ⟨b, o, none⟩) :=
  ⟨fun b o h => hb.cell (p := ⟨b, o, none⟩) h, fun b o h => hb.frozen (p := ⟨b, o, none⟩) h⟩

set_option maxHeartbeats 400000 in
theorem mat_below (i n : Int) (w : World) :
    Calls Try.prog 47 #[.int .i64 i, .int .i64 n] w fun e w' => e = .returned (.bool (belowZ i n)) ∧ w = w' := by
  by_cases h0 : 0 ≤ i
  · by_cases h1 : i < n
    · have H := Lib.hid (belowZ_yes h0 h1)
      go_enter Try.func47, Try.ntmps47
      go_wp2
      go_ret
      rw [H.out]; exact ⟨rfl, rfl⟩
    · have H := Lib.hid (belowZ_no (i := i) (n := n) (by omega))
      go_enter Try.func47, Try.ntmps47
      go_wp2
      go_ret
      rw [H.out]; exact ⟨rfl, rfl⟩
  · have H := Lib.hid (belowZ_no (i := i) (n := n) (by omega))
    go_enter Try.func47, Try.ntmps47
    go_wp2
    go_ret
    rw [H.out]; exact ⟨rfl, rfl⟩


end Go.Proofs.Ytmgockkjoogcaaa

namespace Go.Proofs.Ytmgockkjoogcaaa
open Go.RowKit
set_option linter.unusedVariables false

theorem info_row : (Try.prog.info? 60).map (fun i => (i.zero, i.size, i.bytes)) = some (some (.slice none 0 0), 1, 24) := by kernel_rfl
theorem one_rows {w : World} {vs : List Value} {xss : List (List Nat)} (h : RowsC w vs xss) : ∀ u ∈ vs, u.oneCell' = true := by
  intro u hu
  obtain ⟨k, hk⟩ := List.getElem?_of_mem hu
  have hl : k < vs.length := (List.getElem?_eq_some_iff.1 hk).1
  have hl2 : k < xss.length := by rw [← h.1]; exact hl
  obtain ⟨A, n, c, rfl, _⟩ := h.2 k u xss[k] hk (List.getElem?_eq_getElem hl2)
  rfl

/-- a call that answers an outer slice of its own -/
def RetOuter (n : Nat) (vs : List Value) (w : World) (e : Ending) (w' : World) : Prop :=
  ∃ g cap, e = .returned (.slice (some ⟨g, 0, none⟩) n cap) ∧ w'.ownsRow w.heap.size 60 1 (.slice (some ⟨g, 0, none⟩) n cap) n vs ∧ Below w.heap.size w w'



end Go.Proofs.Ytmgockkjoogcaaa

namespace Go.Proofs.Ytmgockkjoogcaaa
open Go.RowKit
set_option linter.unusedVariables false

theorem inM_cases {N i j : Int} (h : inM N i j = false) : (i < 0 ∨ N ≤ i) ∨ (belowZ i N = true ∧ (j < 0 ∨ N ≤ j)) := by
  unfold inM at h
  unfold belowZ
  by_cases a : 0 ≤ i <;> by_cases b : i < N <;> by_cases c : 0 ≤ j <;> by_cases d : j < N <;> simp [a, b, c, d] at h ⊢ <;> omega

end Go.Proofs.Ytmgockkjoogcaaa

namespace Go.Proofs.Ytmgockkjoogcaaa
open Go.RowKit
set_option linter.unusedVariables false

theorem mk_rows (kl kc : IntKind) (n c : Nat) (hnc : n ≤ c) (hc : c ≤ 1099511627776) (W : World) :
    (Instr.makeSlice 33 (.int kl (n : Int)) (.int kc (c : Int))).run Try.prog W = .ok (.slice (some ⟨W.heap.size, 0, none⟩) n c) (W.alloc (.cells (zeros c (.slice none 0 0)) 60)) := by
  obtain ⟨i, hi, hz0, hz1, hz2⟩ := info_parts info_row
  exact run_make_one _ _ i _ Try.underlying33 hi hz0 hz1 rfl kl kc n c hnc (by rw [hz2]; omega) (by omega) W
/-- rows that are laid one by one: those laid, then nils -/
def filled (vs : List Value) (n : Nat) : List Value := vs ++ List.replicate (n - vs.length) (.slice none 0 0)
theorem filled_nil (n : Nat) : filled [] n = List.replicate n (.slice none 0 0) := by simp [filled]
theorem filled_all {vs : List Value} {n : Nat} (h : vs.length = n) : filled vs n = vs := by simp [filled, h]
theorem filled_len {vs : List Value} {n : Nat} (h : vs.length ≤ n) : (filled vs n).length = n := by simp [filled]; omega
theorem filled_set {vs : List Value} {n : Nat} (h : vs.length < n) (v : Value) : (filled vs n).set vs.length v = filled (vs ++ [v]) n := by
  unfold filled
  obtain ⟨d, hd⟩ : ∃ d, n - vs.length = d + 1 := ⟨n - vs.length - 1, by omega⟩
  rw [List.set_append_right _ _ (Nat.le_refl _), hd, List.length_append, show n - (vs.length + [v].length) = d from by simp; omega]
  simp [List.replicate_succ]
theorem filled_get {vs : List Value} {n : Nat} (h : vs.length < n) : (filled vs n)[vs.length]? = some (.slice none 0 0) := by
  unfold filled
  rw [List.getElem?_append_right (Nat.le_refl _), Nat.sub_self, List.getElem?_replicate, if_pos (by omega)]

set_option maxHeartbeats 1000000 in
theorem mat_New (n : Nat) (hn : n ≤ 4096) (w : World) :
    Calls Try.prog 46 #[.int .i64 (n : Int)] w (RetMatO 60 77 (n : Int) (newM n) w) := by
  have hb := Lib.hid (belowZ_yes (i := (n : Int)) (n := 4097) (by omega) (by omega))
  have hmk := mk_rows .i64 .i64 n n (Nat.le_refl _) (by omega)
  obtain ⟨W0, hW0⟩ : ∃ W0, W0 = w.alloc (.cells #[.int .i64 0, .slice none 0 0] 35) := ⟨_, rfl⟩
  have ha : Below w.heap.size w W0 := by rw [hW0]; exact (Below.refl _ _).alloc (Nat.le_refl _) _
  have hB : MatB W0 w.heap.size 35 0 none 0 0 := by rw [hW0]; exact MatB.new w _
  have hs0 : W0.heap.size = w.heap.size + 1 := by rw [hW0]; simp
  obtain ⟨W1, hW1⟩ : ∃ W1, W1 = W0.alloc (.cells (zeros n (.slice none 0 0)) 60) := ⟨_, rfl⟩
  have ha1 : Below w.heap.size w W1 := by rw [hW1]; exact ha.alloc (by omega) _
  have hB1 : MatB W1 w.heap.size 35 0 none 0 0 := by rw [hW1]; exact hB.below_ ((Below.refl _ _).alloc (Nat.le_refl _) _)
  have hs1 : W1.heap.size = w.heap.size + 2 := by rw [hW1]; simp [hs0]
  have hown0 : W1.ownsRow (w.heap.size + 1) 60 1 (.slice (some ⟨w.heap.size + 1, 0, none⟩) n n) n (filled [] n) := by
    have h := own_zeros W0 n (.slice none 0 0) 60 (by unfold maxLen; omega)
    rw [← hW1, hs0] at h
    rw [filled_nil]; exact h
  have hrow := Lib.hid (fun W => row_NewO (n : Int) (by omega) (by omega) W)
  have hs0' := Lib.hid hs0
  have hs1' := Lib.hid hs1
  replace hB1 := Lib.hid hB1
  replace hown0 := Lib.hid hown0
  replace ha1 := Lib.hid ha1
  clear ha hB hs0 hs1
  go_enter Try.func46, Try.ntmps46
  go_wp2_with fail
  rw [← hW0]
  have hp : W0.heap.size = w.heap.size + 1 := hs0'.out
  clear hW0
  refine (mat_below _ _ _).mono ?_; rintro e w' ⟨rfl, rfl⟩
  rw [hb.out]
  go_wp2_with fail
  rw [← hW1]
  clear hW1 hmk hp
  go_loopw [14] (fun i wr => ∃ vs : List Value, vs.length ≤ n ∧ i = .int .i64 vs.length ∧ Hid (wr.ownsRow (w.heap.size + 1) 60 1 (.slice (some ⟨w.heap.size + 1, 0, none⟩) n n) n (filled vs n)) ∧ Hid (OwnRows 77 wr (w.heap.size + 2) vs (List.replicate vs.length (List.replicate (wordsZ (n : Int)).toNat 0))) ∧ Hid (MatB wr w.heap.size 35 0 none 0 0) ∧ Hid (Below w.heap.size w wr) ∧ Hid (w.heap.size + 2 ≤ wr.heap.size)) (fun i _ => n - (intOf i).toNat)
  case atStart => exact ⟨[], Nat.zero_le _, rfl, hown0, Lib.hid (OwnRows.nil _ _ _), hB1, ha1, Lib.hid (by rw [hs1'.out]; exact Nat.le_refl _)⟩
  case round =>
    obtain ⟨vs, hk, rfl, hown, hrows, hBr, hbr, hsr⟩ := hrel
    clear hown0 hB1 ha1
    obtain ⟨k, hke⟩ : ∃ k, k = vs.length := ⟨_, rfl⟩
    rw [← hke] at hk
    rw [← hke]
    by_cases hlt : k < n
    · have hke' := Lib.hid hke
      clear hke
      go_wp2_with fail
      refine (hrow.out _).mono ?_; rintro e w1 ⟨C, p, q, rfl, ho, hx64, hb1⟩
      have hown1 := own_below hown.out hb1
      have hget := filled_get (vs := vs) (n := n) (by rw [← hke'.out]; exact hlt)
      have hcg := hown1.cellAt k (by omega)
      rw [hke'.out, hget, ← hke'.out] at hcg
      have hfg := hown1.frozenAt k
      have hrows1 := Lib.hid (hrows.out.snoc hb1 ho hx64 (hsr.out))
      have hBr1 := Lib.hid (hBr.out.below_ hb1)
      have hbr1 := Lib.hid (below_trans2 hbr.out hb1)
      have hsr1 := Lib.hid (Nat.le_trans hsr.out hb1.size)
      replace hown1 := Lib.hid hown1
      clear ho hx64 hget hown hrows hBr hbr hsr hb1
      go_wp2_with fail
      go_roundw
      case rel =>
        refine ⟨vs ++ [.slice C p q], by have := hke'.out; simp; omega, by rw [List.length_append, ← hke'.out]; simp; try omega, ?_, ?_, ?_, ?_, ?_⟩
        · refine Lib.hid ?_
          rw [← filled_set (by rw [← hke'.out]; exact hlt), ← hke'.out]
          exact (hown1.out.stored k (.slice C p q)).1
        · refine Lib.hid ?_
          have h := hrows1.out.far (p := ⟨w.heap.size + 1, k, none⟩) (by simp) (.slice C p q)
          rw [List.length_append, List.length_singleton, List.replicate_succ']
          exact h
        · exact Lib.hid (hBr1.out.far (by simp) _)
        · exact Lib.hid (hbr1.out.setCell (by simp) _)
        · exact Lib.hid (by simpa using hsr1.out)
      case measure => simp [intOf]; omega
    · have hkn : k = n := by omega
      have hvn : vs.length = n := by rw [← hke, hkn]
      clear hlt
      have f20 := hBr.out.cell 0
      have f21 := hBr.out.cell 1
      have g20 := hBr.out.frozen 0
      have g21 := hBr.out.frozen 1
      simp only [List.getElem?_cons_zero, List.getElem?_cons_succ] at f20 f21
      replace hvn := Lib.hid hvn
      replace hke := Lib.hid hke
      obtain rfl := hkn
      go_wp2_with fail
      have hcc := hBr.out.two (.int .i64 k) (.slice (some ⟨w.heap.size + 1, 0, none⟩) k k)
      have hc1 := hcc.1
      have hc2 := hcc.2
      clear hcc f20 f21 g20 g21
      refine bodyPost_ret (v := .tuple #[.agg #[.int .i64 k, .slice (some ⟨w.heap.size + 1, 0, none⟩) k k], .int .i64 0]) (by simp [results, Try.results46, go_sem, hc1, hc2]) rfl ⟨_, _, _, vs, rfl, ?_, ?_, ?_, ?_⟩
      · have h := hown.out
        rw [filled_all hvn.out] at h
        exact own_base (own_far (own_far h (p := ⟨w.heap.size, 0, none⟩) (by simp [Value.ownBlock]) _) (p := ⟨w.heap.size, 1, none⟩) (by simp [Value.ownBlock]) _) (by omega)
      · have h := (hrows.out.far (p := ⟨w.heap.size, 0, none⟩) (by simp) (.int .i64 k)).far (p := ⟨w.heap.size, 1, none⟩) (by simp) (.slice (some ⟨w.heap.size + 1, 0, none⟩) k k)
        rw [hvn.out] at h
        exact h.base_ (by omega)
      · intro v hv g hg hh
        have := (hrows.out.lt v hv g hg).1
        simp [Value.ownBlock] at hh
        omega
      · exact (hbr.out.setCell (by simp) _).setCell (by simp) _

end Go.Proofs.Ytmgockkjoogcaaa

namespace Go.Proofs.Ytmgockkjoogcaaa
open Go.RowKit
set_option linter.unusedVariables false

set_option maxHeartbeats 400000 in
theorem mat_New_no (n : Int) (h : n < 0 ∨ 4097 ≤ n) (w : World) :
    Calls Try.prog 46 #[.int .i64 n] w (RetMat 0 [] 1 w) := by
  have hb := Lib.hid (belowZ_no (i := n) (n := 4097) h)
  have ha : Below w.heap.size w (w.alloc (.cells #[.int .i64 0, .slice none 0 0] 35)) := (Below.refl _ _).alloc (Nat.le_refl _) _
  replace ha := Lib.hid ha
  clear h
  go_enter Try.func46, Try.ntmps46
  go_wp2_with fail
  refine (mat_below _ _ _).mono ?_; rintro e w' ⟨rfl, rfl⟩
  rw [hb.out]
  go_wp2_with fail
  exact bodyPost_ret (v := .tuple #[.agg #[.int .i64 0, .slice none 0 0], .int .i64 1]) (by simp [results, Try.results46, go_sem]) rfl ⟨none, 0, 0, rfl, RowsAt.nil _ _, Nat.le_refl _, ha.out⟩

/-- what 'put' ends in -/
def Put (g q y : Nat) (w : World) (e : Ending) (w' : World) : Prop := e = .returned (.tuple #[]) ∧ ∃ k, w' = (w.drewN k).setCell ⟨g, q, none⟩ (u64v y)
set_option maxHeartbeats 400000 in
theorem mat_put (g m c : Nat) (j : Nat) (x : Nat) (w : World) (hm : m ≤ 17592186044416) (hj : j < 64 * m) (hx64 : x < 18446744073709551616) (hc : w.cell? ⟨g, j / 64, none⟩ = some (.int .u64 (x : Int))) (hf : w.frozen? ⟨g, j / 64, none⟩ = false) :
    Calls Try.prog 48 #[.slice (some ⟨g, 0, none⟩) m c, .int .i64 (j : Int)] w (Put g (j / 64) (x ||| p2 (j % 64)) w) := by
  obtain ⟨r, hre⟩ : ∃ r, r = j % 64 := ⟨_, rfl⟩
  have hr64 : r < 64 := by omega
  have hE := u64_or_nat x (p2 r) hx64 (by have := p2_lt r hr64; omega)
  replace hE := Lib.hid hE
  have hA1 : (0 : Int) ≤ (j : Int) / 64 := by omega
  have hA2 : (j : Int) / 64 < (m : Int) := by omega
  have hA3 : ((j : Int) / 64).toNat = j / 64 := by omega
  have hj0 : (0 : Int) ≤ (j : Int) := by omega
  have hrem : (j : Int) % 64 = (r : Int) := by omega
  have hjb : (j : Int) < 9223372036854775807 := by omega
  rw [← hre]
  clear hre
  go_enter Try.func48, Try.ntmps48
  go_wp2_with fail
  refine still_tail 10 (by kernel_rfl) (by kernel_rfl) (fun W hW => ?_)
  have hc' : W.cell? ⟨g, j / 64, none⟩ = some (.int .u64 (x : Int)) := by rw [hW.out]; exact hc
  have hf' : W.frozen? ⟨g, j / 64, none⟩ = false := by rw [hW.out]; exact hf
  clear hc hf
  simp only [List.take_succ_cons, List.take_zero, List.drop_succ_cons, List.drop_zero]
  have htd : (j : Int).tdiv 64 = (j : Int) / 64 := Int.tdiv_eq_ediv_of_nonneg hj0
  have htm : (j : Int).tmod 64 = (r : Int) := by rw [Int.tmod_eq_emod_of_nonneg hj0]; exact hrem
  have hw1 : IntKind.i64.wrap ((j : Int) / 64) = (j : Int) / 64 := by rw [IntKind.wrap_i64]; omega
  have hw2 : IntKind.i64.wrap (r : Int) = (r : Int) := by rw [IntKind.wrap_i64]; omega
  clear hrem
  repeat
    refine @wpStill_step _ _ _ _ _ _ _ ?_
    intro K hK
    go_simp
    refine hK _ ?_
    clear hK K
  refine wpStill_step (fun K hK => ?_)
  go_simp
  refine ⟨_, still_call (word_BitN r hr64 _), hK _ ?_⟩
  clear hK K
  repeat
    refine @wpStill_step _ _ _ _ _ _ _ ?_
    intro K hK
    go_simp
    refine hK _ ?_
    clear hK K
  refine wpStill_nil ?_
  clear htd htm hw1 hw2
  go_wp2
  go_end0
  rw [hE.out, hW.out]
  exact ⟨rfl, 1, rfl⟩

end Go.Proofs.Ytmgockkjoogcaaa

namespace Go.Proofs.Ytmgockkjoogcaaa
open Go.RowKit
set_option linter.unusedVariables false

set_option maxHeartbeats 400000 in
theorem mat_Of_big (n : Int) (h : n < 0 ∨ 4097 ≤ n) (A : Option Addr) (m c : Nat) (w : World) :
    Calls Try.prog 29 #[.int .i64 n, .slice A m c] w (RetMat 0 [] 1 w) := by
  have hN := Lib.hid (mat_New_no n h)
  obtain ⟨W0, hW0⟩ : ∃ W0, W0 = w.alloc (.cells #[.int .i64 0, .slice none 0 0] 35) := ⟨_, rfl⟩
  have ha : Below w.heap.size w W0 := by rw [hW0]; exact (Below.refl _ _).alloc (Nat.le_refl _) _
  have hB : MatB W0 w.heap.size 35 0 none 0 0 := by rw [hW0]; exact MatB.new w _
  replace ha := Lib.hid ha
  replace hB := Lib.hid hB
  clear h
  go_enter Try.func29, Try.ntmps29
  go_wp2_with fail
  rw [← hW0]
  clear hW0
  refine (hN.out _).mono ?_; rintro e w1 ⟨C, p, q, rfl, _, _, hb1⟩
  have hbb := Lib.hid (below_trans2 ha.out hb1)
  have hB1 := hB.out.below_ hb1
  have f20 := hB1.c0
  have f21 := hB1.c1
  have g20 := hB1.frozen 0
  have g21 := hB1.frozen 1
  have hlt := hB1.lt
  clear hb1
  go_wp2_with fail
  have hcc := (hB1.put 0 none 0 0).below_ ((Below.refl _ _).alloc (Nat.le_refl _) (.cells #[.int .i64 0, .slice C p q] 35))
  have hc1 := hcc.c0
  have hc2 := hcc.c1
  refine bodyPost_ret (v := .tuple #[.agg #[.int .i64 0, .slice none 0 0], .int .i64 1]) (by simp [results, Try.results29, go_sem, hc1, hc2]) rfl ⟨none, 0, 0, rfl, RowsAt.nil _ _, Nat.le_refl _, ?_⟩
  exact ((hbb.out.setCell (by simp) _).setCell (by simp) _).alloc (by simpa using hbb.out.size) _

/-- what is known at each round's head -/
structure OfI (w : World) (n : Nat) (ps : List (Int × Int)) (A : Option Addr) (c M : Nat) (vs : List Value) (k : Nat) (wr : World) : Prop where
  res : MatB wr w.heap.size 35 0 none 0 0
  loc : MatB wr M 35 (n : Int) A n c
  out : wr.ownsRow (w.heap.size + 1) 60 1 (.slice A n c) n vs
  rows : OwnRows 77 wr (w.heap.size + 1) vs (foldP n (ps.take k))
  below : Below w.heap.size w wr
theorem OfI.keep {w : World} {n : Nat} {ps : List (Int × Int)} {A : Option Addr} {c M : Nat} {vs : List Value} {k : Nat} {wr w' : World} (h : OfI w n ps A c M vs k wr) (hb : Below wr.heap.size wr w') : OfI w n ps A c M vs k w' :=
  ⟨h.res.below_ hb, h.loc.below_ hb, own_below h.out hb, h.rows.below hb, below_trans2 h.below hb⟩
theorem OfI.put {w : World} {n : Nat} {ps : List (Int × Int)} {A : Option Addr} {c M : Nat} {vs : List Value} {k : Nat} {wr : World} (h : OfI w n ps A c M vs k wr) (hsep : ∀ v ∈ vs, ∀ g, v.ownBlock = some g → (Value.slice A n c).ownBlock ≠ some g ∧ g ≠ M) {i j : Nat} {g m d : Nat} {xs : List Nat} {x : Nat}
    (hp : ps[k]? = some ((i : Int), (j : Int))) (hv : vs[i]? = some (.slice (some ⟨g, 0, none⟩) m d)) (hx : (foldP n (ps.take k))[i]? = some xs) (hj : j < 64 * xs.length) (hxq : xs[j / 64]? = some x) (q : Nat) :
    OfI w n ps A c M vs (k + 1) ((wr.drewN q).setCell ⟨g, j / 64, none⟩ (u64v (x ||| p2 (j % 64)))) := by
  have hs := hsep _ (List.mem_of_getElem? hv) g rfl
  have hx64 : x < 18446744073709551616 := by
    obtain ⟨_, _, _, e, ho, hw⟩ := h.rows.2.1 i _ xs hv hx
    exact hw x (List.mem_of_getElem? hxq)
  have hg := h.rows.lt _ (List.mem_of_getElem? hv) g rfl
  have hr := (h.rows.put hv hx (j / 64) (x ||| p2 (j % 64)) (or_p2_lt hx64 (by omega)))
  have he : foldP n (ps.take (k + 1)) = (foldP n (ps.take k)).set i (xs.set (j / 64) (x ||| p2 (j % 64))) := by
    rw [foldP_snoc n ps k _ hp]
    show setM _ (i : Int) (j : Int) = _
    rw [setM_nat hx, setR_in hj hxq]
  refine ⟨?_, ?_, ?_, ?_, ?_⟩
  · exact (Blk.drewN h.res q).far (by show w.heap.size ≠ g; omega) _
  · exact (Blk.drewN h.loc q).far (fun e => hs.2 e.symm) _
  · exact own_far (p := ⟨g, j / 64, none⟩) (own_drewN h.out q) hs.1 _
  · rw [he]; exact hr
  · exact (below_drewN h.below q).setCell (by show w.heap.size ≤ g; omega) _
def ofOk (n : Int) (ps : List (Int × Int)) : Bool := belowZ n 4097 && ps.all (okP n)
def ofN (n : Int) (ps : List (Int × Int)) : Int := if ofOk n ps = true then n else 0
def ofM (n : Int) (ps : List (Int × Int)) : List (List Nat) := if ofOk n ps = true then foldP n.toNat ps else []
def ofE (n : Int) (ps : List (Int × Int)) : Int := if ofOk n ps = true then 0 else 1
theorem okP_no {n : Int} {i j : Int} (h : okP n (i, j) = false) : belowZ i n = false ∨ (belowZ i n = true ∧ belowZ j n = false) := by
  rcases inM_cases h with h | ⟨h1, h2⟩
  · exact .inl (belowZ_no h)
  · exact .inr ⟨h1, belowZ_no h2⟩
theorem okP_yes {n : Int} {i j : Int} (h : okP n (i, j) = true) : belowZ i n = true ∧ belowZ j n = true ∧ 0 ≤ i ∧ i < n ∧ 0 ≤ j ∧ j < n := by
  have h' : inM n i j = true := h
  unfold inM at h'
  simp only [Bool.and_eq_true, decide_eq_true_eq] at h'
  obtain ⟨⟨⟨a, b⟩, c⟩, d⟩ := h'
  exact ⟨belowZ_yes a b, belowZ_yes c d, a, b, c, d⟩
set_option maxHeartbeats 2000000 in
theorem mat_Of_in (n : Nat) (hn : n ≤ 4096) (A : Option Addr) (m c : Nat) (ps : List (Int × Int)) (w : World) (hp : PairsAt w A m ps) (hm : m ≤ 1073741824) :
    Calls Try.prog 29 #[.int .i64 (n : Int), .slice A m c] w (RetMat (ofN n ps) (ofM n ps) (ofE n ps) w) := by
  have hN := Lib.hid (mat_New n hn)
  have hin : belowZ (n : Int) 4097 = true := belowZ_yes (by omega) (by omega)
  obtain ⟨W0, hW0⟩ : ∃ W0, W0 = w.alloc (.cells #[.int .i64 0, .slice none 0 0] 35) := ⟨_, rfl⟩
  have ha : Below w.heap.size w W0 := by rw [hW0]; exact (Below.refl _ _).alloc (Nat.le_refl _) _
  have hB : MatB W0 w.heap.size 35 0 none 0 0 := by rw [hW0]; exact MatB.new w _
  have hs0 : W0.heap.size = w.heap.size + 1 := by rw [hW0]; simp
  have hyes : Hid (ps.all (okP n) = true → ofN n ps = n ∧ ofM n ps = foldP n ps ∧ ofE n ps = 0) := Lib.hid (fun h => by unfold ofN ofM ofE ofOk; rw [hin, h]; simp)
  have hno : Hid (∀ p ∈ ps, okP n p = false → ofN n ps = 0 ∧ ofM n ps = [] ∧ ofE n ps = 1) := Lib.hid (fun p hp h => by
    have : ps.all (okP n) = false := List.all_eq_false.2 ⟨p, hp, by rw [h]; simp⟩
    unfold ofN ofM ofE ofOk; rw [hin, this]; simp)
  replace ha := Lib.hid ha
  replace hB := Lib.hid hB
  replace hs0 := Lib.hid hs0
  replace hp := Lib.hid hp
  clear hin
  go_enter Try.func29, Try.ntmps29
  go_wp2_with fail
  rw [← hW0]
  clear hW0
  refine (hN.out _).mono ?_; rintro e w1 ⟨C, p, q, vs, rfl, hown, hrows, hsep, hb1⟩
  have hpn : p = n := by
    have h1 := hown.1
    have h2 := hrows.1
    have h3 := (DimM.new n).1
    omega
  subst hpn
  rw [hs0.out] at hown hrows
  obtain ⟨W2, hW2⟩ : ∃ W2, W2 = w1.alloc (.cells #[.int .i64 p, .slice C p q] 35) := ⟨_, rfl⟩
  have hb2 : Below w1.heap.size w1 W2 := by rw [hW2]; exact (Below.refl _ _).alloc (Nat.le_refl _) _
  have hI : OfI w p ps C q w1.heap.size vs 0 W2 := by
    refine ⟨(hB.out.below_ hb1).below_ hb2, ?_, own_below hown hb2, ?_, below_trans2 (below_trans2 ha.out hb1) hb2⟩
    · rw [hW2]; exact MatB.new w1 _
    · rw [List.take_zero, foldP_nil]; exact hrows.below hb2
  have hsep' : ∀ v ∈ vs, ∀ g, v.ownBlock = some g → (Value.slice C p q).ownBlock ≠ some g ∧ g ≠ w1.heap.size := fun v hv g hg => ⟨hsep v hv g hg, by have := (hrows.lt v hv g hg).2; omega⟩
  obtain ⟨M, hM⟩ : ∃ M, M = w1.heap.size := ⟨_, rfl⟩
  rw [← hM] at hI hsep'
  replace hI := Lib.hid hI
  replace hsep' := Lib.hid hsep'
  have hpW : Hid (PairsAt W2 A m ps) := Lib.hid (hp.out.below (below_trans2 (below_trans2 ha.out hb1) hb2))
  clear hown hrows hsep hb1 hb2 hN
  go_wp2_with fail
  rw [← hW2, ← hM]
  clear hW2 hM
  go_loopw [21] (fun i wr => ∃ k : Nat, k ≤ m ∧ i = .int .i64 k ∧ Hid (OfI w p ps C q M vs k wr) ∧ Hid (∀ x ∈ ps.take k, okP p x = true)) (fun i _ => m - (intOf i).toNat)
  case atStart => exact ⟨0, Nat.zero_le _, rfl, hI, Lib.hid (by simp)⟩
  case round =>
    obtain ⟨k, hk, rfl, hIr, hall⟩ := hrel
    clear hI
    by_cases hlt : k < m
    · obtain ⟨b, off, ⟨x, y⟩, rfl, hbl, hx, ⟨⟨x1, x2⟩, ⟨y1, y2⟩⟩, hc1, hc2⟩ := (hp.out.below hIr.out.below).at_ hlt
      simp only at x1 x2 y1 y2 hc1 hc2
      obtain ⟨W3, hW3⟩ : ∃ W3, W3 = wr.alloc (.cells #[.int .i64 x, .int .i64 y] 62) := ⟨_, rfl⟩
      have hb3 : Below wr.heap.size wr W3 := by rw [hW3]; exact (Below.refl _ _).alloc (Nat.le_refl _) _
      have hI3 := hIr.out.keep hb3
      obtain ⟨T, hT⟩ : ∃ T, T = wr.heap.size := ⟨_, rfl⟩
      have hBT : Blk W3 T 62 [.int .i64 x, .int .i64 y] := by rw [hW3, hT]; exact Blk.new wr _ _
      have e0 : W3.cell? ⟨T, 0, none⟩ = some (.int .i64 x) := hBT.cell 0
      have e1 : W3.cell? ⟨T, 1, none⟩ = some (.int .i64 y) := hBT.cell 1
      have hok1 : okP p (x, y) = true → Hid (∀ z ∈ ps.take (k + 1), okP p z = true) := fun h => Lib.hid (fun z hz => by
        rw [List.take_succ_eq_append_getElem (List.getElem?_eq_some_iff.1 hx).1, (List.getElem?_eq_some_iff.1 hx).2] at hz
        rcases List.mem_append.1 hz with h5 | h5
        · exact hall.out z h5
        · rw [List.mem_singleton.1 h5]; exact h)
      have hbad : okP p (x, y) = false → Hid (ofN p ps = 0 ∧ ofM p ps = [] ∧ ofE p ps = 1) := fun h => Lib.hid (hno.out _ (List.mem_of_getElem? hx) h)
      replace hx := Lib.hid hx
      have f20 := hI3.res.c0
      have f21 := hI3.res.c1
      have g20 := hI3.res.frozen 0
      have g21 := hI3.res.frozen 1
      have hl1 := hI3.loc.c1
      replace hI3 := Lib.hid hI3
      replace hBT := Lib.hid hBT
      clear hb3
      rcases Bool.eq_false_or_eq_true (okP p (x, y)) with hok | hok
      · have hokk := hok1 hok
        obtain ⟨o1, o2, o3, o4, o5, o6⟩ := okP_yes hok
        replace o1 := Lib.hid o1
        replace o2 := Lib.hid o2
        clear hok hok1 hbad
        obtain ⟨i, rfl⟩ := Int.eq_ofNat_of_zero_le o3
        obtain ⟨j, rfl⟩ := Int.eq_ofNat_of_zero_le o5
        have hi : i < p := by omega
        have hdim := DimM.fold p (ps.take k)
        obtain ⟨xs, hxs⟩ : ∃ xs, (foldP p (ps.take k))[i]? = some xs := ⟨_, List.getElem?_eq_getElem (by rw [hdim.1]; exact hi)⟩
        have hxl := hdim.2 i xs hxs
        have hwp := words_pos (n := p) (by omega)
        have hwl := words_le (n := p) hn
        obtain ⟨v, hv⟩ : ∃ v, vs[i]? = some v := ⟨_, List.getElem?_eq_getElem (by rw [hI3.out.rows.1, hdim.1]; exact hi)⟩
        obtain ⟨B, mm, d, rfl, hro, hr64⟩ := hI3.out.rows.2.1 i v xs hv hxs
        have hmm : mm = xs.length := by have := hro.1; simpa using this.symm
        obtain ⟨g, cap, hge, _⟩ := hro.form (by omega)
        injection hge with hg1 hg2 hg3
        subst hg1
        obtain ⟨xw, hxw⟩ : ∃ xw, xs[j / 64]? = some xw := ⟨_, List.getElem?_eq_getElem (by omega)⟩
        have hxw64 := hr64 _ (List.mem_of_getElem? hxw)
        have hout := hI3.out.out
        have hAf : ∃ G, C = some ⟨G, 0, none⟩ := by
          obtain ⟨G, cap', hh, _⟩ := hout.form (by omega)
          injection hh with h1 h2 h3
          exact ⟨G, h1⟩
        obtain ⟨G, rfl⟩ := hAf
        have hjm : j < 64 * mm := by omega
        have hmm2 : mm ≤ 64 := by omega
        have hcr : W3.cell? ⟨G, i, none⟩ = some (.slice (some ⟨g, 0, none⟩) mm d) := by rw [hout.cellAt _ (by omega)]; exact hv
        have hcw : W3.cell? ⟨g, j / 64, none⟩ = some (.int .u64 (xw : Int)) := by
          rw [hro.cellAt _ (by omega), List.getElem?_map, hxw]; rfl
        have hfw := hro.frozenAt (j / 64)
        have hi0 : (0 : Int) ≤ (i : Int) := by omega
        have hip : (i : Int) < (p : Int) := by omega
        have hput := Lib.hid (mat_put g mm d j xw)
        have hupd := Lib.hid (fun W (hI : OfI w p ps (some ⟨G, 0, none⟩) q M vs k W) (z : Nat) => hI.put hsep'.out hx.out hv hxs (j := j) (x := xw) (by omega) hxw z)
        clear hdim hxs hxl hwp hwl hv hro hr64 hmm hxw hout hg2 hg3
        go_wp2_with fail
        rw [← hW3, ← hT]
        clear hW3 hT
        refine (mat_below _ _ _).mono ?_; rintro e w' ⟨rfl, rfl⟩
        rw [o1.out]
        go_wp2_with fail
        refine (mat_below _ _ _).mono ?_; rintro e w' ⟨rfl, rfl⟩
        rw [o2.out]
        go_wp2_with fail
        refine still_tail 8 (by kernel_rfl) (by kernel_rfl) (fun W hW => ?_)
        have k0 : W.cell? ⟨T, 0, none⟩ = some (.int .i64 i) := by rw [hW.out]; exact e0
        have k1 : W.cell? ⟨T, 1, none⟩ = some (.int .i64 j) := by rw [hW.out]; exact e1
        have k2 : W.cell? ⟨M, 1, none⟩ = some (.slice (some ⟨G, 0, none⟩) p q) := by rw [hW.out]; exact hl1
        have k3 : W.cell? ⟨G, i, none⟩ = some (.slice (some ⟨g, 0, none⟩) mm d) := by rw [hW.out]; exact hcr
        have k4 := Lib.hid (show W.cell? ⟨g, j / 64, none⟩ = some (.int .u64 (xw : Int)) by rw [hW.out]; exact hcw)
        have k5 := Lib.hid (show W.frozen? ⟨g, j / 64, none⟩ = false by rw [hW.out]; exact hfw)
        have hIW := Lib.hid (show OfI w p ps (some ⟨G, 0, none⟩) q M vs k W by rw [hW.out]; exact hI3.out.keep (Below.refl _ _).drew)
        clear e0 e1 hl1 hcr hcw hfw f20 f21 g20 g21 hc1 hc2
        simp only [List.take_succ_cons, List.take_zero, List.drop_succ_cons, List.drop_zero]
        repeat
          refine @wpStill_step _ _ _ _ _ _ _ ?_
          intro K hK
          go_simp
          refine hK _ ?_
          clear hK K
        refine wpStill_nil ?_
        go_wp2_with fail
        refine (hput.out W (by omega) hjm hxw64 k4.out k5.out).mono ?_; rintro e w' ⟨rfl, z, rfl⟩
        go_wp2
        go_roundw
        case rel => exact ⟨k + 1, by omega, by go_num, Lib.hid (hupd.out W hIW.out z), hokk⟩
        case measure => simp [intOf]; omega
      · have hbb := hbad hok
        rcases okP_no hok with o1 | ⟨o1, o2⟩
        · replace o1 := Lib.hid o1
          clear hok hok1 hbad
          go_wp2_with fail
          rw [← hW3, ← hT]
          clear hW3 hT
          refine (mat_below _ _ _).mono ?_; rintro e w' ⟨rfl, rfl⟩
          rw [o1.out]
          go_wp2_with fail
          have hcc := hI3.out.res.two (.int .i64 0) (.slice none 0 0)
          have hc5 := hcc.1
          have hc6 := hcc.2
          obtain ⟨q1, q2, q3⟩ := hbb.out
          rw [q1, q2, q3]
          exact bodyPost_ret (v := .tuple #[.agg #[.int .i64 0, .slice none 0 0], .int .i64 1]) (by simp [results, Try.results29, go_sem, hc5, hc6]) rfl ⟨none, 0, 0, rfl, RowsAt.nil _ _, Nat.le_refl _, (hI3.out.below.setCell (by simp) _).setCell (by simp) _⟩
        · replace o1 := Lib.hid o1
          replace o2 := Lib.hid o2
          clear hok hok1 hbad
          go_wp2_with fail
          rw [← hW3, ← hT]
          clear hW3 hT
          refine (mat_below _ _ _).mono ?_; rintro e w' ⟨rfl, rfl⟩
          rw [o1.out]
          go_wp2_with fail
          refine (mat_below _ _ _).mono ?_; rintro e w' ⟨rfl, rfl⟩
          rw [o2.out]
          go_wp2_with fail
          have hcc := hI3.out.res.two (.int .i64 0) (.slice none 0 0)
          have hc5 := hcc.1
          have hc6 := hcc.2
          obtain ⟨q1, q2, q3⟩ := hbb.out
          rw [q1, q2, q3]
          exact bodyPost_ret (v := .tuple #[.agg #[.int .i64 0, .slice none 0 0], .int .i64 1]) (by simp [results, Try.results29, go_sem, hc5, hc6]) rfl ⟨none, 0, 0, rfl, RowsAt.nil _ _, Nat.le_refl _, (hI3.out.below.setCell (by simp) _).setCell (by simp) _⟩
    · have hkm : k = m := by omega
      have hall' : ps.all (okP p) = true := List.all_eq_true.2 (fun z hz => hall.out z (by rw [List.take_of_length_le (by rw [hp.out.1]; omega)]; exact hz))
      have hy := Lib.hid (hyes.out hall')
      have hfull : ps.take k = ps := List.take_of_length_le (by rw [hp.out.1]; omega)
      have hI3 := hIr.out
      have hrw := hI3.rows
      rw [hfull] at hrw
      replace hrw := Lib.hid hrw
      have f20 := hI3.res.c0
      have f21 := hI3.res.c1
      have g20 := hI3.res.frozen 0
      have g21 := hI3.res.frozen 1
      have hl0 := hI3.loc.c0
      have hl1 := hI3.loc.c1
      replace hI3 := Lib.hid hI3
      clear hfull hall' hkm
      go_wp2_with fail
      have hcc := hI3.out.res.two (.int .i64 p) (.slice C p q)
      have hc5 := hcc.1
      have hc6 := hcc.2
      obtain ⟨q1, q2, q3⟩ := hy.out
      rw [q1, q2, q3]
      refine bodyPost_ret (v := .tuple #[.agg #[.int .i64 p, .slice C p q], .int .i64 0]) (by simp [results, Try.results29, go_sem, hc5, hc6]) rfl ⟨_, _, _, rfl, ⟨vs, ?_, ?_⟩, own_cap hI3.out.out, (hI3.out.below.setCell (by simp) _).setCell (by simp) _⟩
      · have hne : (Value.slice C p q).ownBlock ≠ some w.heap.size := fun e => by have := own_lt_block hI3.out.out _ e; omega
        exact Rd.of_own' (own_far (own_far hI3.out.out (p := ⟨w.heap.size, 0, none⟩) hne _) (p := ⟨w.heap.size, 1, none⟩) hne _)
      · exact ((hrw.out.far (p := ⟨w.heap.size, 0, none⟩) (by simp) _).far (p := ⟨w.heap.size, 1, none⟩) (by simp) _).rows
theorem mat_Of (n : Int) (A : Option Addr) (m c : Nat) (ps : List (Int × Int)) (w : World) (hp : PairsAt w A m ps) (hm : m ≤ 1073741824) :
    Calls Try.prog 29 #[.int .i64 n, .slice A m c] w (RetMat (ofN n ps) (ofM n ps) (ofE n ps) w) := by
  by_cases h : 0 ≤ n ∧ n < 4097
  · obtain ⟨k, rfl⟩ := Int.eq_ofNat_of_zero_le h.1
    exact mat_Of_in k (by omega) A m c ps w hp hm
  · have hb := belowZ_no (i := n) (n := 4097) (by omega)
    have h0 : ofOk n ps = false := by unfold ofOk; rw [hb]; rfl
    have h1 : ofN n ps = 0 ∧ ofM n ps = [] ∧ ofE n ps = 1 := by unfold ofN ofM ofE; rw [h0]; simp
    rw [h1.1, h1.2.1, h1.2.2]
    exact mat_Of_big n (by omega) A m c w

end Go.Proofs.Ytmgockkjoogcaaa

namespace Go.Proofs.Ytmgockkjoogcaaa
open Go.RowKit

/-- a row whose block, if it has words, lies outside the blocks lo .. hi - 1 -/
def RowF (w : World) (lo hi : Nat) (v : Value) (xs : List Nat) : Prop := ∃ A n c, v = .slice A n c ∧ Row w A n xs ∧ (0 < n → ∀ ad, A = some ad → ad.block < lo ∨ hi ≤ ad.block)
def RowsF (w : World) (lo hi : Nat) (vs : List Value) (xss : List (List Nat)) : Prop := vs.length = xss.length ∧ ∀ (i : Nat) (v : Value) (xs : List Nat), vs[i]? = some v → xss[i]? = some xs → RowF w lo hi v xs
section
variable {w w' : World} {lo hi : Nat} {A : Option Addr} {n c : Nat} {vs : List Value} {xss : List (List Nat)} {v : Value} {xs : List Nat}
theorem Row.setCell' {p : Addr} (h : Row w A n xs) (hne : 0 < n → ∀ ad, A = some ad → ad.block ≠ p.block) (u : Value) : Row (w.setCell p u) A n xs := by
  rcases Nat.eq_zero_or_pos n with h0 | h0
  · subst h0
    have := h.len
    obtain rfl := List.eq_nil_of_length_eq_zero this
    exact Row.nil _ _
  · exact h.setCell (hne h0) u
theorem RowF.row (h : RowF w lo hi v xs) : RowV w v xs := by
  obtain ⟨A, n, c, e, hr, _⟩ := h; exact ⟨A, n, c, e, hr⟩
theorem RowF.below (h : RowF w lo hi v xs) (hb : Below w.heap.size w w') : RowF w' lo hi v xs := by
  obtain ⟨A, n, c, e, hr, hf⟩ := h; exact ⟨A, n, c, e, hr.below hb, hf⟩
theorem RowF.set {p : Addr} (h : RowF w lo hi v xs) (h1 : lo ≤ p.block) (h2 : p.block < hi) (u : Value) : RowF (w.setCell p u) lo hi v xs := by
  obtain ⟨A, n, c, e, hr, hf⟩ := h
  exact ⟨A, n, c, e, hr.setCell' (fun h0 ad he hh => by have := hf h0 ad he; omega) u, hf⟩
theorem RowF.old {w0 : World} (h : Row w0 A n xs) (hb : Below w0.heap.size w0 w) (hlo : w0.heap.size ≤ lo) : RowF w lo hi (.slice A n c) xs :=
  ⟨A, n, c, rfl, h.below hb, fun h0 ad he => by
    obtain ⟨b, off, e, hbl, _⟩ := h.1.2 h0
    rw [e] at he
    injection he with he
    subst he
    exact .inl (by show b < lo; omega)⟩
theorem RowF.new {t : TypeId} {base : Nat} (h : w.ownsRow base t 1 (.slice A n c) n (xs.map u64v)) (hx : W64 xs) (hhi : hi ≤ base) : RowF w lo hi (.slice A n c) xs :=
  ⟨A, n, c, rfl, Row.of_own h hx, fun _ ad he => by
    subst he
    have := own_lt_block h _ rfl
    exact .inr (by omega)⟩
theorem RowsF.nil (w : World) : RowsF w lo hi [] [] := ⟨rfl, fun i v xs h => by simp at h⟩
theorem RowsF.rows (h : RowsF w lo hi vs xss) : RowsC w vs xss := ⟨h.1, fun i v xs h1 h2 => (h.2 i v xs h1 h2).row⟩
theorem RowsF.below (h : RowsF w lo hi vs xss) (hb : Below w.heap.size w w') : RowsF w' lo hi vs xss := ⟨h.1, fun i v xs h1 h2 => (h.2 i v xs h1 h2).below hb⟩
theorem RowsF.set {p : Addr} (h : RowsF w lo hi vs xss) (h1 : lo ≤ p.block) (h2 : p.block < hi) (u : Value) : RowsF (w.setCell p u) lo hi vs xss := ⟨h.1, fun i v xs h3 h4 => (h.2 i v xs h3 h4).set h1 h2 u⟩
theorem RowsF.snoc (h : RowsF w lo hi vs xss) (hv : RowF w lo hi v xs) : RowsF w lo hi (vs ++ [v]) (xss ++ [xs]) := by
  refine ⟨by simp [h.1], fun i u ys h1 h2 => ?_⟩
  rcases Nat.lt_or_ge i vs.length with hi' | hi'
  · rw [List.getElem?_append_left hi'] at h1
    rw [List.getElem?_append_left (by rw [← h.1]; exact hi')] at h2
    exact h.2 i u ys h1 h2
  · rw [List.getElem?_append_right hi'] at h1
    rw [List.getElem?_append_right (by rw [← h.1]; exact hi')] at h2
    rw [← h.1] at h2
    rcases Nat.eq_zero_or_pos (i - vs.length) with h0 | h0
    · rw [h0] at h1 h2
      simp at h1 h2
      subst h1 h2
      exact hv
    · rw [List.getElem?_eq_none (by simp; omega)] at h1; cases h1
end

theorem or_of_and {x y : Nat} (h : x &&& y = x) : y ||| x = y := by
  apply Nat.eq_of_testBit_eq
  intro i
  have := congrArg (·.testBit i) h
  simp only [Nat.testBit_and, Nat.testBit_or] at this ⊢
  revert this
  cases x.testBit i <;> cases y.testBit i <;> simp
theorem orR_of_sub {a b : List Nat} (hl : b.length = a.length) (h : subR b a = true) : orR a b = a := by
  unfold subR at h
  rw [List.all_eq_true] at h
  unfold orR
  apply List.ext_getElem?
  intro j
  rw [hl, Nat.max_self, List.getElem?_map]
  rcases Nat.lt_or_ge j a.length with hj | hj
  · rw [List.getElem?_range hj]
    have := h j (List.mem_range.2 (by omega))
    rw [beq_iff_eq] at this
    show some (a.getD j 0 ||| b.getD j 0) = _
    rw [or_of_and this, List.getD_eq_getElem?_getD, List.getElem?_eq_getElem hj]; rfl
  · rw [List.getElem?_eq_none (by simpa using hj), List.getElem?_eq_none hj]; rfl
def orPre (a b : List (List Nat)) (k : Nat) : List (List Nat) := (List.range k).map fun i => orR (a.getD i []) (b.getD i [])
theorem orPre_all (a b : List (List Nat)) : orPre a b a.length = orM a b := rfl
theorem orPre_succ (a b : List (List Nat)) (k : Nat) : orPre a b (k + 1) = orPre a b k ++ [orR (a.getD k []) (b.getD k [])] := by
  unfold orPre; rw [List.range_succ, List.map_append]; rfl

end Go.Proofs.Ytmgockkjoogcaaa

namespace Go.Proofs.Ytmgockkjoogcaaa
open Go.RowKit
set_option linter.unusedVariables false

/-- what 'join' ends in: one of both, or a row of its own -/
def RetJoin (A B : Option Addr) (xs ys : List Nat) (w : World) (e : Ending) (w' : World) : Prop :=
  ∃ C n c, e = .returned (.slice C n c) ∧ Row w' C n (orR xs ys) ∧ Below w.heap.size w w' ∧ (C = A ∨ C = B ∨ ∀ ad, C = some ad → w.heap.size ≤ ad.block)
set_option maxHeartbeats 400000 in
theorem mat_join (A B : Option Addr) (n c d : Nat) (xs ys : List Nat) (w : World) (hr : Row w A n xs) (hs : Row w B n ys) (hn : n ≤ 1073741824) :
    Calls Try.prog 50 #[.slice A n c, .slice B n d] w (RetJoin A B xs ys w) := by
  have hl1 := hr.len
  have hl2 := hs.len
  have h1 := Lib.hid (row_Sub B A n n d c ys xs w hs hr (by omega) (by omega))
  have h2 := Lib.hid (row_Sub A B n n c d xs ys w hr hs (by omega) (by omega))
  have h3 := Lib.hid (row_OrO A B n n c d xs ys w hr hs (by omega) (by omega))
  rcases Bool.eq_false_or_eq_true (subR ys xs) with ha | ha
  · have he := Lib.hid (orR_of_sub (by omega) ha)
    replace ha := Lib.hid ha
    replace hr := Lib.hid hr
    clear hl1 hl2 hs
    go_enter Try.func50, Try.ntmps50
    go_wp2_with fail
    refine h1.out.mono ?_; rintro e w' ⟨rfl, rfl⟩
    rw [ha.out]
    go_wp2
    go_ret
    exact ⟨_, _, _, rfl, by rw [he.out]; exact hr.out, Below.refl _ _, .inl rfl⟩
  · replace ha := Lib.hid ha
    rcases Bool.eq_false_or_eq_true (subR xs ys) with hb | hb
    · have he := orR_of_sub (a := ys) (b := xs) (by omega) hb
      rw [orR_comm] at he
      replace he := Lib.hid he
      replace hb := Lib.hid hb
      replace hs := Lib.hid hs
      clear hl1 hl2 hr
      go_enter Try.func50, Try.ntmps50
      go_wp2_with fail
      refine h1.out.mono ?_; rintro e w' ⟨rfl, rfl⟩
      rw [ha.out]
      go_wp2_with fail
      refine h2.out.mono ?_; rintro e w' ⟨rfl, rfl⟩
      rw [hb.out]
      go_wp2
      go_ret
      exact ⟨_, _, _, rfl, by rw [he.out]; exact hs.out, Below.refl _ _, .inr (.inl rfl)⟩
    · replace hb := Lib.hid hb
      clear hl1 hl2 hr hs
      go_enter Try.func50, Try.ntmps50
      go_wp2_with fail
      refine h1.out.mono ?_; rintro e w' ⟨rfl, rfl⟩
      rw [ha.out]
      go_wp2_with fail
      refine h2.out.mono ?_; rintro e w' ⟨rfl, rfl⟩
      rw [hb.out]
      go_wp2_with fail
      refine h3.out.mono ?_; rintro e w1 ⟨C, p, q, rfl, ho, hx, hbb⟩
      go_wp2
      go_ret
      exact ⟨_, _, _, rfl, Row.of_own ho hx, hbb, .inr (.inr (fun ad e => by subst e; exact own_lt_block ho _ rfl))⟩

set_option maxHeartbeats 400000 in
theorem mat_Or_no (N M : Int) (A B : Option Addr) (n c m d : Nat) (w : World) (h : N ≠ M) :
    Calls Try.prog 31 #[.agg #[.int .i64 N, .slice A n c], .agg #[.int .i64 M, .slice B m d]] w (RetMat 0 [] 1 w) := by
  have hne : (N != M) = true := by simpa using h
  have ha : Below w.heap.size w (((w.alloc (.cells #[.int .i64 N, .slice A n c] 35)).alloc (.cells #[.int .i64 M, .slice B m d] 35)).alloc (.cells #[.int .i64 0, .slice none 0 0] 35)) := (((Below.refl _ _).alloc (Nat.le_refl _) _).alloc (by simp <;> omega) _).alloc (by simp <;> omega) _
  replace ha := Lib.hid ha
  clear h
  go_enter Try.func31, Try.ntmps31
  go_wp2_with fail
  exact bodyPost_ret (v := .tuple #[.agg #[.int .i64 0, .slice none 0 0], .int .i64 1]) (by simp [results, Try.results31, go_sem]) rfl ⟨none, 0, 0, rfl, RowsAt.nil _ _, Nat.le_refl _, ha.out⟩
set_option maxHeartbeats 2000000 in
theorem mat_Or (A B : Option Addr) (n c d : Nat) (xss yss : List (List Nat)) (w : World) (hr : RowsAt w A n xss) (hs : RowsAt w B n yss) (hn : n ≤ 4096)
    (hl : ∀ (i : Nat) (xs ys : List Nat), xss[i]? = some xs → yss[i]? = some ys → xs.length = ys.length ∧ xs.length ≤ 1024) :
    Calls Try.prog 31 #[.agg #[.int .i64 (n : Int), .slice A n c], .agg #[.int .i64 (n : Int), .slice B n d]] w (RetMat (n : Int) (orM xss yss) 0 w) := by
  have hmk := mk_rows .i64 .i64 n n (Nat.le_refl _) (by omega)
  have hxl := hr.len
  obtain ⟨W0, hW0⟩ : ∃ W0, W0 = ((w.alloc (.cells #[.int .i64 n, .slice A n c] 35)).alloc (.cells #[.int .i64 n, .slice B n d] 35)).alloc (.cells #[.int .i64 0, .slice none 0 0] 35) := ⟨_, rfl⟩
  have ha : Below w.heap.size w W0 := by rw [hW0]; exact (((Below.refl _ _).alloc (Nat.le_refl _) _).alloc (by simp <;> omega) _).alloc (by simp <;> omega) _
  have hBa : MatB W0 w.heap.size 35 n A n c := by rw [hW0]; exact ((MatB.new w _).below_ ((Below.refl _ _).alloc (Nat.le_refl _) _)).below_ ((Below.refl _ _).alloc (Nat.le_refl _) _)
  have hBb : MatB W0 (w.heap.size + 1) 35 n B n d := by rw [hW0]; exact (MatB.new1 w _ _).below_ ((Below.refl _ _).alloc (Nat.le_refl _) _)
  have hBr : MatB W0 (w.heap.size + 2) 35 0 none 0 0 := by
    rw [hW0]
    have h := MatB.new1 (N := 0) (A := none) (n := 0) (c := 0) (w.alloc (.cells #[.int .i64 n, .slice A n c] 35)) (.cells #[.int .i64 n, .slice B n d] 35) 35
    rwa [show (w.alloc (.cells #[.int .i64 n, .slice A n c] 35)).heap.size = w.heap.size + 1 from by simp] at h
  have hs0 : W0.heap.size = w.heap.size + 3 := by rw [hW0]; simp
  obtain ⟨W1, hW1⟩ : ∃ W1, W1 = W0.alloc (.cells (zeros n (.slice none 0 0)) 60) := ⟨_, rfl⟩
  have hb01 : Below W0.heap.size W0 W1 := by rw [hW1]; exact (Below.refl _ _).alloc (Nat.le_refl _) _
  have hs1 : W1.heap.size = w.heap.size + 4 := by rw [hW1]; simp [hs0]
  have hown0 : W1.ownsRow (w.heap.size + 3) 60 1 (.slice (some ⟨w.heap.size + 3, 0, none⟩) n n) n (filled [] n) := by
    have h := own_zeros W0 n (.slice none 0 0) 60 (by unfold maxLen; omega)
    rw [← hW1, hs0] at h
    rw [filled_nil]; exact h
  have hp : W0.heap.size = w.heap.size + 3 := hs0
  have l1 := hBa.c0
  have l2 := hBb.c0
  have hne : ((n : Int) != (n : Int)) = false := by simp
  have hBa1 := Lib.hid (hBa.below_ hb01)
  have hBb1 := Lib.hid (hBb.below_ hb01)
  have hBr1 := Lib.hid (hBr.below_ hb01)
  have ha1 := Lib.hid (below_trans2 ha hb01)
  have hs1' := Lib.hid hs1
  replace hown0 := Lib.hid hown0
  replace hr := Lib.hid hr
  replace hs := Lib.hid hs
  replace hl := Lib.hid hl
  replace hxl := Lib.hid hxl
  clear ha hBa hBb hBr hs1 hb01 hs0
  go_enter Try.func31, Try.ntmps31
  go_wp2_with fail
  rw [← hW0, ← hW1]
  clear hW1 hW0 hmk hp l1 l2
  go_loopw [19] (fun i wr => ∃ vs : List Value, vs.length ≤ n ∧ i = .int .i64 vs.length ∧ Hid (wr.ownsRow (w.heap.size + 3) 60 1 (.slice (some ⟨w.heap.size + 3, 0, none⟩) n n) n (filled vs n)) ∧ Hid (RowsF wr w.heap.size (w.heap.size + 4) vs (orPre xss yss vs.length)) ∧ Hid (MatB wr w.heap.size 35 n A n c) ∧ Hid (MatB wr (w.heap.size + 1) 35 n B n d) ∧ Hid (MatB wr (w.heap.size + 2) 35 0 none 0 0) ∧ Hid (Below w.heap.size w wr) ∧ Hid (w.heap.size + 4 ≤ wr.heap.size)) (fun i _ => n - (intOf i).toNat)
  case atStart => exact ⟨[], Nat.zero_le _, rfl, hown0, Lib.hid (RowsF.nil _), hBa1, hBb1, hBr1, ha1, Lib.hid (by rw [hs1'.out]; exact Nat.le_refl _)⟩
  case round =>
    obtain ⟨vs, hk, rfl, hown, hrows, hBa, hBb, hBr, hbr, hsr⟩ := hrel
    clear hown0 hBa1 hBb1 hBr1 ha1
    obtain ⟨k, hke⟩ : ∃ k, k = vs.length := ⟨_, rfl⟩
    rw [← hke] at hk
    rw [← hke]
    by_cases hlt : k < n
    · have hke' := Lib.hid hke
      clear hke
      obtain ⟨b1, o1, A1, n1, c1, xs, rfl, hbl1, hx1, hc1, hrx⟩ := hr.out.at_ hlt
      obtain ⟨b2, o2, B1, n2, c2, ys, rfl, hbl2, hy1, hc2, hry⟩ := hs.out.at_ hlt
      have hxy := hl.out k xs ys hx1 hy1
      have e12 : n2 = n1 := by have := hrx.len; have := hry.len; omega
      subst e12
      have hn1 : n2 ≤ 1024 := by have := hrx.len; omega
      replace hc1 := (hbr.out.cell (p := ⟨b1, o1 + k, none⟩) hbl1).trans hc1
      replace hc2 := (hbr.out.cell (p := ⟨b2, o2 + k, none⟩) hbl2).trans hc2
      have hstep : Hid (orPre xss yss (k + 1) = orPre xss yss k ++ [orR xs ys]) := Lib.hid (by rw [orPre_succ, getD_at hx1, getD_at hy1])
      have la := hBa.out.c1
      have lb := hBb.out.c1
      have hget := filled_get (vs := vs) (n := n) (by rw [← hke'.out]; exact hlt)
      have hfg := hown.out.frozenAt k
      have hcg := hown.out.cellAt k (by omega)
      rw [hke'.out, hget, ← hke'.out] at hcg
      replace hrx := Lib.hid hrx
      replace hry := Lib.hid hry
      clear hx1 hy1 hxy hget
      have hk0 : (0 : Int) ≤ (k : Int) := by omega
      have hkn : (k : Int) < (n : Int) := by omega
      go_wp2_with fail
      refine wp_region_plan 13 [(true, 0), (true, 1), (true, 2), (true, 3), (true, 4), (true, 5), (true, 6), (true, 7), (true, 8), (true, 9), (true, 10), (true, 11), (false, 12)] (by kernel_rfl) (by kernel_rfl) (fun W hW => ?_)
      have hbW : Below wr.heap.size wr W := by rw [hW.out]; exact (Below.refl _ _).drew
      have m1 : W.cell? ⟨w.heap.size, 1, none⟩ = some (.slice (some ⟨b1, o1, none⟩) n c) := by rw [hW.out]; exact la
      have m2 : W.cell? ⟨w.heap.size + 1, 1, none⟩ = some (.slice (some ⟨b2, o2, none⟩) n d) := by rw [hW.out]; exact lb
      have m3 : W.cell? ⟨b1, o1 + k, none⟩ = some (.slice A1 n2 c1) := by rw [hW.out]; exact hc1
      have m4 : W.cell? ⟨b2, o2 + k, none⟩ = some (.slice B1 n2 c2) := by rw [hW.out]; exact hc2
      have hbrW := Lib.hid (below_trans2 hbr.out hbW)
      have hownW := Lib.hid (own_below hown.out hbW)
      have hrowsW := Lib.hid (hrows.out.below hbW)
      have hBaW := Lib.hid (hBa.out.below_ hbW)
      have hBbW := Lib.hid (hBb.out.below_ hbW)
      have hBrW := Lib.hid (hBr.out.below_ hbW)
      have hsW : Hid (w.heap.size + 4 ≤ W.heap.size) := Lib.hid (Nat.le_trans hsr.out hbW.size)
      have hj := Lib.hid (mat_join A1 B1 n2 c1 c2 xs ys W (hrx.out.below hbrW.out) (hry.out.below hbrW.out) (by omega))
      clear hbW hown hrows hBa hBb hBr hbr hsr la lb hc1 hc2 hfg hcg
      simp only [List.drop_succ_cons, List.drop_zero]
      iterate 12
        refine wpPlan_float (v := ?_) rfl (by rfl) (fun w' hw' => ?_) (fun K hK => ?_)
        rotate_left
        · (go_simp; try with_reducible rfl)
        go_simp
        refine hK _ ?_
        clear hK K
      refine wpPlan_only rfl (by rfl) (fun K hK => ?_)
      go_simp
      refine hj.out.mono ?_; rintro e w1 ⟨C, p, q, rfl, hC, hb1, hfr⟩
      refine hK _ _ hb1 (wpPlan_nil ?_)
      clear hK K
      have hown1 := own_below hownW.out hb1
      have hget := filled_get (vs := vs) (n := n) (by rw [← hke'.out]; exact hlt)
      have hcg := hown1.cellAt k (by omega)
      rw [hke'.out, hget, ← hke'.out] at hcg
      have hfg := hown1.frozenAt k
      have hCF : Hid (RowF w1 w.heap.size (w.heap.size + 4) (.slice C p q) (orR xs ys)) := Lib.hid ⟨C, p, q, rfl, hC, fun h0 ad he => by
        have hp0 : 0 < n2 := by
          have h1 := hC.len
          have h2 := orR_len xs ys
          have h3 := hrx.out.len
          have h4 := hry.out.len
          omega
        rcases hfr with h | h | h
        · subst h
          obtain ⟨b, off, e, hbl, _⟩ := hrx.out.1.2 hp0
          rw [e] at he
          injection he with he
          subst he
          exact .inl hbl
        · subst h
          obtain ⟨b, off, e, hbl, _⟩ := hry.out.1.2 hp0
          rw [e] at he
          injection he with he
          subst he
          exact .inl hbl
        · exact .inr (Nat.le_trans hsW.out (h ad he))⟩
      have hrows1 := Lib.hid ((hrowsW.out.below hb1).snoc hCF.out)
      have hBa1 := Lib.hid (hBaW.out.below_ hb1)
      have hBb1 := Lib.hid (hBbW.out.below_ hb1)
      have hBr1 := Lib.hid (hBrW.out.below_ hb1)
      have hbr1 := Lib.hid (below_trans2 hbrW.out hb1)
      have hsr1 := Lib.hid (Nat.le_trans hsW.out hb1.size)
      replace hown1 := Lib.hid hown1
      clear hC hb1 hfr hget hownW hrowsW hBaW hBbW hBrW hbrW hsW m1 m2 m3 m4
      go_wp2_with fail
      refine NoPanic.normal ?_
      go_wp2_with fail
      go_roundw
      case rel =>
        refine ⟨vs ++ [.slice C p q], by have := hke'.out; simp; omega, by rw [List.length_append, ← hke'.out]; simp; try omega, ?_, ?_, ?_, ?_, ?_, ?_, ?_⟩
        · refine Lib.hid ?_
          rw [← filled_set (by rw [← hke'.out]; exact hlt), ← hke'.out]
          exact (hown1.out.stored k (.slice C p q)).1
        · refine Lib.hid ?_
          rw [List.length_append, List.length_singleton, ← hke'.out, hstep.out]
          have h := hrows1.out.set (p := ⟨w.heap.size + 3, k, none⟩) (by simp <;> omega) (by simp <;> omega) (.slice C p q)
          rw [← hke'.out] at h
          exact h
        · exact Lib.hid (hBa1.out.far (by simp <;> omega) _)
        · exact Lib.hid (hBb1.out.far (by simp <;> omega) _)
        · exact Lib.hid (hBr1.out.far (by simp <;> omega) _)
        · exact Lib.hid (hbr1.out.setCell (by simp <;> omega) _)
        · exact Lib.hid (by simpa using hsr1.out)
      case measure => simp [intOf]; omega
    · have hkn : k = n := by omega
      have hvn : vs.length = n := by rw [← hke, hkn]
      clear hlt
      have l1 := hBa.out.c0
      have f20 := hBr.out.c0
      have f21 := hBr.out.c1
      have g20 := hBr.out.frozen 0
      have g21 := hBr.out.frozen 1
      replace hvn := Lib.hid hvn
      replace hke := Lib.hid hke
      obtain rfl := hkn
      go_wp2_with fail
      have hcc := hBr.out.two (.int .i64 k) (.slice (some ⟨w.heap.size + 3, 0, none⟩) k k)
      have hc1 := hcc.1
      have hc2 := hcc.2
      clear hcc f20 f21 g20 g21 l1
      refine bodyPost_ret (v := .tuple #[.agg #[.int .i64 k, .slice (some ⟨w.heap.size + 3, 0, none⟩) k k], .int .i64 0]) (by simp [results, Try.results31, go_sem, hc1, hc2]) rfl ⟨_, _, _, rfl, ⟨vs, ?_, ?_⟩, Nat.le_refl _, ?_⟩
      · have h := hown.out
        rw [filled_all hvn.out] at h
        exact Rd.of_own' (own_far (own_far h (p := ⟨w.heap.size + 2, 0, none⟩) (by simp [Value.ownBlock]) _) (p := ⟨w.heap.size + 2, 1, none⟩) (by simp [Value.ownBlock]) _)
      · have h := (hrows.out.set (p := ⟨w.heap.size + 2, 0, none⟩) (by simp) (by simp <;> omega) (.int .i64 k)).set (p := ⟨w.heap.size + 2, 1, none⟩) (by simp) (by simp <;> omega) (.slice (some ⟨w.heap.size + 3, 0, none⟩) k k)
        have he : orPre xss yss vs.length = orM xss yss := by rw [hvn.out, ← orPre_all, hxl.out]
        rw [he] at h
        exact h.rows
      · exact (hbr.out.setCell (by simp <;> omega) _).setCell (by simp <;> omega) _

end Go.Proofs.Ytmgockkjoogcaaa

namespace Go.Proofs.Ytmgockkjoogcaaa
open Go.RowKit
set_option linter.unusedVariables false

theorem and_ones (x t : Nat) : x &&& (2 ^ t - 1) = x % 2 ^ t := Nat.and_two_pow_sub_one_eq_mod x t
theorem mod_eq_of_bits {x t : Nat} (hx : x < 18446744073709551616) (ht : t ≤ 64) : (x % 2 ^ t = x) ↔ ∀ b, b < 64 → b < t ∨ x.testBit b = false := by
  constructor
  · intro h b hb
    rcases Nat.lt_or_ge b t with hbt | hbt
    · exact .inl hbt
    · right
      have hlt : x < 2 ^ t := by rw [← h]; exact Nat.mod_lt _ (Nat.two_pow_pos t)
      exact Nat.testBit_lt_two_pow (Nat.lt_of_lt_of_le hlt (Nat.pow_le_pow_right (by omega) hbt))
  · intro h
    apply Nat.eq_of_testBit_eq
    intro b
    rw [Nat.testBit_mod_two_pow]
    rcases Nat.lt_or_ge b t with hbt | hbt
    · simp [hbt]
    · rcases Nat.lt_or_ge b 64 with hb | hb
      · rcases h b hb with h1 | h1
        · omega
        · rw [h1]; simp
      · rw [bit_out hx hb]; simp
theorem fitsR_len {r : List Nat} {n : Int} (h : ((r.length : Int) = wordsZ n) → False) : fitsR r n = false := by
  unfold fitsR; rw [decide_eq_false h]; rfl
theorem fitsR_last {r : List Nat} {n k t x : Nat} (hn : 0 < n) (hk : r.length = k + 1) (ht : n = 64 * k + t) (ht0 : 0 < t) (ht64 : t ≤ 64) (hx : r[k]? = some x) (hx64 : x < 18446744073709551616) : fitsR r (n : Int) = (x &&& (2 ^ t - 1) == x) := by
  have hw : ((r.length : Int) = wordsZ (n : Int)) := by unfold wordsZ; rw [if_neg (by omega)]; omega
  unfold fitsR
  rw [decide_eq_true hw, Bool.true_and, Bool.eq_iff_iff, List.all_eq_true, beq_iff_eq, and_ones, mod_eq_of_bits hx64 ht64]
  have hg : r.getD k 0 = x := Row.get hx
  constructor
  · intro h b hb
    have := h (64 * k + b) (List.mem_range.2 (by omega))
    rw [hasR_w r k b hb, hg] at this
    rcases Nat.lt_or_ge b t with hbt | hbt
    · exact .inl hbt
    · right
      rw [decide_eq_false (by omega), Bool.false_or] at this
      simpa using this
  · intro h j hj
    have hj' := List.mem_range.1 hj
    rcases Nat.lt_or_ge j n with hjn | hjn
    · rw [decide_eq_true (by omega)]; rfl
    · have e : j = 64 * k + (j - 64 * k) := by omega
      rw [e, hasR_w r k (j - 64 * k) (by omega), hg]
      rcases h (j - 64 * k) (by omega) with h1 | h1
      · omega
      · rw [h1]; simp


theorem rightM_out {N : Int} {xss : List (List Nat)} (h : N < 0 ∨ 4097 ≤ N) : rightM N xss = false := by
  unfold rightM
  rcases h with h | h
  · rw [decide_eq_false (p := 0 ≤ N) (by omega)]; rfl
  · rw [decide_eq_false (p := N ≤ 4096) (by omega)]; simp
theorem rightM_len {N : Int} {xss : List (List Nat)} (h : (xss.length : Int) ≠ N) : rightM N xss = false := by
  unfold rightM; rw [decide_eq_false h]; simp
theorem rightM_row {N : Int} {xss : List (List Nat)} {k : Nat} {xs : List Nat} (hx : xss[k]? = some xs) (h : fitsR xs N = false) : rightM N xss = false := by
  unfold rightM
  rw [List.all_eq_false.2 ⟨xs, List.mem_of_getElem? hx, by rw [h]; simp⟩, Bool.and_false]
theorem rightM_yes {n : Nat} {xss : List (List Nat)} (h1 : n ≤ 4096) (h2 : xss.length = n) (h : ∀ (k : Nat) (xs : List Nat), xss[k]? = some xs → fitsR xs (n : Int) = true) : rightM (n : Int) xss = true := by
  unfold rightM
  rw [decide_eq_true (p := (0 : Int) ≤ n) (by omega), decide_eq_true (p := (n : Int) ≤ 4096) (by omega), decide_eq_true (p := (xss.length : Int) = n) (by omega)]
  simp only [Bool.true_and, List.all_eq_true]
  intro xs hxs
  obtain ⟨k, hk⟩ := List.getElem?_of_mem hxs
  exact h k xs hk


end Go.Proofs.Ytmgockkjoogcaaa

namespace Go.Proofs.Ytmgockkjoogcaaa
open Go.RowKit
set_option linter.unusedVariables false

def allF (f : List Nat → List Nat → Bool) (xss yss : List (List Nat)) : Bool := (List.range xss.length).all fun i => f (xss.getD i []) (yss.getD i [])
theorem allF_no {f : List Nat → List Nat → Bool} {xss yss : List (List Nat)} {k : Nat} {xs ys : List Nat} (hx : xss[k]? = some xs) (hy : yss[k]? = some ys) (h : f xs ys = false) : allF f xss yss = false := by
  unfold allF
  refine List.all_eq_false.2 ⟨k, List.mem_range.2 (List.getElem?_eq_some_iff.1 hx).1, ?_⟩
  rw [getD_at hx, getD_at hy, h]; simp
theorem allF_yes {f : List Nat → List Nat → Bool} {xss yss : List (List Nat)} (hl : xss.length = yss.length) (h : ∀ (k : Nat) (xs ys : List Nat), k < xss.length → xss[k]? = some xs → yss[k]? = some ys → f xs ys = true) : allF f xss yss = true := by
  unfold allF
  rw [List.all_eq_true]
  intro k hk
  have hk' := List.mem_range.1 hk
  have hx := List.getElem?_eq_getElem hk'
  have hy := List.getElem?_eq_getElem (l := yss) (i := k) (by omega)
  rw [getD_at hx, getD_at hy]
  exact h k _ _ hk' hx hy
theorem allF_sub (xss yss : List (List Nat)) : allF subR xss yss = subM xss yss := rfl
theorem allF_same {xss yss : List (List Nat)} (hl : xss.length = yss.length) : allF sameR xss yss = sameM xss yss := by
  rw [Bool.eq_iff_iff]
  unfold sameM
  rw [beq_iff_eq]
  constructor
  · intro h
    unfold allF at h
    rw [List.all_eq_true] at h
    apply List.ext_getElem hl
    intro i h1 h2
    have := h i (List.mem_range.2 h1)
    rw [getD_at (List.getElem?_eq_getElem h1), getD_at (List.getElem?_eq_getElem h2)] at this
    unfold sameR at this
    simpa using this
  · intro h
    subst h
    exact allF_yes rfl (fun k xs ys _ hx hy => by rw [hx] at hy; injection hy with hy; subst hy; exact sameR_refl xs)




end Go.Proofs.Ytmgockkjoogcaaa

namespace Go.Proofs.Ytmgockkjoogcaaa
open Go.RowKit
set_option linter.unusedVariables false

def cellsP (ps : List (Int × Int)) : List Value := ps.flatMap fun p => [.int .i64 p.1, .int .i64 p.2]
theorem cellsP_len (ps : List (Int × Int)) : (cellsP ps).length = ps.length * 2 := by
  induction ps with
  | nil => rfl
  | cons p ps ih =>
    unfold cellsP at ih ⊢
    rw [List.flatMap_cons, List.length_append, ih]
    simp; omega
theorem cellsP_snoc (ps : List (Int × Int)) (p : Int × Int) : cellsP (ps ++ [p]) = cellsP ps ++ [.int .i64 p.1, .int .i64 p.2] := by
  unfold cellsP; rw [List.flatMap_append]; simp
theorem cellsP_get : ∀ (ps : List (Int × Int)) (j : Nat) (p : Int × Int), ps[j]? = some p → (cellsP ps)[j * 2]? = some (.int .i64 p.1) ∧ (cellsP ps)[j * 2 + 1]? = some (.int .i64 p.2)
  | [], j, p, h => by simp at h
  | q :: ps, 0, p, h => by
    simp at h
    subst h
    unfold cellsP
    simp
  | q :: ps, j + 1, p, h => by
    have ih := cellsP_get ps j p (by simpa using h)
    unfold cellsP at ih ⊢
    rw [List.flatMap_cons]
    rw [show (j + 1) * 2 = j * 2 + 2 from by omega]
    exact ⟨by simpa using ih.1, by simpa using ih.2⟩
def OkI (ps : List (Int × Int)) : Prop := ∀ p ∈ ps, (-9223372036854775808 ≤ p.1 ∧ p.1 < 9223372036854775808) ∧ (-9223372036854775808 ≤ p.2 ∧ p.2 < 9223372036854775808)
theorem PairsAt.of_own {w : World} {base n : Nat} {e : TypeId} {v : Value} {ps : List (Int × Int)} (h : w.ownsRow base e 2 v n (cellsP ps)) (hp : OkI ps) : ∃ A c, v = .slice A n c ∧ PairsAt w A n ps := by
  have hlen : ps.length = n := by have := h.1; rw [cellsP_len] at this; omega
  rcases h.2 with ⟨rfl, h0⟩ | ⟨g, cap, cur, rfl, hbg, hg, hnc, hcm, hcs, htake⟩
  · obtain rfl : n = 0 := h0
    exact ⟨none, 0, rfl, hlen, hp, fun hh => by omega⟩
  · refine ⟨_, _, rfl, hlen, hp, fun hn => ⟨g, 0, rfl, (Array.getElem?_eq_some_iff.1 hg).1, fun j p hj => ?_⟩⟩
    have hjl : j < ps.length := (List.getElem?_eq_some_iff.1 hj).1
    obtain ⟨h1, h2⟩ := cellsP_get ps j p hj
    have key : ∀ q u, q < n * 2 → (cellsP ps)[q]? = some u → w.cell? ⟨g, 0 + q, none⟩ = some u := fun q u hq hu => by
      rw [Nat.zero_add, cell_of_row w g q cur e (0, 0) hg]
      rw [← htake, List.getElem?_take_of_lt hq] at hu
      simpa using hu
    refine ⟨key _ _ (by omega) h1, ?_⟩
    have := key (j * 2 + 1) _ (by omega) h2
    rwa [show 0 + (j * 2 + 1) = 0 + j * 2 + 1 from by omega] at this

/-! ### the pairs of a matrix -/
def pairsK (xss : List (List Nat)) (k : Nat) : List (Int × Int) := (List.range k).flatMap fun i => (listR (xss.getD i [])).map fun j => ((i : Int), j)
def pairsM (xss : List (List Nat)) : List (Int × Int) := pairsK xss xss.length
theorem pairsK_succ {xss : List (List Nat)} {k : Nat} {xs : List Nat} (h : xss[k]? = some xs) : pairsK xss (k + 1) = pairsK xss k ++ (listR xs).map fun j => ((k : Int), j) := by
  unfold pairsK
  rw [List.range_succ, List.flatMap_append, List.flatMap_singleton, getD_at h]
def sumK (xss : List (List Nat)) (k : Nat) : Nat := ((List.range k).map fun i => countR (xss.getD i [])).sum
theorem sumK_succ {xss : List (List Nat)} {k : Nat} {xs : List Nat} (h : xss[k]? = some xs) : sumK xss (k + 1) = sumK xss k + countR xs := by
  unfold sumK
  rw [List.range_succ, List.map_append, List.sum_append, List.map_singleton, List.sum_singleton, getD_at h]
theorem sumK_le {xss : List (List Nat)} (B : Nat) (hl : ∀ (i : Nat) (xs : List Nat), xss[i]? = some xs → xs.length ≤ B) : ∀ k, sumK xss k ≤ k * (64 * B)
  | 0 => by simp [sumK]
  | k + 1 => by
    have ih := sumK_le B hl k
    unfold sumK at ih ⊢
    rw [List.range_succ, List.map_append, List.sum_append, List.map_singleton, List.sum_singleton]
    have : countR (xss.getD k []) ≤ 64 * B := by
      rcases Nat.lt_or_ge k xss.length with hk | hk
      · have hx := List.getElem?_eq_getElem hk
        rw [getD_at hx]
        exact Nat.le_trans (countR_le _) (Nat.mul_le_mul_left _ (hl k _ hx))
      · rw [List.getD_eq_getElem?_getD, List.getElem?_eq_none hk]; simp [countR]
    rw [Nat.succ_mul]
    omega
theorem pairsK_len (xss : List (List Nat)) (k : Nat) : (pairsK xss k).length = sumK xss k := by
  unfold pairsK sumK
  rw [List.length_flatMap]
  congr 1
  apply List.map_congr_left
  intro i _
  rw [List.length_map, listR_len]
theorem pairsM_ok (xss : List (List Nat)) (h1 : xss.length ≤ 1073741824) (h : ∀ (i : Nat) (xs : List Nat), xss[i]? = some xs → xs.length ≤ 1073741824) : OkI (pairsM xss) := by
  intro p hp
  unfold pairsM pairsK at hp
  rw [List.mem_flatMap] at hp
  obtain ⟨i, hi, hp⟩ := hp
  have hil := List.mem_range.1 hi
  have hx := List.getElem?_eq_getElem hil
  rw [getD_at hx, List.mem_map] at hp
  obtain ⟨j, hj, rfl⟩ := hp
  unfold listR at hj
  obtain ⟨q, hq, rfl⟩ := List.mem_map.1 hj
  have := ((listN_mem _ q).1 hq).1
  have := h i _ hx
  show (-9223372036854775808 ≤ (i : Int) ∧ (i : Int) < 9223372036854775808) ∧ (-9223372036854775808 ≤ (q : Int) ∧ (q : Int) < 9223372036854775808)
  omega

theorem info_pair : (Try.prog.info? 62).map (fun i => (i.zero, i.size, i.bytes)) = some (some (.agg #[.int .i64 0, .int .i64 0]), 2, 16) := by kernel_rfl
theorem mk_pairs (kl kc : IntKind) (c : Nat) (hc : c ≤ 1099511627776) (W : World) :
    (Instr.makeSlice 61 (.int kl 0) (.int kc (c : Int))).run Try.prog W = .ok (.slice (some ⟨W.heap.size, 0, none⟩) 0 c) (W.alloc (.cells (madeCells #[.int .i64 0, .int .i64 0] (c * 2)) 62)) := by
  obtain ⟨i, hi, hz0, hz1, hz2⟩ := info_parts info_pair
  have hr := run_make (P := Try.prog) W _ _ i _ Try.underlying61 hi hz0 kl kc 0 c (by omega) (by omega) (by rw [hz2]; omega) (by omega)
  rw [hr, hz1]
  rfl
theorem cell_two_new (w : World) (t : TypeId) (x y : Value) : ∀ (j : Nat) (u : Value), [x, y][j]? = some u → (w.alloc (.cells #[x, y] t)).cell? ((⟨w.heap.size, 0, none⟩ : Addr).add j) = some u := by
  intro j u hu
  have hB := Blk.new w t [x, y]
  have h := hB.cell j
  have e : (⟨w.heap.size, 0, none⟩ : Addr).add j = ⟨w.heap.size, j, none⟩ := by unfold Addr.add; split <;> simp_all
  rw [e]
  exact h.trans hu

/-- what a call that answers pairs ends in -/
def RetPairs (ps : List (Int × Int)) (w : World) (e : Ending) (w' : World) : Prop := ∃ A n c, e = .returned (.slice A n c) ∧ PairsAt w' A n ps ∧ Below w.heap.size w w'

end Go.Proofs.Ytmgockkjoogcaaa
