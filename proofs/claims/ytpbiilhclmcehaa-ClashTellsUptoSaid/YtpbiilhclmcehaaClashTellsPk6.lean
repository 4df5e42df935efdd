/- The contract of the document's own answer of layer 9: Of. The contracts of the document's own answers of layer 9: Same, Small. The contracts of the document's own answers of layer 11: From, Fill, Whole, Readers. The contracts of the document's own answers of layer 12: Ahead, Past, Po. Contracts of package hull: place, below, Closed, Loop. Contracts of the document's own answers of layer 4: Closed, Loop. The contracts of the document's own answers of layer 16: Of, With, Writes, Kept. -/
import Derived.Test.YtpbiilhclmcehaaClashTellsPk5
import Derived.Test.YtpbiilhclmcehaaClashTellsPk3
import Derived.Test.YtpbiilhclmcehaaClashTellsPk2
import Derived.Test.YtpbiilhclmcehaaClashTellsPk4
import Derived.BigQuiet
namespace Go.Proofs.Ytpbiilhclmcehaa
open Go.RowKit
set_option linter.unusedVariables false

theorem Blk.not_row {w : World} {g : Nat} {t e : TypeId} {cs : List Value} {base size n : Nat} {v : Value} {xs : List Value} (h : Blk w g t cs) (hte : t ≠ e) (hr : w.ownsRow base e size v n xs) : v.ownBlock ≠ some g := by
  rcases hr.2 with ⟨rfl, _⟩ | ⟨k, cap, cur, rfl, _, hk, _⟩
  · intro h; cases h
  · intro he
    have : k = g := by simpa [Value.ownBlock] using he
    subst this
    rw [show w.heap[k]? = _ from h] at hk
    injection hk with hk
    injection hk with _ h2 _
    exact hte h2
theorem Blk.kept {w w' : World} {g : Nat} {t : TypeId} {cs : List Value} {row : Option Nat} (h : Blk w g t cs) (hg : w.grownBy w' row) (hne : row ≠ some g) : Blk w' g t cs :=
  (hg.block g h.lt (fun e => hne e.symm)).trans h
theorem own_farT {w : World} {g i : Nat} {t e : TypeId} {cs : List Value} {base size n : Nat} {v : Value} {xs : List Value} (hr : w.ownsRow base e size v n xs) (h : Blk w g t cs) (hte : t ≠ e) (u : Value) : (w.setCell ⟨g, i, none⟩ u).ownsRow base e size v n xs := by
  have hne := h.not_row hte hr
  refine ⟨hr.1, ?_⟩
  rcases hr.2 with h1 | ⟨k, cap, cur, rfl, hb, hk, r⟩
  · exact .inl h1
  · refine .inr ⟨k, cap, cur, rfl, hb, ?_, r⟩
    rw [Below.heap_setCell w ⟨g, i, none⟩ u k (fun e => hne (by rw [e]; rfl))]
    exact hk
/-- what is built may be told -/
structure StOk (st : StF) : Prop where
  s : ∀ x ∈ st.1, x.size ≤ 9223372036854775807
  i : ∀ x ∈ st.2, It.Ok x
  l : st.1.length ≤ st.2.length
  n : st.2.length ≤ 4398046511104
theorem StOk.nil : StOk ([], []) := ⟨fun x h => by simp at h, fun x h => by simp at h, Nat.le_refl _, by simp⟩
theorem StOk.one {st : StF} (h : StOk st) {se pl : Nat} {o : OpT} (hn : st.2.length < 4398046511104) (hse : se ≤ 4398046511104) (hpl : pl ≤ 4398046511104) (ho : (-9223372036854775808 ≤ o.2.2 ∧ o.2.2 < 9223372036854775808) ∧ o.2.1.size ≤ 9223372036854775807) : StOk (oneF se st (o, pl)) := by
  have hl := addV_len st.1 o.2.1
  have hf := findZ_range (addV st.1 o.2.1) o.2.1
  have h1 := h.l
  refine ⟨fun x hx => ?_, fun x hx => ?_, ?_, ?_⟩
  · simp only [oneF] at hx
    by_cases hfz : findZ st.1 o.2.1 < 0
    · rw [addV_new hfz] at hx
      rcases List.mem_append.1 hx with hx | hx
      · exact h.s x hx
      · rw [List.mem_singleton.1 hx]; exact ho.2
    · rw [addV_old hfz] at hx; exact h.s x hx
  · simp only [oneF] at hx
    rcases List.mem_append.1 hx with hx | hx
    · exact h.i x hx
    · rw [List.mem_singleton.1 hx]
      have := h.n
      exact ⟨by simp only; omega, by simp only; omega, by simp only; omega, by simp only; omega, by simp only; omega, by simp only; omega, ho.1.1, ho.1.2⟩
  · simp only [oneF, List.length_append, List.length_cons, List.length_nil]; omega
  · simp only [oneF, List.length_append, List.length_cons, List.length_nil]; omega
/-- while facts are built: in the variable g1, of which the answer's is g0 -/
structure FI (w wr : World) (g0 g1 : Nat) (v u : Value) (st : StF) : Prop where
  r : Blk wr g0 30 [.slice none 0 0, .slice none 0 0, .slice none 0 0]
  f : Blk wr g1 30 [v, u, .slice none 0 0]
  ov : wr.ownsRow w.heap.size 9 1 v st.1.length (encS.all st.1)
  ou : wr.ownsRow w.heap.size 48 5 u st.2.length (encT.all st.2)
  b : Below w.heap.size w wr
  ok : StOk st
  l0 : w.heap.size ≤ g0
  l1 : g0 < g1
theorem FI.later {w wr w' : World} {g0 g1 : Nat} {v u : Value} {st : StF} (h : FI w wr g0 g1 v u st) (hb : Below wr.heap.size wr w') : FI w w' g0 g1 v u st :=
  ⟨h.r.below hb h.r.lt, h.f.below hb h.f.lt, own_below h.ov hb, own_below h.ou hb, below_trans2 h.b hb, h.ok, h.l0, h.l1⟩
theorem info_str : (Try.prog.info? 9).map (fun i => (i.zero, i.size, i.bytes)) = some (some (.string .empty), 1, 16) := by kernel_rfl
theorem info_item : (Try.prog.info? 48).map (fun i => (i.zero, i.size, i.bytes)) = some (some (.agg #[.int .i64 0, .int .i64 0, .bool false, .int .i64 0, .int .i64 0]), 5, 40) := by kernel_rfl
set_option maxRecDepth 100000 in
set_option maxHeartbeats 4000000 in
theorem ref9_Of (A : Option Addr) (n c : Nat) (hs : List (List OpT)) (w : World) (hH : HistAt w A n hs) (hn : n ≤ 1099511627776) (hF : (allO hs).length ≤ 1099511627776) :
    Calls Try.prog 25 #[.slice A n c] w fun e w' => ∃ v : FV, e = .returned (.tuple #[.agg #[.slice v.A v.n v.c, .slice v.B v.m v.d, .slice v.C v.k v.e], .int .i64 (if rightL hs = true then 0 else 1)]) ∧
      FactsAt w' v (if rightL hs = true then facO hs else ⟨[], [], []⟩) ∧ Below w.heap.size w w' := by
  obtain ⟨i0, hi, hz0, hz1, hz2⟩ := info_parts info_str
  obtain ⟨j0, ji, jz0, jz1, jz2⟩ := info_parts info_item
  replace hi := Lib.hid hi
  replace hz0 := Lib.hid hz0
  replace hz1 := Lib.hid hz1
  replace hz2 := Lib.hid hz2
  replace ji := Lib.hid ji
  replace jz0 := Lib.hid jz0
  replace jz1 := Lib.hid jz1
  replace jz2 := Lib.hid jz2
  have hlen := Lib.hid hH.len
  have hH0 := Lib.hid hH
  obtain ⟨W0, hW0⟩ : ∃ W, W = w.alloc (.cells #[.slice none 0 0, .slice none 0 0, .slice none 0 0] 30) := ⟨_, rfl⟩
  obtain ⟨g0, hg0⟩ : ∃ g, g = w.heap.size := ⟨_, rfl⟩
  have k0 : Blk W0 g0 30 [.slice none 0 0, .slice none 0 0, .slice none 0 0] := by rw [hW0, hg0]; exact Blk.new w _ _
  have bb := Lib.hid (show Below w.heap.size w W0 from by rw [hW0]; exact (Below.refl _ w).alloc (Nat.le_refl _) _)
  have cR := Lib.hid (ref6_Right A n c hs W0 (hH.below bb.out) (by omega) (by omega))
  replace hF := Lib.hid hF
  cases hr : rightL hs with
  | false =>
    rw [hr] at cR
    replace hr := Lib.hid hr
    clear hH
    go_enter Try.func25, Try.ntmps25
    go_wp2_with (rw [← hW0, ← hg0]; clear hW0; replace hg0 := Lib.hid hg0)
    refine cR.out.mono ?_; rintro e w1 ⟨rfl, b⟩
    replace bb := Lib.hid (below_trans2 bb.out b)
    replace k0 := k0.below b k0.lt
    clear b
    have c0 := k0.cell 0
    have c1 := k0.cell 1
    have c2 := k0.cell 2
    have f0 := k0.frozen 0
    have f1 := k0.frozen 1
    have f2 := k0.frozen 2
    go_wp2_with fail
    have k3 := ((k0.set_ 0 (.slice none 0 0)).set_ 1 (.slice none 0 0)).set_ 2 (.slice none 0 0)
    have e0 := k3.cell 0
    have e1 := k3.cell 1
    have e2 := k3.cell 2
    refine bodyPost_ret (v := .tuple #[.agg #[.slice none 0 0, .slice none 0 0, .slice none 0 0], .int .i64 1]) (by simp [results, Try.results25, go_sem, e0, e1, e2]) rfl ⟨⟨none, 0, 0, none, 0, 0, none, 0, 0⟩, rfl, ⟨LAt.nil _ _ _, Nat.le_refl _, by simp, LAt.nil _ _ _, Nat.le_refl _, by simp, LAt.nil _ _ _, Nat.le_refl _, by simp⟩, ?_⟩
    exact ((bb.out.setCell (by rw [hg0.out]; exact Nat.le_refl _) _).setCell (by rw [hg0.out]; exact Nat.le_refl _) _).setCell (by rw [hg0.out]; exact Nat.le_refl _) _
  | true =>
    rw [hr] at cR
    replace hr := Lib.hid hr
    replace hH := Lib.hid (hH.below bb.out)
    go_enter Try.func25, Try.ntmps25
    go_wp2_with (rw [← hW0, ← hg0]; clear hW0; replace hg0 := Lib.hid hg0)
    refine cR.out.mono ?_; rintro e w1 ⟨rfl, b⟩
    replace bb := Lib.hid (below_trans2 bb.out b)
    replace hH := Lib.hid (hH.out.below b)
    replace k0 := k0.below b k0.lt
    obtain ⟨W1, hW1⟩ : ∃ W, W = w1.alloc (.cells #[.slice none 0 0, .slice none 0 0, .slice none 0 0] 30) := ⟨_, rfl⟩
    obtain ⟨g1, hg1⟩ : ∃ g, g = w1.heap.size := ⟨_, rfl⟩
    have hFI : FI w W1 g0 g1 (.slice none 0 0) (.slice none 0 0) ([], []) := by
      have b1 : Below w1.heap.size w1 W1 := by rw [hW1]; exact (Below.refl _ w1).alloc (Nat.le_refl _) _
      exact ⟨k0.below b1 k0.lt, by rw [hW1, hg1]; exact Blk.new w1 _ _, World.ownsRow_nil _ _ _ _, World.ownsRow_nil _ _ _ _, below_trans2 bb.out b1, StOk.nil, by rw [hg0.out]; exact Nat.le_refl _, by rw [hg1]; exact k0.lt⟩
    replace hH := Lib.hid (hH.out.below (show Below w1.heap.size w1 W1 from by rw [hW1]; exact (Below.refl _ w1).alloc (Nat.le_refl _) _))
    replace hFI := Lib.hid hFI
    clear b k0 bb cR
    go_wp2_with (rw [← hW1, ← hg1]; clear hW1; replace hg1 := Lib.hid hg1)
    go_loopw [5] (fun i wr => ∃ (k : Nat) (v u : Value), k ≤ n ∧ i = .int .i64 k ∧ Hid (FI w wr g0 g1 v u (hisF (hs.take k))) ∧ Hid (HistAt wr A n hs)) (fun i _ => n - (intOf i).toNat)
    case atStart => exact ⟨0, _, _, Nat.zero_le _, rfl, hFI, hH⟩
    case round =>
      obtain ⟨k, v, u, hk, rfl, hI, hHr⟩ := hrel
      by_cases hlt : k < n
      · obtain ⟨b1, off, B, m, cc, os, rfl, hbl, hos, hcell, hmc, hm63, hO⟩ := hHr.out.at_ hlt
        have hlt' : (k : Int) < (n : Int) := by omega
        have hol := Lib.hid hO.len
        have htk := Lib.hid (List.take_succ_eq_append_getElem (List.getElem?_eq_some_iff.1 hos).1)
        rw [(List.getElem?_eq_some_iff.1 hos).2] at htk
        replace hos := Lib.hid hos
        replace hO := Lib.hid hO
        go_wp2_with fail
        go_loopw [6] (fun i wr => ∃ (j : Nat) (v u : Value), j ≤ m ∧ i = .int .i64 j ∧ Hid (FI w wr g0 g1 v u (sesF k (os.take j) (hisF (hs.take k)))) ∧ Hid (HistAt wr (some ⟨b1, off, none⟩) n hs)) (fun i _ => m - (intOf i).toNat)
        case atStart => exact ⟨0, v, u, Nat.zero_le _, rfl, hI, hHr⟩
        case round =>
          clear hI hHr hcell hO
          obtain ⟨j, v, u, hj, rfl, hI, hHr⟩ := hrel
          obtain ⟨b1', off', B, m', cc, os', e1, hbl, hos', hcell, hmc, hm63, hO⟩ := hHr.out.at_ hlt
          injection e1 with e1
          injection e1 with e1 e2
          subst e1; subst e2
          obtain rfl : os' = os := by rw [hos.out] at hos'; injection hos' with h; exact h.symm
          obtain rfl : m' = m := by rw [← hO.len]; exact hol.out
          clear hos'
          by_cases hjm : j < m'
          · obtain ⟨b2, off2, o, rfl, hb2, ho, hok, x0, x1, x2⟩ := hO.at_ hjm
            have hjm' : (j : Int) < (m' : Int) := by omega
            have htj := Lib.hid (List.take_succ_eq_append_getElem (List.getElem?_eq_some_iff.1 ho).1)
            rw [(List.getElem?_eq_some_iff.1 ho).2] at htj
            obtain ⟨st, hst⟩ : ∃ st, st = sesF k (os'.take j) (hisF (hs.take k)) := ⟨_, rfl⟩
            rw [← hst] at hI
            have hone : Hid (sesF k (os'.take (j + 1)) (hisF (hs.take k)) = oneF k st (o, j)) := Lib.hid (by
              rw [htj.out, sesF_snoc, ← hst, List.length_take, hol.out, Nat.min_eq_left (by omega)])
            have hstl : st.2.length < 1099511627776 := by
              have h1 := (sesF_len k (os'.take j) (hisF (hs.take k))).1
              have h2 := hisF_len (hs.take k)
              have h3 := allO_take_le hs (k + 1)
              rw [allO_take_succ hos.out, List.length_append, hol.out] at h3
              rw [← hst, h2, List.length_take] at h1
              have := hF.out
              omega
            have hjb : j ≤ 4398046511104 := by
              have h3 := allO_take_le hs (k + 1)
              rw [allO_take_succ hos.out, List.length_append, hol.out] at h3
              have := hF.out
              omega
            have hok4 := hI.out.ok.one (se := k) (pl := j) (o := o) (by omega) (by omega) (by omega) hok
            have hitok : It.Ok ⟨k, j, o.1, findZ (addV st.1 o.2.1) o.2.1, o.2.2⟩ := hok4.i _ (by simp [oneF])
            replace hst := Lib.hid hst
            replace ho := Lib.hid ho
            replace htj := Lib.hid htj
            have hhI := hI
            obtain ⟨A1, c1, rfl, h11, h12, hLv⟩ := LAt.of_own hI.out.ov hI.out.ok.s rfl
            obtain ⟨Wo, hWo⟩ : ∃ W, W = wr.alloc (.cells #[.bool o.1, .string o.2.1, .int .i64 o.2.2] 60) := ⟨_, rfl⟩
            obtain ⟨g2, hg2⟩ : ∃ g, g = wr.heap.size := ⟨_, rfl⟩
            have bo : Below wr.heap.size wr Wo := by rw [hWo]; exact (Below.refl _ _).alloc (Nat.le_refl _) _
            have ko : Blk Wo g2 60 [.bool o.1, .string o.2.1, .int .i64 o.2.2] := by rw [hWo, hg2]; exact Blk.new wr _ _
            have I3 := hI.out.later bo
            have hne : g1 ≠ g2 := by have := hI.out.f.lt; omega
            have hne' : g2 ≠ g1 := fun e => hne e.symm
            have cf := Lib.hid (ref9_find A1 st.1.length c1 st.1 o.2.1 Wo (hLv.below bo) (by omega))
            replace hHr := Lib.hid (hHr.out.below bo)
            have q0 := I3.f.cell 0
            have q1 := I3.f.cell 1
            have p0 := ko.cell 0
            have p1 := ko.cell 1
            have p2 := ko.cell 2
            clear hjm hI hLv hO
            replace I3 := Lib.hid I3
            replace hitok := Lib.hid hitok
            replace hok4 := Lib.hid hok4
            obtain ⟨V, hV⟩ : ∃ V, V = findZ st.1 o.2.1 := ⟨_, rfl⟩
            rw [← hV] at cf
            have hVr := findZ_range st.1 o.2.1
            rw [← hV] at hVr
            replace hone := Lib.hid hone.out
            go_wp2_with (rw [← hWo, ← hg2]; clear hWo; replace hg2 := Lib.hid hg2)
            refine cf.out.mono ?_; rintro e wx ⟨rfl, hwx⟩
            rw [hwx]
            clear hwx cf
            by_cases hV0 : V < 0
            · have hadd : Hid (addV st.1 o.2.1 = st.1 ++ [o.2.1]) := Lib.hid (addV_new (by rw [← hV]; exact hV0))
              have hVis : Hid (findZ (addV st.1 o.2.1) o.2.1 = (st.1.length : Int)) := Lib.hid (by rw [addV_find, if_pos (by rw [← hV]; exact hV0)])
              rw [hVis.out] at hitok
              have hsl := hok4.out.s o.2.1 (addV_mem _ _)
              obtain ⟨W3, hW3⟩ : ∃ W, W = Wo.alloc (.cells #[.string o.2.1] 9) := ⟨_, rfl⟩
              have b3 : Below Wo.heap.size Wo W3 := by rw [hW3]; exact (Below.refl _ _).alloc (Nat.le_refl _) _
              have hlit : LAt encS W3 (some ⟨Wo.heap.size, 0, none⟩) 1 [o.2.1] := by rw [hW3]; exact LAt.lit1 (E := encS) Wo _ o.2.1 hsl
              have I4 := I3.out.later b3
              have ko3 := ko.below b3 ko.lt
              have hstn := I4.ok.l
              replace hV := Lib.hid hV
              go_wp2_with (first
                | (rw [← hW3]
                   clear hW3
                   at_builtin
                   refine wpList_append_L (E := encS) rfl (.tmp 46) (.tmp 49) _ rfl w.heap.size 9 i0 _ 16 Try.underlying26 hi.out hz0.out hz1.out hz2.out rfl _ st.1.length st.1 (by rfl) I4.ov _ 1 1 [o.2.1] rfl hlit (by unfold maxLen; omega) (by omega) I4.b.size ?_
                   intro v' w4 hown' hbb hg hob
                   obtain ⟨A3, c3, rfl, h31, h32, hL3⟩ := LAt.of_own hown' (fun x hx => (List.mem_append.1 hx).elim (I4.ok.s x) (fun h => by rw [List.mem_singleton.1 h]; exact hsl)) (by simp)
                   have kf4 := I4.f.kept hg (I4.f.not_row (by decide) I4.ov)
                   have kr4 := I4.r.kept hg (I4.r.not_row (by decide) I4.ov)
                   have ko4 := ko3.kept hg (ko3.not_row (by decide) I4.ov)
                   have ou4 := own_grown I4.ou I4.ov (by decide) hg
                   have b4 := I4.b.trans hbb
                   clear q0 q1 p0 p1 p2
                   have q0 := kf4.cell 0
                   have q1 := kf4.cell 1
                   have s0 := kf4.frozen 0
                   have p0 := ko4.cell 0
                   have p1 := ko4.cell 1
                   have p2 := ko4.cell 2
                   obtain ⟨W5, hW5⟩ : ∃ W, W = w4.setCell ⟨g1, 0, none⟩ (.slice A3 (st.1.length + 1) c3) := ⟨_, rfl⟩
                   have kf5 : Blk W5 g1 30 [.slice A3 (st.1.length + 1) c3, u, .slice none 0 0] := by rw [hW5]; exact kf4.set_ 0 _
                   have kr5 : Blk W5 g0 30 [.slice none 0 0, .slice none 0 0, .slice none 0 0] := by rw [hW5]; exact kr4.far (p := ⟨g1, 0, none⟩) (by have := I3.out.l1; show g0 ≠ g1; omega) _
                   have ov5 : W5.ownsRow w.heap.size 9 1 (.slice A3 (st.1.length + 1) c3) (st.1.length + 1) (encS.all (st.1 ++ [o.2.1])) := by rw [hW5]; exact own_farT (i := 0) hown' kf4 (by decide) _
                   have ou5 : W5.ownsRow w.heap.size 48 5 u st.2.length (encT.all st.2) := by rw [hW5]; exact own_farT (i := 0) ou4 kf4 (by decide) _
                   have b5 : Below w.heap.size w W5 := by rw [hW5]; exact b4.setCell (p := ⟨g1, 0, none⟩) (by have := I3.out.l0; have := I3.out.l1; show w.heap.size ≤ g1; omega) _
                   clear hbb hg hob hlit ko3 I4 b3 hL3 h31 h32 kf4 kr4 ko4 ou4 b4 hown'
                   -- an item more, its number is (st.1.length : Int); the world is W5: ov5, ou5, kf5, kr5, b5 : what stands there
                   obtain ⟨W6, hW6⟩ : ∃ W, W = W5.alloc (.cells #[.int .i64 (k : Int), .int .i64 (j : Int), .bool o.1, .int .i64 (st.1.length : Int), .int .i64 o.2.2] 48) := ⟨_, rfl⟩
                   have b6 : Below W5.heap.size W5 W6 := by rw [hW6]; exact (Below.refl _ _).alloc (Nat.le_refl _) _
                   have hlit6 : LAt encT W6 (some ⟨W5.heap.size, 0, none⟩) 1 [⟨k, j, o.1, (st.1.length : Int), o.2.2⟩] := by rw [hW6]; exact LAt.lit1 (E := encT) W5 _ ⟨k, j, o.1, (st.1.length : Int), o.2.2⟩ hitok.out
                   have ov6 := Lib.hid (own_below ov5 b6)
                   have ou6 := Lib.hid (own_below ou5 b6)
                   have kf6 := Lib.hid (kf5.below b6 kf5.lt)
                   have kr6 := Lib.hid (kr5.below b6 kr5.lt)
                   have hw6 : w.heap.size ≤ W6.heap.size := Nat.le_trans b5.size b6.size
                   have bw6 := Lib.hid (below_trans2 b5 b6)
                   replace hlit6 := Lib.hid hlit6
                   clear ov5 ou5 kf5 kr5 b5 b6
                   rw [show W5.heap.size = w4.heap.size from by rw [hW5]; simp] at hlit6
                   )
                | (rw [← hW5, ← hW6]
                   clear hW5 hW6
                   at_builtin
                   refine wpList_append_L (E := encT) rfl (.tmp 53) (.tmp 62) _ rfl w.heap.size 48 j0 _ 40 Try.underlying27 ji.out jz0.out jz1.out jz2.out rfl _ st.2.length st.2 (by rfl) ou6.out _ 1 1 _ rfl hlit6.out (by unfold maxLen; omega) (by omega) hw6 ?_
                   intro v7 w7 hown7 hbb7 hg7 hob7
                   obtain ⟨A7, c7, rfl, h71, h72, hL7⟩ := LAt.of_own hown7 (fun x hx => (List.mem_append.1 hx).elim (I3.out.ok.i x) (fun h => by rw [List.mem_singleton.1 h]; exact hitok.out)) (by simp)
                   have kf7 := kf6.out.kept hg7 (kf6.out.not_row (by decide) ou6.out)
                   have kr7 := kr6.out.kept hg7 (kr6.out.not_row (by decide) ou6.out)
                   have ov7 := own_grown ov6.out ou6.out (by decide) hg7
                   have b7 : Below w.heap.size w w7 := bw6.out.trans hbb7
                   have r0 := kf7.cell 0
                   have r1 := kf7.cell 1
                   have r2 := kf7.cell 2
                   have s1 := kf7.frozen 1
                   have kf8 := Lib.hid (kf7.set_ 1 (.slice A7 (st.2.length + 1) c7))
                   have kr8 := Lib.hid (kr7.far (p := ⟨g1, 1, none⟩) (by have := I3.out.l1; show g0 ≠ g1; omega) (.slice A7 (st.2.length + 1) c7))
                   have ov8 := Lib.hid (own_farT (i := 1) ov7 kf7 (by decide) (.slice A7 (st.2.length + 1) c7))
                   have ou8 := Lib.hid (own_farT (i := 1) hown7 kf7 (by decide) (.slice A7 (st.2.length + 1) c7))
                   have b8 := Lib.hid (b7.setCell (p := ⟨g1, 1, none⟩) (by have := I3.out.l0; have := I3.out.l1; show w.heap.size ≤ g1; omega) (.slice A7 (st.2.length + 1) c7))
                   clear ov6 ou6 kf6 kr6 hlit6 hown7 hbb7 hg7 hob7 kf7 kr7 ov7 b7 hL7 h71 h72 hw6 bw6
                   ))
              exact ⟨⟨j + 1, _, _, by omega, by go_num, Lib.hid (by
                rw [hone.out]
                unfold oneF
                rw [hVis.out]
                refine ⟨kr8.out, kf8.out, ?_, by rw [List.length_append]; exact ou8.out, b8.out, by have := hok4.out; unfold oneF at this; rw [hVis.out] at this; exact this, I3.out.l0, I3.out.l1⟩
                show World.ownsRow _ _ _ _ _ (addV st.1 o.2.1).length (encS.all (addV st.1 o.2.1))
                rw [hadd.out]
                have h := ov8.out
                first | exact h | (rw [List.length_append]; exact h)), Lib.hid (hH0.out.below b8.out)⟩, by simp [intOf]; omega⟩
            · have hadd : Hid (addV st.1 o.2.1 = st.1) := Lib.hid (addV_old (by rw [← hV]; exact hV0))
              have hVis : Hid (findZ (addV st.1 o.2.1) o.2.1 = V) := Lib.hid (by rw [addV_find, if_neg (by rw [← hV]; exact hV0), hV])
              rw [hVis.out] at hitok
              replace hV := Lib.hid hV
              have ov5 := I3.out.ov
              have ou5 := I3.out.ou
              have kf5 := I3.out.f
              have kr5 := I3.out.r
              have b5 := I3.out.b
              -- an item more, its number is V; the world is Wo: ov5, ou5, kf5, kr5, b5 : what stands there
              obtain ⟨W6, hW6⟩ : ∃ W, W = Wo.alloc (.cells #[.int .i64 (k : Int), .int .i64 (j : Int), .bool o.1, .int .i64 V, .int .i64 o.2.2] 48) := ⟨_, rfl⟩
              have b6 : Below Wo.heap.size Wo W6 := by rw [hW6]; exact (Below.refl _ _).alloc (Nat.le_refl _) _
              have hlit6 : LAt encT W6 (some ⟨Wo.heap.size, 0, none⟩) 1 [⟨k, j, o.1, V, o.2.2⟩] := by rw [hW6]; exact LAt.lit1 (E := encT) Wo _ ⟨k, j, o.1, V, o.2.2⟩ hitok.out
              have ov6 := Lib.hid (own_below ov5 b6)
              have ou6 := Lib.hid (own_below ou5 b6)
              have kf6 := Lib.hid (kf5.below b6 kf5.lt)
              have kr6 := Lib.hid (kr5.below b6 kr5.lt)
              have hw6 : w.heap.size ≤ W6.heap.size := Nat.le_trans b5.size b6.size
              have bw6 := Lib.hid (below_trans2 b5 b6)
              replace hlit6 := Lib.hid hlit6
              clear ov5 ou5 kf5 kr5 b5 b6
              go_wp2_with (
                rw [← hW6]
                clear hW6
                at_builtin
                refine wpList_append_L (E := encT) rfl (.tmp 53) (.tmp 62) _ rfl w.heap.size 48 j0 _ 40 Try.underlying27 ji.out jz0.out jz1.out jz2.out rfl _ st.2.length st.2 (by rfl) ou6.out _ 1 1 _ rfl hlit6.out (by unfold maxLen; omega) (by omega) hw6 ?_
                intro v7 w7 hown7 hbb7 hg7 hob7
                obtain ⟨A7, c7, rfl, h71, h72, hL7⟩ := LAt.of_own hown7 (fun x hx => (List.mem_append.1 hx).elim (I3.out.ok.i x) (fun h => by rw [List.mem_singleton.1 h]; exact hitok.out)) (by simp)
                have kf7 := kf6.out.kept hg7 (kf6.out.not_row (by decide) ou6.out)
                have kr7 := kr6.out.kept hg7 (kr6.out.not_row (by decide) ou6.out)
                have ov7 := own_grown ov6.out ou6.out (by decide) hg7
                have b7 : Below w.heap.size w w7 := bw6.out.trans hbb7
                have r0 := kf7.cell 0
                have r1 := kf7.cell 1
                have r2 := kf7.cell 2
                have s1 := kf7.frozen 1
                have kf8 := Lib.hid (kf7.set_ 1 (.slice A7 (st.2.length + 1) c7))
                have kr8 := Lib.hid (kr7.far (p := ⟨g1, 1, none⟩) (by have := I3.out.l1; show g0 ≠ g1; omega) (.slice A7 (st.2.length + 1) c7))
                have ov8 := Lib.hid (own_farT (i := 1) ov7 kf7 (by decide) (.slice A7 (st.2.length + 1) c7))
                have ou8 := Lib.hid (own_farT (i := 1) hown7 kf7 (by decide) (.slice A7 (st.2.length + 1) c7))
                have b8 := Lib.hid (b7.setCell (p := ⟨g1, 1, none⟩) (by have := I3.out.l0; have := I3.out.l1; show w.heap.size ≤ g1; omega) (.slice A7 (st.2.length + 1) c7))
                clear ov6 ou6 kf6 kr6 hlit6 hown7 hbb7 hg7 hob7 kf7 kr7 ov7 b7 hL7 h71 h72 hw6 bw6
                )
              exact ⟨⟨j + 1, _, _, by omega, by go_num, Lib.hid (by
                rw [hone.out]
                unfold oneF
                rw [hVis.out]
                refine ⟨kr8.out, kf8.out, ?_, by rw [List.length_append]; exact ou8.out, b8.out, by have := hok4.out; unfold oneF at this; rw [hVis.out] at this; exact this, I3.out.l0, I3.out.l1⟩
                show World.ownsRow _ _ _ _ _ (addV st.1 o.2.1).length (encS.all (addV st.1 o.2.1))
                rw [hadd.out]
                have h := ov8.out
                first | exact h | (rw [List.length_append]; exact h)), Lib.hid (hH0.out.below b8.out)⟩, by simp [intOf]; omega⟩
          · have hjm' : ¬ (j : Int) < (m' : Int) := by omega
            have htk2 : os'.take j = os' := List.take_of_length_le (by rw [hol.out]; omega)
            rw [htk2] at hI
            have hnx : Hid (hisF (hs.take (k + 1)) = sesF k os' (hisF (hs.take k))) := Lib.hid (by
              rw [htk.out, hisF_snoc, List.length_take, hlen.out, Nat.min_eq_left (by omega)])
            rw [← hnx.out] at hI
            clear hjm htk2 hO
            go_wp2_with fail
            exact ⟨⟨k + 1, _, _, by omega, by go_num, hI, hHr⟩, by simp [intOf]; omega⟩
      · have hkn' : ¬ (k : Int) < (n : Int) := by omega
        rw [show hs.take k = hs from List.take_of_length_le (by rw [hlen.out]; omega)] at hI
        obtain ⟨A1, c1, rfl, h11, h12, hLv⟩ := LAt.of_own hI.out.ov hI.out.ok.s rfl
        obtain ⟨A2, c2, rfl, h21, h22, hLu⟩ := LAt.of_own hI.out.ou hI.out.ok.i rfl
        obtain ⟨N, hN⟩ : ∃ N, N = (hisF hs).1.length := ⟨_, rfl⟩
        obtain ⟨M, hM⟩ : ∃ M, M = (hisF hs).2.length := ⟨_, rfl⟩
        have kf := hI.out.f
        have kr := hI.out.r
        rw [← hN] at kf hLv h11
        rw [← hM] at kf hLu h21
        have q0 := kf.cell 0
        have q1 := kf.cell 1
        have q2 := kf.cell 2
        have s0 := kr.frozen 0
        have s1 := kr.frozen 1
        have s2 := kr.frozen 2
        have p0 := kr.cell 0
        have p1 := kr.cell 1
        have p2 := kr.cell 2
        have k3 := ((kr.set_ 0 (.slice A1 N c1)).set_ 1 (.slice A2 M c2)).set_ 2 (.slice none 0 0)
        have e0 := k3.cell 0
        have e1 := k3.cell 1
        have e2 := k3.cell 2
        have bl := hI.out.l0
        have bS : ∀ i (u : Value) (X : World), Below w.heap.size w X → Below w.heap.size w (X.setCell ⟨g0, i, none⟩ u) := fun i u X h => h.setCell (p := ⟨g0, i, none⟩) bl u
        have bE := bS 2 (.slice none 0 0) _ (bS 1 (.slice A2 M c2) _ (bS 0 (.slice A1 N c1) _ hI.out.b))
        have ovX := own_farT (i := 2) (own_farT (i := 1) (own_farT (i := 0) hI.out.ov kr (by decide) (.slice A1 N c1)) (kr.set_ 0 _) (by decide) (.slice A2 M c2)) ((kr.set_ 0 _).set_ 1 _) (by decide) (.slice none 0 0)
        have ouX := own_farT (i := 2) (own_farT (i := 1) (own_farT (i := 0) hI.out.ou kr (by decide) (.slice A1 N c1)) (kr.set_ 0 _) (by decide) (.slice A2 M c2)) ((kr.set_ 0 _).set_ 1 _) (by decide) (.slice none 0 0)
        have hLX := LAt.of_own' ovX hI.out.ok.s rfl
        have hUX := LAt.of_own' ouX hI.out.ok.i rfl
        rw [← hN] at hLX
        rw [← hM] at hUX
        replace hLX := Lib.hid hLX
        replace hUX := Lib.hid hUX
        replace bE := Lib.hid bE
        clear ovX ouX bS hLv hLu kf kr k3 hlt hn
        replace hI := Lib.hid True.intro
        replace hN := Lib.hid hN
        replace hM := Lib.hid hM
        go_wp2_with fail
        refine bodyPost_ret (v := .tuple #[.agg #[.slice A1 N c1, .slice A2 M c2, .slice none 0 0], .int .i64 0]) (by simp [results, Try.results25, go_sem, e0, e1, e2]) rfl ⟨⟨A1, N, c1, A2, M, c2, none, 0, 0⟩, rfl, ?_, bE.out⟩
        exact ⟨hLX.out, h11, h12, hUX.out, h21, h22, LAt.nil _ _ _, Nat.le_refl _, by simp⟩

end Go.Proofs.Ytpbiilhclmcehaa

namespace Go.Proofs.Ytpbiilhclmcehaa
open Go.RowKit
set_option linter.unusedVariables false

end Go.Proofs.Ytpbiilhclmcehaa

namespace Go.Proofs.Ytpbiilhclmcehaa
open Go.RowKit
set_option linter.unusedVariables false
/-- a call's answer: numbers -/
def RetIL (xs : List Int) (w : World) (e : Ending) (w' : World) : Prop := ∃ A n c, e = .returned (.slice A n c) ∧ LAt encI w' A n xs ∧ n ≤ c ∧ c ≤ 9223372036854775807 ∧ Below w.heap.size w w'
theorem info_int1 : (Try.prog.info? 3).map (fun i => (i.zero, i.size, i.bytes)) = some (some (.int .i64 0), 1, 8) := by kernel_rfl
set_option maxRecDepth 100000 in
set_option maxHeartbeats 1000000 in
theorem ref11_From (v : FV) (f : Fac) (w : World) (hF : FactsAt w v f) (hm : v.m ≤ 1048576) :
    Calls Try.prog 49 #[.agg #[.slice v.A v.n v.c, .slice v.B v.m v.d, .slice v.C v.k v.e]] w (RetIL (fromF f.items) w) := by
  have hil := hF.is.len
  obtain ⟨i0, hi, hz0, hz1, hz2⟩ := info_parts info_int1
  replace hi := Lib.hid hi
  replace hz0 := Lib.hid hz0
  replace hz1 := Lib.hid hz1
  replace hz2 := Lib.hid hz2
  -- a call with facts v: they are boxed at g, the world is W0 then
  have hB0 := Lib.hid (FBox.new hF)
  obtain ⟨g, hg⟩ : ∃ g, g = w.heap.size := ⟨_, rfl⟩
  obtain ⟨W0, hW0⟩ : ∃ W, W = w.alloc (.cells #[.slice v.A v.n v.c, .slice v.B v.m v.d, .slice v.C v.k v.e] 30) := ⟨_, rfl⟩
  rw [← hW0, ← hg] at hB0
  clear hF
  have hgW : g < W0.heap.size := hB0.out.k.lt
  have p0 := hB0.out.c0
  have p1 := hB0.out.c1
  have p2 := hB0.out.c2
  go_enter Try.func49, Try.ntmps49
  go_wp2_with (rw [← hW0, ← hg]; clear hW0 hg)
  clear p0 p1 p2
  go_loopw [3, 4] (fun u t wr => ∃ k : Nat, k ≤ v.m ∧ t = .int .i64 k ∧ Hid (Below W0.heap.size W0 wr) ∧ Hid (wr.ownsRow W0.heap.size 3 1 u k (encI.all ((fromF f.items).take k)))) (fun _ t _ => v.m - (intOf t).toNat)
  case atStart => exact ⟨0, Nat.zero_le _, rfl, Lib.hid (Below.refl _ _), Lib.hid (World.ownsRow_nil _ _ _ _)⟩
  case round =>
    obtain ⟨k, hk, rfl, hb, hown⟩ := hrel
    have hB := Lib.hid (hB0.out.later hb.out)
    have p0 := hB.out.c0
    have p1 := hB.out.c1
    have p2 := hB.out.c2
    by_cases hlt : k < v.m
    · have hlt' : (k : Int) < (v.m : Int) := by omega
      obtain ⟨ib, io, x, hxB, hib, hx, hxo, i0', i1, i2, i3, i4⟩ := hB.out.f.is.item hlt
      rw [hxB] at p1
      have htk := Lib.hid (fromF_take hx)
      have hone : fromOne f.items x = if x.wr = true then -3 else if x.vl = 0 then -1 else match writeF f.items x.va x.vl with | some w => (w : Int) | none => -2 := rfl
      have hrg := fromOne_range f.items x
      obtain ⟨z, hz⟩ : ∃ z, z = fromOne f.items x := ⟨_, rfl⟩
      rw [← hz] at htk hone hrg
      obtain ⟨xs, xp, xw, xa, xl⟩ := x
      simp only at i0' i1 i2 i3 i4 hone
      obtain ⟨V, hV⟩ : ∃ W, W = wr.alloc (.cells #[.int .i64 xs, .int .i64 xp, .bool xw, .int .i64 xa, .int .i64 xl] 48) := ⟨_, rfl⟩
      obtain ⟨gx, hgx⟩ : ∃ g, g = wr.heap.size := ⟨_, rfl⟩
      have bV : Below wr.heap.size wr V := by rw [hV]; exact (Below.refl _ _).alloc (Nat.le_refl _) _
      have kIt : Blk V gx 48 [.int .i64 xs, .int .i64 xp, .bool xw, .int .i64 xa, .int .i64 xl] := by rw [hV, hgx]; exact Blk.new wr _ _
      have hBV := Lib.hid (hB.out.later bV)
      have j3 := kIt.cell 3
      have j4 := kIt.cell 4
      simp only [List.getElem?_cons_zero, List.getElem?_cons_succ] at j3 j4
      have w0 := hBV.out.c0
      have w1 := hBV.out.c1
      have w2 := hBV.out.c2
      have cW := ref10_Write v f xa xl V hBV.out.f
      unfold RetWrite at cW
      obtain ⟨o, ho⟩ : ∃ o, o = writeF f.items xa xl := ⟨_, rfl⟩
      rw [← ho] at cW hone
      obtain ⟨r1, hr1⟩ : ∃ r : Int, r = ((o.getD 0 : Nat) : Int) := ⟨_, rfl⟩
      obtain ⟨r2, hr2⟩ : ∃ r, r = o.isSome := ⟨_, rfl⟩
      rw [← hr1, ← hr2] at cW
      have hzz : z = if xw = true then -3 else if xl = 0 then -1 else if r2 = true then r1 else -2 := by
        rw [hone, hr1, hr2]
        cases o <;> rfl
      replace cW := Lib.hid cW
      replace ho := Lib.hid ho
      replace hr1 := Lib.hid hr1
      replace hr2 := Lib.hid hr2
      replace kIt := Lib.hid kIt
      have bW := Lib.hid (below_trans2 hb.out bV)
      have hownV := Lib.hid (own_below hown.out bV)
      clear hone hx hxo hxB hlt hz bV hb hown hB
      go_wp2_with (rw [← hV, ← hgx]; clear hV; replace hgx := Lib.hid hgx)
      refine cW.out.mono ?_; rintro e w3 ⟨rfl, b3⟩
      replace kIt := Lib.hid (kIt.out.below b3 kIt.out.lt)
      replace bW := Lib.hid (below_trans2 bW.out b3)
      replace hownV := Lib.hid (own_below hownV.out b3)
      clear w0 w1 w2 p0 p1 p2 j3 j4 i0' i1 i2 i3 i4 b3 cW hBV
      have j2 := kIt.out.cell 2
      have j4 := kIt.out.cell 4
      simp only [List.getElem?_cons_zero, List.getElem?_cons_succ] at j2 j4
      obtain ⟨gl, hgl⟩ : ∃ g, g = w3.heap.size := ⟨_, rfl⟩
      cases xw with
      | true =>
        -- what item k reads from is -3: it is appended
        have hzv : z = -3 := by rw [hzz]; rfl
        rw [hzv] at htk hrg
        obtain ⟨VL, hVL⟩ : ∃ W, W = w3.alloc (.cells #[.int .i64 (-3)] 3) := ⟨_, rfl⟩
        have bL : Below w3.heap.size w3 VL := by rw [hVL]; exact (Below.refl _ _).alloc (Nat.le_refl _) _
        have hlit := Lib.hid (show LAt encI VL (some ⟨gl, 0, none⟩) 1 [(-3 : Int)] from by rw [hVL, hgl]; exact LAt.lit1 (E := encI) w3 3 (-3) ⟨by omega, by omega⟩)
        have hownL := Lib.hid (own_below hownV.out bL)
        have bWL := Lib.hid (below_trans2 bW.out bL)
        have hbase := Lib.hid bWL.out.size
        clear hzv hzz bL hownV bW
        go_wp2_with (first
          | (rw [← hVL, ← hgl]; clear hVL hgl)
          | (at_builtin; refine wpList_append_L (E := encI) rfl (.tmp 37) (.tmp 39) _ rfl W0.heap.size 3 i0 _ 8 Try.underlying28 hi.out hz0.out hz1.out hz2.out rfl _ k ((fromF f.items).take k) (by rfl) hownL.out _ 1 1 _ rfl hlit.out (by unfold maxLen; omega) (by omega) hbase.out ?_; intro v' w7 hown' hb7 _ _))
        refine ⟨⟨k + 1, by omega, by go_num, Lib.hid (bWL.out.trans hb7), Lib.hid (by rw [htk.out]; exact hown')⟩, by simp [intOf]; omega⟩
      | false =>
        by_cases h0 : xl = 0
        · have e0 : (xl == 0) = true := by simp [h0]
          replace h0 := Lib.hid h0
          -- what item k reads from is -1: it is appended
          have hzv : z = -1 := by rw [hzz]; (rw [if_neg (by simp), if_pos h0.out])
          rw [hzv] at htk hrg
          obtain ⟨VL, hVL⟩ : ∃ W, W = w3.alloc (.cells #[.int .i64 (-1)] 3) := ⟨_, rfl⟩
          have bL : Below w3.heap.size w3 VL := by rw [hVL]; exact (Below.refl _ _).alloc (Nat.le_refl _) _
          have hlit := Lib.hid (show LAt encI VL (some ⟨gl, 0, none⟩) 1 [(-1 : Int)] from by rw [hVL, hgl]; exact LAt.lit1 (E := encI) w3 3 (-1) ⟨by omega, by omega⟩)
          have hownL := Lib.hid (own_below hownV.out bL)
          have bWL := Lib.hid (below_trans2 bW.out bL)
          have hbase := Lib.hid bWL.out.size
          clear hzv hzz bL hownV bW
          go_wp2_with (first
            | (rw [← hVL, ← hgl]; clear hVL hgl)
            | (at_builtin; refine wpList_append_L (E := encI) rfl (.tmp 37) (.tmp 39) _ rfl W0.heap.size 3 i0 _ 8 Try.underlying28 hi.out hz0.out hz1.out hz2.out rfl _ k ((fromF f.items).take k) (by rfl) hownL.out _ 1 1 _ rfl hlit.out (by unfold maxLen; omega) (by omega) hbase.out ?_; intro v' w7 hown' hb7 _ _))
          refine ⟨⟨k + 1, by omega, by go_num, Lib.hid (bWL.out.trans hb7), Lib.hid (by rw [htk.out]; exact hown')⟩, by simp [intOf]; omega⟩
        · have e0 : (xl == 0) = false := by simp [h0]
          replace h0 := Lib.hid h0
          cases r2 with
          | true =>
            -- what item k reads from is r1: it is appended
            have hzv : z = r1 := by rw [hzz]; (rw [if_neg (by simp), if_neg h0.out]; rfl)
            rw [hzv] at htk hrg
            obtain ⟨VL, hVL⟩ : ∃ W, W = w3.alloc (.cells #[.int .i64 (r1)] 3) := ⟨_, rfl⟩
            have bL : Below w3.heap.size w3 VL := by rw [hVL]; exact (Below.refl _ _).alloc (Nat.le_refl _) _
            have hlit := Lib.hid (show LAt encI VL (some ⟨gl, 0, none⟩) 1 [(r1 : Int)] from by rw [hVL, hgl]; exact LAt.lit1 (E := encI) w3 3 (r1) ⟨by omega, by omega⟩)
            have hownL := Lib.hid (own_below hownV.out bL)
            have bWL := Lib.hid (below_trans2 bW.out bL)
            have hbase := Lib.hid bWL.out.size
            clear hzv hzz bL hownV bW
            go_wp2_with (first
              | (rw [← hVL, ← hgl]; clear hVL hgl)
              | (at_builtin; refine wpList_append_L (E := encI) rfl (.tmp 37) (.tmp 39) _ rfl W0.heap.size 3 i0 _ 8 Try.underlying28 hi.out hz0.out hz1.out hz2.out rfl _ k ((fromF f.items).take k) (by rfl) hownL.out _ 1 1 _ rfl hlit.out (by unfold maxLen; omega) (by omega) hbase.out ?_; intro v' w7 hown' hb7 _ _))
            refine ⟨⟨k + 1, by omega, by go_num, Lib.hid (bWL.out.trans hb7), Lib.hid (by rw [htk.out]; exact hown')⟩, by simp [intOf]; omega⟩
          | false =>
            -- what item k reads from is -2: it is appended
            have hzv : z = -2 := by rw [hzz]; (rw [if_neg (by simp), if_neg h0.out]; rfl)
            rw [hzv] at htk hrg
            obtain ⟨VL, hVL⟩ : ∃ W, W = w3.alloc (.cells #[.int .i64 (-2)] 3) := ⟨_, rfl⟩
            have bL : Below w3.heap.size w3 VL := by rw [hVL]; exact (Below.refl _ _).alloc (Nat.le_refl _) _
            have hlit := Lib.hid (show LAt encI VL (some ⟨gl, 0, none⟩) 1 [(-2 : Int)] from by rw [hVL, hgl]; exact LAt.lit1 (E := encI) w3 3 (-2) ⟨by omega, by omega⟩)
            have hownL := Lib.hid (own_below hownV.out bL)
            have bWL := Lib.hid (below_trans2 bW.out bL)
            have hbase := Lib.hid bWL.out.size
            clear hzv hzz bL hownV bW
            go_wp2_with (first
              | (rw [← hVL, ← hgl]; clear hVL hgl)
              | (at_builtin; refine wpList_append_L (E := encI) rfl (.tmp 37) (.tmp 39) _ rfl W0.heap.size 3 i0 _ 8 Try.underlying28 hi.out hz0.out hz1.out hz2.out rfl _ k ((fromF f.items).take k) (by rfl) hownL.out _ 1 1 _ rfl hlit.out (by unfold maxLen; omega) (by omega) hbase.out ?_; intro v' w7 hown' hb7 _ _))
            refine ⟨⟨k + 1, by omega, by go_num, Lib.hid (bWL.out.trans hb7), Lib.hid (by rw [htk.out]; exact hown')⟩, by simp [intOf]; omega⟩
    · have hlt' : ¬ (k : Int) < (v.m : Int) := by omega
      have hkm : k = v.m := by omega
      subst hkm
      rw [List.take_of_length_le (by rw [fromF_len, hil]; exact Nat.le_refl _)] at hown
      obtain ⟨A, c, rfl, hnc, hcm, hL⟩ := LAt.of_own hown.out (fun z hz => by
        obtain ⟨x, _, rfl⟩ := List.mem_map.1 hz
        have := fromOne_range f.items x
        exact ⟨by omega, by omega⟩) (by rw [fromF_len, hil])
      clear hlt
      go_wp2_with fail
      go_ret
      exact ⟨A, _, c, rfl, hL, hnc, hcm, hB.out.o⟩
set_option maxRecDepth 100000 in
set_option maxHeartbeats 1000000 in
theorem ref11_Fill (v : FV) (f : Fac) (w : World) (hF : FactsAt w v f) (hm : v.m ≤ 1048576) :
    Calls Try.prog 27 #[.agg #[.slice v.A v.n v.c, .slice v.B v.m v.d, .slice v.C v.k v.e]] w (RetFacts (fillF f) w) := by
  -- a call with facts v: they are boxed at g, the world is W0 then
  have hB0 := Lib.hid (FBox.new hF)
  obtain ⟨g, hg⟩ : ∃ g, g = w.heap.size := ⟨_, rfl⟩
  obtain ⟨W0, hW0⟩ : ∃ W, W = w.alloc (.cells #[.slice v.A v.n v.c, .slice v.B v.m v.d, .slice v.C v.k v.e] 30) := ⟨_, rfl⟩
  rw [← hW0, ← hg] at hB0
  clear hF
  obtain ⟨gr, hgr⟩ : ∃ g, g = W0.heap.size := ⟨_, rfl⟩
  obtain ⟨W1, hW1⟩ : ∃ W, W = W0.alloc (.cells #[.slice none 0 0, .slice none 0 0, .slice none 0 0] 30) := ⟨_, rfl⟩
  have b1 : Below W0.heap.size W0 W1 := by rw [hW1]; exact (Below.refl _ _).alloc (Nat.le_refl _) _
  have kR : Blk W1 gr 30 [.slice none 0 0, .slice none 0 0, .slice none 0 0] := by rw [hW1, hgr]; exact Blk.new W0 _ _
  have hB1 := Lib.hid (hB0.out.later b1)
  have hgw : w.heap.size ≤ gr := by rw [hgr]; exact hB0.out.o.size
  clear hB0 b1
  go_enter Try.func27, Try.ntmps27
  go_wp2_with (first | (rw [← hW0, ← hg]; clear hW0 hg) | (rw [← hW1, ← hgr]; clear hW1; replace hgr := Lib.hid hgr))
  refine wp_region_plan 7 [(true, 0), (true, 1), (true, 2), (true, 3), (true, 4), (false, 5), (true, 6)] (by kernel_rfl) (by kernel_rfl) (fun V hV => ?_)
  have hB := Lib.hid (show FBox w g v f V from by rw [hV.out]; exact hB1.out.later (Below.refl _ _).drew)
  replace kR := Lib.hid (show Blk V gr 30 [.slice none 0 0, .slice none 0 0, .slice none 0 0] from by rw [hV.out]; exact kR)
  clear hV hB1
  have p0 := hB.out.c0
  have p1 := hB.out.c1
  have p2 := hB.out.c2
  have cF := Lib.hid (ref11_From v f V hB.out.f hm)
  simp only [List.drop_succ_cons, List.drop_zero]
  iterate 5
    refine wpPlan_float (v := ?_) rfl (by rfl) (fun w' hw' => ?_) (fun K hK => ?_)
    rotate_left
    · (go_simp; try with_reducible rfl)
    go_simp
    refine hK _ ?_
    clear hK K
  refine wpPlan_only rfl (by rfl) (fun K hK => ?_)
  go_simp
  refine cF.out.mono ?_
  rintro e w3 ⟨C, k, ce, rfl, hL, hke, hem, b3⟩
  refine hK _ _ b3 ?_
  clear hK K
  replace hB := Lib.hid (hB.out.later b3)
  replace kR := kR.out.below b3 kR.out.lt
  iterate 1
    refine wpPlan_float (v := ?_) rfl (by rfl) (fun w' hw' => ?_) (fun K hK => ?_)
    rotate_left
    · (go_simp; try with_reducible rfl)
    go_simp
    refine hK _ ?_
    clear hK K
  refine wpPlan_nil ?_
  have hY := (⟨hB.out.f.vs, hB.out.f.vc, hB.out.f.vm, hB.out.f.is, hB.out.f.ic, hB.out.f.im, hL, hke, hem⟩ : FactsAt w3 ⟨v.A, v.n, v.c, v.B, v.m, v.d, C, k, ce⟩ (fillF f))
  have hY3 := Lib.hid (hY.put kR (fun u hu => by simp only [List.mem_cons, List.not_mem_nil, or_false] at hu; rcases hu with rfl | rfl | rfl <;> exact ⟨_, _, _, rfl⟩))
  have k4 := ((kR.set_ 0 (.slice v.A v.n v.c)).set_ 1 (.slice v.B v.m v.d)).set_ 2 (.slice C k ce)
  have e0 := k4.cell 0
  have e1 := k4.cell 1
  have e2 := k4.cell 2
  have c0 := kR.cell 0
  have c1 := kR.cell 1
  have c2 := kR.cell 2
  have f0 := kR.frozen 0
  have f1 := kR.frozen 1
  have f2 := kR.frozen 2
  have hb3 := Lib.hid (((hB.out.o.setCell (p := ⟨gr, 0, none⟩) hgw (.slice v.A v.n v.c)).setCell (p := ⟨gr, 1, none⟩) hgw (.slice v.B v.m v.d)).setCell (p := ⟨gr, 2, none⟩) hgw (.slice C k ce))
  clear k4 kR hY hL b3 p0 p1 p2
  go_wp2_with fail
  refine NoPanic.normal ?_
  go_wp2_with fail
  exact bodyPost_ret (v := .agg #[.slice v.A v.n v.c, .slice v.B v.m v.d, .slice C k ce]) (by simp [results, Try.results27, go_sem, e0, e1, e2]) rfl ⟨⟨v.A, v.n, v.c, v.B, v.m, v.d, C, k, ce⟩, rfl, hY3.out, hb3.out⟩
theorem info_int2 : (Try.prog.info? 3).map (fun i => (i.zero, i.size, i.bytes)) = some (some (.int .i64 0), 1, 8) := by kernel_rfl
end Go.Proofs.Ytpbiilhclmcehaa

namespace Go.Proofs.Ytpbiilhclmcehaa
open Go.RowKit
set_option linter.unusedVariables false
set_option maxRecDepth 100000 in
set_option maxHeartbeats 2000000 in
theorem ref12_Ahead (v : FV) (f : Fac) (i j : Int) (w : World) (hF : FactsAt w v f) :
    Calls Try.prog 81 #[.agg #[.slice v.A v.n v.c, .slice v.B v.m v.d, .slice v.C v.k v.e], .int .i64 i, .int .i64 j] w (RetBool (aheadF f.items i j) w) := by
  have hil := hF.is.len
  -- a call with facts v: they are boxed at g, the world is W0 then
  have hB0 := Lib.hid (FBox.new hF)
  obtain ⟨g, hg⟩ : ∃ g, g = w.heap.size := ⟨_, rfl⟩
  obtain ⟨W0, hW0⟩ : ∃ W, W = w.alloc (.cells #[.slice v.A v.n v.c, .slice v.B v.m v.d, .slice v.C v.k v.e] 30) := ⟨_, rfl⟩
  rw [← hW0, ← hg] at hB0
  clear hF
  have p0 := hB0.out.c0
  have p1 := hB0.out.c1
  have p2 := hB0.out.c2
  by_cases hi : 0 ≤ i
  · have d1 : decide (0 ≤ i) = true := decide_eq_true hi
    by_cases hj : 0 ≤ j
    · have d2 : decide (0 ≤ j) = true := decide_eq_true hj
      by_cases him : i < (v.m : Int)
      · have d3 : decide (i < (v.m : Int)) = true := decide_eq_true him
        by_cases hjm : j < (v.m : Int)
        · have d4 : decide (j < (v.m : Int)) = true := decide_eq_true hjm
          obtain ⟨ib, io, x, hxB, hib, hx, hxo, i0, i1, -, -, -⟩ := hB0.out.f.is.item (show i.toNat < v.m by omega)
          obtain ⟨jb, jo, y, hyB, hjb, hy, hyo, j0, j1, -, -, -⟩ := hB0.out.f.is.item (show j.toNat < v.m by omega)
          rw [hxB] at p1 hyB
          injection hyB with hyB
          injection hyB with h1 h2
          subst h1; subst h2
          have hres := aheadF_at hi hj hx hy
          have bi : 0 ≤ i ∧ i < (v.m : Int) := ⟨hi, him⟩
          have bj : 0 ≤ j ∧ j < (v.m : Int) := ⟨hj, hjm⟩
          by_cases hse : x.se = y.se
          · have e1 : (x.se == y.se) = true := by simp [hse]
            rw [decide_eq_true hse, Bool.true_and] at hres
            replace hres := Lib.hid hres
            replace hse := Lib.hid hse
            clear hxB hx hy hxo hyo hib hjb
            clear hil
            go_enter Try.func81, Try.ntmps81
            go_wp2_with (rw [← hW0, ← hg]; clear hW0 hg)
            go_quiet (fail)
            go_wp2_with fail
            go_ret
            rw [hres.out]
            exact ⟨rfl, below_drewN hB0.out.o _⟩
          · have e1 : (x.se == y.se) = false := by simpa using hse
            rw [decide_eq_false hse, Bool.false_and] at hres
            replace hres := Lib.hid hres
            replace hse := Lib.hid hse
            clear hxB hx hy hxo hyo hib hjb
            clear hil
            go_enter Try.func81, Try.ntmps81
            go_wp2_with (rw [← hW0, ← hg]; clear hW0 hg)
            go_quiet (fail)
            go_wp2_with fail
            go_ret
            rw [hres.out]
            exact ⟨rfl, below_drewN hB0.out.o _⟩
        · have d4 : decide (j < (v.m : Int)) = false := decide_eq_false hjm
          have hres := Lib.hid (aheadF_out (is := f.items) (i := i) (j := j) (by omega))
          clear hil
          go_enter Try.func81, Try.ntmps81
          go_wp2_with (rw [← hW0, ← hg]; clear hW0 hg)
          go_quiet (fail)
          go_wp2_with fail
          go_ret
          rw [hres.out]
          exact ⟨rfl, below_drewN hB0.out.o _⟩
      · have d3 : decide (i < (v.m : Int)) = false := decide_eq_false him
        have hres := Lib.hid (aheadF_out (is := f.items) (i := i) (j := j) (by omega))
        clear hil
        go_enter Try.func81, Try.ntmps81
        go_wp2_with (rw [← hW0, ← hg]; clear hW0 hg)
        go_quiet (fail)
        go_wp2_with fail
        go_ret
        rw [hres.out]
        exact ⟨rfl, below_drewN hB0.out.o _⟩
    · have d2 : decide (0 ≤ j) = false := decide_eq_false hj
      have hres := Lib.hid (aheadF_out (is := f.items) (i := i) (j := j) (by omega))
      clear hil
      go_enter Try.func81, Try.ntmps81
      go_wp2_with (rw [← hW0, ← hg]; clear hW0 hg)
      go_quiet (fail)
      go_wp2_with fail
      go_ret
      rw [hres.out]
      exact ⟨rfl, below_drewN hB0.out.o _⟩
  · have d1 : decide (0 ≤ i) = false := decide_eq_false hi
    have hres := Lib.hid (aheadF_out (is := f.items) (i := i) (j := j) (by omega))
    clear hil
    go_enter Try.func81, Try.ntmps81
    go_wp2_with (rw [← hW0, ← hg]; clear hW0 hg)
    go_quiet (fail)
    go_wp2_with fail
    go_ret
    rw [hres.out]
    exact ⟨rfl, below_drewN hB0.out.o _⟩
/-- a variable at M that holds a matrix of n rows; its rows lie apart from it -/
structure MV (wr : World) (M n : Nat) (A : Option Addr) (c : Nat) (xss : List (List Nat)) : Prop where
  loc : MatB wr M 35 (n : Int) A n c
  rows : RowsAt wr A n xss
  cap : n ≤ c
  far : 0 < n → ∀ ad, A = some ad → ad.block ≠ M
theorem MV.later {wr w' : World} {M n c : Nat} {A : Option Addr} {xss : List (List Nat)} (h : MV wr M n A c xss) (hb : Below wr.heap.size wr w') : MV w' M n A c xss := ⟨h.loc.below_ hb, h.rows.below hb, h.cap, h.far⟩
/-- another matrix, of a call's own, is laid into it -/
theorem MV.put {wr w' : World} {M n c : Nat} {A : Option Addr} {xss : List (List Nat)} (h : MV wr M n A c xss) (hb : Below wr.heap.size wr w') {C : Option Addr} {d : Nat} {yss : List (List Nat)} (hr : RowsAt w' C n yss) (hd : n ≤ d) (hf : ∀ ad, C = some ad → wr.heap.size ≤ ad.block) :
    MV ((w'.setCell ⟨M, 0, none⟩ (.int .i64 (n : Int))).setCell ⟨M, 1, none⟩ (.slice C n d)) M n C d yss := by
  have hM := h.loc.lt
  refine ⟨(h.loc.below_ hb).put _ _ _ _, hr.putB (h.loc.below_ hb) (fun _ ad e => by have := hf ad e; omega) _ _, hd, fun _ ad e => by have := hf ad e; omega⟩
theorem poM_len {n : Nat} (hn : n ≤ 4096) (ps : List (Int × Int)) : ∀ xs ∈ foldP n ps, xs.length ≤ 1024 := fun xs hxs => by
  obtain ⟨i, hi⟩ := List.getElem?_of_mem hxs
  have := (DimM.fold n ps).2 i xs hi
  have := words_le hn
  omega
/-- a call's answer: a matrix, whose outer cells are new -/
def RetMat1F (N : Int) (xss : List (List Nat)) (w : World) (e : Ending) (w' : World) : Prop :=
  ∃ A n c, e = .returned (.agg #[.int .i64 N, .slice A n c]) ∧ RowsAt w' A n xss ∧ n ≤ c ∧ Below w.heap.size w w' ∧ ∀ ad, A = some ad → w.heap.size ≤ ad.block
set_option maxRecDepth 100000 in
set_option maxHeartbeats 2000000 in
theorem ref12_Po (v : FV) (f : Fac) (w : World) (hF : FactsAt w v f) (hm : v.m ≤ 4096) :
    Calls Try.prog 68 #[.agg #[.slice v.A v.n v.c, .slice v.B v.m v.d, .slice v.C v.k v.e]] w (RetMat1F (v.m : Int) (poM f.items) w) := by
  have hil := hF.is.len
  unfold poM
  rw [hil]
  have cN := Lib.hid (ref3_NewF v.m hm)
  replace hil := Lib.hid hil
  -- a call with facts v: they are boxed at g, the world is W0 then
  have hB0 := Lib.hid (FBox.new hF)
  obtain ⟨g, hg⟩ : ∃ g, g = w.heap.size := ⟨_, rfl⟩
  obtain ⟨W0, hW0⟩ : ∃ W, W = w.alloc (.cells #[.slice v.A v.n v.c, .slice v.B v.m v.d, .slice v.C v.k v.e] 30) := ⟨_, rfl⟩
  rw [← hW0, ← hg] at hB0
  clear hF
  obtain ⟨gr, hgr⟩ : ∃ g, g = W0.heap.size := ⟨_, rfl⟩
  obtain ⟨W1, hW1⟩ : ∃ W, W = W0.alloc (.cells #[.int .i64 0, .slice none 0 0] 35) := ⟨_, rfl⟩
  have b1 : Below W0.heap.size W0 W1 := by rw [hW1]; exact (Below.refl _ _).alloc (Nat.le_refl _) _
  have kR : MatB W1 gr 35 0 none 0 0 := by rw [hW1, hgr]; exact MatB.new W0 _
  have hB1 := Lib.hid (hB0.out.later b1)
  have p0 := hB1.out.c0
  have p1 := hB1.out.c1
  have p2 := hB1.out.c2
  go_enter Try.func68, Try.ntmps68
  go_wp2_with (first | (rw [← hW0, ← hg]; clear hW0 hg) | (rw [← hW1, ← hgr]; clear hW1))
  refine (cN.out _).mono ?_; rintro e w2 ⟨C, p, q, rfl, hrows, hcap, b2, hfar⟩
  have hpn : p = v.m := by rw [← hrows.len]; exact (DimM.new v.m).1
  subst hpn
  obtain ⟨M, hM⟩ : ∃ M, M = w2.heap.size := ⟨_, rfl⟩
  obtain ⟨W2, hW2⟩ : ∃ W2, W2 = w2.alloc (.cells #[.int .i64 v.m, .slice C v.m q] 35) := ⟨_, rfl⟩
  have b3 : Below w2.heap.size w2 W2 := by rw [hW2]; exact (Below.refl _ _).alloc (Nat.le_refl _) _
  have hbb := Lib.hid (below_trans2 (below_trans2 b1 b2) b3)
  have hMV := Lib.hid (show MV W2 M v.m C q (foldP v.m (uptoPo f.items v.m 0)) from ⟨by rw [hW2, hM]; exact MatB.new w2 _, by rw [show uptoPo f.items v.m 0 = [] from rfl, foldP_nil]; exact hrows.below b3, hcap, fun h0 ad e => by have := hrows.block_lt h0 ad e; omega⟩)
  have hgrM : gr < M := by have := kR.lt; have := b2.size; omega
  have kR2 := Lib.hid ((kR.below_ b2).below_ b3)
  have hgW : W0.heap.size ≤ gr := by omega
  have hAf := Lib.hid (show ∀ ad, C = some ad → gr < ad.block from fun ad e => by have := hfar ad e; have := kR.lt; omega)
  replace hgr := Lib.hid hgr
  clear hrows hcap b2 b3 hfar kR b1 hB1 p0 p1 p2 cN
  go_wp2_with (rw [← hW2, ← hM]; clear hW2; replace hM := Lib.hid hM)
  go_loopw [5] (fun t wr => ∃ (i : Nat) (A : Option Addr) (c : Nat), i ≤ v.m ∧ t = .int .i64 i ∧ Hid (Below W0.heap.size W0 wr) ∧ Hid (MatB wr gr 35 0 none 0 0) ∧ Hid (MV wr M v.m A c (foldP v.m (uptoPo f.items v.m i))) ∧ Hid (∀ ad, A = some ad → gr < ad.block)) (fun t _ => v.m - (intOf t).toNat)
  case atStart => exact ⟨0, _, _, Nat.zero_le _, rfl, hbb, kR2, hMV, hAf⟩
  case round =>
    clear hbb kR2 hMV hAf
    obtain ⟨i, A, c, hi, rfl, hbb, kR, hMV, hAf⟩ := hrel
    have hB := Lib.hid (hB0.out.later hbb.out)
    by_cases hlt : i < v.m
    · have hlt' : (i : Int) < (v.m : Int) := by omega
      have p1 := hB.out.c1
      go_wp2_with fail
      clear p1 hB
      obtain ⟨Wo, rfl⟩ : ∃ Wo, Wo = wr := ⟨_, rfl⟩
      go_loopw [6] (fun t wr => ∃ (j : Nat) (A : Option Addr) (c : Nat), j ≤ v.m ∧ t = .int .i64 j ∧ Hid (Below W0.heap.size W0 wr) ∧ Hid (MatB wr gr 35 0 none 0 0) ∧ Hid (MV wr M v.m A c (foldP v.m (uptoPo f.items v.m i ++ rowPo f.items i j))) ∧ Hid (∀ ad, A = some ad → gr < ad.block)) (fun t _ => v.m - (intOf t).toNat)
      case atStart => exact ⟨0, _, _, Nat.zero_le _, rfl, hbb, kR, Lib.hid (by rw [show rowPo f.items i 0 = [] from rfl, List.append_nil]; exact hMV.out), hAf⟩
      case round =>
        clear hbb kR hMV hAf
        obtain ⟨j, A, c, hj, rfl, hbb, kR, hMV, hAf⟩ := hrel
        have hB := Lib.hid (hB0.out.later hbb.out)
        have p0 := hB.out.c0
        have p1 := hB.out.c1
        have p2 := hB.out.c2
        by_cases hlj : j < v.m
        · have hlj' : (j : Int) < (v.m : Int) := by omega
          have cA := ref12_Ahead v f i j wr hB.out.f
          have hrs := rowPo_succ f.items i j
          cases ha : aheadF f.items i j with
          | false =>
            rw [ha] at cA
            rw [ha, if_neg (by simp)] at hrs
            replace cA := Lib.hid cA
            replace hrs := Lib.hid hrs
            clear ha hlj
            go_wp2_with fail
            refine cA.out.mono ?_; rintro e w3 ⟨rfl, b3⟩
            have hbb3 := Lib.hid (below_trans2 hbb.out b3)
            have kR3 := Lib.hid (kR.out.below_ b3)
            have hMV3 := Lib.hid (hMV.out.later b3)
            clear p0 p1 p2 b3 cA
            go_wp2_with fail
            exact ⟨⟨j + 1, A, c, by omega, by go_num, hbb3, kR3, Lib.hid (by rw [hrs.out]; exact hMV3.out), hAf⟩, by simp [intOf]; omega⟩
          | true =>
            rw [ha] at cA
            rw [ha, if_pos rfl] at hrs
            replace cA := Lib.hid cA
            replace hrs := Lib.hid hrs
            clear ha
            go_wp2_with fail
            refine cA.out.mono ?_; rintro e w3 ⟨rfl, b3⟩
            have hbb3 := Lib.hid (below_trans2 hbb.out b3)
            have kR3 := Lib.hid (kR.out.below_ b3)
            have hMV3 := Lib.hid (hMV.out.later b3)
            clear p0 p1 p2 b3 cA
            have cS := Lib.hid (ref3_SetF (v.m : Int) A v.m c _ (i : Int) (j : Int) w3 hMV3.out.rows rfl hm (poM_len hm _) (by unfold inM; simp; omega))
            have m0 := hMV3.out.loc.c0
            have m1 := hMV3.out.loc.c1
            go_wp2_with fail
            refine cS.out.mono ?_; rintro e w4 ⟨C2, n2, c2, rfl, hrows2, hcap2, b4, hfar2⟩
            have hn2 : n2 = v.m := by
              have h1 := hrows2.len
              rw [← foldP_last v.m (uptoPo f.items v.m i ++ rowPo f.items i j) ((i : Int), (j : Int))] at h1
              rw [← h1]; exact (DimM.fold v.m _).1
            subst hn2
            have hMV4 := Lib.hid (hMV3.out.put b4 hrows2 hcap2 hfar2)
            have hAf4 := Lib.hid (show ∀ ad, C2 = some ad → gr < ad.block from fun ad e => by have := hfar2 ad e; have := kR3.out.lt; omega)
            have kM := hMV3.out.loc.below_ b4
            have hbb4 := Lib.hid (((below_trans2 hbb3.out b4).setCell (p := ⟨M, 0, none⟩) (by show W0.heap.size ≤ M; omega) (.int .i64 (v.m : Int))).setCell (p := ⟨M, 1, none⟩) (by show W0.heap.size ≤ M; omega) (.slice C2 v.m c2))
            have kR4 := Lib.hid (((kR3.out.below_ b4).farB (p := ⟨M, 0, none⟩) (by show gr ≠ M; omega) (.int .i64 (v.m : Int))).farB (p := ⟨M, 1, none⟩) (by show gr ≠ M; omega) (.slice C2 v.m c2))
            clear m0 m1 cS hrows2 hfar2 b4 hlj
            have m0 := kM.c0
            have m1 := kM.c1
            have g0 := kM.frozen 0
            have g1 := kM.frozen 1
            clear kM
            go_wp2_with fail
            exact ⟨⟨j + 1, C2, c2, by omega, by go_num, hbb4, kR4, Lib.hid (by rw [hrs.out, ← List.append_assoc, foldP_last]; exact hMV4.out), hAf4⟩, by simp [intOf]; omega⟩
        · have hlj' : ¬ (j : Int) < (v.m : Int) := by omega
          have hjm : j = v.m := by omega
          have hus := uptoPo_succ f.items v.m i
          rw [hjm] at hMV
          clear hlj
          replace hus := Lib.hid hus
          replace hjm := Lib.hid hjm
          go_wp2_with fail
          exact ⟨⟨i + 1, A, c, by omega, by go_num, hbb, kR, Lib.hid (by rw [hus.out]; exact hMV.out), hAf⟩, by simp [intOf]; omega⟩
    · have hlt' : ¬ (i : Int) < (v.m : Int) := by omega
      have him : i = v.m := by omega
      rw [him] at hMV
      replace him := Lib.hid him
      have p1 := hB.out.c1
      have m0 := hMV.out.loc.c0
      have m1 := hMV.out.loc.c1
      have f0 := kR.out.c0
      have f1 := kR.out.c1
      have g0 := kR.out.frozen 0
      have g1 := kR.out.frozen 1
      have hcc := kR.out.two (.int .i64 (v.m : Int)) (.slice A v.m c)
      have hc1 := Lib.hid hcc.1
      have hc2 := Lib.hid hcc.2
      have hrf := Lib.hid (show RowsAt ((wr.setCell ⟨gr, 0, none⟩ (.int .i64 (v.m : Int))).setCell ⟨gr, 1, none⟩ (.slice A v.m c)) A v.m (foldP v.m (uptoPo f.items v.m v.m)) from hMV.out.rows.putB kR.out (fun h0 ad e hb => by have := hAf.out ad e; omega) _ _)
      have hbf := Lib.hid (((below_trans2 hB0.out.o hbb.out).setCell (p := ⟨gr, 0, none⟩) (by have := hB0.out.o.size; show w.heap.size ≤ gr; omega) (.int .i64 (v.m : Int))).setCell (p := ⟨gr, 1, none⟩) (by have := hB0.out.o.size; show w.heap.size ≤ gr; omega) (.slice A v.m c))
      clear hcc hlt
      go_wp2_with fail
      exact bodyPost_ret (v := .agg #[.int .i64 (v.m : Int), .slice A v.m c]) (by simp [results, Try.results68, go_sem, hc1.out, hc2.out]) rfl ⟨A, v.m, c, rfl, hrf.out, hMV.out.cap, hbf.out, fun ad e => by have := hAf.out ad e; have := hB0.out.o.size; omega⟩
end Go.Proofs.Ytpbiilhclmcehaa

namespace Go.Proofs.Ytpbiilhclmcehaa
open Go.RowKit
set_option linter.unusedVariables false

set_option maxHeartbeats 400000 in
theorem hull_place (m : Nat) (hm : m ≤ 1073741824) (w : World) :
    Calls Try.prog 56 #[.int .i64 (m : Int)] w fun e w' => e = .returned (.tuple #[.int .i64 ((m / 64 : Nat) : Int), .int .u64 ((p2 (m % 64) : Nat) : Int)]) ∧ w = w' := by
  have hA := Lib.hid (i64_and_63 m (by omega))
  have hB := Lib.hid (word_BitN (m % 64) (by omega) w)
  go_enter Try.func56, Try.ntmps56
  go_wp2_with fail
  rw [hA.out]
  refine hB.out.mono ?_; rintro e w' ⟨rfl, rfl⟩
  go_wp2_with fail
  exact bodyPost_ret (v := .tuple #[.int .i64 ((m / 64 : Nat) : Int), .int .u64 ((p2 (m % 64) : Nat) : Int)]) (by simp [results, Try.results56, go_sem]) rfl ⟨rfl, rfl⟩

/-- the least number that goes round -/
def LoopIs (n : Nat) (a : List (List Nat)) (r : Int) (b : Bool) : Prop := (b = true ∧ ∃ i : Nat, r = (i : Int) ∧ i < n ∧ Rel a i i ∧ ∀ j, j < i → ¬ Rel a j j) ∨ (b = false ∧ r = 0 ∧ ∀ i, i < n → ¬ Rel a i i)
def RetLoop (n : Nat) (a : List (List Nat)) (w : World) (e : Ending) (w' : World) : Prop := ∃ r b, e = .returned (.tuple #[.int .i64 r, .bool b]) ∧ LoopIs n a r b ∧ Below w.heap.size w w'
set_option maxHeartbeats 1000000 in
theorem hull_Loop (A : Option Addr) (n c : Nat) (a : List (List Nat)) (w : World) (hr : RowsAt w A n a) (hn : n ≤ 4096) (hl : ∀ xs ∈ a, xs.length ≤ 1024) :
    Calls Try.prog 33 #[.agg #[.int .i64 (n : Int), .slice A n c]] w (RetLoop n a w) := by
  obtain ⟨W0, hW0⟩ : ∃ W0, W0 = w.alloc (.cells #[.int .i64 n, .slice A n c] 35) := ⟨_, rfl⟩
  have ha : Below w.heap.size w W0 := by rw [hW0]; exact below_alloc _ _
  have hB : MatB W0 w.heap.size 35 n A n c := by rw [hW0]; exact MatB.new w _
  have l0 := hB.c0
  have l1 := hB.c1
  have hr' := Lib.hid (hr.below ha)
  have hC := Lib.hid (fun (k : Nat) (hk : k < n) W (hW : RowsAt W A n a) => mat_Has (n: Int) A n c a (k: Int) (k: Int) W hW (by omega) (fun xs hx => by have := hl xs hx; omega) (by omega) (by omega) (by omega) (by omega))
  replace ha := Lib.hid ha
  replace hB := Lib.hid hB
  clear hr hl
  go_enter Try.func33, Try.ntmps33
  go_wp2_with fail
  rw [← hW0]
  clear hW0
  go_wp2_with fail
  clear l0 l1
  go_loopw [7] (fun i wr => ∃ k : Nat, k ≤ n ∧ i = .int .i64 k ∧ Hid (∀ j, j < k → ¬ Rel a j j) ∧ Hid (Below W0.heap.size W0 wr)) (fun i _ => n - (intOf i).toNat)
  case atStart => exact ⟨0, Nat.zero_le _, rfl, Lib.hid (fun j hj => absurd hj (by omega)), Lib.hid (Below.refl _ _)⟩
  case round =>
    obtain ⟨k, hk, rfl, hall, hbr⟩ := hrel
    have l0 := (hB.out.below_ hbr.out).c0
    have l1 := (hB.out.below_ hbr.out).c1
    by_cases hlt : k < n
    · have hCk := Lib.hid (hC.out k hlt wr (hr'.out.below hbr.out))
      go_wp2_with fail
      refine hCk.out.mono ?_; rintro e w1 ⟨rfl, hb1⟩
      have hb01 := Lib.hid (below_trans2 hbr.out hb1)
      clear hb1 l0 l1 hCk
      cases hh : hasM a (k : Int) (k : Int) with
      | true =>
        have hres : Hid (LoopIs n a (k : Int) true) := Lib.hid (.inl ⟨rfl, k, rfl, hlt, hh, hall.out⟩)
        go_wp2_with fail
        exact bodyPost_ret (v := .tuple #[.int .i64 (k : Int), .bool true]) (by simp [results, Try.results33, go_sem]) rfl ⟨_, _, rfl, hres.out, below_trans2 ha.out hb01.out⟩
      | false =>
        have hall' : Hid (∀ j, j < k + 1 → ¬ Rel a j j) := Lib.hid (fun j hj => by
          rcases Nat.lt_succ_iff_lt_or_eq.1 hj with h1 | h1
          · exact hall.out j h1
          · subst h1
            unfold Rel
            rw [hh]; simp)
        clear hall
        go_wp2_with fail
        go_roundw
        case rel => exact ⟨k + 1, by omega, by go_num, hall', hb01⟩
        case measure => simp [intOf]; omega
    · have hres : Hid (LoopIs n a 0 false) := Lib.hid (.inr ⟨rfl, rfl, fun i hi => hall.out i (by omega)⟩)
      go_wp2_with fail
      exact bodyPost_ret (v := .tuple #[.int .i64 0, .bool false]) (by simp [results, Try.results33, go_sem]) rfl ⟨_, _, rfl, hres.out, below_trans2 ha.out hbr.out⟩

end Go.Proofs.Ytpbiilhclmcehaa

namespace Go.Proofs.Ytpbiilhclmcehaa
open Go.RowKit
set_option linter.unusedVariables false

theorem ref3_HasG (A : Option Addr) (n c : Nat) (a : List (List Nat)) (hG : Good n a) (i j : Int) (w : World) (hr : RowsAt w A n a) :
    Calls Try.prog 16 #[.agg #[.int .i64 (n : Int), .slice A n c], .int .i64 i, .int .i64 j] w (RetB (hasM a i j) w) := by
  have h := ref3_Has A n c a i j w hr hG.le (fun k xs hx => by have := hG.small xs (List.mem_of_getElem? hx); omega)
  rwa [hG.in_has] at h
set_option maxHeartbeats 1000000 in
theorem ref4_Loop (A : Option Addr) (n c : Nat) (a : List (List Nat)) (w : World) (hr : RowsAt w A n a) (hG : Good n a) :
    Calls Try.prog 17 #[.agg #[.int .i64 (n : Int), .slice A n c]] w (RetLoop n a w) := by
  have hnn : n ≤ 4096 := hG.le
  have hl : True := trivial
  obtain ⟨W0, hW0⟩ : ∃ W0, W0 = w.alloc (.cells #[.int .i64 n, .slice A n c] 35) := ⟨_, rfl⟩
  have ha : Below w.heap.size w W0 := by rw [hW0]; exact below_alloc _ _
  have hB : MatB W0 w.heap.size 35 n A n c := by rw [hW0]; exact MatB.new w _
  have l0 := hB.c0
  have l1 := hB.c1
  have hr' := Lib.hid (hr.below ha)
  have hC := Lib.hid (fun (k : Nat) (hk : k < n) W (hW : RowsAt W A n a) => ref3_HasG A n c a hG (k: Int) (k: Int) W hW)
  replace ha := Lib.hid ha
  replace hB := Lib.hid hB
  clear hr hl
  go_enter Try.func17, Try.ntmps17
  go_wp2_with fail
  rw [← hW0]
  clear hW0
  go_wp2_with fail
  clear l0 l1
  go_loopw [4] (fun i wr => ∃ k : Nat, k ≤ n ∧ i = .int .i64 k ∧ Hid (∀ j, j < k → ¬ Rel a j j) ∧ Hid (Below W0.heap.size W0 wr)) (fun i _ => n - (intOf i).toNat)
  case atStart => exact ⟨0, Nat.zero_le _, rfl, Lib.hid (fun j hj => absurd hj (by omega)), Lib.hid (Below.refl _ _)⟩
  case round =>
    obtain ⟨k, hk, rfl, hall, hbr⟩ := hrel
    have l0 := (hB.out.below_ hbr.out).c0
    have l1 := (hB.out.below_ hbr.out).c1
    by_cases hlt : k < n
    · have hCk := Lib.hid (hC.out k hlt wr (hr'.out.below hbr.out))
      go_wp2_with fail
      refine hCk.out.mono ?_; rintro e w1 ⟨rfl, hb1⟩
      have hb01 := Lib.hid (below_trans2 hbr.out hb1)
      clear hb1 l0 l1 hCk
      cases hh : hasM a (k : Int) (k : Int) with
      | true =>
        have hres : Hid (LoopIs n a (k : Int) true) := Lib.hid (.inl ⟨rfl, k, rfl, hlt, hh, hall.out⟩)
        go_wp2_with fail
        exact bodyPost_ret (v := .tuple #[.int .i64 (k : Int), .bool true]) (by simp [results, Try.results17, go_sem]) rfl ⟨_, _, rfl, hres.out, below_trans2 ha.out hb01.out⟩
      | false =>
        have hall' : Hid (∀ j, j < k + 1 → ¬ Rel a j j) := Lib.hid (fun j hj => by
          rcases Nat.lt_succ_iff_lt_or_eq.1 hj with h1 | h1
          · exact hall.out j h1
          · subst h1
            unfold Rel
            rw [hh]; simp)
        clear hall
        go_wp2_with fail
        go_roundw
        case rel => exact ⟨k + 1, by omega, by go_num, hall', hb01⟩
        case measure => simp [intOf]; omega
    · have hres : Hid (LoopIs n a 0 false) := Lib.hid (.inr ⟨rfl, rfl, fun i hi => hall.out i (by omega)⟩)
      go_wp2_with fail
      exact bodyPost_ret (v := .tuple #[.int .i64 0, .bool false]) (by simp [results, Try.results17, go_sem]) rfl ⟨_, _, rfl, hres.out, below_trans2 ha.out hbr.out⟩

end Go.Proofs.Ytpbiilhclmcehaa

namespace Go.Proofs.Ytpbiilhclmcehaa
open Go.RowKit
set_option linter.unusedVariables false
theorem info_int16 : (Try.prog.info? 3).map (fun i => (i.zero, i.size, i.bytes)) = some (some (.int .i64 0), 1, 8) := by kernel_rfl
/-- a list in a block of the call's own -/
def RetILF (xs : List Int) (w : World) (e : Ending) (w' : World) : Prop := ∃ A n c, e = .returned (.slice A n c) ∧ LAt encI w' A n xs ∧ n ≤ c ∧ c ≤ 9223372036854775807 ∧ Below w.heap.size w w' ∧ ∀ ad, A = some ad → w.heap.size ≤ ad.block
end Go.Proofs.Ytpbiilhclmcehaa
