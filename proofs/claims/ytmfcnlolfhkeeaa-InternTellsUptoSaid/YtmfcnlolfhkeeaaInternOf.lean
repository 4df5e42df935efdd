/- The contract of the code's own Of of layer 9 (a map from names to numbers). -/
import Derived.Test.YtmfcnlolfhkeeaaInternNum
import Derived.Test.YtmfcnlolfhkeeaaInternRefD
import Derived.Test.YtmfcnlolfhkeeaaHist
namespace Go.Proofs.Ytmfcnlolfhkeeaa
open Go.RowKit
set_option linter.unusedVariables false

/-- what a call that answers a history's facts ends in -/
def RetOf (hs : List (List OpT)) (w : World) (e : Ending) (w' : World) : Prop := ∃ v : FV, e = .returned (.tuple #[.agg #[.slice v.A v.n v.c, .slice v.B v.m v.d, .slice v.C v.k v.e], .int .i64 (if rightL hs = true then 0 else 1)]) ∧
      FactsAt w' v (if rightL hs = true then facO hs else ⟨[], [], []⟩) ∧ Below w.heap.size w w'
theorem row_belowP {S : Nat → Prop} {w w' : World} {base size n : Nat} {e : TypeId} {v : Value} {xs : List Value} (h : w.ownsRow base e size v n xs) (hb : BelowP S w w') (hn : ∀ k, v.ownBlock = some k → ¬ S k) : w'.ownsRow base e size v n xs := by
  refine ⟨h.1, ?_⟩
  rcases h.2 with h1 | ⟨k, cap, cur, rfl, hb1, hk, r⟩
  · exact .inl h1
  · exact .inr ⟨k, cap, cur, rfl, hb1, (hb.block k (Array.getElem?_eq_some_iff.1 hk).1 (hn k rfl)).trans hk, r⟩
theorem NamesAt.notS {w : World} {base g B g' : Nat} {v : Value} {L : List ByteArray} {t : TypeId} {cs : List Value} (h : NamesAt w base g B v L) (k : Blk w g' t cs) (ht : t ≠ 53) (ht' : t ≠ 9) : ¬ NamesS g B v g' := by
  obtain ⟨D, hD, -, -⟩ := h.m
  rintro (e | e | e)
  · rw [e] at k
    have e := (show w.heap[g]? = _ from h.k).symm.trans (show w.heap[g]? = _ from k)
    injection e with h1
    injection h1 with h1 h2
    exact ht h2.symm
  · exact map_not_blk hD k e.symm
  · exact k.not_row ht' h.o e
theorem NamesAt.rowS {w : World} {base g B b2 n size : Nat} {v : Value} {L : List ByteArray} {e : TypeId} {u : Value} {xs : List Value} (h : NamesAt w base g B v L) (hr : w.ownsRow b2 e size u n xs) (ht : e ≠ 53) (ht' : e ≠ 9) : ∀ k, u.ownBlock = some k → ¬ NamesS g B v k := by
  obtain ⟨D, hD, -, -⟩ := h.m
  rintro k hk (e | e | e)
  · exact h.k.not_row (fun e => ht e.symm) hr (by rw [hk, e])
  · exact map_not_row hD hr (by rw [hk, e])
  · exact rows_apart hr h.o ht' hk e
/-- while facts are built: the names in the variable g1, with the map B; the answer's variable is g0; u: the items -/
structure GI (w wr : World) (g0 g1 B : Nat) (v u : Value) (st : StF) : Prop where
  r : Blk wr g0 27 [.slice none 0 0, .slice none 0 0, .slice none 0 0]
  f : NamesAt wr w.heap.size g1 B v st.1
  ou : wr.ownsRow w.heap.size 44 5 u st.2.length (encT.all st.2)
  b : Below w.heap.size w wr
  ok : StOk st
  l0 : w.heap.size ≤ g0
theorem GI.later {w wr w' : World} {g0 g1 B : Nat} {v u : Value} {st : StF} (h : GI w wr g0 g1 B v u st) (hb : Below wr.heap.size wr w') : GI w w' g0 g1 B v u st :=
  ⟨h.r.below hb h.r.lt, h.f.below hb, own_below h.ou hb, below_trans2 h.b hb, h.ok, h.l0⟩
theorem mk_items (kl kc : IntKind) (c : Nat) (hc : c ≤ 1099511627776) (W : World) :
    (Instr.makeSlice 24 (.int kl 0) (.int kc (c : Int))).run Try.prog W = .ok (.slice (some ⟨W.heap.size, 0, none⟩) 0 c) (W.alloc (.cells (madeCells #[.int .i64 0, .int .i64 0, .bool false, .int .i64 0, .int .i64 0] (c * 5)) 44)) := by
  obtain ⟨i, hi, hz0, hz1, hz2⟩ := info_parts info_item
  have hr := run_make (P := Try.prog) W _ _ i _ Try.underlying24 hi hz0 kl kc 0 c (by omega) (by omega) (by rw [hz2]; omega) (by omega)
  rw [hr, hz1]
  rfl
set_option maxRecDepth 100000 in
set_option maxHeartbeats 4000000 in
theorem intern_Of (A : Option Addr) (n c : Nat) (hs : List (List OpT)) (w : World) (hH : HistAt w A n hs) (hnc : n ≤ c) (hn : n ≤ 1099511627776) (hc : c ≤ 9223372036854775807) (hF : (allO hs).length ≤ 1099511627776) :
    Calls Try.prog 9 #[.slice A n c] w (RetOf hs w) := by
  obtain ⟨j0, ji, jz0, jz1, jz2⟩ := info_parts info_item
  replace ji := Lib.hid ji
  replace jz0 := Lib.hid jz0
  replace jz1 := Lib.hid jz1
  replace jz2 := Lib.hid jz2
  have hlen := Lib.hid hH.len
  have hH0 := Lib.hid hH
  unfold RetOf
  obtain ⟨W0, hW0⟩ : ∃ W, W = w.alloc (.cells #[.slice none 0 0, .slice none 0 0, .slice none 0 0] 27) := ⟨_, rfl⟩
  obtain ⟨g0, hg0⟩ : ∃ g, g = w.heap.size := ⟨_, rfl⟩
  have k0 : Blk W0 g0 27 [.slice none 0 0, .slice none 0 0, .slice none 0 0] := by rw [hW0, hg0]; exact Blk.new w _ _
  have bb := Lib.hid (show Below w.heap.size w W0 from by rw [hW0]; exact (Below.refl _ w).alloc (Nat.le_refl _) _)
  have cR := Lib.hid (hist_Right A n c hs W0 (hH.below bb.out) hnc hn hc hF)
  replace hF := Lib.hid hF
  cases hr : rightL hs with
  | false =>
    rw [hr] at cR
    replace hr := Lib.hid hr
    clear hH
    go_enter Try.func9, Try.ntmps9
    go_wp2_with (rw [← hW0, ← hg0]; clear hW0; replace hg0 := Lib.hid hg0)
    refine cR.out.mono ?_; rintro e w1 ⟨rfl, b⟩
    replace bb := Lib.hid (below_trans2 bb.out b)
    replace k0 := k0.below b k0.lt
    clear b
    have c0 := k0.cell 0
    have c1 := k0.cell 1
    have c2 := k0.cell 2
    have f0 := k0.frozen 0
    have f1 := k0.frozen 1
    have f2 := k0.frozen 2
    go_wp2_with fail
    have k3 := ((k0.set_ 0 (.slice none 0 0)).set_ 1 (.slice none 0 0)).set_ 2 (.slice none 0 0)
    have e0 := k3.cell 0
    have e1 := k3.cell 1
    have e2 := k3.cell 2
    refine bodyPost_ret (v := .tuple #[.agg #[.slice none 0 0, .slice none 0 0, .slice none 0 0], .int .i64 1]) (by simp [results, Try.results9, go_sem, e0, e1, e2]) rfl ⟨⟨none, 0, 0, none, 0, 0, none, 0, 0⟩, rfl, ⟨LAt.nil _ _ _, Nat.le_refl _, by simp, LAt.nil _ _ _, Nat.le_refl _, by simp, LAt.nil _ _ _, Nat.le_refl _, by simp⟩, ?_⟩
    exact ((bb.out.setCell (by rw [hg0.out]; exact Nat.le_refl _) _).setCell (by rw [hg0.out]; exact Nat.le_refl _) _).setCell (by rw [hg0.out]; exact Nat.le_refl _) _
  | true =>
    rw [hr] at cR
    have hmm := @run_makeMap Try.prog
    have hmk := Lib.hid (fun W => mk_items .i64 .i64 (allO hs).length hF.out W)
    replace hr := Lib.hid hr
    replace hH := Lib.hid (hH.below bb.out)
    go_enter Try.func9, Try.ntmps9
    go_wp2_with (rw [← hW0, ← hg0]; clear hW0; replace hg0 := Lib.hid hg0)
    refine cR.out.mono ?_; rintro e w1 ⟨rfl, b⟩
    replace bb := Lib.hid (below_trans2 bb.out b)
    replace hH := Lib.hid (hH.out.below b)
    replace k0 := k0.below b k0.lt
    obtain ⟨B, hB⟩ : ∃ g, g = w1.heap.size := ⟨_, rfl⟩
    obtain ⟨Wm, hWm⟩ : ∃ W, W = w1.alloc (.map #[] 0) := ⟨_, rfl⟩
    obtain ⟨W1, hW1⟩ : ∃ W, W = Wm.alloc (.cells #[.slice none 0 0, .map (some B)] 53) := ⟨_, rfl⟩
    have hWs : Wm.heap.size = B + 1 := by rw [hWm, World.size_alloc, hB]
    obtain ⟨g1, hg1⟩ : ∃ g, g = B + 1 := ⟨_, rfl⟩
    have bm : Below w1.heap.size w1 Wm := by rw [hWm]; exact (Below.refl _ w1).alloc (Nat.le_refl _) _
    have b1 : Below Wm.heap.size Wm W1 := by rw [hW1]; exact (Below.refl _ _).alloc (Nat.le_refl _) _
    have hD : Wm.ownsMap Try.prog 9 (plainElem (H := Unit) Try.prog 3) B 0 (.map []) := by rw [hWm, hB]; exact World.ownsMap_made _ _ _ _
    have hNm : NamesAt W1 w.heap.size g1 B (.slice none 0 0) [] :=
      ⟨by rw [hW1, hg1, ← hWs]; exact Blk.new Wm _ _, World.ownsRow_nil _ _ _ _, ⟨_, hD.kept (grown_of_below b1) (by simp), fun s => rfl, fun s h => (by cases h)⟩, fun x h => (by cases h), by rw [hg1, ← hWs]; exact Nat.le_trans bb.out.size bm.size, by rw [hB]; exact bb.out.size, Nat.le_trans (Nat.le_trans bb.out.size bm.size) b1.size⟩
    have cC := Lib.hid (hist_Count A n c hs W1 ((hH.out.below bm).below b1) hnc hn hc hF.out)
    replace hH := Lib.hid ((hH.out.below bm).below b1)
    replace bb := Lib.hid (below_trans2 (below_trans2 bb.out bm) b1)
    replace k0 := k0.below (below_trans2 bm b1) k0.lt
    replace hNm := Lib.hid hNm
    clear b cR bm b1 hD
    replace hg1 := Lib.hid hg1
    replace hB := Lib.hid hB
    go_wp2_with fail
    rw [← hB.out, ← hWm, ← hW1, ← hg1.out]
    clear hW1 hWm hWs
    refine cC.out.mono ?_; rintro e w2 ⟨rfl, b⟩
    obtain ⟨W2, hW2⟩ : ∃ W, W = w2.alloc (.cells (madeCells #[.int .i64 0, .int .i64 0, .bool false, .int .i64 0, .int .i64 0] ((allO hs).length * 5)) 44) := ⟨_, rfl⟩
    have b2 : Below w2.heap.size w2 W2 := by rw [hW2]; exact (Below.refl _ _).alloc (Nat.le_refl _) _
    have hGI : GI w W2 g0 g1 B (.slice none 0 0) (.slice (some ⟨w2.heap.size, 0, none⟩) 0 (allO hs).length) ([], []) := by
      refine ⟨(k0.below b k0.lt).below b2 (k0.below b k0.lt).lt, (hNm.out.below b).below b2, ?_, below_trans2 (below_trans2 bb.out b) b2, StOk.nil, by rw [hg0.out]; exact Nat.le_refl _⟩
      rw [hW2]
      exact World.ownsRow_made w2 _ _ (Nat.le_trans bb.out.size b.size) (by have := hF.out; unfold maxLen; omega) (by rw [size_madeCells])
    have hH2 := Lib.hid ((hH.out.below b).below b2)
    have hmk2 := hmk.out w2
    rw [← hW2] at hmk2
    replace hGI := Lib.hid hGI
    clear cC hmm b b2 k0 hNm bb hH
    go_wp2_with fail
    rw [← hW2]
    clear hW2 hmk2
    go_loopw [5, 21] (fun u' i wr => ∃ (k : Nat) (v u : Value), k ≤ n ∧ i = .int .i64 k ∧ u = u' ∧ Hid (GI w wr g0 g1 B v u (hisF (hs.take k)))) (fun _ i _ => n - (intOf i).toNat)
    case atStart => exact ⟨0, _, _, Nat.zero_le _, rfl, rfl, hGI⟩
    case round =>
      clear hGI hH2
      obtain ⟨k, v, u, hk, rfl, rfl, hI⟩ := hrel
      by_cases hlt : k < n
      · obtain ⟨b1, off, Bb, m, cc, os, rfl, hbl, hos, hcell0, hmc, hm63, hO⟩ := hH0.out.at_ hlt
        have hcell := (hI.out.b.cell (p := ⟨b1, off + k, none⟩) hbl).trans hcell0
        have hlt' : (k : Int) < (n : Int) := by omega
        have hol := Lib.hid hO.len
        have htk := Lib.hid (List.take_succ_eq_append_getElem (List.getElem?_eq_some_iff.1 hos).1)
        rw [(List.getElem?_eq_some_iff.1 hos).2] at htk
        replace hos := Lib.hid hos
        replace hO := Lib.hid hO
        go_wp2_with fail
        go_loopw [5, 28] (fun u' i wr => ∃ (j : Nat) (v u : Value), j ≤ m ∧ i = .int .i64 j ∧ u = u' ∧ Hid (GI w wr g0 g1 B v u (sesF k (os.take j) (hisF (hs.take k))))) (fun _ i _ => m - (intOf i).toNat)
        case atStart => exact ⟨0, v, _, Nat.zero_le _, rfl, rfl, hI⟩
        case round =>
          clear hI hcell hcell0
          obtain ⟨j, v, u, hj, rfl, rfl, hI⟩ := hrel
          by_cases hjm : j < m
          · obtain ⟨b2, off2, o, rfl, hb2, ho, hok, x0, x1, x2⟩ := (hO.out.below hI.out.b).at_ hjm
            have hjm : (j : Int) < (m : Int) := by omega
            have htj := Lib.hid (List.take_succ_eq_append_getElem (List.getElem?_eq_some_iff.1 ho).1)
            rw [(List.getElem?_eq_some_iff.1 ho).2] at htj
            obtain ⟨st, hst⟩ : ∃ st, st = sesF k (os.take j) (hisF (hs.take k)) := ⟨_, rfl⟩
            rw [← hst] at hI
            have hone : Hid (sesF k (os.take (j + 1)) (hisF (hs.take k)) = oneF k st (o, j)) := Lib.hid (by
              rw [htj.out, sesF_snoc, ← hst, List.length_take, hol.out, Nat.min_eq_left (by omega)])
            have hstl : st.2.length < 1099511627776 := by
              have h1 := (sesF_len k (os.take j) (hisF (hs.take k))).1
              have h2 := hisF_len (hs.take k)
              have h3 := allO_take_le hs (k + 1)
              rw [allO_take_succ hos.out, List.length_append, hol.out] at h3
              rw [← hst, h2, List.length_take] at h1
              have := hF.out
              omega
            have hjb : j ≤ 4398046511104 := by
              have h3 := allO_take_le hs (k + 1)
              rw [allO_take_succ hos.out, List.length_append, hol.out] at h3
              have := hF.out
              omega
            have hok4 := hI.out.ok.one (se := k) (pl := j) (o := o) (by omega) (by omega) (by omega) hok
            have hitok : It.Ok ⟨k, j, o.1, findZ (addV st.1 o.2.1) o.2.1, o.2.2⟩ := hok4.i _ (by simp [oneF])
            have hstL : st.1.length ≤ 1099511627776 := by have := hI.out.ok.l; omega
            replace hst := Lib.hid hst
            replace ho := Lib.hid ho
            replace htj := Lib.hid htj
            obtain ⟨Wo, hWo⟩ : ∃ W, W = wr.alloc (.cells #[.bool o.1, .string o.2.1, .int .i64 o.2.2] 50) := ⟨_, rfl⟩
            obtain ⟨g2, hg2⟩ : ∃ g, g = wr.heap.size := ⟨_, rfl⟩
            have bo : Below wr.heap.size wr Wo := by rw [hWo]; exact (Below.refl _ _).alloc (Nat.le_refl _) _
            have ko : Blk Wo g2 50 [.bool o.1, .string o.2.1, .int .i64 o.2.2] := by rw [hWo, hg2]; exact Blk.new wr _ _
            have I3 := hI.out.later bo
            obtain ⟨SS, hSS⟩ : ∃ SS : Nat → Prop, SS = fun k => NamesS g1 B v k ∨ u.ownBlock = some k := ⟨_, rfl⟩
            have n2 : ¬ SS g2 := by
              rw [hSS]
              rintro (h | h)
              · exact I3.f.notS ko (by decide) (by decide) h
              · exact ko.not_row (by decide) I3.ou h
            have cN := Lib.hid (names_number Wo.drew w.heap.size g1 B v st.1 o.2.1 (I3.f.below ((Below.refl _ _).drew)) hok.2 hstL)
            have p0 : Wo.drew.cell? ⟨g2, 0, none⟩ = _ := ko.cell 0
            have p1 : Wo.drew.cell? ⟨g2, 1, none⟩ = _ := ko.cell 1
            have p2 : Wo.drew.cell? ⟨g2, 2, none⟩ = _ := ko.cell 2
            clear hjm hI
            replace I3 := Lib.hid I3
            replace hitok := Lib.hid hitok
            replace hok4 := Lib.hid hok4
            obtain ⟨V, hV⟩ : ∃ V, V = findZ (addV st.1 o.2.1) o.2.1 := ⟨_, rfl⟩
            rw [← hV] at cN hitok
            replace hV := Lib.hid hV
            replace hone := Lib.hid hone.out
            replace hSS := Lib.hid hSS
            replace bo := Lib.hid bo
            replace hok := Lib.hid hok
            go_wp2_with (rw [← hWo, ← hg2]; clear hWo; replace hg2 := Lib.hid hg2)
            refine wp_region_planP (gb := SS) 14 [(true, 0), (true, 1), (true, 2), (true, 3), (true, 4), (true, 5), (true, 6), (true, 8), (true, 9), (false, 7), (true, 10), (false, 11), (false, 12), (true, 13)] (by kernel_rfl) (by kernel_rfl) (fun X hX => ?_)
            obtain rfl := hX.out
            clear hX
            simp only [List.drop_succ_cons, List.drop_zero]
            iterate 9
              refine wpPP_float (v := ?_) rfl (by rfl) (fun w' hw' => ?_) (fun K hK => ?_)
              rotate_left
              · (go_simp; try with_reducible rfl)
              go_simp
              refine hK _ ?_
              clear hK K
            refine wpPP_only rfl (by rfl) (fun K hK => ?_)
            go_simp
            refine cN.out.mono ?_; rintro e w4 ⟨v4, rfl, hN4, hb4⟩
            refine hK _ _ (hb4.imp (fun k _ h => by rw [hSS.out]; exact .inl h)) ?_
            clear hK K
            have hd3 := I3.out.later (Below.refl _ _).drew
            have ou4 := row_belowP hd3.ou hb4 (hd3.f.rowS hd3.ou (by decide) (by decide))
            have kr4 := hb4.blk hd3.r (hd3.f.notS hd3.r (by decide) (by decide))
            have b4 : Below w.heap.size w w4 := hd3.b.trans (hb4.below hd3.b.size hd3.f.above)
            clear p0 p1 p2 n2 cN hb4 hd3
            obtain ⟨W6, hW6⟩ : ∃ W, W = w4.alloc (.cells #[.int .i64 (k : Int), .int .i64 (j : Int), .bool o.1, .int .i64 V, .int .i64 o.2.2] 44) := ⟨_, rfl⟩
            have b6 : Below w4.heap.size w4 W6 := by rw [hW6]; exact (Below.refl _ _).alloc (Nat.le_refl _) _
            have hlit6 : LAt encT W6 (some ⟨w4.heap.size, 0, none⟩) 1 [⟨k, j, o.1, V, o.2.2⟩] := by rw [hW6]; exact LAt.lit1 (E := encT) w4 _ ⟨k, j, o.1, V, o.2.2⟩ hitok.out
            have hN6 := Lib.hid (hN4.below b6)
            have ou6 := Lib.hid (own_below ou4 b6)
            have kr6 := Lib.hid (kr4.below b6 kr4.lt)
            have bw6 := Lib.hid (b4.trans (b6.mono b4.size))
            have hw6 := bw6.out.size
            clear hN4 ou4 kr4 b4
            iterate 1
              refine wpPP_float (v := ?_) rfl (by rfl) (fun w' hw' => ?_) (fun K hK => ?_)
              rotate_left
              · (go_simp; try with_reducible rfl)
              go_simp
              refine hK _ ?_
              clear hK K
            refine wpPP_only rfl (by rfl) (fun K hK => ?_)
            go_simp
            rw [← hW6]
            refine hK _ _ (BelowP.of b6) ?_
            clear hK K hW6 b6
            refine wpPP_only rfl (by rfl) (fun K hK => ?_)
            refine wp_append_L (E := encT) (.tmp 33) (.tmp 44) _ rfl w.heap.size 44 j0 _ 40 Try.underlying24 ji.out jz0.out jz1.out jz2.out rfl _ st.2.length st.2 (by rfl) ou6.out _ 1 1 [⟨k, j, o.1, V, o.2.2⟩] (by rfl) hlit6 (by unfold maxLen; omega) (by omega) hw6 ?_
            intro v7 w7 hown7 hbb7 hg7 hob7
            refine hK _ _ (BelowP.grown hg7 (fun k hk => by rw [hSS.out]; exact .inr hk)) ?_
            clear hK K
            have hN7 := Lib.hid (hN6.out.grown ou6.out (by decide) (by decide) hg7)
            have kr7 := Lib.hid (kr6.out.kept hg7 (kr6.out.not_row (by decide) ou6.out))
            have b7 := Lib.hid (bw6.out.trans hbb7)
            replace hown7 := Lib.hid hown7
            clear hN6 ou6 kr6 bw6 hlit6 hg7 hob7 hbb7
            iterate 1
              refine wpPP_float (v := ?_) rfl (by rfl) (fun w' hw' => ?_) (fun K hK => ?_)
              rotate_left
              · (go_simp; try with_reducible rfl)
              go_simp
              refine hK _ ?_
              clear hK K
            refine wpPP_nil ?_
            go_wp2_with fail
            refine NoPanic.normal ?_
            go_wp2_with fail
            exact ⟨⟨j + 1, _, _, by omega, by go_num, rfl, Lib.hid (by
              rw [hone.out]
              have hok5 := hok4.out
              unfold oneF at hok5 ⊢
              rw [← hV.out] at hok5 ⊢
              exact ⟨kr7.out, hN7.out, by rw [List.length_append]; exact hown7.out, b7.out, hok5, I3.out.l0⟩)⟩, by simp [intOf]; omega⟩
          · have hjm : ¬ (j : Int) < (m : Int) := by omega
            have htk2 : os.take j = os := List.take_of_length_le (by rw [hol.out]; omega)
            rw [htk2] at hI
            have hnx : Hid (hisF (hs.take (k + 1)) = sesF k os (hisF (hs.take k))) := Lib.hid (by
              rw [htk.out, hisF_snoc, List.length_take, hlen.out, Nat.min_eq_left (by omega)])
            rw [← hnx.out] at hI
            clear hjm htk2
            go_wp2_with fail
            exact ⟨⟨k + 1, _, _, by omega, by go_num, rfl, hI⟩, by simp [intOf]; omega⟩
      · have hkn' : ¬ (k : Int) < (n : Int) := by omega
        rw [show hs.take k = hs from List.take_of_length_le (by rw [hlen.out]; omega)] at hI
        obtain ⟨A1, c1, rfl, h11, h12, hLv⟩ := LAt.of_own hI.out.f.o hI.out.ok.s rfl
        obtain ⟨A2, c2, rfl, h21, h22, hLu⟩ := LAt.of_own hI.out.ou hI.out.ok.i rfl
        obtain ⟨N, hN⟩ : ∃ N, N = (hisF hs).1.length := ⟨_, rfl⟩
        obtain ⟨M, hM⟩ : ∃ M, M = (hisF hs).2.length := ⟨_, rfl⟩
        have kf := hI.out.f.k
        have kr := hI.out.r
        rw [← hN] at kf hLv h11
        rw [← hM] at hLu h21
        have q0 := kf.cell 0
        have s0 := kr.frozen 0
        have s1 := kr.frozen 1
        have s2 := kr.frozen 2
        have p0 := kr.cell 0
        have p1 := kr.cell 1
        have p2 := kr.cell 2
        have k3 := ((kr.set_ 0 (.slice A1 N c1)).set_ 1 (.slice A2 M c2)).set_ 2 (.slice none 0 0)
        have e0 := k3.cell 0
        have e1 := k3.cell 1
        have e2 := k3.cell 2
        have bl := hI.out.l0
        have bS : ∀ i (u : Value) (X : World), Below w.heap.size w X → Below w.heap.size w (X.setCell ⟨g0, i, none⟩ u) := fun i u X h => h.setCell (p := ⟨g0, i, none⟩) bl u
        have bE := bS 2 (.slice none 0 0) _ (bS 1 (.slice A2 M c2) _ (bS 0 (.slice A1 N c1) _ hI.out.b))
        have ovX := own_farT (i := 2) (own_farT (i := 1) (own_farT (i := 0) hI.out.f.o kr (by decide) (.slice A1 N c1)) (kr.set_ 0 _) (by decide) (.slice A2 M c2)) ((kr.set_ 0 _).set_ 1 _) (by decide) (.slice none 0 0)
        have ouX := own_farT (i := 2) (own_farT (i := 1) (own_farT (i := 0) hI.out.ou kr (by decide) (.slice A1 N c1)) (kr.set_ 0 _) (by decide) (.slice A2 M c2)) ((kr.set_ 0 _).set_ 1 _) (by decide) (.slice none 0 0)
        have hLX := LAt.of_own' ovX hI.out.ok.s rfl
        have hUX := LAt.of_own' ouX hI.out.ok.i rfl
        rw [← hN] at hLX
        rw [← hM] at hUX
        rw [← hM]
        replace hLX := Lib.hid hLX
        replace hUX := Lib.hid hUX
        replace bE := Lib.hid bE
        clear ovX ouX bS hLv hLu kf kr k3 hlt hn
        replace hI := Lib.hid True.intro
        replace hN := Lib.hid hN
        replace hM := Lib.hid hM
        go_wp2_with fail
        refine bodyPost_ret (v := .tuple #[.agg #[.slice A1 N c1, .slice A2 M c2, .slice none 0 0], .int .i64 0]) (by simp [results, Try.results9, go_sem, e0, e1, e2]) rfl ⟨⟨A1, N, c1, A2, M, c2, none, 0, 0⟩, rfl, ?_, bE.out⟩
        exact ⟨hLX.out, h11, h12, hUX.out, h21, h22, LAt.nil _ _ _, Nat.le_refl _, by simp⟩

end Go.Proofs.Ytmfcnlolfhkeeaa
