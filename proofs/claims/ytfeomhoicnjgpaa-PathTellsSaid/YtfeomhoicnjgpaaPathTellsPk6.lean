/- The contract of the document's own answer of layer 14: far. The contracts of the document's own answers of layer 14: Find, Round. The code's own contract of layer 14: way (back from number to number). The contract of the document's own answer of layer 14: Round. -/
import Derived.Test.YtfeomhoicnjgpaaPathTellsPk5
import Derived.Test.YtfeomhoicnjgpaaPathTellsPk4
namespace Go.Proofs.Ytfeomhoicnjgpaa
open Go.RowKit
set_option linter.unusedVariables false
theorem info_int14 : (Try.prog.info? 3).map (fun i => (i.zero, i.size, i.bytes)) = some (some (.int .i64 0), 1, 8) := by kernel_rfl
theorem mk_ints (kl kc : IntKind) (n c : Nat) (hnc : n ≤ c) (hc : c ≤ 4398046511104) (W : World) :
    (Instr.makeSlice 23 (.int kl (n : Int)) (.int kc (c : Int))).run Try.prog W = .ok (.slice (some ⟨W.heap.size, 0, none⟩) n c) (W.alloc (.cells (zeros c (.int .i64 0)) 3)) := by
  obtain ⟨i, hi, hz0, hz1, hz2⟩ := info_parts info_int14
  exact run_make_one _ _ i _ Try.underlying23 hi hz0 hz1 rfl kl kc n c hnc (by rw [hz2]; omega) (by omega) W
theorem encI_all (ds : List Int) : encI.all ds = ds.map i64v := by
  induction ds with
  | nil => rfl
  | cons x ds ih => rw [Enc.all_cons, ih]; rfl
/-- numbers in a row of the call's own, at block g1 -/
structure FarW (W0 : World) (g1 n : Nat) (ds : List Int) (wr : World) : Prop where
  own : wr.ownsRow W0.heap.size 3 1 (.slice (some ⟨g1, 0, none⟩) n n) n (ds.map i64v)
  bel : Below W0.heap.size W0 wr
  big : W0.heap.size ≤ g1
section
variable {W0 wr w' : World} {g1 n : Nat} {ds : List Int}
theorem FarW.len (h : FarW W0 g1 n ds wr) : ds.length = n := by have := h.own.1; simpa using this
theorem FarW.cell (h : FarW W0 g1 n ds wr) {q : Nat} (hq : q < n) : wr.cell? ⟨g1, q, none⟩ = some (.int .i64 (ds.getD q 0)) := by
  rw [h.own.cellAt q (by omega), List.getElem?_map, List.getD_eq_getElem?_getD, List.getElem?_eq_getElem (by rw [h.len]; exact hq)]; rfl
theorem FarW.frozen (h : FarW W0 g1 n ds wr) (q : Nat) : wr.frozen? ⟨g1, q, none⟩ = false := h.own.frozenAt q
theorem FarW.set (h : FarW W0 g1 n ds wr) (q : Nat) (v : Int) : FarW W0 g1 n (ds.set q v) (wr.setCell ⟨g1, q, none⟩ (.int .i64 v)) :=
  ⟨by have := (h.own.stored q (i64v v)).1; rw [List.map_set]; exact this, h.bel.setCell (p := ⟨g1, q, none⟩) h.big _, h.big⟩
theorem FarW.later (h : FarW W0 g1 n ds wr) (hb : Below wr.heap.size wr w') : FarW W0 g1 n ds w' := ⟨own_below h.own hb, h.bel.trans (hb.mono h.bel.size), h.big⟩
theorem getD_set (ds : List Int) (q x : Nat) (v : Int) (hq : q < ds.length) : (ds.set q v).getD x 0 = if x = q then v else ds.getD x 0 := by
  rw [List.getD_eq_getElem?_getD, List.getD_eq_getElem?_getD]
  by_cases h : x = q
  · subst h; rw [if_pos rfl, List.getElem?_set_self hq]; rfl
  · rw [if_neg h, List.getElem?_set_ne (fun e => h e.symm)]
end
/-- what is known in the midst of step s + 1, behind the numbers below x -/
structure FarX (r : Nat → Nat → Prop) (j s n x : Nat) (ds : List Int) : Prop where
  lo : ∀ q, q < x → q < n → Far r j (s + 1) q (ds.getD q 0)
  hi : ∀ q, x ≤ q → q < n → Far r j s q (ds.getD q 0)
/-- .. and of number x itself behind the numbers below k -/
structure FarY (r : Nat → Nat → Prop) (j s n x k : Nat) (ds : List Int) : Prop where
  lo : ∀ q, q < x → q < n → Far r j (s + 1) q (ds.getD q 0)
  hi : ∀ q, x < q → q < n → Far r j s q (ds.getD q 0)
  me : (0 ≤ ds.getD x 0 ∧ Far r j (s + 1) x (ds.getD x 0)) ∨ (ds.getD x 0 = -1 ∧ (∀ l, Way r x j l → s < l.length) ∧ ∀ k', k' < k → r x k' → ds.getD k' 0 ≠ (s : Int))
section
variable {r : Nat → Nat → Prop} {j s n x k : Nat} {ds : List Int}
theorem FarX.enter (h : FarX r j s n x ds) (hx : x < n) : FarY r j s n x 0 ds := by
  refine ⟨h.lo, fun q h1 h2 => h.hi q (by omega) h2, ?_⟩
  have h1 := h.hi x (Nat.le_refl _) hx
  by_cases h0 : 0 ≤ ds.getD x 0
  · exact .inl ⟨h0, h1.later h0⟩
  · rcases h1 with ⟨m, e, _⟩ | ⟨e, h2⟩
    · omega
    · exact .inr ⟨e, h2, fun k' hk => by omega⟩
theorem FarY.each (h : FarY r j s n x k ds) : ∀ q, q < n → q ≠ x → Far r j s q (ds.getD q 0) ∨ Far r j (s + 1) q (ds.getD q 0) := fun q hq hne => by
  rcases Nat.lt_or_ge q x with h1 | h1
  · exact .inr (h.lo q h1 hq)
  · exact .inl (h.hi q (by omega) hq)
theorem FarY.skip (h : FarY r j s n x k ds) (hk : ds.getD x 0 = -1 → r x k → ds.getD k 0 ≠ (s : Int)) : FarY r j s n x (k + 1) ds := by
  refine ⟨h.lo, h.hi, ?_⟩
  rcases h.me with h1 | ⟨h1, h2, h3⟩
  · exact .inl h1
  · refine .inr ⟨h1, h2, fun k' hk' hr => ?_⟩
    rcases Nat.lt_or_ge k' k with h4 | h4
    · exact h3 k' h4 hr
    · obtain rfl : k' = k := by omega
      exact hk h1 hr
theorem FarY.found (h : FarY r j s n x k ds) (hl : ds.length = n) (hx : x < n) (hk : k < n) (hneg : ds.getD x 0 < 0) (hv : ds.getD k 0 = (s : Int)) (hr : r x k) : FarY r j s n x (k + 1) (ds.set x ((s + 1 : Nat) : Int)) := by
  have hkx : k ≠ x := fun e => by rw [e] at hv; omega
  rcases h.me with h1 | ⟨h1, h2, h3⟩
  · omega
  · have hj := Far.just (h.each k hk hkx) hv
    refine ⟨fun q h4 h5 => ?_, fun q h4 h5 => ?_, .inl ?_⟩
    · rw [getD_set _ _ _ _ (by omega), if_neg (by omega)]; exact h.lo q h4 h5
    · rw [getD_set _ _ _ _ (by omega), if_neg (by omega)]; exact h.hi q h4 h5
    · rw [getD_set _ _ _ _ (by omega), if_pos rfl]
      exact ⟨by omega, Far.found h2 hr hj⟩
theorem FarY.leave (hr : ∀ i j, r i j → i < n ∧ j < n) (h : FarY r j s n x k ds) (hd : 0 ≤ ds.getD x 0 ∨ k = n) : FarX r j s n (x + 1) ds := by
  refine ⟨fun q h1 h2 => ?_, fun q h1 h2 => h.hi q (by omega) h2⟩
  rcases Nat.lt_or_ge q x with h3 | h3
  · exact h.lo q h3 h2
  · obtain rfl : q = x := by omega
    rcases h.me with ⟨_, h4⟩ | ⟨h4, h5, h6⟩
    · exact h4
    · rcases hd with h7 | h7
      · omega
      · subst h7
        rw [h4]
        refine Far.none hr (d := fun y => if y = q then -1 else ds.getD y 0) (fun y hy => ?_) h5 (fun y hy hry => ?_)
        · by_cases hyq : y = q
          · simp only [hyq, if_true]
            exact .inl (.inr ⟨rfl, h5⟩)
          · simp only [if_neg hyq]
            exact h.each y hy hyq
        · by_cases hyq : y = q
          · simp only [hyq, if_true]; omega
          · simp only [if_neg hyq]; exact h6 y hy hry
end
/-- how far each number is from j -/
def FarL (r : Nat → Nat → Prop) (j n : Nat) (ds : List Int) : Prop := ds.length = n ∧ ∀ q, q < n → FarAll r j q (ds.getD q 0) ∧ -1 ≤ ds.getD q 0 ∧ ds.getD q 0 ≤ (n : Int)
def RetFar (r : Nat → Nat → Prop) (j n : Nat) (w : World) (e : Ending) (w' : World) : Prop := ∃ (D : Option Addr) (ds : List Int), e = .returned (.slice D n n) ∧ LAt encI w' D n ds ∧ FarL r j n ds ∧ Below w.heap.size w w'
set_option maxRecDepth 100000 in
set_option maxHeartbeats 4000000 in
theorem ref14_far (A : Option Addr) (n c : Nat) (a : List (List Nat)) (j : Nat) (w : World) (hr : RowsAt w A n a) (hG : Good n a) (hj : j < n) :
    Calls Try.prog 46 #[.agg #[.int .i64 (n : Int), .slice A n c], .int .i64 (j : Int)] w (RetFar (Rel a) j n w) := by
  have hnn := hG.le
  have hrl : Hid (∀ i j, Rel a i j → i < n ∧ j < n) := Lib.hid (fun i j h => hG.has_lt h)
  -- a call with the matrix (A n c a): it is boxed at g, the world is W0 then
  have hM0 := Lib.hid (MatK.new (N := (n : Int)) (c := c) w 39 hr)
  obtain ⟨g, hg⟩ : ∃ g, g = w.heap.size := ⟨_, rfl⟩
  obtain ⟨W0, hW0⟩ : ∃ W, W = w.alloc (.cells #[.int .i64 (n : Int), .slice A n c] 39) := ⟨_, rfl⟩
  rw [← hW0, ← hg] at hM0
  have hbo := Lib.hid (show Below w.heap.size w W0 from by rw [hW0]; exact below_alloc _ _)
  have hmk := mk_ints .i64 .i64 n n (Nat.le_refl _) (by omega)
  obtain ⟨g1, hg1⟩ : ∃ g, g = W0.heap.size := ⟨_, rfl⟩
  obtain ⟨W1, hW1⟩ : ∃ W1, W1 = W0.alloc (.cells (zeros n (.int .i64 0)) 3) := ⟨_, rfl⟩
  have hF0 := Lib.hid (show FarW W0 g1 n (List.replicate n 0) W1 from ⟨by rw [hW1, hg1]; simpa [i64v] using own_zeros W0 n (.int .i64 0) 3 (by unfold maxLen; omega), by rw [hW1]; exact below_alloc _ _, by omega⟩)
  have m0 := hM0.out.1.c0
  have bj : 0 ≤ (j : Int) ∧ (j : Int) < (n : Int) := by omega
  go_enter Try.func46, Try.ntmps46
  go_wp2_with (first | (rw [← hW0, ← hg]; clear hW0 hg) | (rw [← hW1, ← hg1]; clear hW1; replace hg1 := Lib.hid hg1))
  go_loopw [6] (fun t wr => ∃ (k : Nat) (ds : List Int), k ≤ n ∧ t = .int .i64 (k : Int) ∧ Hid (FarW W0 g1 n ds wr) ∧ Hid (∀ q, q < k → ds.getD q 0 = -1)) (fun t _ => n - (intOf t).toNat)
  case atStart => exact ⟨0, _, Nat.zero_le _, rfl, hF0, Lib.hid (fun q h => by omega)⟩
  case round =>
    obtain ⟨k, ds, hk, rfl, hF, hneg⟩ := hrel
    have hM := Lib.hid (hM0.out.below hF.out.bel)
    clear m0
    have m0 := hM.out.1.c0
    by_cases hlt : k < n
    · have hlt' : (k : Int) < (n : Int) := by omega
      have bk : 0 ≤ (k : Int) ∧ (k : Int) < (n : Int) := by omega
      have d0 := hF.out.cell hlt
      have d1 := hF.out.frozen k
      have hFn := Lib.hid (hF.out.set k (-1))
      have hnn2 : Hid (∀ q, q < k + 1 → (ds.set k (-1)).getD q 0 = -1) := Lib.hid (fun q hq => by
        rw [getD_set _ _ _ _ (by rw [hF.out.len]; exact hlt)]
        split
        · rfl
        · exact hneg.out q (by omega))
      clear hlt
      go_wp2_with fail
      exact ⟨⟨k + 1, _, by omega, by go_num, hFn, hnn2⟩, by simp [intOf]; omega⟩
    · have hlt' : ¬ (k : Int) < (n : Int) := by omega
      obtain rfl : k = n := by omega
      have d0 := hF.out.cell hj
      have d1 := hF.out.frozen j
      have hFn := Lib.hid (hF.out.set j 0)
      have hst : Hid (∀ q, q < k → Far (Rel a) j 0 q ((ds.set j 0).getD q 0)) := Lib.hid (fun q hq => by
        rw [getD_set _ _ _ _ (by rw [hF.out.len]; exact hj)]
        have h1 := Far.start (r := Rel a) j q
        by_cases hqj : q = j
        · rw [if_pos hqj] at h1 ⊢; exact h1
        · rw [if_neg hqj] at h1 ⊢; rw [hneg.out q hq]; exact h1)
      obtain ⟨n, rfl⟩ : ∃ n, n = k := ⟨_, rfl⟩
      clear hlt
      go_wp2_with fail
      clear hF hneg d0 d1 m0
      go_loopw [7] (fun t wr => ∃ (s : Nat) (ds : List Int), s ≤ n ∧ t = .int .i64 ((s + 1 : Nat) : Int) ∧ Hid (FarW W0 g1 n ds wr) ∧ Hid (∀ q, q < n → Far (Rel a) j s q (ds.getD q 0))) (fun t _ => n + 1 - (intOf t).toNat)
      case atStart => exact ⟨0, _, Nat.zero_le _, rfl, hFn, hst⟩
      case round =>
        clear hFn hst
        obtain ⟨s, ds, hs, rfl, hF, hfar⟩ := hrel
        have hM := Lib.hid (hM0.out.below hF.out.bel)
        have m0 := hM.out.1.c0
        obtain ⟨st, hst⟩ : ∃ st : Int, st = ((s + 1 : Nat) : Int) := ⟨_, rfl⟩
        rw [← hst]
        by_cases hlt : s + 1 ≤ n
        · have hlt' : st ≤ (n : Int) := by omega
          have hw1 : wrap64 (st - 1) = (s : Int) := by unfold wrap64; omega
          have hw2 : IntKind.i64.wrap (st - 1) = (s : Int) := by rw [IntKind.wrap_i64]; omega
          have hw3 : wrap64 (st + 1) = ((s + 1 + 1 : Nat) : Int) := by unfold wrap64; omega
          have hme : n + 1 - (s + 1 + 1) < n + 1 - st.toNat := by omega
          have hX0 := Lib.hid (show FarX (Rel a) j s n 0 ds from ⟨fun q h => by omega, fun q _ h => hfar.out q h⟩)
          replace hst := Lib.hid hst
          replace hlt := Lib.hid hlt
          replace hme := Lib.hid hme
          go_wp2_with fail
          clear m0
          go_loopw [8] (fun t wr => ∃ (x : Nat) (ds : List Int), x ≤ n ∧ t = .int .i64 (x : Int) ∧ Hid (FarW W0 g1 n ds wr) ∧ Hid (FarX (Rel a) j s n x ds)) (fun t _ => n - (intOf t).toNat)
          case atStart => exact ⟨0, _, Nat.zero_le _, rfl, hF, hX0⟩
          case round =>
            clear hF hfar hX0 hM
            obtain ⟨x, ds, hx, rfl, hF, hX⟩ := hrel
            have hM := Lib.hid (hM0.out.below hF.out.bel)
            have m0 := hM.out.1.c0
            by_cases hxn : x < n
            · have hxn' : (x : Int) < (n : Int) := by omega
              have bx : 0 ≤ (x : Int) ∧ (x : Int) < (n : Int) := by omega
              have hY0 := Lib.hid (hX.out.enter hxn)
              replace hxn := Lib.hid hxn
              go_wp2_with fail
              clear m0
              go_loopw [9] (fun t wr => ∃ (k : Nat) (ds : List Int), k ≤ n ∧ t = .int .i64 (k : Int) ∧ Hid (FarW W0 g1 n ds wr) ∧ Hid (FarY (Rel a) j s n x k ds)) (fun t _ => n - (intOf t).toNat)
              case atStart => exact ⟨0, _, Nat.zero_le _, rfl, hF, hY0⟩
              case round =>
                clear hF hX hY0 hM
                obtain ⟨k, ds, hk, rfl, hF, hY⟩ := hrel
                have hM := Lib.hid (hM0.out.below hF.out.bel)
                have m0 := hM.out.1.c0
                have m1 := hM.out.1.c1
                by_cases hkn : k < n
                · have hkn' : (k : Int) < (n : Int) := by omega
                  have bk : 0 ≤ (k : Int) ∧ (k : Int) < (n : Int) := by omega
                  have dk : decide ((k : Int) < (n : Int)) = true := decide_eq_true hkn'
                  obtain ⟨v, hv⟩ : ∃ v, v = ds.getD x 0 := ⟨_, rfl⟩
                  have c0 := hF.out.cell hxn.out
                  rw [← hv] at c0
                  by_cases hneg : v < 0
                  · have dv : decide (v < 0) = true := decide_eq_true hneg
                    obtain ⟨u, hu⟩ : ∃ u, u = ds.getD k 0 := ⟨_, rfl⟩
                    have c1 := hF.out.cell hkn
                    rw [← hu] at c1
                    replace hv := Lib.hid hv
                    replace hkn := Lib.hid hkn
                    by_cases hus : u = (s : Int)
                    · have e0 : (u == (s : Int)) = true := by simp [hus]
                      have cH := ref3_HasG A n c a hG (x : Int) (k : Int) wr hM.out.2
                      replace hus := Lib.hid hus
                      replace hu := Lib.hid hu
                      cases ha : hasM a (x : Int) (k : Int) with
                      | true =>
                        rw [ha] at cH
                        replace cH := Lib.hid cH
                        have hYn := Lib.hid (hY.out.found hF.out.len hxn.out hkn.out (by rw [← hv.out]; exact hneg) (by rw [← hu.out]; exact hus.out) ha)
                        replace ha := Lib.hid ha
                        go_wp2_with fail
                        refine cH.out.mono ?_; rintro e w3 ⟨rfl, b3⟩
                        have hF3 := Lib.hid (hF.out.later b3)
                        have hFn := Lib.hid (hF3.out.set x ((s + 1 : Nat) : Int))
                        rw [← hst.out] at hFn
                        have d0 := hF3.out.cell hxn.out
                        have d1 := hF3.out.frozen x
                        clear b3 cH m0 m1 c0 c1
                        go_wp2_with fail
                        exact ⟨⟨k + 1, _, by have := hkn.out; omega, by go_num, hFn, Lib.hid (by rw [hst.out]; exact hYn.out)⟩, by simp [intOf]; have := hkn.out; omega⟩
                      | false =>
                        rw [ha] at cH
                        replace cH := Lib.hid cH
                        have hYn := Lib.hid (hY.out.skip (fun _ hr => by unfold Rel at hr; rw [ha] at hr; cases hr))
                        replace ha := Lib.hid ha
                        go_wp2_with fail
                        refine cH.out.mono ?_; rintro e w3 ⟨rfl, b3⟩
                        have hF3 := Lib.hid (hF.out.later b3)
                        clear b3 cH m0 m1 c0 c1
                        go_wp2_with fail
                        exact ⟨⟨k + 1, _, by have := hkn.out; omega, by go_num, hF3, hYn⟩, by simp [intOf]; have := hkn.out; omega⟩
                    · have e0 : (u == (s : Int)) = false := by simpa using hus
                      have hYn := Lib.hid (hY.out.skip (fun _ _ => by rw [← hu]; exact hus))
                      replace hus := Lib.hid hus
                      replace hu := Lib.hid hu
                      go_wp2_with fail
                      exact ⟨⟨k + 1, _, by have := hkn.out; omega, by go_num, hF, hYn⟩, by simp [intOf]; have := hkn.out; omega⟩
                  · have dv : decide (v < 0) = false := decide_eq_false hneg
                    have hXn := Lib.hid (hY.out.leave hrl.out (.inl (by rw [← hv]; omega)))
                    replace hv := Lib.hid hv
                    clear hkn
                    go_wp2_with fail
                    exact ⟨⟨x + 1, _, by have := hxn.out; omega, by go_num, hF, hXn⟩, by simp [intOf]; have := hxn.out; omega⟩
                · have hkn' : ¬ (k : Int) < (n : Int) := by omega
                  have dk : decide ((k : Int) < (n : Int)) = false := decide_eq_false hkn'
                  have hXn := Lib.hid (hY.out.leave hrl.out (.inr (by omega)))
                  clear hkn
                  go_wp2_with fail
                  exact ⟨⟨x + 1, _, by have := hxn.out; omega, by go_num, hF, hXn⟩, by simp [intOf]; have := hxn.out; omega⟩
            · have hxn' : ¬ (x : Int) < (n : Int) := by omega
              have hfn : Hid (∀ q, q < n → Far (Rel a) j (s + 1) q (ds.getD q 0)) := Lib.hid (fun q hq => hX.out.lo q (by omega) hq)
              clear hxn
              go_wp2_with fail
              exact ⟨⟨s + 1, _, hlt.out, by (try go_num), hF, hfn⟩, by have := hme.out; simp [intOf] <;> omega⟩
        · have hlt' : ¬ st ≤ (n : Int) := by omega
          have hsn : s = n := by omega
          subst hsn
          have hlen := hF.out.len
          have hall : FarL (Rel a) j s ds := ⟨hlen, fun q hq => by
            have h1 := hfar.out q hq
            exact ⟨h1.all hrl.out hq, h1.range⟩⟩
          have hLA := LAt.of_own' (E := encI) (xs := ds) (show wr.ownsRow W0.heap.size 3 encI.sz (.slice (some ⟨g1, 0, none⟩) s s) s (encI.all ds) from by
            have h1 := hF.out.own
            rw [encI_all]
            exact h1) (fun z hz => by
            obtain ⟨q, hq⟩ := List.getElem?_of_mem hz
            have hql : q < s := by rw [← hlen]; exact (List.getElem?_eq_some_iff.1 hq).1
            have h1 := (hall.2 q hql).2
            rw [getD_of hq] at h1
            exact ⟨by omega, by omega⟩) hlen
          replace hst := Lib.hid hst
          clear hlt
          go_wp2_with fail
          go_ret
          exact ⟨_, ds, rfl, hLA, hall, below_trans2 hbo.out hF.out.bel⟩
end Go.Proofs.Ytfeomhoicnjgpaa

namespace Go.Proofs.Ytfeomhoicnjgpaa
open Go.RowKit
set_option linter.unusedVariables false
def natI (l : List Nat) : List Int := l.map fun (x : Nat) => (x : Int)
theorem natI_len (l : List Nat) : (natI l).length = l.length := List.length_map _
/-- what is answered when a path is asked for -/
def PathIs (r : Nat → Nat → Prop) (n : Nat) (i j : Int) (l : List Int) (ok : Bool) : Prop :=
  (ok = false ∧ l = [] ∧ ∀ x y : Nat, i = (x : Int) → j = (y : Int) → x < n → y < n → ¬ Conn r x y) ∨ (ok = true ∧ ∃ (x y : Nat) (rest : List Nat), i = (x : Int) ∧ j = (y : Int) ∧ x < n ∧ y < n ∧ First r x y rest ∧ l = natI (x :: rest))
theorem PathIs.unique {r : Nat → Nat → Prop} {n : Nat} {i j : Int} {l l' : List Int} {ok ok' : Bool} (h : PathIs r n i j l ok) (k : PathIs r n i j l' ok') : l = l' ∧ ok = ok' := by
  rcases h with ⟨rfl, rfl, h1⟩ | ⟨rfl, x, y, rest, e1, e2, h1, h2, h3, rfl⟩ <;> rcases k with ⟨rfl, rfl, k1⟩ | ⟨rfl, x', y', rest', f1, f2, k1, k2, k3, rfl⟩
  · exact ⟨rfl, rfl⟩
  · exact absurd (k3.way.conn k3.ne) (h1 x' y' f1 f2 k1 k2)
  · exact absurd (h3.way.conn h3.ne) (k1 x y e1 e2 h1 h2)
  · have hx : x = x' := by omega
    have hy : y = y' := by omega
    subst hx; subst hy
    rw [h3.unique k3]
    exact ⟨rfl, rfl⟩
def RetPathF (r : Nat → Nat → Prop) (n : Nat) (i j : Int) (w : World) (e : Ending) (w' : World) : Prop :=
  ∃ (D : Option Addr) (m c : Nat) (l : List Int) (ok : Bool), e = .returned (.tuple #[.slice D m c, .bool ok]) ∧ LAt encI w' D m l ∧ m ≤ c ∧ c ≤ 9223372036854775807 ∧ PathIs r n i j l ok ∧ Below w.heap.size w w' ∧ ∀ ad, D = some ad → w.heap.size ≤ ad.block
def RetPath (r : Nat → Nat → Prop) (n : Nat) (i j : Int) (w : World) (e : Ending) (w' : World) : Prop :=
  ∃ (D : Option Addr) (m c : Nat) (l : List Int) (ok : Bool), e = .returned (.tuple #[.slice D m c, .bool ok]) ∧ LAt encI w' D m l ∧ m ≤ c ∧ c ≤ 9223372036854775807 ∧ PathIs r n i j l ok ∧ Below w.heap.size w w'
def lenV : Value → Nat | .slice _ n _ => n | _ => 0
/-- what is known of a path that is laid number by number -/
structure FindS (r : Nat → Nat → Prop) (n i j : Nat) (ds : List Int) (done : List Nat) (at_ : Nat) : Prop where
  lt : at_ < n
  goes : ∀ rest, First r at_ j rest → First r i j (done ++ rest)
  first : done = [] → at_ = i
  next : done ≠ [] → 0 < ds.getD at_ 0 ∧ (done.length : Int) + ds.getD at_ 0 ≤ (n : Int) + 1
theorem FindS.none {r : Nat → Nat → Prop} {n i j : Nat} {ds : List Int} {done : List Nat} {at_ : Nat} {best : Int} (hr : ∀ i j, r i j → i < n ∧ j < n) (hd : FarL r j n ds) (h : FindS r n i j ds done at_) (hb : Best r (fun k => ds.getD k 0) n at_ n best) (h0 : best < 0) : ¬ Conn r i j := fun hc => by
  have hg := hb.gone hr (fun k hk => (hd.2 k hk).1) h0
  by_cases hd0 : done = []
  · rw [h.first hd0] at hg
    obtain ⟨l, h1, h2⟩ := conn_way hc
    exact hg l h1 h2
  · have h1 := (h.next hd0).1
    rcases (hd.2 at_ h.lt).1 with ⟨m, e, ⟨l, e2, e3⟩, _⟩ | ⟨e, _⟩
    · exact hg l (fun e4 => by rw [e4] at e3; simp at e3; omega) e2
    · omega
theorem FindS.last {r : Nat → Nat → Prop} {n i j : Nat} {ds : List Int} {done : List Nat} {at_ : Nat} (hr : ∀ i j, r i j → i < n ∧ j < n) (hd : FarL r j n ds) (h : FindS r n i j ds done at_) (hb : Best r (fun k => ds.getD k 0) n at_ n (j : Int)) : First r i j (done ++ [j]) :=
  h.goes _ (hb.step hr (fun k hk => (hd.2 k hk).1) (Least.here j))
theorem FindS.step {r : Nat → Nat → Prop} {n i j b : Nat} {ds : List Int} {done : List Nat} {at_ : Nat} (hr : ∀ i j, r i j → i < n ∧ j < n) (hd : FarL r j n ds) (h : FindS r n i j ds done at_) (hb : Best r (fun k => ds.getD k 0) n at_ n (b : Int)) (hbj : b ≠ j) :
    FindS r n i j ds (done ++ [b]) b ∧ (done ≠ [] → ds.getD b 0 < ds.getD at_ 0) := by
  obtain ⟨b', e, hbn, hrb, hdb, _⟩ := hb.some (by omega)
  have : b' = b := by omega
  subst this
  have hpos : 0 < ds.getD b' 0 := by
    rcases (hd.2 b' hbn).1 with ⟨m, e, ⟨l, e2, e3⟩, _⟩ | ⟨e, _⟩
    · cases l with
      | nil => exact absurd e2 hbj
      | cons x l => simp at e3; omega
    · omega
  have hnear : done ≠ [] → ds.getD b' 0 < ds.getD at_ 0 := fun hne => hb.near hr (fun k hk => (hd.2 k hk).1) h.lt (h.next hne).1
  refine ⟨⟨hbn, fun rest hf => ?_, fun h0 => by simp at h0, fun _ => ⟨hpos, ?_⟩⟩, hnear⟩
  · have := h.goes (b' :: rest) (hb.step hr (fun k hk => (hd.2 k hk).1) (hf.toLeast hbj))
    simpa using this
  · rw [List.length_append]
    have h3 := (hd.2 b' hbn).2.2
    by_cases hd0 : done = []
    · subst hd0; simp only [List.length_nil, List.length_cons]; omega
    · have h1 := hnear hd0
      have h2 := (h.next hd0).2
      simp only [List.length_cons, List.length_nil]; omega
theorem Best.start (r : Nat → Nat → Prop) (d : Nat → Int) (n at_ : Nat) : Best r d n at_ 0 (-1) := ⟨fun _ x hx => by omega, fun h => by omega⟩
theorem Best.keep {r : Nat → Nat → Prop} {d : Nat → Int} {n at_ k : Nat} {best : Int} (h : Best r d n at_ k best) (hk : r at_ k → d k < 0 ∨ (0 ≤ best ∧ d best.toNat ≤ d k)) : Best r d n at_ (k + 1) best := by
  refine ⟨fun hb x hx hr => ?_, fun hb => ?_⟩
  · rcases Nat.lt_or_ge x k with h1 | h1
    · exact h.none hb x h1 hr
    · obtain rfl : x = k := by omega
      rcases hk hr with h2 | ⟨h2, _⟩ <;> omega
  · obtain ⟨b, e, h1, h2, h3, h4⟩ := h.some hb
    refine ⟨b, e, by omega, h2, h3, fun x hx hr h0 => ?_⟩
    rcases Nat.lt_or_ge x k with h5 | h5
    · exact h4 x h5 hr h0
    · obtain rfl : x = k := by omega
      rcases hk hr with h6 | ⟨_, h6⟩
      · omega
      · rw [e, Int.toNat_natCast] at h6
        rcases Int.lt_or_le (d b) (d x) with h7 | h7
        · exact .inl h7
        · exact .inr ⟨by omega, by omega⟩
theorem Best.take {r : Nat → Nat → Prop} {d : Nat → Int} {n at_ k : Nat} {best : Int} (h : Best r d n at_ k best) (hr : r at_ k) (hd : 0 ≤ d k) (hb : best < 0 ∨ (0 ≤ best ∧ d k < d best.toNat)) : Best r d n at_ (k + 1) (k : Int) := by
  refine ⟨fun hb => by omega, fun _ => ⟨k, rfl, by omega, hr, hd, fun x hx hrx h0 => ?_⟩⟩
  rcases Nat.lt_or_ge x k with h1 | h1
  · rcases hb with h2 | ⟨h2, h3⟩
    · have := h.none h2 x h1 hrx; omega
    · obtain ⟨b, e, _, _, _, h4⟩ := h.some h2
      rw [e, Int.toNat_natCast] at h3
      rcases h4 x h1 hrx h0 with h5 | ⟨h5, _⟩
      · exact .inl (by omega)
      · exact .inl (by omega)
  · obtain rfl : x = k := by omega
    exact .inr ⟨rfl, Nat.le_refl _⟩
theorem own_formP {w : World} {base n size : Nat} {e : TypeId} {v : Value} {xs : List Value} (h : w.ownsRow base e size v n xs) : ∃ A c, v = .slice A n c := by
  rcases h.2 with ⟨h1, h2⟩ | ⟨_, _, _, h1, _⟩
  · subst h2; exact ⟨_, _, h1⟩
  · exact ⟨_, _, h1⟩
set_option maxRecDepth 100000 in
set_option maxHeartbeats 4000000 in
theorem ref14_FindF (A : Option Addr) (n c : Nat) (a : List (List Nat)) (i j : Int) (w : World) (hr : RowsAt w A n a) (hG : Good n a) :
    Calls Try.prog 20 #[.agg #[.int .i64 (n : Int), .slice A n c], .int .i64 i, .int .i64 j] w (RetPathF (Rel a) n i j w) := by
  have hnn := hG.le
  have hrl : Hid (∀ i j, Rel a i j → i < n ∧ j < n) := Lib.hid (fun i j h => hG.has_lt h)
  -- a call with the matrix (A n c a): it is boxed at g, the world is W0 then
  have hM0 := Lib.hid (MatK.new (N := (n : Int)) (c := c) w 39 hr)
  obtain ⟨g, hg⟩ : ∃ g, g = w.heap.size := ⟨_, rfl⟩
  obtain ⟨W0, hW0⟩ : ∃ W, W = w.alloc (.cells #[.int .i64 (n : Int), .slice A n c] 39) := ⟨_, rfl⟩
  rw [← hW0, ← hg] at hM0
  have hbo := Lib.hid (show Below w.heap.size w W0 from by rw [hW0]; exact below_alloc _ _)
  have m0 := hM0.out.1.c0
  by_cases hi0 : i < 0
  · have e1 : decide (i < 0) = true := decide_eq_true hi0
    have hno : Hid (PathIs (Rel a) n i j [] false) := Lib.hid (.inl ⟨rfl, rfl, fun x y h1 h2 h3 h4 => by omega⟩)
    go_enter Try.func20, Try.ntmps20
    go_wp2_with (rw [← hW0, ← hg]; clear hW0 hg)
    exact bodyPost_ret (v := .tuple #[.slice none 0 0, .bool false]) (by simp [results, go_sem]) rfl ⟨none, 0, 0, [], false, rfl, LAt.nil _ _ _, Nat.le_refl _, by omega, hno.out, hbo.out, fun ad e => by cases e⟩
  · have e1 : decide (i < 0) = false := decide_eq_false hi0
    by_cases hin : (n : Int) ≤ i
    · have e2 : decide ((n : Int) ≤ i) = true := decide_eq_true hin
      have hno : Hid (PathIs (Rel a) n i j [] false) := Lib.hid (.inl ⟨rfl, rfl, fun x y h1 h2 h3 h4 => by omega⟩)
      go_enter Try.func20, Try.ntmps20
      go_wp2_with (rw [← hW0, ← hg]; clear hW0 hg)
      exact bodyPost_ret (v := .tuple #[.slice none 0 0, .bool false]) (by simp [results, go_sem]) rfl ⟨none, 0, 0, [], false, rfl, LAt.nil _ _ _, Nat.le_refl _, by omega, hno.out, hbo.out, fun ad e => by cases e⟩
    · have e2 : decide ((n : Int) ≤ i) = false := decide_eq_false hin
      by_cases hj0 : j < 0
      · have e3 : decide (j < 0) = true := decide_eq_true hj0
        have hno : Hid (PathIs (Rel a) n i j [] false) := Lib.hid (.inl ⟨rfl, rfl, fun x y h1 h2 h3 h4 => by omega⟩)
        go_enter Try.func20, Try.ntmps20
        go_wp2_with (rw [← hW0, ← hg]; clear hW0 hg)
        exact bodyPost_ret (v := .tuple #[.slice none 0 0, .bool false]) (by simp [results, go_sem]) rfl ⟨none, 0, 0, [], false, rfl, LAt.nil _ _ _, Nat.le_refl _, by omega, hno.out, hbo.out, fun ad e => by cases e⟩
      · have e3 : decide (j < 0) = false := decide_eq_false hj0
        by_cases hjn : (n : Int) ≤ j
        · have e4 : decide ((n : Int) ≤ j) = true := decide_eq_true hjn
          have hno : Hid (PathIs (Rel a) n i j [] false) := Lib.hid (.inl ⟨rfl, rfl, fun x y h1 h2 h3 h4 => by omega⟩)
          go_enter Try.func20, Try.ntmps20
          go_wp2_with (rw [← hW0, ← hg]; clear hW0 hg)
          exact bodyPost_ret (v := .tuple #[.slice none 0 0, .bool false]) (by simp [results, go_sem]) rfl ⟨none, 0, 0, [], false, rfl, LAt.nil _ _ _, Nat.le_refl _, by omega, hno.out, hbo.out, fun ad e => by cases e⟩
        · have e4 : decide ((n : Int) ≤ j) = false := decide_eq_false hjn
          obtain ⟨x, rfl⟩ := Int.eq_ofNat_of_zero_le (show 0 ≤ i by omega)
          obtain ⟨y, rfl⟩ := Int.eq_ofNat_of_zero_le (show 0 ≤ j by omega)
          have f2 : decide (n ≤ x) = false := decide_eq_false (by omega)
          have f4 : decide (n ≤ y) = false := decide_eq_false (by omega)
          have hxn : Hid (x < n) := Lib.hid (by omega)
          have hyn : Hid (y < n) := Lib.hid (by omega)
          have m1 := hM0.out.1.c1
          have cF := Lib.hid (ref14_far A n c a y W0 hM0.out.2 hG hyn.out)
          obtain ⟨i0, hi, hz0, hz1, hz2⟩ := info_parts info_int14
          replace hi := Lib.hid hi
          replace hz0 := Lib.hid hz0
          replace hz1 := Lib.hid hz1
          replace hz2 := Lib.hid hz2
          clear hi0 hin hj0 hjn
          go_enter Try.func20, Try.ntmps20
          go_wp2_with (rw [← hW0, ← hg]; clear hW0 hg)
          refine cF.out.mono ?_; rintro e w1 ⟨D, ds, rfl, hL, hD, b1⟩
          obtain ⟨gl, hgl⟩ : ∃ g, g = w1.heap.size := ⟨_, rfl⟩
          obtain ⟨V, hV⟩ : ∃ W, W = w1.alloc (.cells #[.int .i64 (x : Int)] 3) := ⟨_, rfl⟩
          have bV := Lib.hid (show Below w1.heap.size w1 V from by rw [hV]; exact below_alloc _ _)
          have hown0 := Lib.hid (show V.ownsRow w1.heap.size 3 1 (.slice (some ⟨gl, 0, none⟩) 1 1) 1 (encI.all (natI [x])) from by
            rw [hV, hgl]
            have h := World.ownsRow_lit (size := 1) (base := w1.heap.size) (e := 3) w1 #[.int .i64 (x : Int)] 1 (Nat.le_refl _) (by unfold maxLen; omega) rfl
            exact h)
          have hM1 := Lib.hid (hM0.out.below b1)
          have hb1 := Lib.hid (below_trans2 hbo.out b1)
          replace hL := Lib.hid hL
          replace hD := Lib.hid hD
          have hS0 : Hid (FindS (Rel a) n x y ds [] x) := Lib.hid ⟨hxn.out, fun rest h => h, fun _ => rfl, fun h => absurd rfl h⟩
          clear m0 m1 b1 cF
          go_wp2_with (rw [← hV, ← hgl]; clear hV; replace hgl := Lib.hid hgl)
          go_loopw [9, 10] (fun u t wr => ∃ (done : List Nat) (p : Nat), t = .int .i64 (p : Int) ∧ Hid (FindS (Rel a) n x y ds done p) ∧ Hid (Below w1.heap.size w1 wr) ∧ Hid (wr.ownsRow w1.heap.size 3 1 u (done.length + 1) (encI.all (natI (x :: done))))) (fun u t _ => if lenV u = 1 then n + 2 else (ds.getD (intOf t).toNat 0).toNat)
          case atStart => exact ⟨[], x, rfl, hS0, bV, hown0⟩
          case round =>
            clear hS0 bV hown0
            obtain ⟨done, p, rfl, hS, hb, hown⟩ := hrel
            have hB0 := Lib.hid (Best.start (Rel a) (fun k => ds.getD k 0) n p)
            obtain ⟨Wo, rfl⟩ : ∃ Wo, Wo = wr := ⟨_, rfl⟩
            go_wp2_with fail
            go_loopw [11, 12] (fun u t wr => ∃ (k : Nat) (best : Int), k ≤ n ∧ u = .int .i64 best ∧ t = .int .i64 (k : Int) ∧ Hid (Best (Rel a) (fun k => ds.getD k 0) n p k best) ∧ Hid (Below Wo.heap.size Wo wr)) (fun _ t _ => n - (intOf t).toNat)
            case atStart => exact ⟨0, -1, Nat.zero_le _, rfl, rfl, hB0, Lib.hid (Below.refl _ _)⟩
            case round =>
              clear hB0
              obtain ⟨k, best, hk, rfl, rfl, hB, hb'⟩ := hrel
              have hM := Lib.hid ((hM1.out.below hb.out).below hb'.out)
              have hLr := (hL.out.below hb.out).below hb'.out
              have m0 := hM.out.1.c0
              by_cases hkn : k < n
              · have hkn' : (k : Int) < (n : Int) := by omega
                have bk : 0 ≤ (k : Int) ∧ (k : Int) < (n : Int) := by omega
                obtain ⟨lb, lo, u, hD2, hlb, hu, -, j0⟩ := hLr.int hkn
                have hug : Hid (ds.getD k 0 = u) := Lib.hid (getD_of hu)
                have cH := ref3_HasG A n c a hG (p : Int) (k : Int)
                clear hu hlb
                replace hkn := Lib.hid hkn
                replace hD2 := Lib.hid hD2
                go_wp2_with fail
                refine wp_region_plan 26 [(true, 0), (true, 1), (true, 2), (false, 3), (true, 4), (true, 5), (true, 6), (true, 7), (true, 8), (true, 9), (true, 10), (true, 11), (true, 12), (true, 13), (true, 14), (true, 15), (true, 16), (true, 17), (true, 18), (true, 19), (true, 20), (true, 21), (true, 22), (true, 23), (true, 24), (true, 25)] (by kernel_rfl) (by kernel_rfl) (fun X hX => ?_)
                have hX' : Below wr.heap.size wr X := by rw [hX.out]; exact (Below.refl _ _).drew
                replace hM := Lib.hid (hM.out.below hX')
                replace hLr := hLr.below hX'
                replace hb' := Lib.hid (below_trans2 hb'.out hX')
                clear hX hX' m0 j0
                have m0 := hM.out.1.c0
                have m1 := hM.out.1.c1
                simp only [List.drop_succ_cons, List.drop_nil]
                iterate 3
                  refine wpPlan_float (v := ?_) rfl (by rfl) (fun w' hw' => ?_) (fun K hK => ?_)
                  rotate_left
                  · (go_simp; try with_reducible rfl)
                  go_simp
                  refine hK _ ?_
                  clear hK K
                clear m0 m1
                have cHX := cH X hM.out.2
                cases ha : hasM a (p : Int) (k : Int) with
                | false =>
                  rw [ha] at cHX
                  have hBn := hB.out.keep (fun hr => by unfold Rel at hr; rw [ha] at hr; cases hr)
                  refine wpPlan_only rfl (by rfl) (fun K hK => ?_)
                  go_simp
                  refine cHX.mono ?_
                  rintro e x1 ⟨rfl, b⟩
                  refine hK _ _ b ?_
                  clear hK K
                  replace hb' := Lib.hid (below_trans2 hb'.out b)
                  clear b
                  iterate 1
                    refine wpPlan_float (v := ?_) rfl (by rfl) (fun w' hw' => ?_) (fun K hK => ?_)
                    rotate_left
                    · (go_simp; try with_reducible rfl)
                    go_simp
                    refine hK _ ?_
                    clear hK K
                  iterate 5
                    refine wpPlan_skip rfl (by rfl) (fun K hK => ?_)
                    go_simp
                    refine hK _ ?_
                    clear hK K
                  iterate 2
                    refine wpPlan_float (v := ?_) rfl (by rfl) (fun w' hw' => ?_) (fun K hK => ?_)
                    rotate_left
                    · (go_simp; try with_reducible rfl)
                    go_simp
                    refine hK _ ?_
                    clear hK K
                  iterate 13
                    refine wpPlan_skip rfl (by rfl) (fun K hK => ?_)
                    go_simp
                    refine hK _ ?_
                    clear hK K
                  iterate 1
                    refine wpPlan_float (v := ?_) rfl (by rfl) (fun w' hw' => ?_) (fun K hK => ?_)
                    rotate_left
                    · (go_simp; try with_reducible rfl)
                    go_simp
                    refine hK _ ?_
                    clear hK K
                  refine wpPlan_nil (NoPanic.normal ?_)
                  replace hBn := Lib.hid hBn
                  go_wp2_with fail
                  exact ⟨⟨k + 1, best, by have := hkn.out; omega, rfl, by go_num, hBn, hb'⟩, by simp [intOf]; have := hkn.out; omega⟩
                | true =>
                  rw [ha] at cHX
                  refine wpPlan_only rfl (by rfl) (fun K hK => ?_)
                  go_simp
                  refine cHX.mono ?_
                  rintro e x1 ⟨rfl, b⟩
                  refine hK _ _ b ?_
                  clear hK K
                  replace hLr := hLr.below b
                  replace hb' := Lib.hid (below_trans2 hb'.out b)
                  clear b
                  obtain ⟨lb2, lo2, u2, hD3, hlb, hu2, -, j0⟩ := hLr.int hkn.out
                  replace hD2 := hD2.out
                  rw [hD2] at hD3
                  injection hD3 with hD3
                  injection hD3 with hD4 hD5
                  subst hD4; subst hD5
                  obtain rfl : u2 = u := by rw [← hug.out, getD_of hu2]
                  subst hD2
                  clear hu2 hlb
                  by_cases hu0 : 0 ≤ u2
                  · have du : decide (0 ≤ u2) = true := decide_eq_true hu0
                    by_cases hb0 : best < 0
                    · have db : decide (best < 0) = true := decide_eq_true hb0
                      have hBn := hB.out.take ha (by rw [hug.out]; exact hu0) (.inl hb0)
                      iterate 11
                        refine wpPlan_float (v := ?_) rfl (by rfl) (fun w' hw' => ?_) (fun K hK => ?_)
                        rotate_left
                        · (go_simp; try with_reducible rfl)
                        go_simp
                        refine hK _ ?_
                        clear hK K
                      iterate 9
                        refine wpPlan_skip rfl (by rfl) (fun K hK => ?_)
                        go_simp
                        refine hK _ ?_
                        clear hK K
                      iterate 2
                        refine wpPlan_float (v := ?_) rfl (by rfl) (fun w' hw' => ?_) (fun K hK => ?_)
                        rotate_left
                        · (go_simp; try with_reducible rfl)
                        go_simp
                        refine hK _ ?_
                        clear hK K
                      refine wpPlan_nil (NoPanic.normal ?_)
                      replace hBn := Lib.hid hBn
                      go_wp2_with fail
                      exact ⟨⟨k + 1, (k : Int), by have := hkn.out; omega, rfl, by go_num, hBn, hb'⟩, by simp [intOf]; have := hkn.out; omega⟩
                    · have db : decide (best < 0) = false := decide_eq_false hb0
                      obtain ⟨b, hbe, hbk, _, _, _⟩ := hB.out.some (by omega)
                      have bb : 0 ≤ best ∧ best < (n : Int) := by have := hkn.out; omega
                      obtain ⟨lb2, lo2, u3, hD3, hlb, hu3, -, j1⟩ := hLr.int (show best.toNat < n by omega)
                      injection hD3 with hD3
                      injection hD3 with hD4 hD5
                      subst hD4; subst hD5
                      have hug3 : ds.getD best.toNat 0 = u3 := getD_of hu3
                      replace hbe := Lib.hid hbe
                      clear hu3 hlb hbk
                      by_cases hlt : u2 < u3
                      · have dl : decide (u2 < u3) = true := decide_eq_true hlt
                        have hBn := hB.out.take ha (by rw [hug.out]; exact hu0) (.inr ⟨by omega, by rw [hug.out, hug3]; exact hlt⟩)
                        replace hug3 := Lib.hid hug3
                        iterate 22
                          refine wpPlan_float (v := ?_) rfl (by rfl) (fun w' hw' => ?_) (fun K hK => ?_)
                          rotate_left
                          · (go_simp; try with_reducible rfl)
                          go_simp
                          refine hK _ ?_
                          clear hK K
                        refine wpPlan_nil (NoPanic.normal ?_)
                        replace hBn := Lib.hid hBn
                        go_wp2_with fail
                        exact ⟨⟨k + 1, (k : Int), by have := hkn.out; omega, rfl, by go_num, hBn, hb'⟩, by simp [intOf]; have := hkn.out; omega⟩
                      · have dl : decide (u2 < u3) = false := decide_eq_false hlt
                        have hBn := hB.out.keep (fun _ => .inr ⟨by omega, by rw [hug.out, hug3]; omega⟩)
                        replace hug3 := Lib.hid hug3
                        iterate 22
                          refine wpPlan_float (v := ?_) rfl (by rfl) (fun w' hw' => ?_) (fun K hK => ?_)
                          rotate_left
                          · (go_simp; try with_reducible rfl)
                          go_simp
                          refine hK _ ?_
                          clear hK K
                        refine wpPlan_nil (NoPanic.normal ?_)
                        replace hBn := Lib.hid hBn
                        go_wp2_with fail
                        exact ⟨⟨k + 1, best, by have := hkn.out; omega, rfl, by go_num, hBn, hb'⟩, by simp [intOf]; have := hkn.out; omega⟩
                  · have du : decide (0 ≤ u2) = false := decide_eq_false hu0
                    have hBn := hB.out.keep (fun _ => .inl (by rw [hug.out]; omega))
                    iterate 8
                      refine wpPlan_float (v := ?_) rfl (by rfl) (fun w' hw' => ?_) (fun K hK => ?_)
                      rotate_left
                      · (go_simp; try with_reducible rfl)
                      go_simp
                      refine hK _ ?_
                      clear hK K
                    iterate 13
                      refine wpPlan_skip rfl (by rfl) (fun K hK => ?_)
                      go_simp
                      refine hK _ ?_
                      clear hK K
                    iterate 1
                      refine wpPlan_float (v := ?_) rfl (by rfl) (fun w' hw' => ?_) (fun K hK => ?_)
                      rotate_left
                      · (go_simp; try with_reducible rfl)
                      go_simp
                      refine hK _ ?_
                      clear hK K
                    refine wpPlan_nil (NoPanic.normal ?_)
                    replace hBn := Lib.hid hBn
                    go_wp2_with fail
                    exact ⟨⟨k + 1, best, by have := hkn.out; omega, rfl, by go_num, hBn, hb'⟩, by simp [intOf]; have := hkn.out; omega⟩
              · have hkn' : ¬ (k : Int) < (n : Int) := by omega
                have hkn2 : k = n := by omega
                rw [hkn2] at hB
                have hown2 := own_below hown.out hb'.out
                have hb2 := Lib.hid (below_trans2 hb.out hb'.out)
                by_cases hb0 : best < 0
                · have db : decide (best < 0) = true := decide_eq_true hb0
                  have hno := Lib.hid (hS.out.none hrl.out hD.out hB.out hb0)
                  have hpi : Hid (PathIs (Rel a) n (x : Int) (y : Int) [] false) := Lib.hid (.inl ⟨rfl, rfl, fun x' y' h1 h2 _ _ => by
                    have h1 : x' = x := by omega
                    have h2 : y' = y := by omega
                    subst h1; subst h2; exact hno.out⟩)
                  replace hkn2 := Lib.hid hkn2
                  clear hown2 hkn
                  go_wp2_with fail
                  exact bodyPost_ret (v := .tuple #[.slice none 0 0, .bool false]) (by simp [results, go_sem]) rfl ⟨none, 0, 0, [], false, rfl, LAt.nil _ _ _, Nat.le_refl _, by omega, hpi.out, below_trans2 hb1.out hb2.out, fun ad e => by cases e⟩
                · have db : decide (best < 0) = false := decide_eq_false hb0
                  obtain ⟨b, rfl, hbn, _, _, _⟩ := hB.out.some (by omega)
                  have bb : 0 ≤ (b : Int) ∧ (b : Int) < (n : Int) := by omega
                  obtain ⟨A9, c9, rfl⟩ := own_formP hown2
                  obtain ⟨L, hLl⟩ : ∃ L, L = done.length + 1 := ⟨_, rfl⟩
                  have hLn : L ≤ n + 3 := by
                    by_cases hd0 : done = []
                    · rw [hLl, hd0]; simp
                    · have := hS.out.next hd0
                      omega
                  rw [← hLl] at hown2 ⊢
                  obtain ⟨W0, hW0⟩ : ∃ W0, W0 = w1 := ⟨_, rfl⟩
                  rw [← hW0] at hb2 hown2
                  have hown3 := Lib.hid hown2
                  have hnat : Hid (natI (x :: done) ++ [(b : Int)] = natI (x :: (done ++ [b]))) := Lib.hid (by simp [natI])
                  replace hLl := Lib.hid hLl
                  replace hW0 := Lib.hid hW0
                  replace hkn2 := Lib.hid hkn2
                  clear hown hown2 hkn hLr
                  by_cases hby : b = y
                  · have e0 : ((b : Int) == (y : Int)) = true := by simp [hby]
                    have hfirst := Lib.hid (hS.out.last hrl.out hD.out (by rw [← hby]; exact hB.out))
                    replace hby := Lib.hid hby
                    -- 'append(out, (b : Int))' (temps 72 74) in the world wr: hown : the row (natI (x :: done)) of length L (hL), hb : Below W0 .. wr; behind it: hown', hb7
                    obtain ⟨gl, hgl⟩ : ∃ g, g = (wr).heap.size := ⟨_, rfl⟩
                    obtain ⟨VL, hVL⟩ : ∃ W, W = World.alloc (wr) (.cells #[.int .i64 (b : Int)] 3) := ⟨_, rfl⟩
                    have bL : Below (wr).heap.size (wr) VL := by rw [hVL]; exact (Below.refl _ _).alloc (Nat.le_refl _) _
                    have hlit := Lib.hid (show LAt encI VL (some ⟨gl, 0, none⟩) 1 [(b : Int)] from by rw [hVL, hgl]; exact LAt.lit1 (E := encI) (wr) 3 (b : Int) ⟨by omega, by omega⟩)
                    have hownL := Lib.hid (own_below hown3.out bL)
                    have bWL := Lib.hid (below_trans2 hb2.out bL)
                    have hbase := Lib.hid bWL.out.size
                    clear bL
                    go_wp2_with (first
                      | (rw [← hVL, ← hgl]; clear hVL hgl)
                      | (at_builtin; refine wpList_append_L (E := encI) rfl (.tmp 72) (.tmp 74) _ rfl W0.heap.size 3 i0 _ 8 Try.underlying23 hi.out hz0.out hz1.out hz2.out rfl _ L (natI (x :: done)) (by rfl) hownL.out _ 1 1 _ rfl hlit.out (by unfold maxLen; omega) (by omega) hbase.out ?_; intro v' w7 hown' hb7 _ _))
                    rw [hnat.out] at hown'
                    have hfr2 := own_lt_block hown'
                    have hsz2 : w.heap.size ≤ W0.heap.size := by rw [hW0.out]; exact hb1.out.size
                    obtain ⟨A2, c2, rfl, hnc, hcm, hLA⟩ := LAt.of_own hown' (fun z hz => by
                      obtain ⟨q, hq, rfl⟩ := List.mem_map.1 hz
                      have hqn : q < n := by
                        rcases List.mem_cons.1 hq with rfl | hq
                        · exact hxn.out
                        · rw [hby.out] at hq; exact hfirst.out.way.lt hrl.out q hq
                      exact ⟨by omega, by omega⟩) (by rw [natI_len, List.length_cons, List.length_append, hLl.out]; rfl)
                    exact bodyPost_ret (v := .tuple #[.slice A2 (L + 1) c2, .bool true]) (by simp [results, go_sem]) rfl ⟨A2, L + 1, c2, _, true, rfl, hLA, hnc, hcm, .inr ⟨rfl, x, y, done ++ [b], rfl, rfl, hxn.out, hyn.out, by rw [hby.out]; exact hfirst.out, rfl⟩, by have h9 := bWL.out.trans hb7; rw [hW0.out] at h9; exact below_trans2 hb1.out h9, fun ad e => by have h1 := hfr2 ad.block (by rw [e]; rfl); omega⟩
                  · have e0 : ((b : Int) == (y : Int)) = false := by simp; omega
                    have hst := Lib.hid (hS.out.step hrl.out hD.out hB.out hby)
                    replace hby := Lib.hid hby
                    -- 'append(out, (b : Int))' (temps 72 74) in the world wr: hown : the row (natI (x :: done)) of length L (hL), hb : Below W0 .. wr; behind it: hown', hb7
                    obtain ⟨gl, hgl⟩ : ∃ g, g = (wr).heap.size := ⟨_, rfl⟩
                    obtain ⟨VL, hVL⟩ : ∃ W, W = World.alloc (wr) (.cells #[.int .i64 (b : Int)] 3) := ⟨_, rfl⟩
                    have bL : Below (wr).heap.size (wr) VL := by rw [hVL]; exact (Below.refl _ _).alloc (Nat.le_refl _) _
                    have hlit := Lib.hid (show LAt encI VL (some ⟨gl, 0, none⟩) 1 [(b : Int)] from by rw [hVL, hgl]; exact LAt.lit1 (E := encI) (wr) 3 (b : Int) ⟨by omega, by omega⟩)
                    have hownL := Lib.hid (own_below hown3.out bL)
                    have bWL := Lib.hid (below_trans2 hb2.out bL)
                    have hbase := Lib.hid bWL.out.size
                    clear bL
                    go_wp2_with (first
                      | (rw [← hVL, ← hgl]; clear hVL hgl)
                      | (at_builtin; refine wpList_append_L (E := encI) rfl (.tmp 72) (.tmp 74) _ rfl W0.heap.size 3 i0 _ 8 Try.underlying23 hi.out hz0.out hz1.out hz2.out rfl _ L (natI (x :: done)) (by rfl) hownL.out _ 1 1 _ rfl hlit.out (by unfold maxLen; omega) (by omega) hbase.out ?_; intro v' w7 hown' hb7 _ _))
                    obtain ⟨A2, c2, rfl⟩ := own_formP hown'
                    have e5 : (done ++ [b]).length + 1 = L + 1 := by rw [List.length_append, hLl.out]; rfl
                    refine ⟨⟨done ++ [b], b, rfl, Lib.hid hst.out.1, Lib.hid (by have h9 := bWL.out.trans hb7; rw [hW0.out] at h9; exact h9), Lib.hid (by rw [e5, ← hnat.out, ← hW0.out]; exact hown')⟩, ?_⟩
                    have h6 := (hD.out.2 b (by omega)).2
                    have h7 := hst.out.2
                    have h8 := hLl.out
                    show (if L + 1 = 1 then n + 2 else (ds.getD b 0).toNat) < (if done.length + 1 = 1 then n + 2 else (ds.getD p 0).toNat)
                    rw [if_neg (by omega)]
                    split
                    · omega
                    · rename_i h9
                      have := h7 (fun e => by rw [e] at h9; exact h9 rfl)
                      omega
theorem ref14_Find (A : Option Addr) (n c : Nat) (a : List (List Nat)) (i j : Int) (w : World) (hr : RowsAt w A n a) (hG : Good n a) :
    Calls Try.prog 20 #[.agg #[.int .i64 (n : Int), .slice A n c], .int .i64 i, .int .i64 j] w (RetPath (Rel a) n i j w) :=
  (ref14_FindF A n c a i j w hr hG).mono fun _ _ ⟨D, m, d, l, ok, h1, h2, h3, h4, h5, h6, _⟩ => ⟨D, m, d, l, ok, h1, h2, h3, h4, h5, h6⟩
end Go.Proofs.Ytfeomhoicnjgpaa

namespace Go.Proofs.Ytfeomhoicnjgpaa
open Go.RowKit
set_option linter.unusedVariables false
/-- back at number k, behind which rest stands -/
def WalkI (x : Nat) (T : Nat → Prop) (p : Nat → List Nat) (l : List Nat) (k : Nat) (rest : List Nat) : Prop :=
  (k = x ∧ l = rest) ∨ (T k ∧ k ≠ x ∧ l = p k ++ rest)
section
variable {n x : Nat} {T : Nat → Prop} {fs : List Nat} {p : Nat → List Nat} {l rest : List Nat} {k y : Nat}
theorem WalkI.step (hw : WayOk n x T fs p) (hy : T y) (hl : l = p y ++ rest) : WalkI x T p l (fs.getD y 0) (y :: rest) := by
  rcases hw.from_ y hy with ⟨h1, h2⟩ | ⟨h1, h2, h3⟩
  · exact .inl ⟨h1, by rw [hl, h2]; rfl⟩
  · refine .inr ⟨h1, h2, ?_⟩
    rw [hl, h3]; simp
def walkM (x : Nat) (p : Nat → List Nat) (k : Nat) : Nat := if k = x then 0 else (p k).length
theorem WalkI.less (hw : WayOk n x T fs p) (hy : T y) (hne : y ≠ x) : walkM x p (fs.getD y 0) < walkM x p y := by
  unfold walkM
  rw [if_neg hne]
  rcases hw.from_ y hy with ⟨h1, h2⟩ | ⟨h1, h2, h3⟩
  · have h1 : fs.getD y 0 = x := h1
    rw [if_pos h1, h2]; simp
  · have h2 : fs.getD y 0 ≠ x := h2
    rw [if_neg h2, h3]
    simp
theorem WayOk.at_ (hw : WayOk n x T fs p) (hy : T y) : ∃ z, fs[y]? = some z ∧ fs.getD y 0 = z ∧ z < n := by
  have h1 : y < fs.length := by rw [hw.fl]; exact hw.lt y hy
  refine ⟨fs[y], List.getElem?_eq_getElem h1, ?_, hw.fb _ (List.getElem_mem h1)⟩
  rw [List.getD_eq_getElem?_getD, List.getElem?_eq_getElem h1]; rfl
theorem natI_cells (l : List Nat) : encI.all (natI l) = l.map natv := by
  induction l with
  | nil => rfl
  | cons a l ih =>
    show encI.cells (a : Int) ++ encI.all (natI l) = _
    rw [ih]; rfl
/-- the numbers from k on, zeros ahead -/
def fillL (ys : List Nat) (k : Nat) : List Nat := List.replicate k 0 ++ ys.drop k
theorem fillL_len {ys : List Nat} {k : Nat} (hk : k ≤ ys.length) : (fillL ys k).length = ys.length := by
  unfold fillL; rw [List.length_append, List.length_replicate, List.length_drop]; omega
theorem fillL_all (ys : List Nat) : fillL ys 0 = ys := rfl
theorem fillL_at {ys : List Nat} {k : Nat} (hk : k < ys.length) : (fillL ys k)[k]? = some (ys.getD k 0) := by
  unfold fillL
  rw [List.getElem?_append_right (by simp), List.length_replicate, Nat.sub_self, List.getElem?_drop, Nat.add_zero, List.getD_eq_getElem?_getD, List.getElem?_eq_getElem hk]; rfl
theorem fillL_set {ys : List Nat} {k : Nat} (hk : k < ys.length) : (fillL ys (k + 1)).set k (ys.getD k 0) = fillL ys k := by
  unfold fillL
  have hd : ys.drop k = ys.getD k 0 :: ys.drop (k + 1) := by
    rw [List.drop_eq_getElem_cons hk, List.getD_eq_getElem?_getD, List.getElem?_eq_getElem hk]; rfl
  rw [hd, List.replicate_succ', List.append_assoc, List.set_append_right _ _ (by simp)]
  simp
theorem fillL_none (ys : List Nat) : fillL ys ys.length = List.replicate ys.length 0 := by unfold fillL; simp
end
/-- a call that answers a path -/
def RetWay (l : List Nat) (w : World) (e : Ending) (w' : World) : Prop := ∃ (D : Option Addr) (m c : Nat), e = .returned (.slice D m c) ∧ LAt encI w' D m (natI l) ∧ m ≤ c ∧ c ≤ 9223372036854775807 ∧ Below w.heap.size w w'
set_option maxRecDepth 100000 in
set_option maxHeartbeats 4000000 in
theorem path_way (w0 : World) (g gl gf n nw : Nat) (A : Option Addr) (c : Nat) (v : Value) (ls fs zs : List Nat) (x j : Nat) (T : Nat → Prop) (p : Nat → List Nat) (w : World) (h : SrS w0 g gl gf n nw A c v ls fs zs w) (hw : WayOk n x T fs p) (hj : T j) (hn : n ≤ 4096) :
    Calls Try.prog 45 #[.pointer (some ⟨g, 0, none⟩), .int .i64 (x : Int), .int .i64 (j : Int)] w (RetWay (x :: p j) w) := by
  obtain ⟨s0, s1, s2, s3⟩ := h.cells
  obtain ⟨z, hz, hz2, hzn⟩ := hw.at_ hj
  have cz : w.cell? ⟨gf, j, none⟩ = some (.int .i64 (z : Int)) := by rw [Blk.cell h.f j, List.getElem?_map, hz]; rfl
  have hjn : 0 ≤ (j : Int) ∧ (j : Int) < (n : Int) := by have := hw.lt j hj; omega
  have hI0 := Lib.hid (WalkI.step (l := p j) (rest := []) hw hj (List.append_nil _).symm)
  rw [hz2] at hI0
  have hpl := hw.len j hj
  have hback := Lib.hid (hw.from_.back (p j).length j (Nat.le_refl _) hj)
  have hlast := Lib.hid (hw.from_.last hj)
  have hS := Lib.hid h
  replace hw := Lib.hid hw
  replace hj := Lib.hid hj
  replace hz := Lib.hid hz
  replace hz2 := Lib.hid hz2
  clear h
  go_enter Try.func45, Try.ntmps45
  go_wp2_with fail
  clear cz
  go_loopw [7, 8] (fun t u wr => ∃ (M kz : Nat) (rest : List Nat), t = .int .i64 (M : Int) ∧ u = .int .i64 (kz : Int) ∧ Hid (M = rest.length + 1) ∧ kz < n ∧ Hid (WalkI x T p (p j) kz rest) ∧ wr = w) (fun _ u _ => walkM x p (intOf u).toNat)
  case atStart => exact ⟨2, z, [j], rfl, rfl, Lib.hid rfl, hzn, hI0, rfl⟩
  case round =>
    clear hI0 hzn
    obtain ⟨M, kz, rest, rfl, rfl, hM, hkz, hI, rfl⟩ := hrel
    by_cases hkx : kz = x
    · subst hkx
      obtain ⟨Wo, rfl⟩ : ∃ Wo, Wo = wr := ⟨_, rfl⟩
      have hne : ((kz : Int) != (kz : Int)) = false := by simp
      obtain he : p j = rest := by
        rcases hI.out with ⟨_, h1⟩ | ⟨_, h1, _⟩
        · exact h1
        · exact absurd rfl h1
      have hMl : (kz :: p j).length = M := by rw [he, hM.out]; rfl
      have hM1 : 1 ≤ M := by have := hM.out; omega
      have hMb : M ≤ 4097 := by rw [← hMl, List.length_cons]; omega
      have hmk := mk_int .i64 .i64 M M (Nat.le_refl _) (by omega)
      obtain ⟨gr, hgr⟩ : ∃ G, G = Wo.heap.size := ⟨_, rfl⟩
      obtain ⟨V, hV⟩ : ∃ V, V = Wo.alloc (.cells (zeros M (.int .i64 0)) 3) := ⟨_, rfl⟩
      have hB : Blk V gr 3 (List.replicate M (.int .i64 0)) := by rw [hV, hgr]; exact Blk.new _ _ _
      have bV := Lib.hid (show Below Wo.heap.size Wo V from by rw [hV]; exact below_alloc _ _)
      have hM0 : 0 ≤ (M : Int) - 1 ∧ (M : Int) - 1 < (M : Int) := by omega
      obtain ⟨K, hK⟩ : ∃ K, M = K + 1 := ⟨M - 1, by omega⟩
      have cM : V.cell? ⟨gr, M - 1, none⟩ = some (.int .i64 0) := by rw [Blk.cell hB, List.getElem?_replicate, if_pos (by omega)]
      have fM := Blk.frozen hB (M - 1)
      have hys := Lib.hid (show (kz :: p j).getD K 0 = j from by
        have h1 := hlast.out.2
        rw [show (p j).length = K by rw [List.length_cons] at hMl; omega] at h1
        exact h1)
      replace he := Lib.hid he
      replace hMl := Lib.hid hMl
      replace hK := Lib.hid hK
      replace hB := Lib.hid hB
      go_wp2_with (rw [← hV, ← hgr]; clear hV; replace hgr := Lib.hid hgr)
      have hB1 := Lib.hid (show Blk (V.setCell ⟨gr, M - 1, none⟩ (.int .i64 (j : Int))) gr 3 ((fillL (kz :: p j) K).map natv) from by
        have h1 := hB.out.set_ (M - 1) (.int .i64 (j : Int))
        have h2 : (List.replicate M (Value.int .i64 0)).set (M - 1) (.int .i64 (j : Int)) = (fillL (kz :: p j) K).map natv := by
          have e1 : M - 1 = K := by have := hK.out; omega
          have hl : (kz :: p j).length = K + 1 := by rw [hMl.out]; exact hK.out
          rw [e1, ← fillL_set (by omega), hys.out, ← hl, fillL_none, hl, List.map_set, hK.out]
          simp [natv]
        rw [h2] at h1
        exact h1)
      have bW := Lib.hid (show Below Wo.heap.size Wo (V.setCell ⟨gr, M - 1, none⟩ (.int .i64 (j : Int))) from bV.out.setCell (show Wo.heap.size ≤ gr by rw [hgr.out]; exact Nat.le_refl _) _)
      obtain ⟨X, hX⟩ : ∃ X, X = V.setCell ⟨gr, M - 1, none⟩ (.int .i64 (j : Int)) := ⟨_, rfl⟩
      rw [← hX] at hB1 bW ⊢
      have hK2 : (M : Int) - 1 = (K : Int) := by have := hK.out; omega
      rw [hK2]
      clear hX hB bV cM fM hmk hM0 hK2 s0 s1 s2 s3
      go_loopw [10] (fun t wi => ∃ k : Nat, k ≤ K ∧ t = .int .i64 (k : Int) ∧ Hid (Blk wi gr 3 ((fillL (kz :: p j) k).map natv)) ∧ Hid (Below Wo.heap.size Wo wi)) (fun t _ => (intOf t).toNat)
      case atStart => exact ⟨K, Nat.le_refl _, rfl, hB1, bW⟩
      case round =>
        clear hB1 bW
        obtain ⟨k, hk, rfl, hB, hb⟩ := hrel
        have hgr2 : Wo.heap.size ≤ gr := by rw [hgr.out]; exact Nat.le_refl _
        cases k with
        | zero =>
          have hL : Hid (LAt encI wr (some ⟨gr, 0, none⟩) M (natI (kz :: p j))) := Lib.hid (LAt.of_blk (E := encI) (by
            have h1 := hB.out
            rw [fillL_all] at h1
            rw [natI_cells]; exact h1) (fun z hz => by
              obtain ⟨y, hy, rfl⟩ := List.mem_map.1 hz
              have : y < n := by
                rcases List.mem_cons.1 hy with rfl | hy
                · exact hkz
                · obtain ⟨q, hq, rfl⟩ := List.getElem_of_mem hy
                  have h3 := (hback.out q hq).1
                  rw [List.getD_eq_getElem?_getD, List.getElem?_eq_getElem hq] at h3
                  exact hw.out.lt _ h3
              show -9223372036854775808 ≤ (y : Int) ∧ (y : Int) < 9223372036854775808
              omega) (by rw [natI_len]; exact hMl.out))
          go_wp2_with fail
          go_ret
          exact ⟨some ⟨gr, 0, none⟩, M, M, rfl, hL.out, Nat.le_refl _, by omega, hb.out⟩
        | succ k =>
          have hkl : k < (p j).length := by have h1 := hMl.out; have h2 := hK.out; rw [List.length_cons] at h1; omega
          obtain ⟨y, hye⟩ : ∃ y, y = (kz :: p j).getD (k + 1) 0 := ⟨_, rfl⟩
          obtain ⟨u, hue⟩ : ∃ u, u = (kz :: p j).getD k 0 := ⟨_, rfl⟩
          have hbk := hback.out k hkl
          have hye2 : (p j).getD k 0 = y := by rw [hye]; rfl
          rw [hye2, ← hue] at hbk
          obtain ⟨u', hu1, hu2, hu3⟩ := hw.out.at_ hbk.1
          have hu4 : u' = u := by rw [← hu2]; exact hbk.2
          subst hu4
          have hyn : 0 ≤ (y : Int) ∧ (y : Int) < (n : Int) := by have := hw.out.lt y hbk.1; omega
          have hkM : 0 ≤ (k : Int) + 1 ∧ (k : Int) + 1 < (M : Int) := by have := hK.out; omega
          have hkM2 : 0 ≤ (k : Int) ∧ (k : Int) < (M : Int) := by omega
          have hML : (kz :: p j).length = M := hMl.out
          have hset := Lib.hid (fillL_set (ys := kz :: p j) (k := k) (by omega))
          rw [← hue] at hset
          have c1 : wr.cell? ⟨gr, k + 1, none⟩ = some (.int .i64 (y : Int)) := by rw [Blk.cell hB.out (k + 1), List.getElem?_map, fillL_at (by omega), ← hye]; rfl
          obtain ⟨q, hq⟩ : ∃ q, (fillL (kz :: p j) (k + 1))[k]? = some q := ⟨_, List.getElem?_eq_getElem (by rw [fillL_len (by omega)]; omega)⟩
          have c0 : wr.cell? ⟨gr, k, none⟩ = some (.int .i64 (q : Int)) := by rw [Blk.cell hB.out k, List.getElem?_map, hq]; rfl
          have hSr := Lib.hid (hS.out.later hb.out)
          have cy : wr.cell? ⟨gf, y, none⟩ = some (.int .i64 (u' : Int)) := by rw [Blk.cell hSr.out.f y, List.getElem?_map, hu1]; rfl
          have hwk : IntKind.i64.wrap (k : Int) = (k : Int) := by rw [IntKind.wrap_i64]; omega
          replace hye := Lib.hid hye
          replace hue := Lib.hid hue
          replace hye2 := Lib.hid hye2
          replace hbk := Lib.hid hbk
          replace hu1 := Lib.hid hu1
          replace hu2 := Lib.hid hu2
          replace hq := Lib.hid hq
          replace hkl := Lib.hid hkl
          replace hML := Lib.hid hML
          replace hgr2 := Lib.hid hgr2
          go_wp2_with fail
          refine wp_region_plan 14 [(true, 0), (true, 1), (true, 2), (true, 3), (true, 4), (true, 5), (true, 6), (true, 7), (true, 8), (true, 9), (true, 10), (true, 11), (true, 12), (true, 13)] (by kernel_rfl) (by kernel_rfl) (fun X hX => ?_)
          have hBX : Blk X gr 3 ((fillL (kz :: p j) (k + 1)).map natv) := by rw [hX.out]; exact hB.out.drew
          have hbX := Lib.hid (show Below Wo.heap.size Wo X from by rw [hX.out]; exact hb.out.drew)
          replace c0 : X.cell? ⟨gr, k, none⟩ = some (.int .i64 (q : Int)) := by rw [hX.out]; exact c0
          replace c1 : X.cell? ⟨gr, k + 1, none⟩ = some (.int .i64 (y : Int)) := by rw [hX.out]; exact c1
          replace cy : X.cell? ⟨gf, y, none⟩ = some (.int .i64 (u' : Int)) := by rw [hX.out]; exact cy
          have hSX := Lib.hid (hS.out.later hbX.out)
          obtain ⟨s0, s1, s2, s3⟩ := hSX.out.cells
          have fk := Blk.frozen hBX k
          have hB2 := Lib.hid (show Blk (X.setCell ⟨gr, k, none⟩ (.int .i64 (u' : Int))) gr 3 ((fillL (kz :: p j) k).map natv) from by
            have h1 := hBX.set_ k (.int .i64 (u' : Int))
            rw [← hset.out, List.map_set]; exact h1)
          have hb2 := Lib.hid (show Below Wo.heap.size Wo (X.setCell ⟨gr, k, none⟩ (.int .i64 (u' : Int))) from hbX.out.setCell hgr2.out _)
          obtain ⟨Y, hY⟩ : ∃ Y, Y = X.setCell ⟨gr, k, none⟩ (.int .i64 (u' : Int)) := ⟨_, rfl⟩
          rw [← hY] at hB2 hb2
          replace hBX := Lib.hid hBX
          clear hX hB hb
          simp only [List.drop_succ_cons]
          iterate 14
            refine wpPlan_float (v := ?_) rfl (by rfl) (fun w' hw' => ?_) (fun K hK => ?_)
            rotate_left
            · (go_simp; try with_reducible rfl)
            go_simp
            refine hK _ ?_
            clear hK K
          refine wpPlan_nil ?_
          go_wp2_with (rw [← hY]; clear hY)
          refine NoPanic.normal ?_
          clear c0 c1 cy s0 s1 s2 s3 fk
          go_wp2_with fail
          go_roundw
          case rel => exact ⟨k, by omega, rfl, hB2, hb2⟩
          case measure => simp [intOf]
    · have hne : ((kz : Int) != (x : Int)) = true := by rw [bne_iff_ne]; omega
      obtain ⟨hT, he⟩ : T kz ∧ p j = p kz ++ rest := by
        rcases hI.out with ⟨h1, _⟩ | ⟨h1, _, h2⟩
        · exact absurd h1 hkx
        · exact ⟨h1, h2⟩
      obtain ⟨y, hy, hy2, hyn⟩ := hw.out.at_ hT
      have cz : wr.cell? ⟨gf, kz, none⟩ = some (.int .i64 (y : Int)) := by rw [Blk.cell hS.out.f kz, List.getElem?_map, hy]; rfl
      have hkn : 0 ≤ (kz : Int) ∧ (kz : Int) < (n : Int) := by omega
      have hI2 := Lib.hid (WalkI.step (rest := rest) hw.out hT he)
      have hless := Lib.hid (WalkI.less hw.out hT hkx)
      rw [hy2] at hI2 hless
      have hMb : M ≤ 4097 := by
        have h1 := hM.out
        have h2 : (p j).length = (p kz).length + rest.length := by rw [he, List.length_append]
        omega
      replace hy := Lib.hid hy
      replace hy2 := Lib.hid hy2
      replace hT := Lib.hid hT
      replace he := Lib.hid he
      replace hkx := Lib.hid hkx
      go_wp2_with fail
      go_roundw
      case rel => exact ⟨M + 1, y, kz :: rest, by go_num, rfl, Lib.hid (by rw [hM.out]; rfl), hyn, hI2, trivial⟩
      case measure => simpa [intOf] using hless.out
end Go.Proofs.Ytfeomhoicnjgpaa

namespace Go.Proofs.Ytfeomhoicnjgpaa
open Go.RowKit
set_option linter.unusedVariables false
/-- what is answered when a round is asked for -/
def RoundIs (r : Nat → Nat → Prop) (n : Nat) (l : List Int) (ok : Bool) : Prop :=
  (ok = false ∧ l = [] ∧ ∀ x, x < n → ¬ Conn r x x) ∨ (ok = true ∧ ∃ (x : Nat) (rest : List Nat), x < n ∧ First r x x rest ∧ l = natI (x :: rest) ∧ ∀ y, y < x → ¬ Conn r y y)
theorem RoundIs.unique {r : Nat → Nat → Prop} {n : Nat} {l l' : List Int} {ok ok' : Bool} (h : RoundIs r n l ok) (k : RoundIs r n l' ok') : l = l' ∧ ok = ok' := by
  rcases h with ⟨rfl, rfl, h1⟩ | ⟨rfl, x, rest, h1, h2, rfl, h3⟩ <;> rcases k with ⟨rfl, rfl, k1⟩ | ⟨rfl, y, rest', k1, k2, rfl, k3⟩
  · exact ⟨rfl, rfl⟩
  · exact absurd (k2.way.conn k2.ne) (h1 y k1)
  · exact absurd (h2.way.conn h2.ne) (k1 x h1)
  · have : x = y := by
      rcases Nat.lt_trichotomy x y with h | h | h
      · exact absurd (h2.way.conn h2.ne) (k3 x h)
      · exact h
      · exact absurd (k2.way.conn k2.ne) (h3 y h)
    subst this
    rw [h2.unique k2]
    exact ⟨rfl, rfl⟩
def RetRound (r : Nat → Nat → Prop) (n : Nat) (w : World) (e : Ending) (w' : World) : Prop :=
  ∃ (D : Option Addr) (m c : Nat) (l : List Int) (ok : Bool), e = .returned (.tuple #[.slice D m c, .bool ok]) ∧ LAt encI w' D m l ∧ m ≤ c ∧ c ≤ 9223372036854775807 ∧ RoundIs r n l ok ∧ Below w.heap.size w w'
set_option maxRecDepth 100000 in
set_option maxHeartbeats 4000000 in
theorem ref14_Round (A : Option Addr) (n c : Nat) (a : List (List Nat)) (w : World) (hr : RowsAt w A n a) (hG : Good n a) :
    Calls Try.prog 22 #[.agg #[.int .i64 (n : Int), .slice A n c]] w (RetRound (Rel a) n w) := by
  have hnn := hG.le
  -- a call with the matrix (A n c a): it is boxed at g, the world is W0 then
  have hM0 := Lib.hid (MatK.new (N := (n : Int)) (c := c) w 39 hr)
  obtain ⟨g, hg⟩ : ∃ g, g = w.heap.size := ⟨_, rfl⟩
  obtain ⟨W0, hW0⟩ : ∃ W, W = w.alloc (.cells #[.int .i64 (n : Int), .slice A n c] 39) := ⟨_, rfl⟩
  rw [← hW0, ← hg] at hM0
  have hbo := Lib.hid (show Below w.heap.size w W0 from by rw [hW0]; exact below_alloc _ _)
  have cF := Lib.hid (fun (i : Int) (W : World) (hW : RowsAt W A n a) => ref14_Find A n c a i i W hW hG)
  go_enter Try.func22, Try.ntmps22
  go_wp2_with (rw [← hW0, ← hg]; clear hW0 hg)
  go_loopw [4] (fun t wr => ∃ k : Nat, k ≤ n ∧ t = .int .i64 (k : Int) ∧ Hid (∀ x, x < k → ¬ Conn (Rel a) x x) ∧ Hid (Below W0.heap.size W0 wr)) (fun t _ => n - (intOf t).toNat)
  case atStart => exact ⟨0, Nat.zero_le _, rfl, Lib.hid (fun x h => by omega), Lib.hid (Below.refl _ _)⟩
  case round =>
    obtain ⟨k, hk, rfl, hno, hb⟩ := hrel
    have hM := Lib.hid (hM0.out.below hb.out)
    have m0 := hM.out.1.c0
    have m1 := hM.out.1.c1
    by_cases hkn : k < n
    · have hkn' : (k : Int) < (n : Int) := by omega
      replace hkn := Lib.hid hkn
      go_wp2_with fail
      refine (cF.out (k : Int) wr hM.out.2).mono ?_; rintro e w1 ⟨D, m, d, l, ok, rfl, hL, hmd, hdm, hP, b⟩
      replace hb := Lib.hid (below_trans2 hb.out b)
      clear b m0 m1
      cases ok with
      | true =>
        have hR : RoundIs (Rel a) n l true := by
          rcases hP with ⟨h, _⟩ | ⟨_, x, y, rest, e1, e2, h1, h2, h3, h4⟩
          · cases h
          · have e1 : x = k := by omega
            have e2 : y = k := by omega
            subst e1; subst e2
            exact .inr ⟨rfl, y, rest, h1, h3, h4, hno.out⟩
        replace hL := Lib.hid hL
        replace hR := Lib.hid hR
        clear hP
        go_wp2_with fail
        exact bodyPost_ret (v := .tuple #[.slice D m d, .bool true]) (by simp [results, go_sem]) rfl ⟨D, m, d, l, true, rfl, hL.out, hmd, hdm, hR.out, below_trans2 hbo.out hb.out⟩
      | false =>
        have hno2 : Hid (∀ x, x < k + 1 → ¬ Conn (Rel a) x x) := Lib.hid (fun x hx => by
          rcases Nat.lt_or_ge x k with h | h
          · exact hno.out x h
          · obtain rfl : x = k := by omega
            rcases hP with ⟨_, _, h1⟩ | ⟨h, _⟩
            · exact h1 x x rfl rfl hkn.out hkn.out
            · cases h)
        clear hP hL
        go_wp2_with fail
        exact ⟨⟨k + 1, by have := hkn.out; omega, by go_num, hno2, hb⟩, by simp [intOf]; have := hkn.out; omega⟩
    · have hkn' : ¬ (k : Int) < (n : Int) := by omega
      have hR : Hid (RoundIs (Rel a) n [] false) := Lib.hid (.inl ⟨rfl, rfl, fun x hx => hno.out x (by omega)⟩)
      clear hkn
      go_wp2_with fail
      exact bodyPost_ret (v := .tuple #[.slice none 0 0, .bool false]) (by simp [results, go_sem]) rfl ⟨none, 0, 0, [], false, rfl, LAt.nil _ _ _, Nat.le_refl _, by omega, hR.out, below_trans2 hbo.out hb.out⟩
end Go.Proofs.Ytfeomhoicnjgpaa
