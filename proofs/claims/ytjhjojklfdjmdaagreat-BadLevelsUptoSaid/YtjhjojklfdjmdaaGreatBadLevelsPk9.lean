/- The code's own contracts of layer 16: column, chosen (by a function), Of, With, Writes, Kept. -/
import Derived.Test.YtjhjojklfdjmdaaGreatBadLevelsPk5
import Derived.Test.YtjhjojklfdjmdaaGreatBadLevelsPk8
import Derived.Test.YtjhjojklfdjmdaaGreatBadLevelsPk2
namespace Go.Proofs.YtjhjojklfdjmdaaGreat
open Go.RowKit
set_option linter.unusedVariables false
theorem filter_range_ext {p q : Nat → Bool} {n N : Nat} (hn : n ≤ N) (h1 : ∀ i, i < n → q i = p i) (h2 : ∀ i, n ≤ i → q i = false) : (List.range N).filter q = (List.range n).filter p := by
  obtain ⟨d, rfl⟩ : ∃ d, N = n + d := ⟨N - n, by omega⟩
  clear hn
  induction d with
  | zero => exact List.filter_congr fun i hi => h1 i (List.mem_range.1 hi)
  | succ d ih => rw [← Nat.add_assoc, List.range_succ, List.filter_append, ih, List.filter_cons_of_neg (by rw [h2 _ (by omega)]; decide)]; simp
theorem colN_mem {a : List (List Nat)} {o : Int} {n i : Nat} : i ∈ colN a o n ↔ i < n ∧ hasM a (i : Int) o = true := by
  unfold colN; rw [List.mem_filter, List.mem_range]
theorem colN_succ (a : List (List Nat)) (o : Int) (n : Nat) : colN a o (n + 1) = if hasM a (n : Int) o = true then colN a o n ++ [n] else colN a o n := by
  unfold colN
  rw [List.range_succ, List.filter_append]
  split
  · rename_i h; rw [List.filter_cons_of_pos (by exact h)]; simp
  · rename_i h; rw [List.filter_cons_of_neg (by exact h)]; simp
/-- the column o as a row of words; no word where there is no such column -/
def colW (a : List (List Nat)) (o : Int) (n : Nat) : List Nat := if 0 ≤ o ∧ o < (n : Int) then setAll (wordsN (n : Int)) (colN a o n) else []
theorem words_all16 (n : Nat) : n ≤ 64 * wordsN (n : Int) := by unfold wordsN wordsZ; split <;> omega
theorem words_small16 {n : Nat} (h : n ≤ 4096) : wordsN (n : Int) ≤ 64 := by unfold wordsN wordsZ; split <;> omega
theorem col_facts (a : List (List Nat)) (o : Int) {n k : Nat} (hk : k ≤ n) : (setAll (wordsN (n : Int)) (colN a o k)).length = wordsN (n : Int) ∧ W64 (setAll (wordsN (n : Int)) (colN a o k)) ∧ ∀ j : Nat, hasR (setAll (wordsN (n : Int)) (colN a o k)) (j : Int) = decide (j ∈ colN a o k) :=
  setAll_facts _ _ fun i hi => by have := (colN_mem.1 hi).1; have := words_all16 n; omega
theorem col_list (a : List (List Nat)) (o : Int) (n : Nat) : listR (setAll (wordsN (n : Int)) (colN a o n)) = colF a o n := by
  obtain ⟨h1, -, h3⟩ := col_facts a o (Nat.le_refl n)
  unfold listR listN colF
  rw [h1, filter_range_ext (p := fun i : Nat => hasM a (i : Int) o) (words_all16 n)]
  · rfl
  · intro i hi
    rw [h3 i, Bool.eq_iff_iff, decide_eq_true_iff, colN_mem]
    exact ⟨fun h => h.2, fun h => ⟨hi, h⟩⟩
  · intro i hi
    rw [h3 i, decide_eq_false_iff_not, colN_mem]
    omega
theorem col_list_with (a : List (List Nat)) (k n : Nat) (hk : k < n) : listR (setR (setAll (wordsN (n : Int)) (colN a (k : Int) n)) (k : Int)) = wihF a (k : Int) n := by
  obtain ⟨h1, -, h3⟩ := col_facts a (k : Int) (Nat.le_refl n)
  have hw := words_all16 n
  unfold listR listN wihF
  rw [setR_len, h1, filter_range_ext (p := fun i : Nat => decide ((i : Int) = (k : Int)) || hasM a (i : Int) (k : Int)) hw]
  · rfl
  · intro i hi
    rw [hasR_setR _ k i (by rw [h1]; omega), h3 i, Bool.eq_iff_iff, Bool.or_eq_true, Bool.or_eq_true, decide_eq_true_iff, decide_eq_true_iff, decide_eq_true_iff, colN_mem]
    exact ⟨fun h => h.elim (fun h => .inr h.2) (fun h => .inl (by omega)), fun h => h.elim (fun h => .inr (by omega)) (fun h => .inl ⟨hi, h⟩)⟩
  · intro i hi
    rw [hasR_setR _ k i (by rw [h1]; omega), h3 i, Bool.or_eq_false_iff, decide_eq_false_iff_not, decide_eq_false_iff_not, colN_mem]
    omega
theorem col_none {a : List (List Nat)} {n : Nat} (hG : Good n a) {o : Int} (h : ¬ (0 ≤ o ∧ o < (n : Int))) : colF a o n = [] := by
  unfold colF colN
  rw [List.filter_eq_nil_iff.2 (fun i hi hh => ?_)]; · rfl
  have hh : hasM a (i : Int) o = true := hh
  have := hG.in_has (i : Int) o
  rw [hh, Bool.and_true] at this
  unfold inM at this
  simp only [Bool.and_eq_true, decide_eq_true_eq] at this
  omega
theorem all_i64v (zs : List Int) : encI.all zs = zs.map i64v := by
  unfold Enc.all encI
  induction zs with
  | nil => rfl
  | cons z zs ih => rw [List.flatMap_cons, ih]; rfl
theorem RetIntsO.il {t : TypeId} {zs : List Int} {w w' : World} {e : Ending} (h : RetIntsO t zs w e w') : RetILF zs w e w' := by
  obtain ⟨A, n, c, rfl, ho, hx, hb⟩ := h
  rw [← all_i64v] at ho
  have hl : zs.length = n := by have := ho.1; rw [Enc.all_len] at this; simpa [encI] using this
  obtain ⟨A2, c2, e, hnc, hcm, hL⟩ := LAt.of_own (E := encI) ho hx hl
  injection e with e1 e2 e3
  subst e1; subst e3
  exact ⟨A, n, c, rfl, hL, hnc, hcm, hb, fun ad e => by subst e; exact own_lt_block ho _ rfl⟩
theorem RetILF.il {zs : List Int} {w w' : World} {e : Ending} (h : RetILF zs w e w') : RetIL zs w e w' := by
  obtain ⟨A, n, c, h1, h2, h3, h4, h5, -⟩ := h
  exact ⟨A, n, c, h1, h2, h3, h4, h5⟩
theorem RetILF.past {zs : List Int} {w0 w w' : World} {e : Ending} (h : RetILF zs w e w') (hb : Below w0.heap.size w0 w) : RetILF zs w0 e w' := by
  obtain ⟨A, n, c, h1, h2, h3, h4, h5, h6⟩ := h
  exact ⟨A, n, c, h1, h2, h3, h4, below_trans2 hb h5, fun ad e => Nat.le_trans hb.size (h6 ad e)⟩
theorem wrap_nat16 {q : Nat} (h : q ≤ 4096) : IntKind.i64.wrap (q : Int) = (q : Int) := by rw [IntKind.wrap_i64]; omega
set_option maxRecDepth 100000 in
set_option maxHeartbeats 1000000 in
theorem past_column (A : Option Addr) (n c : Nat) (a : List (List Nat)) (o : Int) (w : World) (hr : RowsAt w A n a) (hG : Good n a) :
    Calls Tryz.prog 112 #[.agg #[.int .i64 (n : Int), .slice A n c], .int .i64 o] w (RetRow (colW a o n) w) := by
  have hnn := hG.le
  have hsm := Lib.hid hG.small
  -- a call with the matrix (A n c a): it is boxed at g, the world is W0 then
  have hM0 := Lib.hid (MatK.new (N := (n : Int)) (c := c) w 57 hr)
  obtain ⟨g, hg⟩ : ∃ g, g = w.heap.size := ⟨_, rfl⟩
  obtain ⟨W0, hW0⟩ : ∃ W, W = w.alloc (.cells #[.int .i64 (n : Int), .slice A n c] 57) := ⟨_, rfl⟩
  rw [← hW0, ← hg] at hM0
  have hbo := Lib.hid (show Below w.heap.size w W0 from by rw [hW0]; exact below_alloc _ _)
  by_cases hin : 0 ≤ o ∧ o < (n : Int)
  · have hcw := Lib.hid (show colW a o n = setAll (wordsN (n : Int)) (colN a o n) from if_pos hin)
    obtain ⟨h0, h1⟩ := hin
    have d1 : decide (o < 0) = false := decide_eq_false (by omega)
    have d2 : decide ((n : Int) ≤ o) = false := decide_eq_false (by omega)
    have cN := Lib.hid (row_NewO (n : Int) (by omega) (by omega) W0)
    have m0 := hM0.out.1.c0
    have m1 := hM0.out.1.c1
    go_enter Tryz.func112, Tryz.ntmps112
    go_wp2_with (rw [← hW0, ← hg]; clear hW0 hg)
    refine cN.out.mono ?_; rintro e w1 ⟨A1, n1, c1, rfl, hown, hx64, b1⟩
    have hn1 : n1 = wordsN (n : Int) := by have := hown.1; simpa using this.symm
    have hwa := words_all16 n
    have hws := words_small16 hnn
    obtain ⟨nw, hnw⟩ : ∃ nw, nw = wordsN (n : Int) := ⟨_, rfl⟩
    rw [← hnw] at hn1 hwa hws
    subst hn1
    obtain ⟨G, cap, hv, -⟩ := hown.form (by omega)
    injection hv with hv1 hv2 hv3
    subst hv1; subst hv3
    have hfa := Lib.hid (fun k (hk : k ≤ n) => col_facts a o (n := n) (k := k) hk)
    rw [← hnw] at hown hfa hcw
    replace hnw := Lib.hid hnw
    have hown0 := Lib.hid (show w1.ownsRow W0.heap.size 89 1 (.slice (some ⟨G, 0, none⟩) n1 c1) n1 ((setAll n1 (colN a o 0)).map u64v) from hown)
    have hM1 := Lib.hid (hM0.out.below b1)
    have hb1 := Lib.hid b1
    clear hown hx64 b1 m0 m1
    have m0 := hM1.out.1.c0
    have m1 := hM1.out.1.c1
    go_wp2_with fail
    clear m0 m1
    go_loopw [20] (fun t wr => ∃ k : Nat, k ≤ n ∧ t = .int .i64 (k : Int) ∧ Hid (Below W0.heap.size W0 wr) ∧ Hid (wr.ownsRow W0.heap.size 89 1 (.slice (some ⟨G, 0, none⟩) n1 c1) n1 ((setAll n1 (colN a o k)).map u64v))) (fun t _ => n - (intOf t).toNat)
    case atStart => exact ⟨0, Nat.zero_le _, rfl, hb1, hown0⟩
    case round =>
      clear hb1 hown0
      obtain ⟨k, hk, rfl, hb, hown⟩ := hrel
      have hM := Lib.hid (hM0.out.below hb.out)
      have m0 := hM.out.1.c0
      have m1 := hM.out.1.c1
      by_cases hlt : k < n
      · have hlt' : (k : Int) < (n : Int) := by omega
        have hrs := colN_succ a o k
        have cH := mat_Has (n : Int) A n c a (k : Int) o wr hM.out.2 (by omega) (fun r hr => by have := hsm.out r hr; omega) (by omega) (by omega) (by omega) (by omega)
        cases ha : hasM a (k : Int) o with
        | true =>
          rw [ha] at cH
          rw [if_pos ha] at hrs
          replace cH := Lib.hid cH
          obtain ⟨q, hq⟩ : ∃ q, q = k / 64 := ⟨_, rfl⟩
          obtain ⟨r, hre⟩ : ∃ r, r = k % 64 := ⟨_, rfl⟩
          have hql : q < n1 := by omega
          have hr64 : r < 64 := by omega
          obtain ⟨hl1, hl2, -⟩ := hfa.out k (by omega)
          obtain ⟨x, hx⟩ : ∃ x, (setAll n1 (colN a o k))[q]? = some x := ⟨_, List.getElem?_eq_getElem (by omega)⟩
          have hx64 : x < 18446744073709551616 := hl2 x (List.mem_of_getElem? hx)
          have hS := setR_in (m := k) (xs := setAll n1 (colN a o k)) (by rw [hl1]; omega) (by rw [← hq]; exact hx)
          rw [← hq, ← hre, ← setAll_snoc, ← hrs] at hS
          have hE := Lib.hid (u64_or_nat x (p2 r) hx64 (by have := p2_lt r hr64; omega))
          replace hS := Lib.hid hS
          replace hx := Lib.hid hx
          clear hlt ha hrs
          go_wp2_with fail
          refine cH.out.mono ?_; rintro e w3 ⟨rfl, b3⟩
          have hown3 := own_below hown.out b3
          have hb3 := below_trans2 hb.out b3
          have hc : w3.cell? ⟨G, q, none⟩ = some (.int .u64 (x : Int)) := by
            rw [hown3.cellAt _ (by omega), List.getElem?_map, hx.out]; rfl
          have hf := hown3.frozenAt q
          have hGl := Lib.hid (hown3.lt G rfl).1
          clear b3 cH m0 m1
          go_wp2_with fail
          have hq1 : (k : Int).tdiv 64 = (q : Int) := by rw [Int.tdiv_eq_ediv_of_nonneg (by omega)]; omega
          have hr1 : (k : Int).tmod 64 = (r : Int) := by rw [Int.tmod_eq_emod_of_nonneg (by omega)]; omega
          have hwq : IntKind.i64.wrap (q : Int) = (q : Int) := wrap_nat16 (by omega)
          have hwr : IntKind.i64.wrap (r : Int) = (r : Int) := wrap_nat16 (by omega)
          have hA1 : (0 : Int) ≤ (q : Int) := by omega
          have hA2 : (q : Int) < (n1 : Int) := by omega
          refine still_tail 10 (by kernel_rfl) (by kernel_rfl) (fun W hW => ?_)
          have hc' : W.cell? ⟨G, q, none⟩ = some (.int .u64 (x : Int)) := by rw [hW.out]; exact hc
          have hf' : W.frozen? ⟨G, q, none⟩ = false := by rw [hW.out]; exact hf
          have hown' := Lib.hid (show W.ownsRow W0.heap.size 89 1 (.slice (some ⟨G, 0, none⟩) n1 c1) n1 ((setAll n1 (colN a o k)).map u64v) from by rw [hW.out]; exact hown3.drew)
          have hb' := Lib.hid (show Below W0.heap.size W0 W from by rw [hW.out]; exact hb3.drew)
          replace hq := Lib.hid hq
          replace hre := Lib.hid hre
          clear hc hf hb3 hown3 hW
          simp only [List.take_succ_cons, List.take_zero, List.drop_succ_cons, List.drop_zero]
          repeat
            refine @wpStill_step _ _ _ _ _ _ _ ?_
            intro K hK
            go_simp
            refine hK _ ?_
            clear hK K
          refine @wpStill_step _ _ _ _ _ _ _ ?_
          intro K hK
          go_simp
          refine ⟨_, still_call (word_BitN _ hr64 _), hK _ ?_⟩
          clear hK K
          repeat
            refine @wpStill_step _ _ _ _ _ _ _ ?_
            intro K hK
            go_simp
            refine hK _ ?_
            clear hK K
          refine wpStill_nil ?_
          go_wp2
          go_roundw
          case rel =>
            refine ⟨k + 1, by omega, by go_num, Lib.hid (hb'.out.setCell hGl.out _), Lib.hid ?_⟩
            rw [hE.out, hS.out, List.map_set]
            exact (hown'.out.stored _ _).1
          case measure => simp [intOf]; omega
        | false =>
          rw [ha] at cH
          rw [if_neg (by simp [ha])] at hrs
          replace hrs := Lib.hid hrs
          replace cH := Lib.hid cH
          clear hlt ha
          go_wp2_with fail
          refine cH.out.mono ?_; rintro e w3 ⟨rfl, b3⟩
          have hown3 := Lib.hid (own_below hown.out b3)
          have hb3 := Lib.hid (below_trans2 hb.out b3)
          clear b3 cH m0 m1
          go_wp2_with fail
          exact ⟨⟨k + 1, by omega, by go_num, hb3, Lib.hid (by rw [hrs.out]; exact hown3.out)⟩, by simp [intOf]; omega⟩
      · have hlt' : ¬ (k : Int) < (n : Int) := by omega
        obtain rfl : k = n := by omega
        obtain ⟨hl1, hl2, -⟩ := hfa.out k (by omega)
        have hR := Row.of_own hown.out hl2
        clear hlt hl1 hl2
        go_wp2_with fail
        go_ret
        exact ⟨_, _, _, rfl, by rw [hcw.out]; exact hR, below_trans2 hbo.out hb.out⟩
  · have hcw := Lib.hid (show colW a o n = [] from if_neg hin)
    have m0 := hM0.out.1.c0
    by_cases h0 : o < 0
    · have d1 : decide (o < 0) = true := decide_eq_true h0
      go_enter Tryz.func112, Tryz.ntmps112
      go_wp2_with (rw [← hW0, ← hg]; clear hW0 hg)
      go_ret
      exact ⟨none, 0, 0, rfl, by rw [hcw.out]; exact Row.nil _ _, hbo.out⟩
    · have d1 : decide (o < 0) = false := decide_eq_false h0
      have d2 : decide ((n : Int) ≤ o) = true := decide_eq_true (by omega)
      go_enter Tryz.func112, Tryz.ntmps112
      go_wp2_with (rw [← hW0, ← hg]; clear hW0 hg)
      go_ret
      exact ⟨none, 0, 0, rfl, by rw [hcw.out]; exact Row.nil _ _, hbo.out⟩
theorem colW_len {a : List (List Nat)} {o : Int} {n : Nat} (h : n ≤ 4096) : (colW a o n).length ≤ 64 := by
  unfold colW
  split
  · rw [(col_facts a o (Nat.le_refl n)).1]; exact words_small16 h
  · exact Nat.zero_le _
theorem past_OfF (A : Option Addr) (n c : Nat) (a : List (List Nat)) (o : Int) (w : World) (hr : RowsAt w A n a) (hG : Good n a) :
    Calls Tryz.prog 83 #[.agg #[.int .i64 (n : Int), .slice A n c], .int .i64 o] w (RetILF (colF a o n) w) := by
  -- a call with the matrix (A n c a): it is boxed at g, the world is W0 then
  have hM0 := Lib.hid (MatK.new (N := (n : Int)) (c := c) w 57 hr)
  obtain ⟨g, hg⟩ : ∃ g, g = w.heap.size := ⟨_, rfl⟩
  obtain ⟨W0, hW0⟩ : ∃ W, W = w.alloc (.cells #[.int .i64 (n : Int), .slice A n c] 57) := ⟨_, rfl⟩
  rw [← hW0, ← hg] at hM0
  have hbo := Lib.hid (show Below w.heap.size w W0 from by rw [hW0]; exact below_alloc _ _)
  have m0 := hM0.out.1.c0
  have m1 := hM0.out.1.c1
  have cC := Lib.hid (past_column A n c a o W0 hM0.out.2 hG)
  have hl : Hid (listR (colW a o n) = colF a o n) := Lib.hid (by
    unfold colW
    split
    · exact col_list a o n
    · rename_i h; rw [col_none hG h]; rfl)
  have hwl := colW_len (a := a) (o := o) hG.le
  go_enter Tryz.func83, Tryz.ntmps83
  go_wp2_with (rw [← hW0, ← hg]; clear hW0 hg)
  refine cC.out.mono ?_; rintro e w1 ⟨A1, n1, c1, rfl, hR, b1⟩
  have hn1 : n1 ≤ 64 := by rw [← hR.len]; exact hwl
  have cL := Lib.hid (row_ListO A1 n1 c1 _ w1 hR (by omega))
  have hb1 := Lib.hid (below_trans2 hbo.out b1)
  clear b1 hR hwl m0 m1
  go_wp2_with fail
  refine cL.out.mono ?_; intro e w2 h2
  have h3 := h2.il
  rw [hl.out] at h3
  obtain ⟨A2, n2, c2, rfl, h4, h5, h6, h7, h8⟩ := h3.past hb1.out
  clear h2
  go_wp2_with fail
  go_ret
  exact ⟨A2, n2, c2, rfl, h4, h5, h6, h7, h8⟩
theorem past_Of (A : Option Addr) (n c : Nat) (a : List (List Nat)) (o : Int) (w : World) (hr : RowsAt w A n a) (hG : Good n a) :
    Calls Tryz.prog 83 #[.agg #[.int .i64 (n : Int), .slice A n c], .int .i64 o] w (RetIL (colF a o n) w) :=
  (past_OfF A n c a o w hr hG).mono fun _ _ h => h.il
theorem within_none (i : Int) : decide (IntKind.u64.wrap i / 64 < 0) = false := by
  rw [decide_eq_false_iff_not, IntKind.wrap_u64]; omega
theorem row_within0 (A : Option Addr) (c : Nat) (i : Int) (w : World) :
    Calls Tryz.prog 113 #[.slice A 0 c, .int .i64 i] w fun e w' => e = .returned (.bool false) ∧ w = w' := by
  have H := Lib.hid (within_none i)
  go_enter Tryz.func113, Tryz.ntmps113
  go_wp2
  go_ret
  exact ⟨ret_bool H.out, rfl⟩
/-- no bit of a row without words is set -/
theorem row_Set0 (A : Option Addr) (c : Nat) (i : Int) (w : World) :
    Calls Tryz.prog 108 #[.slice A 0 c, .int .i64 i] w (RetRow [] w) := by
  have hcl := Lib.hid (row_clone A 0 c [] w (Row.nil _ _) (by omega))
  go_enter Tryz.func108, Tryz.ntmps108
  go_wp2_with fail
  refine hcl.out.mono ?_; rintro e w1 ⟨g, rfl, hown, hb⟩
  go_wp2_with fail
  refine (row_within0 _ _ i _).mono ?_; rintro e w' ⟨rfl, rfl⟩
  go_wp2
  go_ret
  exact ⟨_, _, _, rfl, Row.nil _ _, hb⟩
theorem past_WithF (A : Option Addr) (n c : Nat) (a : List (List Nat)) (o : Int) (w : World) (hr : RowsAt w A n a) (hG : Good n a) :
    Calls Tryz.prog 118 #[.agg #[.int .i64 (n : Int), .slice A n c], .int .i64 o] w (RetILF (wihO a o n) w) := by
  -- a call with the matrix (A n c a): it is boxed at g, the world is W0 then
  have hM0 := Lib.hid (MatK.new (N := (n : Int)) (c := c) w 57 hr)
  obtain ⟨g, hg⟩ : ∃ g, g = w.heap.size := ⟨_, rfl⟩
  obtain ⟨W0, hW0⟩ : ∃ W, W = w.alloc (.cells #[.int .i64 (n : Int), .slice A n c] 57) := ⟨_, rfl⟩
  rw [← hW0, ← hg] at hM0
  have hbo := Lib.hid (show Below w.heap.size w W0 from by rw [hW0]; exact below_alloc _ _)
  have m0 := hM0.out.1.c0
  have m1 := hM0.out.1.c1
  have cC := Lib.hid (past_column A n c a o W0 hM0.out.2 hG)
  have hl : Hid (listR (setR (colW a o n) o) = wihO a o n) := Lib.hid (by
    unfold colW wihO
    split
    · rename_i h
      obtain ⟨k, rfl⟩ := Int.eq_ofNat_of_zero_le h.1
      exact col_list_with a k n (by omega)
    · rw [setR_out (by simp; omega)]; rfl)
  have hwl := colW_len (a := a) (o := o) hG.le
  go_enter Tryz.func118, Tryz.ntmps118
  go_wp2_with (rw [← hW0, ← hg]; clear hW0 hg)
  refine cC.out.mono ?_; rintro e w1 ⟨A1, n1, c1, rfl, hR, b1⟩
  have hn1 : n1 ≤ 64 := by rw [← hR.len]; exact hwl
  have hle := hG.le
  have cS : Hid (Calls Tryz.prog 108 #[.slice A1 n1 c1, .int .i64 o] w1 (RetRow (setR (colW a o n) o) w1)) := by
    by_cases hin : 0 ≤ o ∧ o < (n : Int)
    · exact Lib.hid (row_Set A1 n1 c1 _ o w1 hR (by omega) (by omega) (by omega))
    · have he : colW a o n = [] := if_neg hin
      rw [he] at hR
      rw [he, setR_out (by simp; omega)]
      obtain rfl : n1 = 0 := hR.len.symm
      exact Lib.hid (row_Set0 A1 c1 o w1)
  have hb1 := Lib.hid (below_trans2 hbo.out b1)
  clear b1 m0 m1
  go_wp2_with fail
  refine cS.out.mono ?_; rintro e w2 ⟨A2, n2, c2, rfl, hR2, b2⟩
  have hn2 : n2 ≤ 64 := by rw [← hR2.len, setR_len]; exact hwl
  have cL := Lib.hid (row_ListO A2 n2 c2 _ w2 hR2 (by omega))
  have hb2 := Lib.hid (below_trans2 hb1.out b2)
  clear b2 hR hR2 hwl cS hn1
  go_wp2_with fail
  refine cL.out.mono ?_; intro e w3 h2
  have h3 := h2.il
  rw [hl.out] at h3
  obtain ⟨A3, n3, c3, rfl, h4, h5, h6, h7, h8⟩ := h3.past hb2.out
  clear h2
  go_wp2_with fail
  go_ret
  exact ⟨A3, n3, c3, rfl, h4, h5, h6, h7, h8⟩
theorem past_With (A : Option Addr) (n c : Nat) (a : List (List Nat)) (o : Int) (w : World) (hr : RowsAt w A n a) (hG : Good n a) :
    Calls Tryz.prog 118 #[.agg #[.int .i64 (n : Int), .slice A n c], .int .i64 o] w (RetIL (wihO a o n) w) :=
  (past_WithF A n c a o w hr hG).mono fun _ _ h => h.il
/-- the numbers of a list whose items fit -/
def chP (p : It → Bool) (is : List It) (z : Int) : Bool := decide (0 ≤ z) && (match is[z.toNat]? with | some x => p x | none => false)
def chF (p : It → Bool) (is : List It) (l : List Int) : List Int := l.filter (chP p is)
theorem chP_at {p : It → Bool} {is : List It} {z : Int} {x : It} (h0 : 0 ≤ z) (h : is[z.toNat]? = some x) : chP p is z = p x := by
  unfold chP; rw [decide_eq_true h0, h]; rfl
theorem chP_out {p : It → Bool} {is : List It} {z : Int} (h : z < 0 ∨ (is.length : Int) ≤ z) : chP p is z = false := by
  unfold chP
  by_cases h0 : 0 ≤ z
  · rw [List.getElem?_eq_none (by omega)]; simp
  · rw [decide_eq_false h0]; rfl
theorem chF_wrs (is : List It) (v : Int) (l : List Int) : chF (fun x => x.wr && decide (x.va = v)) is l = wrsF is v l := by
  unfold chF wrsF
  refine List.filter_congr fun z _ => ?_
  unfold chP wrOK
  cases is[z.toNat]? <;> rfl
theorem chF_kept (is : List It) (l : List Int) (hl : ∀ z ∈ l, 0 ≤ z) : chF (fun x => !x.wr) is l = keptF is l := by
  unfold chF keptF
  refine List.filter_congr fun z hz => ?_
  unfold chP rdOK
  rw [decide_eq_true (hl z hz), Bool.true_and]
  cases is[z.toNat]? <;> rfl
set_option maxRecDepth 100000 in
set_option maxHeartbeats 2000000 in
/-- chosen by a function that has nothing of its own -/
theorem past_chosen0 (p : It → Bool) (v : FV) (f : Fac) (B : Option Addr) (m d : Nat) (l : List Int) (w : World) (hF : FactsAt w v f) (hL : LAt encI w B m l) (hm : m ≤ 1048576) (hvm : v.m ≤ 1048576)
    (hp : ∀ (x : It) (W : World), Below w.heap.size w W → Calls Tryz.prog 117 #[.agg #[.int .i64 x.se, .int .i64 x.pl, .bool x.wr, .int .i64 x.va, .int .i64 x.vl]] W (RetBool (p x) W)) :
    Calls Tryz.prog 109 #[.agg #[.slice v.A v.n v.c, .slice v.B v.m v.d, .slice v.C v.k v.e], .slice B m d, .func (.func 117) #[] #[]] w (RetILF (chF p f.items l) w) := by
  have hil := hF.is.len
  obtain ⟨i0, hi, hz0, hz1, hz2⟩ := info_parts info_int16
  replace hi := Lib.hid hi
  replace hz0 := Lib.hid hz0
  replace hz1 := Lib.hid hz1
  replace hz2 := Lib.hid hz2
  replace hil := Lib.hid hil
  replace hL := Lib.hid hL
  replace hp := Lib.hid hp
  -- a call with facts v: they are boxed at g, the world is W0 then
  have hB0 := Lib.hid (FBox.new hF)
  obtain ⟨g, hg⟩ : ∃ g, g = w.heap.size := ⟨_, rfl⟩
  obtain ⟨W0, hW0⟩ : ∃ W, W = w.alloc (.cells #[.slice v.A v.n v.c, .slice v.B v.m v.d, .slice v.C v.k v.e] 29) := ⟨_, rfl⟩
  rw [← hW0, ← hg] at hB0
  clear hF
  go_enter Tryz.func109, Tryz.ntmps109
  go_wp2_with (rw [← hW0, ← hg]; clear hW0 hg)
  go_loopw [7, 12] (fun u t wr => ∃ k : Nat, k ≤ m ∧ t = .int .i64 k ∧ Hid (Below W0.heap.size W0 wr) ∧ Hid (wr.ownsRow W0.heap.size 3 1 u (chF p f.items (l.take k)).length (encI.all (chF p f.items (l.take k))))) (fun _ t _ => m - (intOf t).toNat)
  case atStart => exact ⟨0, Nat.zero_le _, rfl, Lib.hid (Below.refl _ _), Lib.hid (World.ownsRow_nil _ _ _ _)⟩
  case round =>
    obtain ⟨k, hk, rfl, hb, hown⟩ := hrel
    have hB := Lib.hid (hB0.out.later hb.out)
    have hLr := (hL.out.below hB0.out.o).below hb.out
    have p0 := hB.out.c0
    have p1 := hB.out.c1
    have p2 := hB.out.c2
    have hrl : (chF p f.items (l.take k)).length ≤ k := Nat.le_trans (List.length_filter_le _ _) (List.length_take_le _ _)
    obtain ⟨L, hLl⟩ : ∃ L, L = (chF p f.items (l.take k)).length := ⟨_, rfl⟩
    rw [← hLl] at hown hrl
    replace hLl := Lib.hid hLl
    by_cases hlt : k < m
    · have hlt' : (k : Int) < (m : Int) := by omega
      have k0 : 0 ≤ (k : Int) ∧ (k : Int) < (m : Int) := ⟨by omega, hlt'⟩
      obtain ⟨lb, lo, z, rfl, hlb, hz, ⟨z0, z1⟩, j0⟩ := hLr.int hlt
      have hrs : chF p f.items (l.take (k + 1)) = if chP p f.items z = true then chF p f.items (l.take k) ++ [z] else chF p f.items (l.take k) := filter_take hz
      by_cases hzn : 0 ≤ z
      · have d1 : decide (0 ≤ z) = true := decide_eq_true hzn
        by_cases hzm : z < (v.m : Int)
        · have d2 : decide (z < (v.m : Int)) = true := decide_eq_true hzm
          have hzb : 0 ≤ z ∧ z < (v.m : Int) := ⟨hzn, hzm⟩
          obtain ⟨ib, io, it, hxB, hib, hq, -, i0, i1, i2, i3, i4⟩ := hB.out.f.is.item (show z.toNat < v.m by omega)
          rw [hxB] at p1
          rw [chP_at hzn hq] at hrs
          have cP := hp.out it wr (below_trans2 hB0.out.o hb.out)
          replace hzn := Lib.hid hzn
          replace hzm := Lib.hid hzm
          replace hxB := Lib.hid hxB
          cases hpi : p it with
          | true =>
            rw [if_pos hpi] at hrs
            rw [hpi] at cP
            replace hrs := Lib.hid hrs
            replace cP := Lib.hid cP
            clear hlt hz hlb hq hpi
            go_wp2_with fail
            refine cP.out.mono ?_; rintro e w3 ⟨rfl, b3⟩
            have hown3 := Lib.hid (own_below hown.out b3)
            have hb3 := Lib.hid (below_trans2 hb.out b3)
            clear b3 cP p0 p1 p2 i0 i1 i2 i3 i4 j0
            -- 'append(out, z)' (temps 34 36) in the world w3: hown : the row (chF p f.items (l.take k)) of length L (hL), hb : Below W0 .. w3; behind it: hown', hb7
            obtain ⟨gl, hgl⟩ : ∃ g, g = (w3).heap.size := ⟨_, rfl⟩
            obtain ⟨VL, hVL⟩ : ∃ W, W = World.alloc (w3) (.cells #[.int .i64 z] 3) := ⟨_, rfl⟩
            have bL : Below (w3).heap.size (w3) VL := by rw [hVL]; exact (Below.refl _ _).alloc (Nat.le_refl _) _
            have hlit := Lib.hid (show LAt encI VL (some ⟨gl, 0, none⟩) 1 [z] from by rw [hVL, hgl]; exact LAt.lit1 (E := encI) (w3) 3 z ⟨by omega, by omega⟩)
            have hownL := Lib.hid (own_below hown3.out bL)
            have bWL := Lib.hid (below_trans2 hb3.out bL)
            have hbase := Lib.hid bWL.out.size
            clear bL
            go_wp2_with (first
              | (rw [← hVL, ← hgl]; clear hVL hgl)
              | (at_builtin; refine wpList_append_L (E := encI) rfl (.tmp 34) (.tmp 36) _ rfl W0.heap.size 3 i0 _ 8 Tryz.underlying27 hi.out hz0.out hz1.out hz2.out rfl _ L (chF p f.items (l.take k)) (by rfl) hownL.out _ 1 1 _ rfl hlit.out (by unfold maxLen; omega) (by omega) hbase.out ?_; intro v' w7 hown' hb7 _ _))
            exact ⟨⟨k + 1, by omega, by go_num, Lib.hid (bWL.out.trans hb7), Lib.hid (by rw [hrs.out, List.length_append, ← hLl.out]; exact hown')⟩, by simp [intOf]; omega⟩
          | false =>
            rw [if_neg (by simp [hpi])] at hrs
            rw [hpi] at cP
            replace hrs := Lib.hid hrs
            replace cP := Lib.hid cP
            clear hlt hz hlb hq hpi
            go_wp2_with fail
            refine cP.out.mono ?_; rintro e w3 ⟨rfl, b3⟩
            have hown3 := Lib.hid (own_below hown.out b3)
            have hb3 := Lib.hid (below_trans2 hb.out b3)
            clear b3 cP p0 p1 p2 i0 i1 i2 i3 i4 j0
            go_wp2_with fail
            exact ⟨⟨k + 1, by omega, by go_num, hb3, Lib.hid (by rw [hrs.out, ← hLl.out]; exact hown3.out)⟩, by simp [intOf]; omega⟩
        · have d2 : decide (z < (v.m : Int)) = false := decide_eq_false hzm
          rw [if_neg (by rw [chP_out (.inr (by rw [hil.out]; omega))]; simp)] at hrs
          replace hrs := Lib.hid hrs
          replace hzn := Lib.hid hzn
          replace hzm := Lib.hid hzm
          clear hz hlb
          clear hlt
          go_wp2_with fail
          exact ⟨⟨k + 1, by omega, by go_num, hb, Lib.hid (by rw [hrs.out, ← hLl.out]; exact hown.out)⟩, by simp [intOf]; omega⟩
      · have d1 : decide (0 ≤ z) = false := decide_eq_false hzn
        rw [if_neg (by rw [chP_out (.inl (by omega))]; simp)] at hrs
        replace hrs := Lib.hid hrs
        replace hzn := Lib.hid hzn
        clear hz hlb
        clear hlt
        go_wp2_with fail
        exact ⟨⟨k + 1, by omega, by go_num, hb, Lib.hid (by rw [hrs.out, ← hLl.out]; exact hown.out)⟩, by simp [intOf]; omega⟩
    · have hlt' : ¬ (k : Int) < (m : Int) := by omega
      obtain rfl : k = m := by omega
      have hta : l.take k = l := List.take_of_length_le (by rw [hL.out.len]; omega)
      rw [hta] at hown hLl
      have hfr := Lib.hid (own_lt_block hown.out)
      obtain ⟨A2, c2, rfl, hnc, hcm, hLA⟩ := LAt.of_own hown.out (fun z hz => hL.out.okAll z (List.mem_filter.1 hz).1) hLl.out.symm
      clear hlt hta hLr
      go_wp2_with fail
      go_ret
      exact ⟨A2, L, c2, rfl, hLA, hnc, hcm, below_trans2 hB0.out.o hb.out, fun ad e => by subst e; exact Nat.le_trans hB0.out.o.size (hfr.out _ rfl)⟩
set_option maxRecDepth 100000 in
set_option maxHeartbeats 2000000 in
/-- chosen by a function that has a variable of its own -/
theorem past_chosen1 (u : Value) (p : It → Bool) (v : FV) (f : Fac) (B : Option Addr) (m d : Nat) (l : List Int) (w : World) (hF : FactsAt w v f) (hL : LAt encI w B m l) (hm : m ≤ 1048576) (hvm : v.m ≤ 1048576)
    (hp : ∀ (x : It) (W : World), Below w.heap.size w W → Calls Tryz.prog 110 #[.agg #[.int .i64 x.se, .int .i64 x.pl, .bool x.wr, .int .i64 x.va, .int .i64 x.vl], u] W (RetBool (p x) W)) :
    Calls Tryz.prog 109 #[.agg #[.slice v.A v.n v.c, .slice v.B v.m v.d, .slice v.C v.k v.e], .slice B m d, .func (.func 110) #[] #[u]] w (RetILF (chF p f.items l) w) := by
  have hil := hF.is.len
  obtain ⟨i0, hi, hz0, hz1, hz2⟩ := info_parts info_int16
  replace hi := Lib.hid hi
  replace hz0 := Lib.hid hz0
  replace hz1 := Lib.hid hz1
  replace hz2 := Lib.hid hz2
  replace hil := Lib.hid hil
  replace hL := Lib.hid hL
  replace hp := Lib.hid hp
  -- a call with facts v: they are boxed at g, the world is W0 then
  have hB0 := Lib.hid (FBox.new hF)
  obtain ⟨g, hg⟩ : ∃ g, g = w.heap.size := ⟨_, rfl⟩
  obtain ⟨W0, hW0⟩ : ∃ W, W = w.alloc (.cells #[.slice v.A v.n v.c, .slice v.B v.m v.d, .slice v.C v.k v.e] 29) := ⟨_, rfl⟩
  rw [← hW0, ← hg] at hB0
  clear hF
  go_enter Tryz.func109, Tryz.ntmps109
  go_wp2_with (rw [← hW0, ← hg]; clear hW0 hg)
  go_loopw [7, 12] (fun u t wr => ∃ k : Nat, k ≤ m ∧ t = .int .i64 k ∧ Hid (Below W0.heap.size W0 wr) ∧ Hid (wr.ownsRow W0.heap.size 3 1 u (chF p f.items (l.take k)).length (encI.all (chF p f.items (l.take k))))) (fun _ t _ => m - (intOf t).toNat)
  case atStart => exact ⟨0, Nat.zero_le _, rfl, Lib.hid (Below.refl _ _), Lib.hid (World.ownsRow_nil _ _ _ _)⟩
  case round =>
    obtain ⟨k, hk, rfl, hb, hown⟩ := hrel
    have hB := Lib.hid (hB0.out.later hb.out)
    have hLr := (hL.out.below hB0.out.o).below hb.out
    have p0 := hB.out.c0
    have p1 := hB.out.c1
    have p2 := hB.out.c2
    have hrl : (chF p f.items (l.take k)).length ≤ k := Nat.le_trans (List.length_filter_le _ _) (List.length_take_le _ _)
    obtain ⟨L, hLl⟩ : ∃ L, L = (chF p f.items (l.take k)).length := ⟨_, rfl⟩
    rw [← hLl] at hown hrl
    replace hLl := Lib.hid hLl
    by_cases hlt : k < m
    · have hlt' : (k : Int) < (m : Int) := by omega
      have k0 : 0 ≤ (k : Int) ∧ (k : Int) < (m : Int) := ⟨by omega, hlt'⟩
      obtain ⟨lb, lo, z, rfl, hlb, hz, ⟨z0, z1⟩, j0⟩ := hLr.int hlt
      have hrs : chF p f.items (l.take (k + 1)) = if chP p f.items z = true then chF p f.items (l.take k) ++ [z] else chF p f.items (l.take k) := filter_take hz
      by_cases hzn : 0 ≤ z
      · have d1 : decide (0 ≤ z) = true := decide_eq_true hzn
        by_cases hzm : z < (v.m : Int)
        · have d2 : decide (z < (v.m : Int)) = true := decide_eq_true hzm
          have hzb : 0 ≤ z ∧ z < (v.m : Int) := ⟨hzn, hzm⟩
          obtain ⟨ib, io, it, hxB, hib, hq, -, i0, i1, i2, i3, i4⟩ := hB.out.f.is.item (show z.toNat < v.m by omega)
          rw [hxB] at p1
          rw [chP_at hzn hq] at hrs
          have cP := hp.out it wr (below_trans2 hB0.out.o hb.out)
          replace hzn := Lib.hid hzn
          replace hzm := Lib.hid hzm
          replace hxB := Lib.hid hxB
          cases hpi : p it with
          | true =>
            rw [if_pos hpi] at hrs
            rw [hpi] at cP
            replace hrs := Lib.hid hrs
            replace cP := Lib.hid cP
            clear hlt hz hlb hq hpi
            go_wp2_with fail
            refine cP.out.mono ?_; rintro e w3 ⟨rfl, b3⟩
            have hown3 := Lib.hid (own_below hown.out b3)
            have hb3 := Lib.hid (below_trans2 hb.out b3)
            clear b3 cP p0 p1 p2 i0 i1 i2 i3 i4 j0
            -- 'append(out, z)' (temps 34 36) in the world w3: hown : the row (chF p f.items (l.take k)) of length L (hL), hb : Below W0 .. w3; behind it: hown', hb7
            obtain ⟨gl, hgl⟩ : ∃ g, g = (w3).heap.size := ⟨_, rfl⟩
            obtain ⟨VL, hVL⟩ : ∃ W, W = World.alloc (w3) (.cells #[.int .i64 z] 3) := ⟨_, rfl⟩
            have bL : Below (w3).heap.size (w3) VL := by rw [hVL]; exact (Below.refl _ _).alloc (Nat.le_refl _) _
            have hlit := Lib.hid (show LAt encI VL (some ⟨gl, 0, none⟩) 1 [z] from by rw [hVL, hgl]; exact LAt.lit1 (E := encI) (w3) 3 z ⟨by omega, by omega⟩)
            have hownL := Lib.hid (own_below hown3.out bL)
            have bWL := Lib.hid (below_trans2 hb3.out bL)
            have hbase := Lib.hid bWL.out.size
            clear bL
            go_wp2_with (first
              | (rw [← hVL, ← hgl]; clear hVL hgl)
              | (at_builtin; refine wpList_append_L (E := encI) rfl (.tmp 34) (.tmp 36) _ rfl W0.heap.size 3 i0 _ 8 Tryz.underlying27 hi.out hz0.out hz1.out hz2.out rfl _ L (chF p f.items (l.take k)) (by rfl) hownL.out _ 1 1 _ rfl hlit.out (by unfold maxLen; omega) (by omega) hbase.out ?_; intro v' w7 hown' hb7 _ _))
            exact ⟨⟨k + 1, by omega, by go_num, Lib.hid (bWL.out.trans hb7), Lib.hid (by rw [hrs.out, List.length_append, ← hLl.out]; exact hown')⟩, by simp [intOf]; omega⟩
          | false =>
            rw [if_neg (by simp [hpi])] at hrs
            rw [hpi] at cP
            replace hrs := Lib.hid hrs
            replace cP := Lib.hid cP
            clear hlt hz hlb hq hpi
            go_wp2_with fail
            refine cP.out.mono ?_; rintro e w3 ⟨rfl, b3⟩
            have hown3 := Lib.hid (own_below hown.out b3)
            have hb3 := Lib.hid (below_trans2 hb.out b3)
            clear b3 cP p0 p1 p2 i0 i1 i2 i3 i4 j0
            go_wp2_with fail
            exact ⟨⟨k + 1, by omega, by go_num, hb3, Lib.hid (by rw [hrs.out, ← hLl.out]; exact hown3.out)⟩, by simp [intOf]; omega⟩
        · have d2 : decide (z < (v.m : Int)) = false := decide_eq_false hzm
          rw [if_neg (by rw [chP_out (.inr (by rw [hil.out]; omega))]; simp)] at hrs
          replace hrs := Lib.hid hrs
          replace hzn := Lib.hid hzn
          replace hzm := Lib.hid hzm
          clear hz hlb
          clear hlt
          go_wp2_with fail
          exact ⟨⟨k + 1, by omega, by go_num, hb, Lib.hid (by rw [hrs.out, ← hLl.out]; exact hown.out)⟩, by simp [intOf]; omega⟩
      · have d1 : decide (0 ≤ z) = false := decide_eq_false hzn
        rw [if_neg (by rw [chP_out (.inl (by omega))]; simp)] at hrs
        replace hrs := Lib.hid hrs
        replace hzn := Lib.hid hzn
        clear hz hlb
        clear hlt
        go_wp2_with fail
        exact ⟨⟨k + 1, by omega, by go_num, hb, Lib.hid (by rw [hrs.out, ← hLl.out]; exact hown.out)⟩, by simp [intOf]; omega⟩
    · have hlt' : ¬ (k : Int) < (m : Int) := by omega
      obtain rfl : k = m := by omega
      have hta : l.take k = l := List.take_of_length_le (by rw [hL.out.len]; omega)
      rw [hta] at hown hLl
      have hfr := Lib.hid (own_lt_block hown.out)
      obtain ⟨A2, c2, rfl, hnc, hcm, hLA⟩ := LAt.of_own hown.out (fun z hz => hL.out.okAll z (List.mem_filter.1 hz).1) hLl.out.symm
      clear hlt hta hLr
      go_wp2_with fail
      go_ret
      exact ⟨A2, L, c2, rfl, hLA, hnc, hcm, below_trans2 hB0.out.o hb.out, fun ad e => by subst e; exact Nat.le_trans hB0.out.o.size (hfr.out _ rfl)⟩
set_option maxRecDepth 100000 in
set_option maxHeartbeats 1000000 in
theorem past_isWrite (x : It) (gv : Nat) (vr : Int) (w : World) (hc : w.cell? ⟨gv, 0, none⟩ = some (.int .i64 vr)) (hl : gv < w.heap.size) :
    Calls Tryz.prog 110 #[.agg #[.int .i64 x.se, .int .i64 x.pl, .bool x.wr, .int .i64 x.va, .int .i64 x.vl], .pointer (some ⟨gv, 0, none⟩)] w (RetBool (x.wr && decide (x.va = vr)) w) := by
  -- a call with the item x: it is boxed at g, the world is W0 then
  obtain ⟨g, hg⟩ : ∃ g, g = w.heap.size := ⟨_, rfl⟩
  obtain ⟨W0, hW0⟩ : ∃ W, W = w.alloc (.cells #[.int .i64 x.se, .int .i64 x.pl, .bool x.wr, .int .i64 x.va, .int .i64 x.vl] 43) := ⟨_, rfl⟩
  have hbo := Lib.hid (show Below w.heap.size w W0 from by rw [hW0]; exact below_alloc _ _)
  have kI := Lib.hid (show Blk W0 g 43 [.int .i64 x.se, .int .i64 x.pl, .bool x.wr, .int .i64 x.va, .int .i64 x.vl] from by rw [hW0, hg]; exact Blk.new _ _ _)
  have i2 := kI.out.cell 2
  have i3 := kI.out.cell 3
  simp only [List.getElem?_cons_zero, List.getElem?_cons_succ] at i2 i3
  have hv : W0.cell? ⟨gv, 0, none⟩ = some (.int .i64 vr) := by rw [hW0, World.cell?_alloc_lt w _ _ hl]; exact hc
  obtain ⟨s, t, b, a, y⟩ := x
  simp only at i2 i3 ⊢
  have he : (a == vr) = decide (a = vr) := by rw [Bool.eq_iff_iff]; simp
  cases b with
  | true =>
    go_enter Tryz.func110, Tryz.ntmps110
    go_wp2_with (rw [← hW0, ← hg]; clear hW0 hg)
    go_ret
    exact ⟨by simp, hbo.out⟩
  | false =>
    go_enter Tryz.func110, Tryz.ntmps110
    go_wp2_with (rw [← hW0, ← hg]; clear hW0 hg)
    go_ret
    exact ⟨rfl, hbo.out⟩
set_option maxRecDepth 100000 in
set_option maxHeartbeats 1000000 in
theorem past_isRead (x : It) (w : World) :
    Calls Tryz.prog 117 #[.agg #[.int .i64 x.se, .int .i64 x.pl, .bool x.wr, .int .i64 x.va, .int .i64 x.vl]] w (RetBool (!x.wr) w) := by
  -- a call with the item x: it is boxed at g, the world is W0 then
  obtain ⟨g, hg⟩ : ∃ g, g = w.heap.size := ⟨_, rfl⟩
  obtain ⟨W0, hW0⟩ : ∃ W, W = w.alloc (.cells #[.int .i64 x.se, .int .i64 x.pl, .bool x.wr, .int .i64 x.va, .int .i64 x.vl] 43) := ⟨_, rfl⟩
  have hbo := Lib.hid (show Below w.heap.size w W0 from by rw [hW0]; exact below_alloc _ _)
  have kI := Lib.hid (show Blk W0 g 43 [.int .i64 x.se, .int .i64 x.pl, .bool x.wr, .int .i64 x.va, .int .i64 x.vl] from by rw [hW0, hg]; exact Blk.new _ _ _)
  have i2 := kI.out.cell 2
  have i3 := kI.out.cell 3
  simp only [List.getElem?_cons_zero, List.getElem?_cons_succ] at i2 i3
  obtain ⟨s, t, b, a, y⟩ := x
  simp only at i2 i3 ⊢
  go_enter Tryz.func117, Tryz.ntmps117
  go_wp2_with (rw [← hW0, ← hg]; clear hW0 hg)
  go_ret
  exact ⟨rfl, hbo.out⟩
set_option maxRecDepth 100000 in
set_option maxHeartbeats 1000000 in
theorem past_WritesF (v : FV) (f : Fac) (B : Option Addr) (m d : Nat) (l : List Int) (vr : Int) (w : World) (hF : FactsAt w v f) (hL : LAt encI w B m l) (hm : m ≤ 1048576) (hvm : v.m ≤ 1048576) :
    Calls Tryz.prog 82 #[.agg #[.slice v.A v.n v.c, .slice v.B v.m v.d, .slice v.C v.k v.e], .slice B m d, .int .i64 vr] w (RetILF (wrsF f.items vr l) w) := by
  replace hL := Lib.hid hL
  -- a call with facts v: they are boxed at g, the world is W0 then
  have hB0 := Lib.hid (FBox.new hF)
  obtain ⟨g, hg⟩ : ∃ g, g = w.heap.size := ⟨_, rfl⟩
  obtain ⟨W0, hW0⟩ : ∃ W, W = w.alloc (.cells #[.slice v.A v.n v.c, .slice v.B v.m v.d, .slice v.C v.k v.e] 29) := ⟨_, rfl⟩
  rw [← hW0, ← hg] at hB0
  clear hF
  obtain ⟨gv, hgv⟩ : ∃ g, g = W0.heap.size := ⟨_, rfl⟩
  obtain ⟨W1, hW1⟩ : ∃ W, W = W0.alloc (.cells #[.int .i64 vr] 3) := ⟨_, rfl⟩
  have b1 : Below W0.heap.size W0 W1 := by rw [hW1]; exact (Below.refl _ _).alloc (Nat.le_refl _) _
  have kV := Lib.hid (show Blk W1 gv 3 [.int .i64 vr] from by rw [hW1, hgv]; exact Blk.new _ _ _)
  have hB1 := Lib.hid (hB0.out.later b1)
  have hL1 := Lib.hid ((hL.out.below hB0.out.o).below b1)
  have cC := Lib.hid (past_chosen1 (.pointer (some ⟨gv, 0, none⟩)) (fun x => x.wr && decide (x.va = vr)) v f B m d l W1 hB1.out.f hL1.out hm hvm (fun x W hW => past_isWrite x gv vr W (by rw [hW.cell (p := ⟨gv, 0, none⟩) kV.out.lt]; exact kV.out.cell 0) (Nat.lt_of_lt_of_le kV.out.lt hW.size)))
  rw [chF_wrs] at cC
  clear b1
  have p0 := hB1.out.c0
  have p1 := hB1.out.c1
  have p2 := hB1.out.c2
  go_enter Tryz.func82, Tryz.ntmps82
  go_wp2_with (first | (rw [← hW0, ← hg]; clear hW0 hg) | (rw [← hW1, ← hgv]; clear hW1 hgv))
  refine cC.out.mono ?_; intro e w2 h2
  obtain ⟨A2, n2, c2, rfl, h4, h5, h6, h7, h8⟩ := h2.past hB1.out.o
  clear h2 p0 p1 p2
  go_wp2_with fail
  go_ret
  exact ⟨A2, n2, c2, rfl, h4, h5, h6, h7, h8⟩
theorem past_Writes (v : FV) (f : Fac) (B : Option Addr) (m d : Nat) (l : List Int) (vr : Int) (w : World) (hF : FactsAt w v f) (hL : LAt encI w B m l) (hm : m ≤ 1048576) (hvm : v.m ≤ 1048576) :
    Calls Tryz.prog 82 #[.agg #[.slice v.A v.n v.c, .slice v.B v.m v.d, .slice v.C v.k v.e], .slice B m d, .int .i64 vr] w (RetIL (wrsF f.items vr l) w) :=
  (past_WritesF v f B m d l vr w hF hL hm hvm).mono fun _ _ h => h.il
set_option maxRecDepth 100000 in
set_option maxHeartbeats 1000000 in
theorem past_KeptF (v : FV) (f : Fac) (o : Int) (w : World) (hF : FactsAt w v f) (hvm : v.m ≤ 1048576) (hN : Nbr f.items) :
    Calls Tryz.prog 91 #[.agg #[.slice v.A v.n v.c, .slice v.B v.m v.d, .slice v.C v.k v.e], .int .i64 o] w (RetILF (keptF f.items (pastF f.items o f.items.length)) w) := by
  have hil := hF.is.len
  -- a call with facts v: they are boxed at g, the world is W0 then
  have hB0 := Lib.hid (FBox.new hF)
  obtain ⟨g, hg⟩ : ∃ g, g = w.heap.size := ⟨_, rfl⟩
  obtain ⟨W0, hW0⟩ : ∃ W, W = w.alloc (.cells #[.slice v.A v.n v.c, .slice v.B v.m v.d, .slice v.C v.k v.e] 29) := ⟨_, rfl⟩
  rw [← hW0, ← hg] at hB0
  clear hF
  have hlm : (pastF f.items o f.items.length).length ≤ v.m := by rw [← hil]; exact pastF_len _ _ _
  have hl0 : Hid (∀ z ∈ pastF f.items o f.items.length, 0 ≤ z) := Lib.hid fun z hz => (pastF_ok _ _ _ z hz).1
  go_enter Tryz.func91, Tryz.ntmps91
  go_wp2_with (rw [← hW0, ← hg]; clear hW0 hg)
  refine wp_region_plan 6 [(true, 0), (true, 1), (true, 2), (false, 3), (false, 4), (true, 5)] (by kernel_rfl) (by kernel_rfl) (fun U hU => ?_)
  have hU' : Below W0.heap.size W0 U := by rw [hU.out]; exact (Below.refl _ _).drew
  have hBr := Lib.hid (hB0.out.later hU')
  clear hU hU'
  simp only [List.drop_succ_cons, List.drop_nil]
  have p0 := hBr.out.c0
  have p1 := hBr.out.c1
  have p2 := hBr.out.c2
  have cP := Lib.hid (session_Past v f o U hBr.out.f hvm hN)
  replace hil := Lib.hid hil
  iterate 3
    refine wpPlan_float (v := ?_) rfl (by rfl) (fun w' hw' => ?_) (fun K hK => ?_)
    rotate_left
    · (go_simp; try with_reducible rfl)
    go_simp
    refine hK _ ?_
    clear hK K
  clear p0 p1 p2
  refine wpPlan_only rfl (by rfl) (fun K hK => ?_)
  go_simp
  refine cP.out.mono ?_
  rintro e x1 ⟨D, m, d, rfl, hL, hmd, hdm, b⟩
  refine hK _ _ b ?_
  clear hK K cP
  have hB2 := Lib.hid (hBr.out.later b)
  have hml : m ≤ v.m := by rw [← hL.len]; exact hlm
  have cC := past_chosen0 (fun x => !x.wr) v f D m d _ x1 hB2.out.f hL (by omega) hvm (fun x W _ => past_isRead x W)
  rw [chF_kept _ _ hl0.out] at cC
  replace cC := Lib.hid cC
  clear b hL
  refine wpPlan_only rfl (by rfl) (fun K hK => ?_)
  go_simp
  refine cC.out.mono ?_
  intro e x2 h2
  obtain ⟨A2, n2, c2, rfl, h4, h5, h6, h7, h8⟩ := h2
  have hx : RetILF (keptF f.items (pastF f.items o f.items.length)) w (.returned (.slice A2 n2 c2)) x2 := (show RetILF _ x1 _ x2 from ⟨A2, n2, c2, rfl, h4, h5, h6, h7, h8⟩).past hB2.out.o
  refine hK _ _ h7 ?_
  clear hK K cC
  iterate 1
    refine wpPlan_float (v := ?_) rfl (by rfl) (fun w' hw' => ?_) (fun K hK => ?_)
    rotate_left
    · (go_simp; try with_reducible rfl)
    go_simp
    refine hK _ ?_
    clear hK K
  refine wpPlan_nil (NoPanic.normal ?_)
  go_wp2_with fail
  go_ret
  exact hx
theorem past_Kept (v : FV) (f : Fac) (o : Int) (w : World) (hF : FactsAt w v f) (hvm : v.m ≤ 1048576) (hN : Nbr f.items) :
    Calls Tryz.prog 91 #[.agg #[.slice v.A v.n v.c, .slice v.B v.m v.d, .slice v.C v.k v.e], .int .i64 o] w (RetIL (keptF f.items (pastF f.items o f.items.length)) w) :=
  (past_KeptF v f o w hF hvm hN).mono fun _ _ h => h.il
end Go.Proofs.YtjhjojklfdjmdaaGreat
