/- The code's own contracts of layer 16: column, chosen (by a function), Of, With, Writes, Kept. The code's own contracts of layer 17, first half: slices.Grow and slices.Concat at conflicts; Edges. Contracts of package hull: copied, join, Close. -/
import Derived.Test.YtpbiilhclmcehaaClashMorePk7
import Derived.Test.YtpbiilhclmcehaaClashMorePk9
import Derived.Test.YtpbiilhclmcehaaClashMorePk2
import Derived.Lib.AppendZeros
import Derived.Test.YtpbiilhclmcehaaClashMorePk4
import Derived.Laws.BitsAllLaws
namespace Go.Proofs.Ytpbiilhclmcehaa
open Go.RowKit
set_option linter.unusedVariables false
theorem filter_range_ext {p q : Nat → Bool} {n N : Nat} (hn : n ≤ N) (h1 : ∀ i, i < n → q i = p i) (h2 : ∀ i, n ≤ i → q i = false) : (List.range N).filter q = (List.range n).filter p := by
  obtain ⟨d, rfl⟩ : ∃ d, N = n + d := ⟨N - n, by omega⟩
  clear hn
  induction d with
  | zero => exact List.filter_congr fun i hi => h1 i (List.mem_range.1 hi)
  | succ d ih => rw [← Nat.add_assoc, List.range_succ, List.filter_append, ih, List.filter_cons_of_neg (by rw [h2 _ (by omega)]; decide)]; simp
theorem colN_mem {a : List (List Nat)} {o : Int} {n i : Nat} : i ∈ colN a o n ↔ i < n ∧ hasM a (i : Int) o = true := by
  unfold colN; rw [List.mem_filter, List.mem_range]
theorem colN_succ (a : List (List Nat)) (o : Int) (n : Nat) : colN a o (n + 1) = if hasM a (n : Int) o = true then colN a o n ++ [n] else colN a o n := by
  unfold colN
  rw [List.range_succ, List.filter_append]
  split
  · rename_i h; rw [List.filter_cons_of_pos (by exact h)]; simp
  · rename_i h; rw [List.filter_cons_of_neg (by exact h)]; simp
/-- the column o as a row of words; no word where there is no such column -/
def colW (a : List (List Nat)) (o : Int) (n : Nat) : List Nat := if 0 ≤ o ∧ o < (n : Int) then setAll (wordsN (n : Int)) (colN a o n) else []
theorem words_all16 (n : Nat) : n ≤ 64 * wordsN (n : Int) := by unfold wordsN wordsZ; split <;> omega
theorem words_small16 {n : Nat} (h : n ≤ 4096) : wordsN (n : Int) ≤ 64 := by unfold wordsN wordsZ; split <;> omega
theorem col_facts (a : List (List Nat)) (o : Int) {n k : Nat} (hk : k ≤ n) : (setAll (wordsN (n : Int)) (colN a o k)).length = wordsN (n : Int) ∧ W64 (setAll (wordsN (n : Int)) (colN a o k)) ∧ ∀ j : Nat, hasR (setAll (wordsN (n : Int)) (colN a o k)) (j : Int) = decide (j ∈ colN a o k) :=
  setAll_facts _ _ fun i hi => by have := (colN_mem.1 hi).1; have := words_all16 n; omega
theorem col_list (a : List (List Nat)) (o : Int) (n : Nat) : listR (setAll (wordsN (n : Int)) (colN a o n)) = colF a o n := by
  obtain ⟨h1, -, h3⟩ := col_facts a o (Nat.le_refl n)
  unfold listR listN colF
  rw [h1, filter_range_ext (p := fun i : Nat => hasM a (i : Int) o) (words_all16 n)]
  · rfl
  · intro i hi
    rw [h3 i, Bool.eq_iff_iff, decide_eq_true_iff, colN_mem]
    exact ⟨fun h => h.2, fun h => ⟨hi, h⟩⟩
  · intro i hi
    rw [h3 i, decide_eq_false_iff_not, colN_mem]
    omega
theorem col_none {a : List (List Nat)} {n : Nat} (hG : Good n a) {o : Int} (h : ¬ (0 ≤ o ∧ o < (n : Int))) : colF a o n = [] := by
  unfold colF colN
  rw [List.filter_eq_nil_iff.2 (fun i hi hh => ?_)]; · rfl
  have hh : hasM a (i : Int) o = true := hh
  have := hG.in_has (i : Int) o
  rw [hh, Bool.and_true] at this
  unfold inM at this
  simp only [Bool.and_eq_true, decide_eq_true_eq] at this
  omega
theorem all_i64v (zs : List Int) : encI.all zs = zs.map i64v := by
  unfold Enc.all encI
  induction zs with
  | nil => rfl
  | cons z zs ih => rw [List.flatMap_cons, ih]; rfl
theorem RetIntsO.il {t : TypeId} {zs : List Int} {w w' : World} {e : Ending} (h : RetIntsO t zs w e w') : RetILF zs w e w' := by
  obtain ⟨A, n, c, rfl, ho, hx, hb⟩ := h
  rw [← all_i64v] at ho
  have hl : zs.length = n := by have := ho.1; rw [Enc.all_len] at this; simpa [encI] using this
  obtain ⟨A2, c2, e, hnc, hcm, hL⟩ := LAt.of_own (E := encI) ho hx hl
  injection e with e1 e2 e3
  subst e1; subst e3
  exact ⟨A, n, c, rfl, hL, hnc, hcm, hb, fun ad e => by subst e; exact own_lt_block ho _ rfl⟩
theorem RetILF.past {zs : List Int} {w0 w w' : World} {e : Ending} (h : RetILF zs w e w') (hb : Below w0.heap.size w0 w) : RetILF zs w0 e w' := by
  obtain ⟨A, n, c, h1, h2, h3, h4, h5, h6⟩ := h
  exact ⟨A, n, c, h1, h2, h3, h4, below_trans2 hb h5, fun ad e => Nat.le_trans hb.size (h6 ad e)⟩
theorem wrap_nat16 {q : Nat} (h : q ≤ 4096) : IntKind.i64.wrap (q : Int) = (q : Int) := by rw [IntKind.wrap_i64]; omega
set_option maxRecDepth 100000 in
set_option maxHeartbeats 1000000 in
theorem past_column (A : Option Addr) (n c : Nat) (a : List (List Nat)) (o : Int) (w : World) (hr : RowsAt w A n a) (hG : Good n a) :
    Calls Try.prog 63 #[.agg #[.int .i64 (n : Int), .slice A n c], .int .i64 o] w (RetRow (colW a o n) w) := by
  have hnn := hG.le
  have hsm := Lib.hid hG.small
  -- a call with the matrix (A n c a): it is boxed at g, the world is W0 then
  have hM0 := Lib.hid (MatK.new (N := (n : Int)) (c := c) w 35 hr)
  obtain ⟨g, hg⟩ : ∃ g, g = w.heap.size := ⟨_, rfl⟩
  obtain ⟨W0, hW0⟩ : ∃ W, W = w.alloc (.cells #[.int .i64 (n : Int), .slice A n c] 35) := ⟨_, rfl⟩
  rw [← hW0, ← hg] at hM0
  have hbo := Lib.hid (show Below w.heap.size w W0 from by rw [hW0]; exact below_alloc _ _)
  by_cases hin : 0 ≤ o ∧ o < (n : Int)
  · have hcw := Lib.hid (show colW a o n = setAll (wordsN (n : Int)) (colN a o n) from if_pos hin)
    obtain ⟨h0, h1⟩ := hin
    have d1 : decide (o < 0) = false := decide_eq_false (by omega)
    have d2 : decide ((n : Int) ≤ o) = false := decide_eq_false (by omega)
    have cN := Lib.hid (row_NewO (n : Int) (by omega) (by omega) W0)
    have m0 := hM0.out.1.c0
    have m1 := hM0.out.1.c1
    go_enter Try.func63, Try.ntmps63
    go_wp2_with (rw [← hW0, ← hg]; clear hW0 hg)
    refine cN.out.mono ?_; rintro e w1 ⟨A1, n1, c1, rfl, hown, hx64, b1⟩
    have hn1 : n1 = wordsN (n : Int) := by have := hown.1; simpa using this.symm
    have hwa := words_all16 n
    have hws := words_small16 hnn
    obtain ⟨nw, hnw⟩ : ∃ nw, nw = wordsN (n : Int) := ⟨_, rfl⟩
    rw [← hnw] at hn1 hwa hws
    subst hn1
    obtain ⟨G, cap, hv, -⟩ := hown.form (by omega)
    injection hv with hv1 hv2 hv3
    subst hv1; subst hv3
    have hfa := Lib.hid (fun k (hk : k ≤ n) => col_facts a o (n := n) (k := k) hk)
    rw [← hnw] at hown hfa hcw
    replace hnw := Lib.hid hnw
    have hown0 := Lib.hid (show w1.ownsRow W0.heap.size 92 1 (.slice (some ⟨G, 0, none⟩) n1 c1) n1 ((setAll n1 (colN a o 0)).map u64v) from hown)
    have hM1 := Lib.hid (hM0.out.below b1)
    have hb1 := Lib.hid b1
    clear hown hx64 b1 m0 m1
    have m0 := hM1.out.1.c0
    have m1 := hM1.out.1.c1
    go_wp2_with fail
    clear m0 m1
    go_loopw [20] (fun t wr => ∃ k : Nat, k ≤ n ∧ t = .int .i64 (k : Int) ∧ Hid (Below W0.heap.size W0 wr) ∧ Hid (wr.ownsRow W0.heap.size 92 1 (.slice (some ⟨G, 0, none⟩) n1 c1) n1 ((setAll n1 (colN a o k)).map u64v))) (fun t _ => n - (intOf t).toNat)
    case atStart => exact ⟨0, Nat.zero_le _, rfl, hb1, hown0⟩
    case round =>
      clear hb1 hown0
      obtain ⟨k, hk, rfl, hb, hown⟩ := hrel
      have hM := Lib.hid (hM0.out.below hb.out)
      have m0 := hM.out.1.c0
      have m1 := hM.out.1.c1
      by_cases hlt : k < n
      · have hlt' : (k : Int) < (n : Int) := by omega
        have hrs := colN_succ a o k
        have cH := mat_Has (n : Int) A n c a (k : Int) o wr hM.out.2 (by omega) (fun r hr => by have := hsm.out r hr; omega) (by omega) (by omega) (by omega) (by omega)
        cases ha : hasM a (k : Int) o with
        | true =>
          rw [ha] at cH
          rw [if_pos ha] at hrs
          replace cH := Lib.hid cH
          obtain ⟨q, hq⟩ : ∃ q, q = k / 64 := ⟨_, rfl⟩
          obtain ⟨r, hre⟩ : ∃ r, r = k % 64 := ⟨_, rfl⟩
          have hql : q < n1 := by omega
          have hr64 : r < 64 := by omega
          obtain ⟨hl1, hl2, -⟩ := hfa.out k (by omega)
          obtain ⟨x, hx⟩ : ∃ x, (setAll n1 (colN a o k))[q]? = some x := ⟨_, List.getElem?_eq_getElem (by omega)⟩
          have hx64 : x < 18446744073709551616 := hl2 x (List.mem_of_getElem? hx)
          have hS := setR_in (m := k) (xs := setAll n1 (colN a o k)) (by rw [hl1]; omega) (by rw [← hq]; exact hx)
          rw [← hq, ← hre, ← setAll_snoc, ← hrs] at hS
          have hE := Lib.hid (u64_or_nat x (p2 r) hx64 (by have := p2_lt r hr64; omega))
          replace hS := Lib.hid hS
          replace hx := Lib.hid hx
          clear hlt ha hrs
          go_wp2_with fail
          refine cH.out.mono ?_; rintro e w3 ⟨rfl, b3⟩
          have hown3 := own_below hown.out b3
          have hb3 := below_trans2 hb.out b3
          have hc : w3.cell? ⟨G, q, none⟩ = some (.int .u64 (x : Int)) := by
            rw [hown3.cellAt _ (by omega), List.getElem?_map, hx.out]; rfl
          have hf := hown3.frozenAt q
          have hGl := Lib.hid (hown3.lt G rfl).1
          clear b3 cH m0 m1
          go_wp2_with fail
          have hq1 : (k : Int).tdiv 64 = (q : Int) := by rw [Int.tdiv_eq_ediv_of_nonneg (by omega)]; omega
          have hr1 : (k : Int).tmod 64 = (r : Int) := by rw [Int.tmod_eq_emod_of_nonneg (by omega)]; omega
          have hwq : IntKind.i64.wrap (q : Int) = (q : Int) := wrap_nat16 (by omega)
          have hwr : IntKind.i64.wrap (r : Int) = (r : Int) := wrap_nat16 (by omega)
          have hA1 : (0 : Int) ≤ (q : Int) := by omega
          have hA2 : (q : Int) < (n1 : Int) := by omega
          refine still_tail 10 (by kernel_rfl) (by kernel_rfl) (fun W hW => ?_)
          have hc' : W.cell? ⟨G, q, none⟩ = some (.int .u64 (x : Int)) := by rw [hW.out]; exact hc
          have hf' : W.frozen? ⟨G, q, none⟩ = false := by rw [hW.out]; exact hf
          have hown' := Lib.hid (show W.ownsRow W0.heap.size 92 1 (.slice (some ⟨G, 0, none⟩) n1 c1) n1 ((setAll n1 (colN a o k)).map u64v) from by rw [hW.out]; exact hown3.drew)
          have hb' := Lib.hid (show Below W0.heap.size W0 W from by rw [hW.out]; exact hb3.drew)
          replace hq := Lib.hid hq
          replace hre := Lib.hid hre
          clear hc hf hb3 hown3 hW
          simp only [List.take_succ_cons, List.take_zero, List.drop_succ_cons, List.drop_zero]
          repeat
            refine @wpStill_step _ _ _ _ _ _ _ ?_
            intro K hK
            go_simp
            refine hK _ ?_
            clear hK K
          refine wpStill_step (fun K hK => ?_)
          go_simp
          refine ⟨_, still_call (word_BitN _ hr64 _), hK _ ?_⟩
          clear hK K
          repeat
            refine @wpStill_step _ _ _ _ _ _ _ ?_
            intro K hK
            go_simp
            refine hK _ ?_
            clear hK K
          refine wpStill_nil ?_
          go_wp2
          go_roundw
          case rel =>
            refine ⟨k + 1, by omega, by go_num, Lib.hid (hb'.out.setCell hGl.out _), Lib.hid ?_⟩
            rw [hE.out, hS.out, List.map_set]
            exact (hown'.out.stored _ _).1
          case measure => simp [intOf]; omega
        | false =>
          rw [ha] at cH
          rw [if_neg (by simp [ha])] at hrs
          replace hrs := Lib.hid hrs
          replace cH := Lib.hid cH
          clear hlt ha
          go_wp2_with fail
          refine cH.out.mono ?_; rintro e w3 ⟨rfl, b3⟩
          have hown3 := Lib.hid (own_below hown.out b3)
          have hb3 := Lib.hid (below_trans2 hb.out b3)
          clear b3 cH m0 m1
          go_wp2_with fail
          exact ⟨⟨k + 1, by omega, by go_num, hb3, Lib.hid (by rw [hrs.out]; exact hown3.out)⟩, by simp [intOf]; omega⟩
      · have hlt' : ¬ (k : Int) < (n : Int) := by omega
        obtain rfl : k = n := by omega
        obtain ⟨hl1, hl2, -⟩ := hfa.out k (by omega)
        have hR := Row.of_own hown.out hl2
        clear hlt hl1 hl2
        go_wp2_with fail
        go_ret
        exact ⟨_, _, _, rfl, by rw [hcw.out]; exact hR, below_trans2 hbo.out hb.out⟩
  · have hcw := Lib.hid (show colW a o n = [] from if_neg hin)
    have m0 := hM0.out.1.c0
    by_cases h0 : o < 0
    · have d1 : decide (o < 0) = true := decide_eq_true h0
      go_enter Try.func63, Try.ntmps63
      go_wp2_with (rw [← hW0, ← hg]; clear hW0 hg)
      go_ret
      exact ⟨none, 0, 0, rfl, by rw [hcw.out]; exact Row.nil _ _, hbo.out⟩
    · have d1 : decide (o < 0) = false := decide_eq_false h0
      have d2 : decide ((n : Int) ≤ o) = true := decide_eq_true (by omega)
      go_enter Try.func63, Try.ntmps63
      go_wp2_with (rw [← hW0, ← hg]; clear hW0 hg)
      go_ret
      exact ⟨none, 0, 0, rfl, by rw [hcw.out]; exact Row.nil _ _, hbo.out⟩
theorem colW_len {a : List (List Nat)} {o : Int} {n : Nat} (h : n ≤ 4096) : (colW a o n).length ≤ 64 := by
  unfold colW
  split
  · rw [(col_facts a o (Nat.le_refl n)).1]; exact words_small16 h
  · exact Nat.zero_le _
theorem past_OfF (A : Option Addr) (n c : Nat) (a : List (List Nat)) (o : Int) (w : World) (hr : RowsAt w A n a) (hG : Good n a) :
    Calls Try.prog 37 #[.agg #[.int .i64 (n : Int), .slice A n c], .int .i64 o] w (RetILF (colF a o n) w) := by
  -- a call with the matrix (A n c a): it is boxed at g, the world is W0 then
  have hM0 := Lib.hid (MatK.new (N := (n : Int)) (c := c) w 35 hr)
  obtain ⟨g, hg⟩ : ∃ g, g = w.heap.size := ⟨_, rfl⟩
  obtain ⟨W0, hW0⟩ : ∃ W, W = w.alloc (.cells #[.int .i64 (n : Int), .slice A n c] 35) := ⟨_, rfl⟩
  rw [← hW0, ← hg] at hM0
  have hbo := Lib.hid (show Below w.heap.size w W0 from by rw [hW0]; exact below_alloc _ _)
  have m0 := hM0.out.1.c0
  have m1 := hM0.out.1.c1
  have cC := Lib.hid (past_column A n c a o W0 hM0.out.2 hG)
  have hl : Hid (listR (colW a o n) = colF a o n) := Lib.hid (by
    unfold colW
    split
    · exact col_list a o n
    · rename_i h; rw [col_none hG h]; rfl)
  have hwl := colW_len (a := a) (o := o) hG.le
  go_enter Try.func37, Try.ntmps37
  go_wp2_with (rw [← hW0, ← hg]; clear hW0 hg)
  refine cC.out.mono ?_; rintro e w1 ⟨A1, n1, c1, rfl, hR, b1⟩
  have hn1 : n1 ≤ 64 := by rw [← hR.len]; exact hwl
  have cL := Lib.hid (row_ListO A1 n1 c1 _ w1 hR (by omega))
  have hb1 := Lib.hid (below_trans2 hbo.out b1)
  clear b1 hR hwl m0 m1
  go_wp2_with fail
  refine cL.out.mono ?_; intro e w2 h2
  have h3 := h2.il
  rw [hl.out] at h3
  obtain ⟨A2, n2, c2, rfl, h4, h5, h6, h7, h8⟩ := h3.past hb1.out
  clear h2
  go_wp2_with fail
  go_ret
  exact ⟨A2, n2, c2, rfl, h4, h5, h6, h7, h8⟩
/-- the numbers of a list whose items fit -/
def chP (p : It → Bool) (is : List It) (z : Int) : Bool := decide (0 ≤ z) && (match is[z.toNat]? with | some x => p x | none => false)
def chF (p : It → Bool) (is : List It) (l : List Int) : List Int := l.filter (chP p is)
theorem chP_at {p : It → Bool} {is : List It} {z : Int} {x : It} (h0 : 0 ≤ z) (h : is[z.toNat]? = some x) : chP p is z = p x := by
  unfold chP; rw [decide_eq_true h0, h]; rfl
theorem chP_out {p : It → Bool} {is : List It} {z : Int} (h : z < 0 ∨ (is.length : Int) ≤ z) : chP p is z = false := by
  unfold chP
  by_cases h0 : 0 ≤ z
  · rw [List.getElem?_eq_none (by omega)]; simp
  · rw [decide_eq_false h0]; rfl
theorem chF_wrs (is : List It) (v : Int) (l : List Int) : chF (fun x => x.wr && decide (x.va = v)) is l = wrsF is v l := by
  unfold chF wrsF
  refine List.filter_congr fun z _ => ?_
  unfold chP wrOK
  cases is[z.toNat]? <;> rfl
set_option maxRecDepth 100000 in
set_option maxHeartbeats 2000000 in
/-- chosen by a function that has a variable of its own -/
theorem past_chosen1 (u : Value) (p : It → Bool) (v : FV) (f : Fac) (B : Option Addr) (m d : Nat) (l : List Int) (w : World) (hF : FactsAt w v f) (hL : LAt encI w B m l) (hm : m ≤ 1048576) (hvm : v.m ≤ 1048576)
    (hp : ∀ (x : It) (W : World), Below w.heap.size w W → Calls Try.prog 61 #[.agg #[.int .i64 x.se, .int .i64 x.pl, .bool x.wr, .int .i64 x.va, .int .i64 x.vl], u] W (RetBool (p x) W)) :
    Calls Try.prog 60 #[.agg #[.slice v.A v.n v.c, .slice v.B v.m v.d, .slice v.C v.k v.e], .slice B m d, .func (.func 61) #[] #[u]] w (RetILF (chF p f.items l) w) := by
  have hil := hF.is.len
  obtain ⟨i0, hi, hz0, hz1, hz2⟩ := info_parts info_int16
  replace hi := Lib.hid hi
  replace hz0 := Lib.hid hz0
  replace hz1 := Lib.hid hz1
  replace hz2 := Lib.hid hz2
  replace hil := Lib.hid hil
  replace hL := Lib.hid hL
  replace hp := Lib.hid hp
  -- a call with facts v: they are boxed at g, the world is W0 then
  have hB0 := Lib.hid (FBox.new hF)
  obtain ⟨g, hg⟩ : ∃ g, g = w.heap.size := ⟨_, rfl⟩
  obtain ⟨W0, hW0⟩ : ∃ W, W = w.alloc (.cells #[.slice v.A v.n v.c, .slice v.B v.m v.d, .slice v.C v.k v.e] 30) := ⟨_, rfl⟩
  rw [← hW0, ← hg] at hB0
  clear hF
  go_enter Try.func60, Try.ntmps60
  go_wp2_with (rw [← hW0, ← hg]; clear hW0 hg)
  go_loopw [7, 12] (fun u t wr => ∃ k : Nat, k ≤ m ∧ t = .int .i64 k ∧ Hid (Below W0.heap.size W0 wr) ∧ Hid (wr.ownsRow W0.heap.size 3 1 u (chF p f.items (l.take k)).length (encI.all (chF p f.items (l.take k))))) (fun _ t _ => m - (intOf t).toNat)
  case atStart => exact ⟨0, Nat.zero_le _, rfl, Lib.hid (Below.refl _ _), Lib.hid (World.ownsRow_nil _ _ _ _)⟩
  case round =>
    obtain ⟨k, hk, rfl, hb, hown⟩ := hrel
    have hB := Lib.hid (hB0.out.later hb.out)
    have hLr := (hL.out.below hB0.out.o).below hb.out
    have p0 := hB.out.c0
    have p1 := hB.out.c1
    have p2 := hB.out.c2
    have hrl : (chF p f.items (l.take k)).length ≤ k := Nat.le_trans (List.length_filter_le _ _) (List.length_take_le _ _)
    obtain ⟨L, hLl⟩ : ∃ L, L = (chF p f.items (l.take k)).length := ⟨_, rfl⟩
    rw [← hLl] at hown hrl
    replace hLl := Lib.hid hLl
    by_cases hlt : k < m
    · have hlt' : (k : Int) < (m : Int) := by omega
      have k0 : 0 ≤ (k : Int) ∧ (k : Int) < (m : Int) := ⟨by omega, hlt'⟩
      obtain ⟨lb, lo, z, rfl, hlb, hz, ⟨z0, z1⟩, j0⟩ := hLr.int hlt
      have hrs : chF p f.items (l.take (k + 1)) = if chP p f.items z = true then chF p f.items (l.take k) ++ [z] else chF p f.items (l.take k) := filter_take hz
      by_cases hzn : 0 ≤ z
      · have d1 : decide (0 ≤ z) = true := decide_eq_true hzn
        by_cases hzm : z < (v.m : Int)
        · have d2 : decide (z < (v.m : Int)) = true := decide_eq_true hzm
          have hzb : 0 ≤ z ∧ z < (v.m : Int) := ⟨hzn, hzm⟩
          obtain ⟨ib, io, it, hxB, hib, hq, -, i0, i1, i2, i3, i4⟩ := hB.out.f.is.item (show z.toNat < v.m by omega)
          rw [hxB] at p1
          rw [chP_at hzn hq] at hrs
          have cP := hp.out it wr (below_trans2 hB0.out.o hb.out)
          replace hzn := Lib.hid hzn
          replace hzm := Lib.hid hzm
          replace hxB := Lib.hid hxB
          cases hpi : p it with
          | true =>
            rw [if_pos hpi] at hrs
            rw [hpi] at cP
            replace hrs := Lib.hid hrs
            replace cP := Lib.hid cP
            clear hlt hz hlb hq hpi
            go_wp2_with fail
            refine cP.out.mono ?_; rintro e w3 ⟨rfl, b3⟩
            have hown3 := Lib.hid (own_below hown.out b3)
            have hb3 := Lib.hid (below_trans2 hb.out b3)
            clear b3 cP p0 p1 p2 i0 i1 i2 i3 i4 j0
            -- 'append(out, z)' (temps 34 36) in the world w3: hown : the row (chF p f.items (l.take k)) of length L (hL), hb : Below W0 .. w3; behind it: hown', hb7
            obtain ⟨gl, hgl⟩ : ∃ g, g = (w3).heap.size := ⟨_, rfl⟩
            obtain ⟨VL, hVL⟩ : ∃ W, W = World.alloc (w3) (.cells #[.int .i64 z] 3) := ⟨_, rfl⟩
            have bL : Below (w3).heap.size (w3) VL := by rw [hVL]; exact (Below.refl _ _).alloc (Nat.le_refl _) _
            have hlit := Lib.hid (show LAt encI VL (some ⟨gl, 0, none⟩) 1 [z] from by rw [hVL, hgl]; exact LAt.lit1 (E := encI) (w3) 3 z ⟨by omega, by omega⟩)
            have hownL := Lib.hid (own_below hown3.out bL)
            have bWL := Lib.hid (below_trans2 hb3.out bL)
            have hbase := Lib.hid bWL.out.size
            clear bL
            go_wp2_with (first
              | (rw [← hVL, ← hgl]; clear hVL hgl)
              | (at_builtin; refine wpList_append_L (E := encI) rfl (.tmp 34) (.tmp 36) _ rfl W0.heap.size 3 i0 _ 8 Try.underlying28 hi.out hz0.out hz1.out hz2.out rfl _ L (chF p f.items (l.take k)) (by rfl) hownL.out _ 1 1 _ rfl hlit.out (by unfold maxLen; omega) (by omega) hbase.out ?_; intro v' w7 hown' hb7 _ _))
            exact ⟨⟨k + 1, by omega, by go_num, Lib.hid (bWL.out.trans hb7), Lib.hid (by rw [hrs.out, List.length_append, ← hLl.out]; exact hown')⟩, by simp [intOf]; omega⟩
          | false =>
            rw [if_neg (by simp [hpi])] at hrs
            rw [hpi] at cP
            replace hrs := Lib.hid hrs
            replace cP := Lib.hid cP
            clear hlt hz hlb hq hpi
            go_wp2_with fail
            refine cP.out.mono ?_; rintro e w3 ⟨rfl, b3⟩
            have hown3 := Lib.hid (own_below hown.out b3)
            have hb3 := Lib.hid (below_trans2 hb.out b3)
            clear b3 cP p0 p1 p2 i0 i1 i2 i3 i4 j0
            go_wp2_with fail
            exact ⟨⟨k + 1, by omega, by go_num, hb3, Lib.hid (by rw [hrs.out, ← hLl.out]; exact hown3.out)⟩, by simp [intOf]; omega⟩
        · have d2 : decide (z < (v.m : Int)) = false := decide_eq_false hzm
          rw [if_neg (by rw [chP_out (.inr (by rw [hil.out]; omega))]; simp)] at hrs
          replace hrs := Lib.hid hrs
          replace hzn := Lib.hid hzn
          replace hzm := Lib.hid hzm
          clear hz hlb
          clear hlt
          go_wp2_with fail
          exact ⟨⟨k + 1, by omega, by go_num, hb, Lib.hid (by rw [hrs.out, ← hLl.out]; exact hown.out)⟩, by simp [intOf]; omega⟩
      · have d1 : decide (0 ≤ z) = false := decide_eq_false hzn
        rw [if_neg (by rw [chP_out (.inl (by omega))]; simp)] at hrs
        replace hrs := Lib.hid hrs
        replace hzn := Lib.hid hzn
        clear hz hlb
        clear hlt
        go_wp2_with fail
        exact ⟨⟨k + 1, by omega, by go_num, hb, Lib.hid (by rw [hrs.out, ← hLl.out]; exact hown.out)⟩, by simp [intOf]; omega⟩
    · have hlt' : ¬ (k : Int) < (m : Int) := by omega
      obtain rfl : k = m := by omega
      have hta : l.take k = l := List.take_of_length_le (by rw [hL.out.len]; omega)
      rw [hta] at hown hLl
      have hfr := Lib.hid (own_lt_block hown.out)
      obtain ⟨A2, c2, rfl, hnc, hcm, hLA⟩ := LAt.of_own hown.out (fun z hz => hL.out.okAll z (List.mem_filter.1 hz).1) hLl.out.symm
      clear hlt hta hLr
      go_wp2_with fail
      go_ret
      exact ⟨A2, L, c2, rfl, hLA, hnc, hcm, below_trans2 hB0.out.o hb.out, fun ad e => by subst e; exact Nat.le_trans hB0.out.o.size (hfr.out _ rfl)⟩
set_option maxRecDepth 100000 in
set_option maxHeartbeats 1000000 in
theorem past_isWrite (x : It) (gv : Nat) (vr : Int) (w : World) (hc : w.cell? ⟨gv, 0, none⟩ = some (.int .i64 vr)) (hl : gv < w.heap.size) :
    Calls Try.prog 61 #[.agg #[.int .i64 x.se, .int .i64 x.pl, .bool x.wr, .int .i64 x.va, .int .i64 x.vl], .pointer (some ⟨gv, 0, none⟩)] w (RetBool (x.wr && decide (x.va = vr)) w) := by
  -- a call with the item x: it is boxed at g, the world is W0 then
  obtain ⟨g, hg⟩ : ∃ g, g = w.heap.size := ⟨_, rfl⟩
  obtain ⟨W0, hW0⟩ : ∃ W, W = w.alloc (.cells #[.int .i64 x.se, .int .i64 x.pl, .bool x.wr, .int .i64 x.va, .int .i64 x.vl] 48) := ⟨_, rfl⟩
  have hbo := Lib.hid (show Below w.heap.size w W0 from by rw [hW0]; exact below_alloc _ _)
  have kI := Lib.hid (show Blk W0 g 48 [.int .i64 x.se, .int .i64 x.pl, .bool x.wr, .int .i64 x.va, .int .i64 x.vl] from by rw [hW0, hg]; exact Blk.new _ _ _)
  have i2 := kI.out.cell 2
  have i3 := kI.out.cell 3
  simp only [List.getElem?_cons_zero, List.getElem?_cons_succ] at i2 i3
  have hv : W0.cell? ⟨gv, 0, none⟩ = some (.int .i64 vr) := by rw [hW0, World.cell?_alloc_lt w _ _ hl]; exact hc
  obtain ⟨s, t, b, a, y⟩ := x
  simp only at i2 i3 ⊢
  have he : (a == vr) = decide (a = vr) := by rw [Bool.eq_iff_iff]; simp
  cases b with
  | true =>
    go_enter Try.func61, Try.ntmps61
    go_wp2_with (rw [← hW0, ← hg]; clear hW0 hg)
    go_ret
    exact ⟨by simp, hbo.out⟩
  | false =>
    go_enter Try.func61, Try.ntmps61
    go_wp2_with (rw [← hW0, ← hg]; clear hW0 hg)
    go_ret
    exact ⟨rfl, hbo.out⟩
set_option maxRecDepth 100000 in
set_option maxHeartbeats 1000000 in
theorem past_WritesF (v : FV) (f : Fac) (B : Option Addr) (m d : Nat) (l : List Int) (vr : Int) (w : World) (hF : FactsAt w v f) (hL : LAt encI w B m l) (hm : m ≤ 1048576) (hvm : v.m ≤ 1048576) :
    Calls Try.prog 36 #[.agg #[.slice v.A v.n v.c, .slice v.B v.m v.d, .slice v.C v.k v.e], .slice B m d, .int .i64 vr] w (RetILF (wrsF f.items vr l) w) := by
  replace hL := Lib.hid hL
  -- a call with facts v: they are boxed at g, the world is W0 then
  have hB0 := Lib.hid (FBox.new hF)
  obtain ⟨g, hg⟩ : ∃ g, g = w.heap.size := ⟨_, rfl⟩
  obtain ⟨W0, hW0⟩ : ∃ W, W = w.alloc (.cells #[.slice v.A v.n v.c, .slice v.B v.m v.d, .slice v.C v.k v.e] 30) := ⟨_, rfl⟩
  rw [← hW0, ← hg] at hB0
  clear hF
  obtain ⟨gv, hgv⟩ : ∃ g, g = W0.heap.size := ⟨_, rfl⟩
  obtain ⟨W1, hW1⟩ : ∃ W, W = W0.alloc (.cells #[.int .i64 vr] 3) := ⟨_, rfl⟩
  have b1 : Below W0.heap.size W0 W1 := by rw [hW1]; exact (Below.refl _ _).alloc (Nat.le_refl _) _
  have kV := Lib.hid (show Blk W1 gv 3 [.int .i64 vr] from by rw [hW1, hgv]; exact Blk.new _ _ _)
  have hB1 := Lib.hid (hB0.out.later b1)
  have hL1 := Lib.hid ((hL.out.below hB0.out.o).below b1)
  have cC := Lib.hid (past_chosen1 (.pointer (some ⟨gv, 0, none⟩)) (fun x => x.wr && decide (x.va = vr)) v f B m d l W1 hB1.out.f hL1.out hm hvm (fun x W hW => past_isWrite x gv vr W (by rw [hW.cell (p := ⟨gv, 0, none⟩) kV.out.lt]; exact kV.out.cell 0) (Nat.lt_of_lt_of_le kV.out.lt hW.size)))
  rw [chF_wrs] at cC
  clear b1
  have p0 := hB1.out.c0
  have p1 := hB1.out.c1
  have p2 := hB1.out.c2
  go_enter Try.func36, Try.ntmps36
  go_wp2_with (first | (rw [← hW0, ← hg]; clear hW0 hg) | (rw [← hW1, ← hgv]; clear hW1 hgv))
  refine cC.out.mono ?_; intro e w2 h2
  obtain ⟨A2, n2, c2, rfl, h4, h5, h6, h7, h8⟩ := h2.past hB1.out.o
  clear h2 p0 p1 p2
  go_wp2_with fail
  go_ret
  exact ⟨A2, n2, c2, rfl, h4, h5, h6, h7, h8⟩
end Go.Proofs.Ytpbiilhclmcehaa

namespace Go.Proofs.Ytpbiilhclmcehaa
open Go.RowKit
set_option linter.unusedVariables false
set_option maxRecDepth 100000 in
set_option maxHeartbeats 2000000 in
/-- slices.Grow(nil, n): no elements, room for n -/
theorem grow_edges (n : Nat) (hn : n ≤ 4398046511104) (w : World) :
    Calls Try.prog 64 #[.slice none 0 0, .int .i64 n] w fun e w' => ∃ v, e = .returned v ∧ w'.ownsRow w.heap.size 46 3 v 0 [] ∧ Below w.heap.size w w' := by
  obtain ⟨i0, hi, hz0, hz1, hz2⟩ := info_parts info_edge
  have h1 : ¬ ((n : Int) < 0) := by omega
  by_cases h0 : n = 0
  · subst h0
    go_enter Try.func64, Try.ntmps64
    go_wp2_with fail
    go_ret
    exact ⟨_, rfl, World.ownsRow_nil _ _ _ _, Below.refl _ _⟩
  · have h4 : (0 : Int) < (n : Int) := by omega
    have hrz : ∀ ty, (Builtin.append_ #[41, 3] ty #[.slice none 0 0, .int .i64 (n : Int)]).run Try.prog w =
        .ok (.slice (some ⟨w.heap.size, 0, none⟩) n (grownCap w n 0 46)) (w.drew.alloc (.cells (Builtin.zeroCells (Value.agg #[.int .i64 0, .int .i64 0, .int .i64 0]).cells n ++ Builtin.zeroCells (Value.agg #[.int .i64 0, .int .i64 0, .int .i64 0]).cells (grownCap w n 0 46 - n)) 46)) := fun ty =>
      Lib.run_append_nil_zeros w 41 3 ty 46 i0 _ .i64 .i64 Try.underlying41 Try.underlying3 hi hz0 n (by omega) (by rw [hz1]; decide) (by omega) (by rw [hz2]; omega)
    have hge : n ≤ grownCap w n 0 46 := grownCap_ge w _ _ _
    have hle : grownCap w n 0 46 ≤ maxLen := grownCap_le_maxLen w n 0 _ (by unfold maxLen; omega)
    obtain ⟨G, hG⟩ : ∃ G, G = grownCap w n 0 46 := ⟨_, rfl⟩
    rw [← hG] at hrz hge hle
    clear hG
    have hG63 : G ≤ 9223372036854775807 := by unfold maxLen at hle; omega
    obtain ⟨Z, hZ⟩ : ∃ Z, Z = Builtin.zeroCells (Value.agg #[.int .i64 0, .int .i64 0, .int .i64 0]).cells n ++ Builtin.zeroCells (Value.agg #[.int .i64 0, .int .i64 0, .int .i64 0]).cells (G - n) := ⟨_, rfl⟩
    have hZs : Z.size = G * 3 := by rw [hZ]; simp [size_zeroCells, Value.cells]; omega
    rw [← hZ] at hrz
    clear hZ
    go_enter Try.func64, Try.ntmps64
    go_wp2_with (at_builtin; refine Lib.wpList_append_run _ rfl _ _ _ _ rfl _ _ rfl rfl _ _ (hrz _) ?_)
    go_ret
    refine ⟨_, rfl, ?_, (((Below.refl _ w).drew).alloc (Nat.le_refl _) _)⟩
    exact ⟨rfl, .inr ⟨_, G, Z, rfl, Nat.le_refl _, World.alloc_heap_new _ _, Nat.zero_le _, hle, hZs, rfl⟩⟩
theorem flatten_take {α : Type} {ls : List (List α)} {k : Nat} {l : List α} (h : ls[k]? = some l) : (ls.take (k + 1)).flatten = (ls.take k).flatten ++ l := by
  rw [List.take_add_one, h, List.flatten_append]; simp
theorem flatten_take_le {α : Type} (ls : List (List α)) (k : Nat) : (ls.take k).flatten.length ≤ ls.flatten.length := by
  conv => rhs; rw [← List.take_append_drop k ls]
  rw [List.flatten_append, List.length_append]; omega
set_option maxRecDepth 100000 in
set_option maxHeartbeats 4000000 in
theorem concat_edges (B go n : Nat) (vs : List Value) (ls : List (List Ed)) (w : World) (hS : SlotsM encE 41 46 B go n w vs ls) (hn : n ≤ 1048576) (hF : ls.flatten.length ≤ 1048576) :
    Calls Try.prog 38 #[.slice (some ⟨go, 0, none⟩) n n] w (RetEL ls.flatten w) := by
  obtain ⟨i0, hi, hz0, hz1, hz2⟩ := info_parts info_edge
  have hll : Hid (ls.length = n) := Lib.hid (by rw [← hS.s.len, hS.vlen])
  have hok : Hid (∀ x ∈ ls.flatten, Ed.Ok x) := Lib.hid (fun x hx => by
    obtain ⟨l, hl, hxl⟩ := List.mem_flatten.1 hx
    obtain ⟨k, hk, rfl⟩ := List.getElem_of_mem hl
    obtain ⟨A, m, c, l, -, h2, -, -, -, -, h7, -⟩ := hS.get (s := k) (by rw [← hll.out]; exact hk)
    rw [List.getElem?_eq_getElem hk] at h2
    injection h2 with h2
    subst h2
    exact h7 x hxl)
  have cG := fun (k : Nat) (hk : k ≤ 4398046511104) (W : World) => grow_edges k hk W
  replace cG := Lib.hid cG
  replace hS := Lib.hid hS
  replace hi := Lib.hid hi
  replace hz0 := Lib.hid hz0
  replace hz1 := Lib.hid hz1
  replace hz2 := Lib.hid hz2
  obtain ⟨FL, hFL⟩ : ∃ z : Nat → List Ed, z = fun k => (ls.take k).flatten := ⟨_, rfl⟩
  have hst : Hid (∀ (k : Nat) (l : List Ed), ls[k]? = some l → FL (k + 1) = FL k ++ l) := Lib.hid (fun k l h => by rw [hFL]; exact flatten_take h)
  have hle : Hid (∀ k, (FL k).length ≤ 1048576) := Lib.hid (fun k => by rw [hFL]; exact Nat.le_trans (flatten_take_le ls k) hF)
  have hzero : Hid (FL 0 = []) := Lib.hid (by rw [hFL]; simp)
  have hend : Hid (FL n = ls.flatten) := Lib.hid (by rw [hFL]; simp only; rw [List.take_of_length_le (by rw [hll.out]; exact Nat.le_refl _)])
  clear hFL
  go_enter Try.func38, Try.ntmps38
  go_wp2_with fail
  go_loop [3, 11] (fun s i => ∃ k N : Nat, k ≤ n ∧ i = .int .i64 k ∧ s = .int .i64 N ∧ Hid (N = (FL k).length)) (fun _ i => n - (intOf i).toNat)
  case atStart => exact ⟨0, 0, Nat.zero_le _, rfl, rfl, Lib.hid (by rw [hzero.out]; rfl)⟩
  case round =>
    obtain ⟨k, N, hk, rfl, rfl, hN⟩ := hrel
    by_cases hlt : k < n
    · obtain ⟨A, m, c, l, -, hl, hlm, hcell, -, -, -, hmc, hm63, -⟩ := hS.out.get hlt
      have hlen := hst.out k l hl
      have hle1 := hle.out (k + 1)
      rw [hlen, List.length_append, hlm, ← hN.out] at hle1
      have hlt' : (k : Int) < (n : Int) := by omega
      have hnn : ¬ ((N : Int) + (m : Int) < 0) := by omega
      have hNm : Hid (N + m = (FL (k + 1)).length) := Lib.hid (by rw [hlen, List.length_append, hlm, ← hN.out])
      clear hlen
      replace hl := Lib.hid hl
      replace hlm := Lib.hid hlm
      replace hmc := Lib.hid hmc
      clear hlt
      go_wp2_with fail
      go_round
      case rel => exact ⟨k + 1, N + m, by omega, by go_num, by go_num, hNm⟩
      case measure => simp [intOf]; omega
    · have hkn : k = n := by omega
      subst hkn
      have hkn' : ¬ (k : Int) < (k : Int) := by omega
      have hN' : N ≤ 4398046511104 := by rw [hN.out]; exact Nat.le_trans (hle.out k) (by omega)
      clear hlt
      have cG1 := Lib.hid (cG.out N hN' w)
      go_wp2_with fail
      refine cG1.out.mono ?_; rintro e w1 ⟨v, rfl, hown1, b1⟩
      replace hown1 := Lib.hid hown1
      replace b1 := Lib.hid b1
      go_wp2_with fail
      go_loopw [6, 27] (fun v i wr => ∃ q : Nat, q ≤ k ∧ i = .int .i64 q ∧ Hid (wr.ownsRow w.heap.size 46 3 v (FL q).length (encE.all (FL q))) ∧ Hid (Below w.heap.size w wr)) (fun _ i _ => k - (intOf i).toNat)
      case atStart => exact ⟨0, Nat.zero_le _, rfl, Lib.hid (by rw [hzero.out]; exact hown1.out), b1⟩
      case round =>
        obtain ⟨q, hq, rfl, hown, hb⟩ := hrel
        have hLq := hle.out q
        obtain ⟨L, hLl⟩ : ∃ L, L = (FL q).length := ⟨_, rfl⟩
        rw [← hLl] at hown hLq
        replace hLl := Lib.hid hLl
        by_cases hlt : q < k
        · obtain ⟨A, m, c, l, -, hl, hlm, hcell, -, -, -, hmc, hm63, hLA⟩ := (hS.out.later hb.out).get hlt
          have hlen := hst.out q l hl
          have hle1 := hle.out (q + 1)
          rw [hlen, List.length_append, hlm, ← hLl.out] at hle1
          have hlt' : (q : Int) < (k : Int) := by omega
          have hbase := Lib.hid hb.out.size
          replace hlen := Lib.hid hlen
          replace hl := Lib.hid hl
          replace hlm := Lib.hid hlm
          replace hmc := Lib.hid hmc
          replace hLA := Lib.hid hLA
          clear hlt
          go_wp2_with (at_builtin; refine wpList_append_L (E := encE) rfl (.tmp 31) (.tmp 32) _ rfl w.heap.size 46 i0 _ 24 Try.underlying41 hi.out hz0.out hz1.out hz2.out rfl _ L (FL q) (by rfl) hown.out _ m c l rfl hLA.out (by unfold maxLen; omega) (by omega) hbase.out ?_; intro v' w7 hown' hb7 _ _)
          exact ⟨⟨q + 1, by omega, by go_num, Lib.hid (by rw [hlen.out, List.length_append, hlm.out, ← hLl.out]; exact hown'), Lib.hid (hb.out.trans hb7)⟩, by simp [intOf]; omega⟩
        · have hqk : q = k := by omega
          subst hqk
          have hlt' : ¬ (q : Int) < (q : Int) := by omega
          obtain ⟨A', c', rfl, hnc, hcm, hLA⟩ := LAt.of_own hown.out (fun z hz => by rw [hend.out] at hz; exact hok.out z hz) hLl.out.symm
          rw [hend.out] at hLA
          replace hLA := Lib.hid hLA
          clear hlt
          go_wp2_with fail
          go_ret
          exact ⟨A', L, c', rfl, hLA.out, hnc, hcm, hb.out⟩
theorem info_edges : (Try.prog.info? 41).map (fun i => (i.zero, i.size, i.bytes)) = some (some (.slice none 0 0), 1, 24) := by kernel_rfl
theorem mk_edges (kl kc : IntKind) (n : Nat) (hc : n ≤ 1099511627776) (W : World) :
    (Instr.makeSlice 73 (.int kl (n : Int)) (.int kc (n : Int))).run Try.prog W = .ok (.slice (some ⟨W.heap.size, 0, none⟩) n n) (W.alloc (.cells (zeros n (.slice none 0 0)) 41)) := by
  obtain ⟨i, hi, hz0, hz1, hz2⟩ := info_parts info_edges
  exact run_make_one _ _ i _ Try.underlying73 hi hz0 hz1 rfl kl kc n n (Nat.le_refl _) (by rw [hz2]; omega) (by omega) W
set_option maxRecDepth 100000 in
set_option maxHeartbeats 8000000 in
theorem clash_Edges (v : FV) (f : Fac) (A : Option Addr) (c : Nat) (a : List (List Nat)) (w : World) (hF : FactsAt w v f) (hr : RowsAt w A v.m a) (hG : Good v.m a) (hm : v.m < 64) (hvc : v.m ≤ c) (hw : WholeF f) (hfr : f.frm = fromF f.items) :
    Calls Try.prog 13 #[.agg #[.slice v.A v.n v.c, .slice v.B v.m v.d, .slice v.C v.k v.e], .agg #[.int .i64 (v.m : Int), .slice A v.m c]] w (RetEL (edgesF f a) w) := by
  have hil := hF.is.len
  have hflat := by0_flat f a
  have hEl := eA_len f a f.items.length f.items.length
  have hEq : edgesF f a = eA f a f.items.length f.items.length := rfl
  rw [← hEq] at hEl
  rw [hil] at hflat hEl
  have hEl2 : (edgesF f a).length ≤ 1048576 := by
    have q1 : v.m * (v.m * v.m) ≤ 64 * (64 * 64) := Nat.mul_le_mul (by omega) (Nat.mul_le_mul (by omega) (by omega))
    omega
  rw [← hflat] at hEl2 ⊢
  clear hflat hEl hEq
  have cO := Lib.hid (fun (i : Nat) (W : World) hW => origin_ReadersF v f (i : Int) W hW (by omega) hfr)
  have cP := Lib.hid (fun (z : Int) (W : World) hW => past_OfF A v.m c a z W hW hG)
  have cW := Lib.hid (fun (B : Option Addr) (m d : Nat) (l : List Int) (vr : Int) (W : World) hW hL hm' => past_WritesF v f B m d l vr W hW hL hm' (by omega))
  rw [hil] at cO
  have hwr : Hid (∀ (k z : Nat), z < v.m → f.frm.getD z 0 = (k : Int) → ∃ x, f.items[k]? = some x ∧ x.wr = true) := Lib.hid (fun k z hz h => by
    rw [hfr] at h
    have := fromF_writes (w := (k : Int)) (by omega) (by omega) h
    rwa [Int.toNat_natCast] at this)
  replace hil := Lib.hid hil
  clear hw hfr hG
  have mkS := mk_edges .i64 .i64 v.m (by omega)
  obtain ⟨i0, hi, hz0, hz1, hz2⟩ := info_parts info_edge
  replace hi := Lib.hid hi
  replace hz0 := Lib.hid hz0
  replace hz1 := Lib.hid hz1
  replace hz2 := Lib.hid hz2
  -- a call with facts v and the matrix (A v.m c a), hr : RowsAt w ..: boxed at g (W0), gm (W1): hB1, hM1
  -- a call with facts v: they are boxed at g, the world is W0 then
  have hB0 := Lib.hid (FBox.new hF)
  obtain ⟨g, hg⟩ : ∃ g, g = w.heap.size := ⟨_, rfl⟩
  obtain ⟨W0, hW0⟩ : ∃ W, W = w.alloc (.cells #[.slice v.A v.n v.c, .slice v.B v.m v.d, .slice v.C v.k v.e] 30) := ⟨_, rfl⟩
  rw [← hW0, ← hg] at hB0
  clear hF
  replace hr := hr.below hB0.out.o
  have hM1 := Lib.hid (MatK.new (N := (v.m : Int)) (c := c) W0 35 hr)
  obtain ⟨gm, hgm⟩ : ∃ g, g = W0.heap.size := ⟨_, rfl⟩
  obtain ⟨W1, hW1⟩ : ∃ W, W = W0.alloc (.cells #[.int .i64 (v.m : Int), .slice A v.m c] 35) := ⟨_, rfl⟩
  rw [← hW1, ← hgm] at hM1
  have hB1 := Lib.hid (hB0.out.later (show Below W0.heap.size W0 W1 from by rw [hW1]; exact below_alloc _ _))
  clear hr hB0
  obtain ⟨go, hgo⟩ : ∃ g, g = W1.heap.size := ⟨_, rfl⟩
  obtain ⟨W2, hW2⟩ : ∃ W, W = W1.alloc (.cells (zeros v.m (.slice none 0 0)) 41) := ⟨_, rfl⟩
  have b2 := Lib.hid (show Below W1.heap.size W1 W2 from by rw [hW2]; exact below_alloc _ _)
  have hS2 := Lib.hid (show SlotsM encE 41 46 W1.heap.size go v.m W2 (List.replicate v.m (.slice none 0 0)) (by0 f a v.m 0) from by rw [hW2, hgo, by0_zero]; exact SlotsM.start W1 _ (by unfold maxLen; omega))
  obtain ⟨vB, hvB⟩ : ∃ b, b = v.B := ⟨_, rfl⟩
  have hF1 : Hid (∀ W, FBox w g v f W → W.cell? ⟨g, 0, none⟩ = some (.slice v.A v.n v.c) ∧ W.cell? ⟨g, 1, none⟩ = some (.slice vB v.m v.d) ∧ W.cell? ⟨g, 2, none⟩ = some (.slice v.C v.k v.e)) := Lib.hid (fun W h => ⟨h.c0, by rw [hvB]; exact h.c1, h.c2⟩)
  rw [← hvB] at cO cW hW0 ⊢
  replace hvB := Lib.hid hvB
  obtain ⟨p0, p1, p2⟩ := hF1.out W1 hB1.out
  go_enter Try.func13, Try.ntmps13
  go_wp2_with (first | (rw [← hW0, ← hg]; clear hW0 hg) | (rw [← hW1, ← hgm]; clear hW1 hgm) | (rw [← hW2, ← hgo]; clear hW2; replace hgo := Lib.hid hgo; obtain ⟨q0, q1, q2⟩ := hF1.out W2 (hB1.out.later b2.out)))
  clear p0 p1 p2 q0 q1 q2 mkS
  go_loopw [19] (fun t wr => ∃ (k : Nat) (vs : List Value), k ≤ v.m ∧ t = .int .i64 (k : Int) ∧ Hid (Below W1.heap.size W1 wr) ∧ Hid (SlotsM encE 41 46 W1.heap.size go v.m wr vs (by0 f a v.m k))) (fun t _ => v.m - (intOf t).toNat)
  case atStart => exact ⟨0, _, Nat.zero_le _, rfl, b2, hS2⟩
  case round =>
    obtain ⟨k, vs, hk, rfl, hb, hS⟩ := hrel
    have hB := Lib.hid (hB1.out.later hb.out)
    by_cases hlt : k < v.m
    · have hlt' : (k : Int) < (v.m : Int) := by omega
      have k0 : 0 ≤ (k : Int) ∧ (k : Int) < (v.m : Int) := ⟨by omega, hlt'⟩
      obtain ⟨ib, io, x, hxB, hib, hx, -, i0', i1, i2, i3, i4⟩ := hB.out.f.is.item hlt
      have hvb : vB = some ⟨ib, io, none⟩ := hvB.out.trans hxB
      subst hvb
      obtain ⟨p0, p1, p2⟩ := hF1.out wr hB.out
      replace hxB := Lib.hid hxB
      obtain ⟨gx, hgx⟩ : ∃ g, g = wr.heap.size := ⟨_, rfl⟩
      obtain ⟨W3, hW3⟩ : ∃ W, W = wr.alloc (.cells #[.int .i64 x.se, .int .i64 x.pl, .bool x.wr, .int .i64 x.va, .int .i64 x.vl] 48) := ⟨_, rfl⟩
      have b3 : Below wr.heap.size wr W3 := by rw [hW3]; exact (Below.refl _ _).alloc (Nat.le_refl _) _
      have hX3 := Lib.hid (show Blk W3 gx 48 [.int .i64 x.se, .int .i64 x.pl, .bool x.wr, .int .i64 x.va, .int .i64 x.vl] from by rw [hW3, hgx]; exact Blk.new wr _ _)
      have hgx3 := Lib.hid (show Apart go vs gx from hS.out.fresh (by rw [hgx]; exact Nat.le_refl _))
      have hB3 := Lib.hid (hB.out.later b3)
      have hS3 := Lib.hid (hS.out.later b3)
      have hb3 := Lib.hid (below_trans2 hb.out b3)
      replace hx := Lib.hid hx
      clear hlt hib
      go_wp2_with (rw [← hW3, ← hgx]; clear hW3 hgx b3; obtain ⟨q0, q1, q2⟩ := hF1.out W3 hB3.out)
      clear p0 p1 p2 q0 q1 q2 i0' i1 i2 i3 i4
      refine (cO.out k W3 hB3.out.f).mono ?_; rintro e wR ⟨D, nr, dr, rfl, hL, hnd, hdm, bR, hDn⟩
      have hXR := Lib.hid (hX3.out.below bR hX3.out.lt)
      have hxa := Lib.hid (show Apart go vs gx from hgx3.out)
      have hDa := Lib.hid (show ∀ ad, D = some ad → Apart go vs ad.block from fun ad e => hS3.out.fresh (hDn ad e))
      have hSR := Lib.hid (hS3.out.later bR)
      have hbR := Lib.hid (below_trans2 hb3.out bR)
      have hLR := Lib.hid hL
      have hrl := Lib.hid (show (readF f.frm (k : Int) v.m).length = nr from hL.len)
      have hrn : nr ≤ v.m := by rw [← hrl.out]; exact readF_len _ _ _
      obtain ⟨rs, hrs⟩ : ∃ rs, rs = readF f.frm (k : Int) v.m := ⟨_, rfl⟩
      rw [← hrs] at hLR hrl
      replace hrs := Lib.hid hrs
      clear hL bR hDn hB hb hS hB3 hS3 hb3 hX3 hgx3
      go_wp2_with fail
      go_loopw [28] (fun t wr => ∃ (q : Nat) (vs' : List Value), q ≤ nr ∧ t = .int .i64 (q : Int) ∧ Hid (Below W1.heap.size W1 wr) ∧ Hid (SlotsM encE 41 46 W1.heap.size go v.m wr vs' (by1 f a v.m k (rs.take q))) ∧ Hid (Mv go wR vs wr vs')) (fun t _ => nr - (intOf t).toNat)
      case atStart => exact ⟨0, vs, Nat.zero_le _, rfl, hbR, Lib.hid (by rw [List.take_zero, by1_nil]; exact hSR.out), Lib.hid (Mv.refl _ _ _)⟩
      case round =>
        clear hbR hSR
        obtain ⟨q, vs1, hq, rfl, hb, hS, hMv⟩ := hrel
        have hB := Lib.hid (hB1.out.later hb.out)
        by_cases hlq : q < nr
        · have hlq' : (q : Int) < (nr : Int) := by omega
          have q0 : 0 ≤ (q : Int) ∧ (q : Int) < (nr : Int) := ⟨by omega, hlq'⟩
          obtain ⟨rb, ro, z, rfl, hrb, hz, -, r0⟩ := (hMv.out.lat hLR.out hDa.out).int hlq
          have hzz := readF_at (show (readF f.frm (k : Int) v.m)[q]? = some z by rw [← hrs.out]; exact hz)
          obtain ⟨r, rfl⟩ : ∃ r : Nat, z = (r : Int) := ⟨z.toNat, by omega⟩
          rw [Int.toNat_natCast] at hzz
          have hrm : r < v.m := by omega
          have hfrm := Lib.hid hzz.2.2.2
          obtain ⟨x', hx', hxw⟩ := hwr.out k r hrm hfrm.out
          obtain rfl : x' = x := by have h := hx.out; rw [hx'] at h; injection h
          have hxw' := Lib.hid hxw
          replace hx' := Lib.hid hx'
          replace hz := Lib.hid hz
          clear hzz hxw hlq hrb
          go_wp2_with fail
          refine wp_region_plan 9 [(true, 0), (true, 1), (true, 2), (true, 4), (true, 5), (true, 8), (false, 3), (false, 6), (true, 7)] (by kernel_rfl) (by kernel_rfl) (fun U hU => ?_)
          have hU' : Below wr.heap.size wr U := by rw [hU.out]; exact (Below.refl _ _).drew
          have hBU := Lib.hid (hB.out.later hU')
          have hSU := Lib.hid (hS.out.later hU')
          have hMU := Lib.hid (hMv.out.later hU')
          have hbU := Lib.hid (below_trans2 hb.out hU')
          have hmU := Lib.hid (hM1.out.below hbU.out)
          have hXU := Lib.hid (hMU.out.blk hXR.out hxa.out)
          clear hU hU' r0 hB hS hMv hb
          simp only [List.drop_succ_cons, List.drop_nil]
          obtain ⟨p0, p1, p2⟩ := hF1.out U hBU.out
          have m0 := hmU.out.1.c0
          have m1 := hmU.out.1.c1
          have x3 := hXU.out.cell 3
          simp only [List.getElem?_cons_zero, List.getElem?_cons_succ] at x3
          iterate 6
            refine wpPlan_float (v := ?_) rfl (by rfl) (fun w' hw' => ?_) (fun K hK => ?_)
            rotate_left
            · (go_simp; try with_reducible rfl)
            go_simp
            refine hK _ ?_
            clear hK K
          clear p0 p1 p2 m0 m1 x3
          refine wpPlan_only rfl (by rfl) (fun K hK => ?_)
          go_simp
          refine (cP.out (r : Int) U hmU.out.2).mono ?_
          rintro e y1 ⟨D1, n1, d1, rfl, hL1, hn1, hd1, b1, hD1⟩
          refine hK _ _ b1 ?_
          clear hK K
          have hl1 : n1 ≤ v.m := by rw [← hL1.len]; unfold colF colN; rw [List.length_map]; exact Nat.le_trans (List.length_filter_le _ _) (by simp)
          refine wpPlan_only rfl (by rfl) (fun K hK => ?_)
          go_simp
          refine (cW.out D1 n1 d1 _ x'.va y1 (hBU.out.later b1).f hL1 (by omega)).mono ?_
          rintro e y2 ⟨D2, n2, d2, rfl, hL2, hn2, hd2, b2', hD2⟩
          refine hK _ _ b2' ?_
          clear hK K
          have b12 := below_trans2 b1 b2'
          have hBy := Lib.hid (hBU.out.later b12)
          have hSy := Lib.hid (hSU.out.later b12)
          have hMy := Lib.hid (hMU.out.later b12)
          have hby := Lib.hid (below_trans2 hbU.out b12)
          have hDa2 := Lib.hid (show ∀ ad, D2 = some ad → Apart go vs1 ad.block from fun ad e => (hSU.out.later b1).fresh (hD2 ad e))
          have hnd := wrs_nodup f.items x'.va a (r : Int) v.m
          have hn2m : n2 ≤ v.m := by rw [← hL2.len]; exact wrs_len _ _ _ _ _
          obtain ⟨ws, hws⟩ : ∃ ws, ws = wrsF f.items x'.va (colF a (r : Int) v.m) := ⟨_, rfl⟩
          rw [← hws] at hL2 hnd
          have hwl := Lib.hid hL2.len
          have hws2 : Hid (∀ z ∈ ws, ∃ i : Nat, i < v.m ∧ z = (i : Int)) := Lib.hid (fun z hz => by
            rw [hws] at hz
            obtain ⟨i, y, h1, h2, -⟩ := mem_wrs.1 hz
            exact ⟨i, h1, h2⟩)
          replace hws := Lib.hid hws
          replace hL2 := Lib.hid hL2
          replace hnd := Lib.hid hnd
          clear hL1 hD1 hD2 b1 b2' b12 hBU hSU hMU hbU hmU hXU hl1 hn1 hd1
          iterate 1
            refine wpPlan_float (v := ?_) rfl (by rfl) (fun w' hw' => ?_) (fun K hK => ?_)
            rotate_left
            · (go_simp; try with_reducible rfl)
            go_simp
            refine hK _ ?_
            clear hK K
          refine wpPlan_nil (NoPanic.normal ?_)
          go_wp2_with fail
          go_loopw [40] (fun t wr => ∃ (j : Nat) (vs' : List Value), j ≤ n2 ∧ t = .int .i64 (j : Int) ∧ Hid (Below W1.heap.size W1 wr) ∧ Hid (SlotsM encE 41 46 W1.heap.size go v.m wr vs' (by2 f a v.m k (rs.take q) (r : Int) (ws.take j))) ∧ Hid (Mv go y2 vs1 wr vs')) (fun t _ => n2 - (intOf t).toNat)
          case atStart => exact ⟨0, vs1, Nat.zero_le _, rfl, hby, Lib.hid (by rw [List.take_zero, by2_nil]; exact hSy.out), Lib.hid (Mv.refl _ _ _)⟩
          case round =>
            clear hby hSy hBy
            obtain ⟨j, vs2, hj, rfl, hb, hS, hMv⟩ := hrel
            by_cases hlj : j < n2
            · have hlj' : (j : Int) < (n2 : Int) := by omega
              have j0 : 0 ≤ (j : Int) ∧ (j : Int) < (n2 : Int) := ⟨by omega, hlj'⟩
              obtain ⟨wb, wo, z, rfl, hwb, hz, -, s0⟩ := (hMv.out.lat hL2.out hDa2.out).int hlj
              obtain ⟨s, hsm, rfl⟩ := hws2.out z (List.mem_of_getElem? hz)
              have s1 : 0 ≤ (s : Int) ∧ (s : Int) < (v.m : Int) := by omega
              by_cases hsk : s = k
              · have e0 : ((s : Int) != (k : Int)) = false := by simp [hsk]
                have hst := Lib.hid (by2_skip (f := f) (M := a) (n := v.m) (rs := rs.take q) (z := (r : Int)) hnd.out (show ws[j]? = some (k : Int) by rw [← hsk]; exact hz))
                replace hz := Lib.hid hz
                replace hsk := Lib.hid hsk
                clear hlj hwb
                go_wp2_with fail
                exact ⟨⟨j + 1, vs2, by omega, by go_num, hb, Lib.hid (by rw [hst.out]; exact hS.out), hMv⟩, by simp [intOf]; omega⟩
              · have e0 : ((s : Int) != (k : Int)) = true := by simp; omega
                have hst := Lib.hid (by2_step (f := f) (M := a) (rs := rs.take q) (z := (r : Int)) hsm hnd.out hz hsk)
                have hat := by2_at (f := f) (M := a) (n := v.m) (k := k) (rs := rs.take q) (z := (r : Int)) (ws := ws.take j) hsm
                have hll := by2_len f a (n := v.m) (k := k) (s := s) (q := q) (j := j) (rs := rs) (z := (r : Int)) (ws := ws) (by omega) hk (by rw [hrl.out]; exact hrn)
                obtain ⟨Lv, hLv⟩ : ∃ l, l = ((eB f a s v.m k ++ eZ f a s k (rs.take q)) ++ oneE s k (r : Int) (ws.take j)) := ⟨_, rfl⟩
                rw [← hLv] at hat hll
                have hst2 := Lib.hid (show (by2 f a v.m k (rs.take q) (r : Int) (ws.take j)).set s (Lv ++ [⟨(s : Int), (k : Int), (r : Int)⟩]) = by2 f a v.m k (rs.take q) (r : Int) (ws.take (j + 1)) by rw [hLv]; exact hst.out)
                replace hLv := Lib.hid hLv
                obtain ⟨Ai, Mi, ci, l, hvi, hli, hlm, c0, fz0, hown, hokl, hmc, hc63, -⟩ := hS.out.get hsm
                obtain rfl : l = Lv := by rw [hat] at hli; injection hli with h; exact h.symm
                rw [hlm] at hll
                replace hz := Lib.hid hz
                replace hsk := Lib.hid hsk
                replace hat := Lib.hid hat
                replace hvi := Lib.hid hvi
                replace hokl := Lib.hid hokl
                replace hlm := Lib.hid hlm
                replace hmc := Lib.hid hmc
                clear hlj hwb hst hli fz0
                obtain ⟨gl, hgl⟩ : ∃ g, g = wr.heap.size := ⟨_, rfl⟩
                obtain ⟨VL, hVL⟩ : ∃ W, W = World.alloc wr (.cells #[.int .i64 (s : Int), .int .i64 (k : Int), .int .i64 (r : Int)] 46) := ⟨_, rfl⟩
                have bL : Below wr.heap.size wr VL := by rw [hVL]; exact (Below.refl _ _).alloc (Nat.le_refl _) _
                have hokn : Hid (Ed.Ok ⟨(s : Int), (k : Int), (r : Int)⟩) := Lib.hid ⟨by simp only; omega, by simp only; omega, by simp only; omega, by simp only; omega, by simp only; omega, by simp only; omega⟩
                have hlit := Lib.hid (show LAt encE VL (some ⟨gl, 0, none⟩) 1 [⟨(s : Int), (k : Int), (r : Int)⟩] from by rw [hVL, hgl]; exact LAt.lit1 (E := encE) wr 46 ⟨(s : Int), (k : Int), (r : Int)⟩ hokn.out)
                have hownL := Lib.hid (own_below hown bL)
                have hSL := Lib.hid (hS.out.later bL)
                have hML := Lib.hid (hMv.out.later bL)
                have bWL := Lib.hid (below_trans2 hb.out bL)
                have hbase := Lib.hid bWL.out.size
                have hgoB := Lib.hid (hS.out.o.lt go rfl).1
                clear bL hown
                go_wp2_with (first
                  | (rw [← hVL, ← hgl]; clear hVL hgl)
                  | (at_builtin; refine wpList_append_L (E := encE) rfl (.tmp 52) (.tmp 57) _ rfl W1.heap.size 46 i0 _ 24 Try.underlying41 hi.out hz0.out hz1.out hz2.out rfl _ Mi l (by rfl) hownL.out _ 1 1 _ rfl hlit.out (by unfold maxLen; omega) (by omega) hbase.out ?_; intro v' w7 hown' hb7 hg7 hob7; obtain ⟨A5, c5, rfl, h51, h52, -⟩ := LAt.of_own hown' (fun x hx => (List.mem_append.1 hx).elim (hokl.out x) (fun h => by rw [List.mem_singleton.1 h]; exact hokn.out)) (by rw [List.length_append, hlm.out]; rfl); obtain ⟨hS7, hM7, c7, f7⟩ := hSL.out.put (by decide) hvi.out hat.out hg7 (v' := .slice A5 (Mi + 1) c5) (l' := l ++ [⟨(s : Int), (k : Int), (r : Int)⟩]) (by rw [List.length_append, hlm.out]; exact hown') (fun x hx => (List.mem_append.1 hx).elim (hokl.out x) (fun h => by rw [List.mem_singleton.1 h]; exact hokn.out)) hob7; replace hS7 := Lib.hid hS7; replace hM7 := Lib.hid hM7; have hb8 := Lib.hid ((bWL.out.trans hb7).setCell (p := ⟨go, s, none⟩) hgoB.out (.slice A5 (Mi + 1) c5)); clear hown' hb7 hg7 hob7 c0 s0))
                exact ⟨⟨j + 1, vs2.set s (.slice A5 (Mi + 1) c5), by omega, by go_num, hb8, Lib.hid (by rw [← hst2.out]; exact hS7.out), Lib.hid (hML.out.trans hM7.out)⟩, by simp [intOf]; omega⟩
            · have hjn : j = n2 := by omega
              subst hjn
              have hlj' : ¬ (j : Int) < (j : Int) := by omega
              have hall : ws.take j = ws := List.take_of_length_le (by rw [hwl.out]; exact Nat.le_refl _)
              have hend := Lib.hid (by2_all (M := a) (n := v.m) (rs := rs) hil.out hx'.out hxw'.out hfrm.out hz.out)
              rw [hall, hws.out, hend.out] at hS
              have hM2 := Lib.hid (hMy.out.trans hMv.out)
              clear hlj hall
              go_wp2_with fail
              exact ⟨⟨q + 1, vs2, by omega, by go_num, hb, hS, hM2⟩, by simp [intOf]; omega⟩
        · have hqn : q = nr := by omega
          subst hqn
          have hlq' : ¬ (q : Int) < (q : Int) := by omega
          have hall : rs.take q = rs := List.take_of_length_le (by rw [hrl.out]; exact Nat.le_refl _)
          rw [hall, hrs.out, by1_all] at hS
          clear hlq hall
          go_wp2_with fail
          exact ⟨⟨k + 1, vs1, by omega, by go_num, hb, hS⟩, by simp [intOf]; omega⟩
    · have hkn : k = v.m := by omega
      subst hkn
      have hlt' : ¬ (v.m : Int) < (v.m : Int) := by omega
      have cC := Lib.hid (concat_edges W1.heap.size go v.m vs _ wr hS.out (by omega) hEl2)
      clear hlt
      go_wp2_with fail
      refine cC.out.mono ?_; rintro e w9 ⟨E, ne, ce, rfl, hL, hnc, hcm, b9⟩
      have hbb := Lib.hid (below_trans2 hB.out.o b9)
      go_wp2_with fail
      go_ret
      exact ⟨E, ne, ce, rfl, hL, hnc, hcm, hbb.out⟩
end Go.Proofs.Ytpbiilhclmcehaa

namespace Go.Proofs.Ytpbiilhclmcehaa
open Go.RowKit
set_option linter.unusedVariables false

theorem own_only {w w' : World} {g base : Nat} {e : TypeId} {size n : Nat} {v : Value} {vs : List Value} (h : w.ownsRow base e size v n vs) (ho : OnlyAt g w w') (hne : v.ownBlock ≠ some g) : w'.ownsRow base e size v n vs := by
  refine ⟨h.1, ?_⟩
  rcases h.2 with ⟨h1, h2⟩ | ⟨k, cap, cur, rfl, hbg, hg, r⟩
  · exact .inl ⟨h1, h2⟩
  · exact .inr ⟨k, cap, cur, rfl, hbg, (ho.block k (fun e => hne (by rw [← e]; rfl))).trans hg, r⟩
theorem Blk.only {w w' : World} {g k : Nat} {t : TypeId} {cs : List Value} (h : Blk w k t cs) (ho : OnlyAt g w w') (hne : k ≠ g) : Blk w' k t cs := (ho.block k hne).trans h
theorem Row.only {w w' : World} {g n : Nat} {A : Option Addr} {xs : List Nat} (h : Row w A n xs) (ho : OnlyAt g w w') (hne : ∀ ad, A = some ad → ad.block ≠ g) : Row w' A n xs := by
  refine ⟨⟨h.1.1, fun hn => ?_⟩, h.2⟩
  obtain ⟨b, off, e, hb, hc⟩ := h.1.2 hn
  have hbg := hne _ e
  exact ⟨b, off, e, by rw [ho.size]; exact hb, fun j u hu => (ho.cell (p := ⟨b, off + j, none⟩) hbg).trans (hc j u hu)⟩
theorem below_only {w w' w0 : World} {g : Nat} (h : Below w0.heap.size w0 w) (ho : OnlyAt g w w') (hg : w0.heap.size ≤ g) : Below w0.heap.size w0 w' := h.trans (ho.below.mono hg)
theorem OwnRows.joined {t : TypeId} {w w' : World} {base : Nat} {vs : List Value} {xss : List (List Nat)} (h : OwnRows t w base vs xss) {i g m c : Nat} {ys : List Nat} (hv : vs[i]? = some (.slice (some ⟨g, 0, none⟩) m c))
    (ho : OnlyAt g w w') (hy : w'.ownsRow base t 1 (.slice (some ⟨g, 0, none⟩) m c) m (ys.map u64v)) (hw : W64 ys) : OwnRows t w' base vs (xss.set i ys) := by
  refine ⟨by simp [h.1], fun k v zs h1 h2 => ?_, h.2.2⟩
  rw [List.getElem?_set] at h2
  by_cases hk : i = k
  · subst hk
    rw [if_pos rfl] at h2
    split at h2
    · injection h2 with h2
      subst h2
      rw [hv] at h1
      injection h1 with h1
      subst h1
      exact ⟨_, _, _, rfl, hy, hw⟩
    · cases h2
  · rw [if_neg hk] at h2
    obtain ⟨A, m', c', e, h3, hx⟩ := h.2.1 k v zs h1 h2
    subst e
    exact ⟨A, m', c', rfl, own_only h3 ho (h.2.2 i k _ _ g hk hv h1 rfl), hx⟩
theorem orK_self (a : List Nat) (k : Nat) : orK a a k = a := by
  unfold orK
  apply List.ext_getElem?
  intro j
  rw [List.getElem?_map]
  by_cases hj : j < a.length
  · rw [List.getElem?_range hj, Option.map_some, Nat.or_self, ite_self, List.getD_eq_getElem?_getD, List.getElem?_eq_getElem hj]; rfl
  · rw [List.getElem?_eq_none (by simpa using hj), List.getElem?_eq_none (by omega)]; rfl
theorem set_self {α : Type} {l : List α} {q : Nat} {r : α} (h : l[q]? = some r) : l.set q r = l := by
  apply List.ext_getElem?
  intro i
  rw [List.getElem?_set]
  by_cases hq : q = i
  · subst hq
    rw [if_pos rfl, if_pos (List.getElem?_eq_some_iff.1 h).1, h]
  · rw [if_neg hq]
theorem and_p2 (x r : Nat) (hx : x < 18446744073709551616) (hr : r < 64) : (bits BinOp.and IntKind.u64 (x : Int) ((p2 r : Nat) : Int) != 0) = x.testBit r := by
  have hp := p2_lt r hr
  rw [u64_and_nat x (p2 r) hx (by omega)]
  unfold p2
  cases h : x.testBit r with
  | true =>
    rw [bne_iff_ne]
    intro h0
    have h1 : x &&& 2 ^ r = 0 := by omega
    have h2 := congrArg (·.testBit r) h1
    simp [h] at h2
  | false =>
    have : x &&& 2 ^ r = 0 := by
      apply Nat.eq_of_testBit_eq
      intro i
      rw [Nat.testBit_and, Nat.testBit_two_pow, Nat.zero_testBit]
      by_cases hi : r = i
      · subst hi; rw [h]; rfl
      · simp [hi]
    rw [this]; rfl

/-- a call that answers words of its own -/
def RetWords (n : Nat) (xs : List Nat) (w : World) (e : Ending) (w' : World) : Prop :=
  ∃ g cap, e = .returned (.slice (some ⟨g, 0, none⟩) n cap) ∧ w'.ownsRow w.heap.size 92 1 (.slice (some ⟨g, 0, none⟩) n cap) n (xs.map u64v) ∧ Below w.heap.size w w'
set_option maxHeartbeats 400000 in
theorem clone_words (b off n c : Nat) (xs : List Nat) (w : World) (hr : Row w (some ⟨b, off, none⟩) n xs) (h0 : 0 < n) (hn : n ≤ 1073741824) :
    Calls Try.prog 76 #[.slice (some ⟨b, off, none⟩) n c] w (RetWords n xs w) := by
  obtain ⟨i0, hi, hz0, hz1, hz2⟩ := info_parts info_u64
  replace hi := Lib.hid hi
  replace hz0 := Lib.hid hz0
  replace hz1 := Lib.hid hz1
  replace hz2 := Lib.hid hz2
  have hlit : (w.alloc (.cells #[] 92)).ownsRow w.heap.size 92 1 (.slice (some ⟨w.heap.size, 0, none⟩) 0 0) 0 [] := by
    have h := World.ownsRow_lit (size := 1) (base := w.heap.size) (e := 92) w #[] 0 (Nat.le_refl _) (by omega) (by simp)
    simpa using h
  have hb0 : Below w.heap.size w (w.alloc (.cells #[] 92)) := below_alloc _ _
  have hrd : Rd (w.alloc (.cells #[] 92)) (some ⟨b, off, none⟩) n (xs.map u64v) := (hr.below hb0).1
  have h1 : ∀ u ∈ xs.map u64v, u.oneCell' = true := fun u hu => by
    obtain ⟨x, _, rfl⟩ := List.mem_map.1 hu; rfl
  clear hr
  have hnil : ∀ W : World, (binOp .eql 79 (.slice (some ⟨b, off, none⟩) n c) (.slice none 0 0)).run Try.prog W = .ok (.bool false) W := fun W => by kernel_rfl
  go_enter Try.func76, Try.ntmps76
  go_wp2_with (at_builtin; refine wpList_append_rd rfl (.tmp 5) (.tmp 6) _ rfl w.heap.size 92 i0 _ 8 Try.underlying79 hi.out hz0.out hz1.out hz2.out rfl _ 0 _ (by rfl) hlit _ n c _ rfl hrd h1 (by unfold maxLen; omega) (by omega) hb0.size ?_; intro v1 w1 hown1 hbb hform; simp only [Nat.zero_add, List.nil_append] at hown1 hform; have hb1 := hb0.trans hbb; obtain ⟨g, cap, rfl⟩ := hform h0; clear hbb hlit hb0 hrd hform)
  go_ret
  exact ⟨_, _, rfl, hown1, hb1⟩

/-- a call that answers rows of its own -/
def RetRowsO (xss : List (List Nat)) (w : World) (e : Ending) (w' : World) : Prop :=
  ∃ vs, e = .returned (.slice (some ⟨w.heap.size, 0, none⟩) xss.length xss.length) ∧ w'.ownsRow w.heap.size 79 1 (.slice (some ⟨w.heap.size, 0, none⟩) xss.length xss.length) xss.length vs ∧ OwnRows 92 w' (w.heap.size + 1) vs xss ∧ Below w.heap.size w w' ∧ w.heap.size + 1 ≤ w'.heap.size
set_option maxHeartbeats 1000000 in
theorem hull_copied (A : Option Addr) (n c : Nat) (a : List (List Nat)) (w : World) (hr : RowsAt w A n a) (hn : n ≤ 4096) (hl : ∀ (k : Nat) (xs : List Nat), a[k]? = some xs → 0 < xs.length ∧ xs.length ≤ 1024) :
    Calls Try.prog 55 #[.slice A n c] w (RetRowsO a w) := by
  have hlen := hr.len
  have hmk := mk_rows .i64 .i64 n n (Nat.le_refl _) (by omega)
  obtain ⟨W1, hW1⟩ : ∃ W1, W1 = w.alloc (.cells (zeros n (.slice none 0 0)) 79) := ⟨_, rfl⟩
  have ha1 : Below w.heap.size w W1 := by rw [hW1]; exact below_alloc _ _
  have hs1 : W1.heap.size = w.heap.size + 1 := by rw [hW1]; simp
  have hown0 : W1.ownsRow w.heap.size 79 1 (.slice (some ⟨w.heap.size, 0, none⟩) n n) n (filled [] n) := by
    have h := own_zeros w n (.slice none 0 0) 79 (by unfold maxLen; omega)
    rw [← hW1] at h
    rw [filled_nil]; exact h
  have hs1' := Lib.hid hs1
  replace hown0 := Lib.hid hown0
  replace ha1 := Lib.hid ha1
  replace hr := Lib.hid hr
  replace hl := Lib.hid hl
  replace hlen := Lib.hid hlen
  clear hs1
  go_enter Try.func55, Try.ntmps55
  go_wp2_with fail
  rw [← hW1]
  clear hW1 hmk
  go_loopw [11] (fun i wr => ∃ vs : List Value, vs.length ≤ n ∧ i = .int .i64 vs.length ∧ Hid (wr.ownsRow w.heap.size 79 1 (.slice (some ⟨w.heap.size, 0, none⟩) n n) n (filled vs n)) ∧ Hid (OwnRows 92 wr (w.heap.size + 1) vs (a.take vs.length)) ∧ Hid (Below w.heap.size w wr) ∧ Hid (w.heap.size + 1 ≤ wr.heap.size)) (fun i _ => n - (intOf i).toNat)
  case atStart => exact ⟨[], Nat.zero_le _, rfl, hown0, Lib.hid (OwnRows.nil _ _ _), ha1, Lib.hid (by rw [hs1'.out]; exact Nat.le_refl _)⟩
  case round =>
    obtain ⟨vs, hk, rfl, hown, hrows, hbr, hsr⟩ := hrel
    clear hown0 ha1
    obtain ⟨k, hke⟩ : ∃ k, k = vs.length := ⟨_, rfl⟩
    rw [← hke] at hk
    rw [← hke]
    by_cases hlt : k < n
    · have hke' := Lib.hid hke
      clear hke
      obtain ⟨b, off, B, m, d, xs, rfl, hbl, hx, hc, hxr⟩ := (hr.out.below hbr.out).at_ hlt
      have hm0 : 0 < m ∧ m ≤ 1024 := by have := hxr.len; have := hl.out k xs hx; omega
      obtain ⟨b2, off2, _, rfl, _, _, _, _⟩ := hxr.at_ hm0.1
      have hC := Lib.hid (clone_words b2 off2 m d xs wr hxr hm0.1 (by omega))
      have hx64 := Lib.hid hxr.2
      have hstep : Hid (a.take (k + 1) = a.take k ++ [xs]) := Lib.hid (by
        rw [List.take_succ_eq_append_getElem (List.getElem?_eq_some_iff.1 hx).1, (List.getElem?_eq_some_iff.1 hx).2])
      have hk0 : (0 : Int) ≤ (k : Int) := by omega
      have hkn : (k : Int) < (n : Int) := by omega
      clear hx hxr hm0
      go_wp2_with fail
      refine hC.out.mono ?_; rintro e w1 ⟨G, q, rfl, ho, hb1⟩
      have hown1 := own_below hown.out hb1
      have hget := filled_get (vs := vs) (n := n) (by rw [← hke'.out]; exact hlt)
      have hcg := hown1.cellAt k (by omega)
      rw [hke'.out, hget, ← hke'.out] at hcg
      have hfg := hown1.frozenAt k
      have hrows1 := Lib.hid (hrows.out.snoc hb1 ho hx64.out hsr.out)
      have hbr1 := Lib.hid (below_trans2 hbr.out hb1)
      have hsr1 := Lib.hid (Nat.le_trans hsr.out hb1.size)
      replace hown1 := Lib.hid hown1
      clear ho hget hown hrows hbr hsr hb1 hc
      go_wp2_with fail
      go_roundw
      case rel =>
        refine ⟨vs ++ [.slice (some ⟨G, 0, none⟩) m q], by have := hke'.out; simp; omega, by rw [List.length_append, ← hke'.out]; simp; try omega, ?_, ?_, ?_, ?_⟩
        · refine Lib.hid ?_
          rw [← filled_set (by rw [← hke'.out]; exact hlt), ← hke'.out]
          exact (hown1.out.stored k _).1
        · refine Lib.hid ?_
          have h := hrows1.out.far (p := ⟨w.heap.size, k, none⟩) (by simp) (.slice (some ⟨G, 0, none⟩) m q)
          rw [← hke'.out] at h
          rw [List.length_append, List.length_singleton, ← hke'.out, hstep.out]
          exact h
        · exact Lib.hid (hbr1.out.setCell (by simp) _)
        · exact Lib.hid (by simpa using hsr1.out)
      case measure => simp [intOf]; omega
    · obtain rfl : n = k := by omega
      have hvn := Lib.hid hke.symm
      clear hlt hke
      go_wp2_with fail
      go_ret
      refine ⟨vs, by rw [hlen.out]; rfl, ?_, ?_, hbr.out, hsr.out⟩
      · have h := hown.out
        rw [filled_all hvn.out] at h
        rw [hlen.out]; exact h
      · have h := hrows.out
        rw [hvn.out, List.take_of_length_le (by rw [hlen.out]; exact Nat.le_refl _)] at h
        exact h

/-- what 'join' does: the words of both, in the first one's place -/
def RetJoinIn (g base n c : Nat) (zs : List Nat) (w : World) (e : Ending) (w' : World) : Prop :=
  e = .returned (.tuple #[]) ∧ w'.ownsRow base 92 1 (.slice (some ⟨g, 0, none⟩) n c) n (zs.map u64v) ∧ OnlyAt g w w'
set_option maxHeartbeats 1000000 in
theorem hull_join (g base n c d : Nat) (B : Option Addr) (xs ys : List Nat) (w : World) (hown : w.ownsRow base 92 1 (.slice (some ⟨g, 0, none⟩) n c) n (xs.map u64v)) (hx : W64 xs) (hs : Row w B n ys)
    (hal : (∀ ad, B = some ad → ad.block ≠ g) ∨ (B = some ⟨g, 0, none⟩ ∧ ys = xs)) (hn : n ≤ 1073741824) :
    Calls Try.prog 57 #[.slice (some ⟨g, 0, none⟩) n c, .slice B n d] w (RetJoinIn g base n c (orR xs ys) w) := by
  have hl : xs.length = n := by have := hown.1; simpa using this
  have hl2 := hs.len
  have hd : ∀ k, xs.getD k 0 < 18446744073709551616 := fun k => getD_w64 hx k
  have hall : orK xs ys n = orR xs ys := by rw [← hl2]; exact orK_all xs ys (by omega)
  have hrow : ∀ (k : Nat) (W : World), W.ownsRow base 92 1 (.slice (some ⟨g, 0, none⟩) n c) n ((orK xs ys k).map u64v) → OnlyAt g w W → Row W B n ys := fun k W h1 h2 => by
    rcases hal with h | ⟨h, h'⟩
    · exact hs.only h2 h
    · subst h h'
      rw [orK_self] at h1
      exact Row.of_own h1 hx
  replace hrow := Lib.hid hrow
  replace hall := Lib.hid hall
  replace hd := Lib.hid hd
  replace hl := Lib.hid hl
  replace hown := Lib.hid hown
  clear hs hal hl2
  go_enter Try.func57, Try.ntmps57
  go_wp2_with fail
  go_loopw [8] (fun i wr => ∃ k : Nat, k ≤ n ∧ i = .int .i64 k ∧ Hid (wr.ownsRow base 92 1 (.slice (some ⟨g, 0, none⟩) n c) n ((orK xs ys k).map u64v)) ∧ Hid (OnlyAt g w wr)) (fun i _ => n - (intOf i).toNat)
  case atStart => exact ⟨0, Nat.zero_le _, rfl, Lib.hid (by rw [orK_zero]; exact hown.out), Lib.hid (OnlyAt.refl _ _)⟩
  case round =>
    obtain ⟨k, hk, rfl, hownr, hor⟩ := hrel
    clear hown
    by_cases hlt : k < n
    · obtain ⟨b, off, y, rfl, hbk, hy, hy64, hc⟩ := (hrow.out k wr hownr.out hor.out).at_ hlt
      have hgx := orK_get xs ys k (by rw [hl.out]; omega)
      have hx64 := hd.out k
      obtain ⟨x, hx'⟩ : ∃ x, x = xs.getD k 0 := ⟨_, rfl⟩
      rw [← hx'] at hgx hx64
      have hcg : wr.cell? ⟨g, k, none⟩ = some (.int .u64 (x : Int)) := by
        rw [hownr.out.cellAt _ (by omega), List.getElem?_map, hgx]; rfl
      have hf := hownr.out.frozenAt k
      have hE := Lib.hid (u64_or_nat x y hx64 hy64)
      have hst := orK_set xs ys k
      rw [← hx', Row.get hy] at hst
      replace hst := Lib.hid hst
      have hk0 : (0 : Int) ≤ (k : Int) := by omega
      have hkn : (k : Int) < (n : Int) := by omega
      clear hgx hy
      replace hx' := Lib.hid hx'
      go_wp2_with fail
      go_roundw
      case rel =>
        refine ⟨k + 1, by omega, by go_num, ?_, Lib.hid (hor.out.set k _)⟩
        refine Lib.hid ?_
        rw [hE.out, ← hst.out, List.map_set]
        exact (hownr.out.stored _ _).1
      case measure => simp [intOf]; omega
    · obtain rfl : k = n := by omega
      go_wp2_with fail
      go_end0
      exact ⟨rfl, by rw [← hall.out]; exact hownr.out, hor.out⟩

/-- what is known at each round: the rows of its own, in blocks of their own; the variables -/
def CloseI (w : World) (n : Nat) (A : Option Addr) (c : Nat) (vs : List Value) (xss : List (List Nat)) (wr : World) : Prop :=
  wr.ownsRow (w.heap.size + 2) 79 1 (.slice (some ⟨w.heap.size + 2, 0, none⟩) n n) n vs ∧ OwnRows 92 wr (w.heap.size + 3) vs xss ∧ MatB wr w.heap.size 35 n A n c ∧ MatB wr (w.heap.size + 1) 35 0 none 0 0 ∧ Below w.heap.size w wr
theorem CloseI.join {w : World} {n : Nat} {A : Option Addr} {c : Nat} {vs : List Value} {xss : List (List Nat)} {wr w' : World} (h : CloseI w n A c vs xss wr) {i g m d : Nat} {ys : List Nat} (hv : vs[i]? = some (.slice (some ⟨g, 0, none⟩) m d))
    (hg : w.heap.size + 3 ≤ g) (ho : OnlyAt g wr w') (hy : w'.ownsRow (w.heap.size + 3) 92 1 (.slice (some ⟨g, 0, none⟩) m d) m (ys.map u64v)) (hw : W64 ys) : CloseI w n A c vs (xss.set i ys) w' := by
  obtain ⟨h1, h2, h3, h4, h5⟩ := h
  exact ⟨own_only h1 ho (by simp [Value.ownBlock]; omega), h2.joined hv ho hy hw, Blk.only h3 ho (by omega), Blk.only h4 ho (by omega), below_only h5 ho (by omega)⟩
set_option maxRecDepth 100000 in
set_option maxHeartbeats 2000000 in
theorem hull_Close (A : Option Addr) (n c : Nat) (a : List (List Nat)) (w : World) (hr : RowsAt w A n a) (hG : Good n a) :
    Calls Try.prog 32 #[.agg #[.int .i64 (n : Int), .slice A n c]] w (RetMat1 (n : Int) (closeK a n) w) := by
  have hal : a.length = n := hG.len
  have hnn : n ≤ 4096 := hG.le
  obtain ⟨W0, hW0⟩ : ∃ W0, W0 = (w.alloc (.cells #[.int .i64 n, .slice A n c] 35)).alloc (.cells #[.int .i64 0, .slice none 0 0] 35) := ⟨_, rfl⟩
  have ha : Below w.heap.size w W0 := by rw [hW0]; exact ((Below.refl _ _).alloc (Nat.le_refl _) _).alloc (by simp) _
  have hB1 : MatB W0 w.heap.size 35 n A n c := by rw [hW0]; exact (MatB.new w _).below_ (below_alloc _ _)
  have hB2 : MatB W0 (w.heap.size + 1) 35 0 none 0 0 := by rw [hW0]; exact MatB.new1 w _ _
  have hs0 : W0.heap.size = w.heap.size + 2 := by rw [hW0]; simp
  have l0 := hB1.c0
  have l1 := hB1.c1
  have hcop := hull_copied A n c a W0 (hr.below ha) hnn (fun k xs hx => by
    have h1 := hG.row xs (List.mem_of_getElem? hx)
    have h2 := hG.small xs (List.mem_of_getElem? hx)
    have h3 : 0 < n := by have := (List.getElem?_eq_some_iff.1 hx).1; omega
    omega)
  unfold RetRowsO at hcop
  rw [hal, hs0] at hcop
  replace hcop := Lib.hid hcop
  replace ha := Lib.hid ha
  replace hB1 := Lib.hid hB1
  replace hB2 := Lib.hid hB2
  replace hs0 := Lib.hid hs0
  replace hal := Lib.hid hal
  have hK := Lib.hid (fun k hk => closeK_facts hG k hk)
  replace hG := Lib.hid hG
  clear hr
  go_enter Try.func32, Try.ntmps32
  go_wp2_with fail
  rw [← hW0]
  clear hW0
  go_wp2_with fail
  refine hcop.out.mono ?_; rintro e w1 ⟨vs, rfl, ho1, ho2, hb1, hs1⟩
  have hI : Hid (CloseI w n A c vs a w1) := Lib.hid ⟨ho1, ho2, hB1.out.below_ (hb1.mono (by rw [hs0.out]; exact Nat.le_refl _)), hB2.out.below_ (hb1.mono (by rw [hs0.out]; exact Nat.le_refl _)), ha.out.trans (hb1.mono (by omega))⟩
  have hvl : vs.length = n := by have := ho1.1; simpa using this
  replace hvl := Lib.hid hvl
  clear ho1 ho2 hb1 hs1 hcop hB1 hB2 ha l0 l1
  go_wp2_with fail
  go_loopw [15] (fun i wr => ∃ k : Nat, k ≤ n ∧ i = .int .i64 k ∧ Hid (CloseI w n A c vs (closeK a k) wr)) (fun i _ => n - (intOf i).toNat)
  case atStart => exact ⟨0, Nat.zero_le _, rfl, hI⟩
  case round =>
    obtain ⟨k, hk, rfl, hIr⟩ := hrel
    clear hI
    by_cases hlt : k < n
    · have hGk := (hK.out k hk).1
      obtain ⟨rk, hrk, hwk, hlk⟩ := hGk.at_ hlt
      obtain ⟨vk, hvk⟩ : ∃ v, vs[k]? = some v := ⟨_, List.getElem?_eq_getElem (by rw [hvl.out]; exact hlt)⟩
      obtain ⟨Ak, mk, dk, rfl, hok, _⟩ := hIr.out.2.1.2.1 k vk rk hvk hrk
      have hmk : rk.length = mk := by have := hok.1; simpa using this
      obtain ⟨gk, hgk0, rfl⟩ : ∃ gk, w.heap.size + 3 ≤ gk ∧ Ak = some ⟨gk, 0, none⟩ := by
        obtain ⟨g, cap, hv, _⟩ := hok.form (by omega)
        injection hv with hv
        subst hv
        exact ⟨g, own_lt_block hok g rfl, rfl⟩
      have hmk1 : mk ≤ 64 := by have := hGk.small rk (List.mem_of_getElem? hrk); omega
      have hkm : k / 64 < mk := by omega
      have hpl := Lib.hid (fun W => hull_place k (by omega) W)
      have hck := hIr.out.1.cellAt k (by omega)
      rw [hvk] at hck
      have hk0 : (0 : Int) ≤ (k : Int) := by omega
      have hkn : (k : Int) < (n : Int) := by omega
      replace hGk := Lib.hid hGk
      replace hrk := Lib.hid hrk
      replace hvk := Lib.hid hvk
      replace hmk := Lib.hid hmk
      clear hok hwk hlk
      go_wp2_with fail
      refine (hpl.out wr).mono ?_; rintro e w' ⟨rfl, rfl⟩
      clear hpl
      go_wp2_with fail
      clear hck
      go_loopw [27] (fun i wi => ∃ q : Nat, q ≤ n ∧ i = .int .i64 q ∧ Hid (CloseI w n A c vs (stepM (closeK a k) k q) wi)) (fun i _ => n - (intOf i).toNat)
      case atStart => exact ⟨0, Nat.zero_le _, rfl, Lib.hid (by rw [stepM_zero]; exact hIr.out)⟩
      case round =>
        obtain ⟨q, hq, rfl, hIq⟩ := hrel
        clear hIr
        by_cases hlq : q < n
        · obtain ⟨r, hrq, hwq, hlq2⟩ := hGk.out.at_ hlq
          have hrs : (stepM (closeK a k) k q)[q]? = some r := by rw [stepM_get hrq, if_neg (Nat.lt_irrefl _)]
          obtain ⟨v, hv⟩ : ∃ v, vs[q]? = some v := ⟨_, List.getElem?_eq_getElem (by rw [hvl.out]; exact hlq)⟩
          obtain ⟨Aq, m, d, rfl, hoq, _⟩ := hIq.out.2.1.2.1 q v r hv hrs
          have hmq : r.length = m := by have := hoq.1; simpa using this
          obtain ⟨g, hg0, rfl⟩ : ∃ g, w.heap.size + 3 ≤ g ∧ Aq = some ⟨g, 0, none⟩ := by
            obtain ⟨g, cap, hv, _⟩ := hoq.form (by omega)
            injection hv with hv
            subst hv
            exact ⟨g, own_lt_block hoq g rfl, rfl⟩
          have hmm : m = mk := by
            have h1 := (hGk.out.row r (List.mem_of_getElem? hrq)).2.2.1
            have h2 := (hGk.out.row rk (List.mem_of_getElem? hrk.out)).2.2.1
            have := hmk.out
            omega
          subst hmm
          have hcq := hIq.out.1.cellAt q (by omega)
          rw [hv] at hcq
          obtain ⟨x, hx⟩ : ∃ x, r[k / 64]? = some x := ⟨_, List.getElem?_eq_getElem (by omega)⟩
          have hx64 := hwq x (List.mem_of_getElem? hx)
          have hcx : wr.cell? ⟨g, k / 64, none⟩ = some (.int .u64 (x : Int)) := by
            rw [hoq.cellAt _ (by omega), List.getElem?_map, hx]; rfl
          have hbit := and_p2 x (k % 64) hx64 (by omega)
          have hbh : x.testBit (k % 64) = hasR r (k : Int) := by rw [hasR_nat, Row.get hx]
          rw [hbh] at hbit
          have hsucc := stepM_succ (k := k) hrq
          have hq0 : (0 : Int) ≤ (q : Int) := by omega
          have hqn : (q : Int) < (n : Int) := by omega
          have hp0 : (0 : Int) ≤ ((k / 64 : Nat) : Int) := by omega
          have hpm : ((k / 64 : Nat) : Int) < (m : Int) := by omega
          have hp1 : (((k / 64 : Nat) : Int)).toNat = k / 64 := by omega
          cases hh : hasR r (k : Int) with
          | false =>
            rw [hh] at hbit
            have hst : Hid (stepM (closeK a k) k (q + 1) = stepM (closeK a k) k q) := Lib.hid (by
              rw [hsucc]
              unfold stepR
              rw [hh]
              simp only [Bool.false_eq_true, if_false]
              exact set_self hrs)
            clear hsucc hh hbh hx hrs hrq hv hoq hwq
            go_wp2_with fail
            go_roundw
            case rel => exact ⟨q + 1, by omega, by go_num, Lib.hid (by rw [hst.out]; exact hIq.out)⟩
            case measure => simp [intOf]; omega
          | true =>
            rw [hh] at hbit
            have hth : (stepM (closeK a k) k q)[k]? = some rk := stepM_through hrk.out
            obtain ⟨_, _, _, e1, hok2, _⟩ := hIq.out.2.1.2.1 k _ rk hvk.out hth
            cases e1
            have hrow := Row.of_own hok2 (hGk.out.row rk (List.mem_of_getElem? hrk.out)).1
            have hst : Hid (stepM (closeK a k) k (q + 1) = (stepM (closeK a k) k q).set q (orR r rk)) := Lib.hid (by
              rw [hsucc]
              unfold stepR
              rw [hh, if_pos rfl, getD_at hrk.out])
            have hw2 := Lib.hid (orR_w64 hwq (hGk.out.row rk (List.mem_of_getElem? hrk.out)).1)
            have hj := Lib.hid (hull_join g (w.heap.size + 3) m d dk (some ⟨gk, 0, none⟩) r rk wr hoq hwq hrow (by
              by_cases hqk : q = k
              · subst hqk
                rw [hv] at hvk
                have h1 := hvk.out
                injection h1 with h1
                injection h1 with h1 h2 h3
                refine .inr ⟨h1.symm, ?_⟩
                have h2 := hrk.out
                rw [hrq] at h2
                injection h2 with h2
                exact h2.symm
              · refine .inl (fun ad e => ?_)
                injection e with e
                subst e
                intro hgg
                have hgg' : gk = g := hgg
                subst hgg'
                exact hIq.out.2.1.2.2 q k _ _ gk hqk hv hvk.out rfl rfl) (by omega))
            replace hv := Lib.hid hv
            clear hsucc hh hbh hx hrs hrq hoq hwq hok2 hrow hth
            go_wp2_with fail
            refine hj.out.mono ?_; rintro e w2 ⟨rfl, hy, ho⟩
            have hI2 := Lib.hid (hIq.out.join hv.out hg0 ho hy hw2.out)
            clear hy ho hIq hj hcq hcx
            go_wp2_with fail
            go_roundw
            case rel => exact ⟨q + 1, by omega, by go_num, Lib.hid (by rw [hst.out]; exact hI2.out)⟩
            case measure => simp [intOf]; omega
        · obtain rfl : q = n := by omega
          have hI2 : Hid (CloseI w q A c vs (closeK a (k + 1)) wr) := Lib.hid (by
            show CloseI w q A c vs (stepM (closeK a k) k a.length) wr
            rw [hal.out]; exact hIq.out)
          clear hIq
          go_wp2_with fail
          go_roundw
          case rel => exact ⟨k + 1, by omega, by go_num, hI2⟩
          case measure => simp [intOf]; omega
    · obtain rfl : k = n := by omega
      obtain ⟨h1, h2, h3, h4, h5⟩ := hIr.out
      have l0 := h3.c0
      have f0 := h4.c0
      have f1 := h4.c1
      have g0 := h4.frozen 0
      have g1 := h4.frozen 1
      replace h1 := Lib.hid h1
      replace h2 := Lib.hid h2
      replace h3 := Lib.hid h3
      replace h4 := Lib.hid h4
      replace h5 := Lib.hid h5
      clear hIr
      go_wp2_with fail
      have hcc := h4.out.two (.int .i64 k) (.slice (some ⟨w.heap.size + 2, 0, none⟩) k k)
      have hc1 := hcc.1
      have hc2 := hcc.2
      clear hcc f0 f1 g0 g1 l0
      refine bodyPost_ret (v := .agg #[.int .i64 k, .slice (some ⟨w.heap.size + 2, 0, none⟩) k k]) (by simp [results, Try.results32, go_sem, hc1, hc2]) rfl ⟨_, _, _, rfl, ⟨vs, ?_, ?_⟩, Nat.le_refl _, ?_⟩
      · exact Rd.of_own' (own_far (own_far h1.out (p := ⟨w.heap.size + 1, 0, none⟩) (by simp [Value.ownBlock]) _) (p := ⟨w.heap.size + 1, 1, none⟩) (by simp [Value.ownBlock]) _)
      · exact ((h2.out.far (p := ⟨w.heap.size + 1, 0, none⟩) (by simp) _).far (p := ⟨w.heap.size + 1, 1, none⟩) (by simp) _).rows
      · exact (h5.out.setCell (by simp) _).setCell (by simp) _

end Go.Proofs.Ytpbiilhclmcehaa
