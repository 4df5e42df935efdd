/- The walks of the statements of layer 2. -/
import Derived.Test.YtjiinfhfeajooaaRowFacts
namespace Go.Proofs.Ytjiinfhfeajooaa
open Go.RowKit
set_option linter.unusedVariables false

theorem two_words : List.replicate (wordsN 66) 0 = [0, 0] := by decide
theorem set_0 : setR [0, 0] 0 = [1, 0] := by decide
theorem set_65 : setR [1, 0] 65 = [1, 2] := by decide
theorem count_12 : countR [1, 2] = 2 := by rw [countR_list]; decide
theorem has_65 : hasR [1, 2] 65 = true := by decide
theorem has_64 : hasR [1, 2] 64 = false := by decide
theorem same_12 : sameR [1, 2] [1, 2] = true := by decide
theorem lit_12 (W : World) : Row (W.alloc (.cells #[.int .u64 1, .int .u64 2] 38)) (some ⟨W.heap.size, 0, none⟩) 2 [1, 2] :=
  ⟨Rd.of_block (heap_alloc_new W _) rfl, by decide⟩

/-- what an example ends in -/
def RetT (w : World) (e : Ending) (w' : World) : Prop := e = .returned (.bool true) ∧ Below w.heap.size w w'

set_option maxHeartbeats 400000 in
theorem awake2 (w : World) : Calls Try.prog 7 #[] w (RetT w) := by
  have c1 := row_New 66 (by omega) (by omega) w
  rw [two_words] at c1
  replace c1 := Lib.hid c1
  have t1 := Lib.hid set_0
  have t2 := Lib.hid set_65
  have t3 := Lib.hid count_12
  have t4 := Lib.hid has_65
  have t5 := Lib.hid has_64
  have t6 := Lib.hid same_12
  go_enter Try.func7, Try.ntmps7
  go_wp2_with fail
  refine c1.out.mono ?_; rintro e w1 ⟨A1, n1, c1', rfl, h1, b1⟩
  obtain rfl : n1 = 2 := h1.len.symm
  have h1' := Lib.hid h1
  have b1' := Lib.hid b1
  clear h1 b1
  go_wp2_with fail
  refine (row_Set _ _ _ _ _ _ h1'.out (by omega) (by omega) (by omega)).mono ?_; rintro e w2 ⟨A2, n2, c2, rfl, h2, b2⟩
  rw [t1.out] at h2
  obtain rfl : n2 = 2 := h2.len.symm
  have h2' := Lib.hid h2
  have b2' := Lib.hid (below_trans2 b1'.out b2)
  clear h2 b2
  go_wp2_with fail
  refine (row_Set _ _ _ _ _ _ h2'.out (by omega) (by omega) (by omega)).mono ?_; rintro e w3 ⟨A3, n3, c3, rfl, h3, b3⟩
  rw [t2.out] at h3
  obtain rfl : n3 = 2 := h3.len.symm
  have b3' := Lib.hid (below_trans2 b2'.out b3)
  have h4 := Lib.hid (h3.below ((Below.refl _ _).alloc (Nat.le_refl _) (.cells #[.int .u64 1, .int .u64 2] 38)))
  have h5 := Lib.hid (lit_12 w3)
  have b4 := Lib.hid (b3'.out.alloc b3'.out.size (.cells #[.int .u64 1, .int .u64 2] 38))
  clear h3 b3
  go_wp2_with fail
  refine (row_Same _ _ _ _ _ _ _ _ _ h4.out h5.out (by omega) (by omega)).mono ?_; rintro e w' ⟨rfl, rfl⟩
  rw [t6.out]
  go_wp2_with fail
  refine (row_Count _ _ _ _ _ h4.out (by omega)).mono ?_; rintro e w' ⟨rfl, rfl⟩
  rw [t3.out]
  go_wp2_with fail
  refine (row_Has _ _ _ _ _ _ h4.out (by omega) (by omega) (by omega)).mono ?_; rintro e w' ⟨rfl, rfl⟩
  rw [t4.out]
  go_wp2_with fail
  refine (row_Has _ _ _ _ _ _ h4.out (by omega) (by omega) (by omega)).mono ?_; rintro e w' ⟨rfl, rfl⟩
  rw [t5.out]
  go_wp2
  go_ret
  exact ⟨rfl, b4.out⟩

theorem RetT.of {w w1 w' : World} {e : Ending} (h : RetT w1 e w') (hb : Below w.heap.size w w1) : RetT w e w' := ⟨h.1, below_trans2 hb h.2⟩

set_option maxHeartbeats 1000000 in
theorem law_RowOne (A : Option Addr) (n c : Nat) (xs : List Nat) (a1 : Int) (w : World) (hr : Row w A n xs) (hn : n ≤ 9223372036854775807) (w1 : (Lit.int .u16 a1).wf = true) :
    Calls Try.prog 6 #[.slice A n c, .int .u16 a1] w fun e w' => e = .returned (.bool true) ∧ Below w.heap.size w w' := by
  have b0 := bounds_u16 w1
  obtain ⟨i, rfl⟩ := Int.eq_ofNat_of_zero_le b0.1
  have hi : i < 65536 := by omega
  clear b0 w1
  show Calls _ _ _ w (RetT w)
  by_cases h10 : 10 < n
  · have hd : (10 : Int) < (n : Int) := by omega
    clear hr
    go_enter Try.func6, Try.ntmps6
    go_wp2_with fail
    refine (awake2 _).mono ?_; rintro e w1 ⟨rfl, hb⟩
    go_wp2
    go_ret
    exact ⟨rfl, hb⟩
  · have hd : ¬ (10 : Int) < (n : Int) := by omega
    obtain ⟨k, hk⟩ : ∃ k, k = i % 700 := ⟨_, rfl⟩
    have hk7 : k < 700 := by omega
    have hmod : (i : Int) % 700 = (k : Int) := by omega
    have hl := hr.len
    have h64 : W64 xs := hr.2
    have hset := Lib.hid (setR_twice h64 k)
    have hsub := Lib.hid (subR_setR h64 k)
    have hsl := setR_len xs (k : Int)
    have hsame := Lib.hid (sameR_refl (setR xs (k : Int)))
    have hcle : countR xs ≤ 64 * n := by have := countR_le xs; rw [hl] at this; exact this
    have hH := Lib.hid (fun W hW => row_Has A n c xs (k : Int) W hW (by omega) (by omega) (by omega))
    have hcases : (k < 64 * n ∧ Hid (hasR xs (k : Int) = true) ∧ Hid (countR (setR xs (k : Int)) = countR xs) ∧ Hid (hasR (setR xs (k : Int)) (k : Int) = true)) ∨
        (k < 64 * n ∧ Hid (hasR xs (k : Int) = false) ∧ Hid (countR (setR xs (k : Int)) = countR xs + 1) ∧ Hid (hasR (setR xs (k : Int)) (k : Int) = true)) ∨
        (¬ k < 64 * n ∧ Hid (countR (setR xs (k : Int)) = countR xs) ∧ Hid (hasR (setR xs (k : Int)) (k : Int) = false)) := by
      by_cases hin : k < 64 * n
      · have hyes : hasR (setR xs (k : Int)) (k : Int) = true := by rw [hasR_setR xs k k (by omega)]; simp
        rcases Bool.eq_false_or_eq_true (hasR xs (k : Int)) with ht | ht
        · exact .inl ⟨hin, Lib.hid ht, Lib.hid (by rw [setR_has h64 k ht]), Lib.hid hyes⟩
        · exact .inr (.inl ⟨hin, Lib.hid ht, Lib.hid (countR_setR xs k (by omega) ht), Lib.hid hyes⟩)
      · exact .inr (.inr ⟨hin, Lib.hid (by rw [setR_out (.inr (by omega))]), Lib.hid (by rw [setR_out (.inr (by omega)), hasR_out _ _ (.inr (by omega))])⟩)
    replace hr := Lib.hid hr
    replace hsl := Lib.hid hsl
    replace hl := Lib.hid hl
    clear hk h64
    rcases hcases with ⟨hin, g1, g2, g3⟩ | ⟨hin, g1, g2, g3⟩ | ⟨hin, g2, g3⟩
    · have hin' : (k : Int) < 64 * (n : Int) := by omega
      go_enter Try.func6, Try.ntmps6
      go_wp2_with fail
      refine (row_Set _ _ _ _ _ _ hr.out (by omega) (by omega) (by omega)).mono ?_; rintro e w1 ⟨A1, n1, c1, rfl, h1, b1⟩
      obtain rfl : n1 = n := by have := h1.len; rw [hsl.out, hl.out] at this; exact this.symm
      have hr1 := Lib.hid (hr.out.below b1)
      have h1' := Lib.hid h1
      have b1' := Lib.hid b1
      clear h1 b1
      go_wp2_with fail
      refine (row_Count _ _ _ _ _ hr1.out (by omega)).mono ?_; rintro e w' ⟨rfl, rfl⟩
      go_wp2_with fail
      refine (hH.out _ hr1.out).mono ?_; rintro e w' ⟨rfl, rfl⟩
      rw [g1.out]
      go_wp2_with fail
      refine (awake2 _).mono ?_; rintro e w2 ⟨rfl, b2⟩
      have h2' := Lib.hid (h1'.out.below b2)
      have hr2 := Lib.hid (hr1.out.below b2)
      have b2' := Lib.hid (below_trans2 b1'.out b2)
      clear b2
      have hrefl : ((n1 : Int) == (n1 : Int)) = true := by simp
      go_wp2_with fail
      refine (row_Count _ _ _ _ _ h2'.out (by omega)).mono ?_; rintro e w' ⟨rfl, rfl⟩
      rw [g2.out]
      go_wp2_with fail
      refine (row_Has _ _ _ _ _ _ h2'.out (by omega) (by omega) (by omega)).mono ?_; rintro e w' ⟨rfl, rfl⟩
      rw [g3.out]
      go_wp2_with fail
      refine (row_Set _ _ _ _ _ _ h2'.out (by omega) (by omega) (by omega)).mono ?_; rintro e w3 ⟨A3, n3, c3, rfl, h3, b3⟩
      rw [hset.out] at h3
      obtain rfl : n3 = n1 := by have := h3.len; rw [hsl.out, hl.out] at this; exact this.symm
      have h3' := Lib.hid h3
      have h23 := Lib.hid (h2'.out.below b3)
      have hr3 := Lib.hid (hr2.out.below b3)
      have b3' := Lib.hid (below_trans2 b2'.out b3)
      clear h3 b3
      go_wp2_with fail
      refine (row_Same _ _ _ _ _ _ _ _ _ h3'.out h23.out (by omega) (by omega)).mono ?_; rintro e w' ⟨rfl, rfl⟩
      rw [hsame.out]
      go_wp2_with fail
      refine (row_Sub _ _ _ _ _ _ _ _ _ hr3.out h23.out (by omega) (by omega)).mono ?_; rintro e w' ⟨rfl, rfl⟩
      rw [hsub.out]
      go_wp2
      go_ret
      exact ⟨rfl, b3'.out⟩
    · have hin' : (k : Int) < 64 * (n : Int) := by omega
      go_enter Try.func6, Try.ntmps6
      go_wp2_with fail
      refine (row_Set _ _ _ _ _ _ hr.out (by omega) (by omega) (by omega)).mono ?_; rintro e w1 ⟨A1, n1, c1, rfl, h1, b1⟩
      obtain rfl : n1 = n := by have := h1.len; rw [hsl.out, hl.out] at this; exact this.symm
      have hr1 := Lib.hid (hr.out.below b1)
      have h1' := Lib.hid h1
      have b1' := Lib.hid b1
      clear h1 b1
      go_wp2_with fail
      refine (row_Count _ _ _ _ _ hr1.out (by omega)).mono ?_; rintro e w' ⟨rfl, rfl⟩
      go_wp2_with fail
      refine (hH.out _ hr1.out).mono ?_; rintro e w' ⟨rfl, rfl⟩
      rw [g1.out]
      go_wp2_with fail
      refine (awake2 _).mono ?_; rintro e w2 ⟨rfl, b2⟩
      have h2' := Lib.hid (h1'.out.below b2)
      have hr2 := Lib.hid (hr1.out.below b2)
      have b2' := Lib.hid (below_trans2 b1'.out b2)
      clear b2
      have hrefl : ((n1 : Int) == (n1 : Int)) = true := by simp
      go_wp2_with fail
      refine (row_Count _ _ _ _ _ h2'.out (by omega)).mono ?_; rintro e w' ⟨rfl, rfl⟩
      rw [g2.out]
      go_wp2_with fail
      refine (row_Has _ _ _ _ _ _ h2'.out (by omega) (by omega) (by omega)).mono ?_; rintro e w' ⟨rfl, rfl⟩
      rw [g3.out]
      go_wp2_with fail
      refine (row_Set _ _ _ _ _ _ h2'.out (by omega) (by omega) (by omega)).mono ?_; rintro e w3 ⟨A3, n3, c3, rfl, h3, b3⟩
      rw [hset.out] at h3
      obtain rfl : n3 = n1 := by have := h3.len; rw [hsl.out, hl.out] at this; exact this.symm
      have h3' := Lib.hid h3
      have h23 := Lib.hid (h2'.out.below b3)
      have hr3 := Lib.hid (hr2.out.below b3)
      have b3' := Lib.hid (below_trans2 b2'.out b3)
      clear h3 b3
      go_wp2_with fail
      refine (row_Same _ _ _ _ _ _ _ _ _ h3'.out h23.out (by omega) (by omega)).mono ?_; rintro e w' ⟨rfl, rfl⟩
      rw [hsame.out]
      go_wp2_with fail
      refine (row_Sub _ _ _ _ _ _ _ _ _ hr3.out h23.out (by omega) (by omega)).mono ?_; rintro e w' ⟨rfl, rfl⟩
      rw [hsub.out]
      go_wp2
      go_ret
      exact ⟨rfl, b3'.out⟩
    · have hin' : ¬ (k : Int) < 64 * (n : Int) := by omega
      have hin2 := decide_eq_false hin'
      go_enter Try.func6, Try.ntmps6
      go_wp2_with fail
      refine (row_Set _ _ _ _ _ _ hr.out (by omega) (by omega) (by omega)).mono ?_; rintro e w1 ⟨A1, n1, c1, rfl, h1, b1⟩
      obtain rfl : n1 = n := by have := h1.len; rw [hsl.out, hl.out] at this; exact this.symm
      have hr1 := Lib.hid (hr.out.below b1)
      have h1' := Lib.hid h1
      have b1' := Lib.hid b1
      clear h1 b1
      go_wp2_with fail
      refine (row_Count _ _ _ _ _ hr1.out (by omega)).mono ?_; rintro e w' ⟨rfl, rfl⟩
      go_wp2_with fail
      refine (awake2 _).mono ?_; rintro e w2 ⟨rfl, b2⟩
      have h2' := Lib.hid (h1'.out.below b2)
      have hr2 := Lib.hid (hr1.out.below b2)
      have b2' := Lib.hid (below_trans2 b1'.out b2)
      clear b2
      have hrefl : ((n1 : Int) == (n1 : Int)) = true := by simp
      go_wp2_with fail
      refine (row_Count _ _ _ _ _ h2'.out (by omega)).mono ?_; rintro e w' ⟨rfl, rfl⟩
      rw [g2.out]
      go_wp2_with fail
      refine (row_Has _ _ _ _ _ _ h2'.out (by omega) (by omega) (by omega)).mono ?_; rintro e w' ⟨rfl, rfl⟩
      rw [g3.out]
      go_wp2_with fail
      refine (row_Set _ _ _ _ _ _ h2'.out (by omega) (by omega) (by omega)).mono ?_; rintro e w3 ⟨A3, n3, c3, rfl, h3, b3⟩
      rw [hset.out] at h3
      obtain rfl : n3 = n1 := by have := h3.len; rw [hsl.out, hl.out] at this; exact this.symm
      have h3' := Lib.hid h3
      have h23 := Lib.hid (h2'.out.below b3)
      have hr3 := Lib.hid (hr2.out.below b3)
      have b3' := Lib.hid (below_trans2 b2'.out b3)
      clear h3 b3
      go_wp2_with fail
      refine (row_Same _ _ _ _ _ _ _ _ _ h3'.out h23.out (by omega) (by omega)).mono ?_; rintro e w' ⟨rfl, rfl⟩
      rw [hsame.out]
      go_wp2_with fail
      refine (row_Sub _ _ _ _ _ _ _ _ _ hr3.out h23.out (by omega) (by omega)).mono ?_; rintro e w' ⟨rfl, rfl⟩
      rw [hsub.out]
      go_wp2
      go_ret
      exact ⟨rfl, b3'.out⟩

set_option maxHeartbeats 1000000 in
theorem law_RowSets (A B : Option Addr) (n m c d : Nat) (xs ys : List Nat) (w : World) (hr : Row w A n xs) (hs : Row w B m ys) (hn : n ≤ 9223372036854775807) (hm : m ≤ 9223372036854775807) :
    Calls Try.prog 5 #[.slice A n c, .slice B m d] w fun e w' => e = .returned (.bool true) ∧ Below w.heap.size w w' := by
  show Calls _ _ _ w (RetT w)
  by_cases h10 : 10 < n
  · have hd : (10 : Int) < (n : Int) := by omega
    clear hr hs
    go_enter Try.func5, Try.ntmps5
    go_wp2_with fail
    refine (awake2 _).mono ?_; rintro e w1 ⟨rfl, hb⟩
    go_wp2
    go_ret
    exact ⟨rfl, hb⟩
  have hd : ¬ (10 : Int) < (n : Int) := by omega
  by_cases h11 : 10 < m
  · have hd2 : (10 : Int) < (m : Int) := by omega
    clear hr hs
    go_enter Try.func5, Try.ntmps5
    go_wp2_with fail
    refine (awake2 _).mono ?_; rintro e w1 ⟨rfl, hb⟩
    go_wp2
    go_ret
    exact ⟨rfl, hb⟩
  have hd2 : ¬ (10 : Int) < (m : Int) := by omega
  have hor := Lib.hid (hasR_orR xs ys)
  have hs1 := Lib.hid (subR_orl (b := ys) hr.2)
  have hs2 := Lib.hid (subR_orr (a := xs) hs.2)
  have hsame := sameR_refl (orR xs ys)
  have hsame' : sameR (orR xs ys) (orR ys xs) = true := by rw [orR_comm ys xs]; exact hsame
  replace hsame' := Lib.hid hsame'
  have hcnt := Lib.hid (subR_count (b := ys) hr.2)
  have hfin : (decide (countR (orR xs ys) = countR ys) == (((countR (orR xs ys) : Nat) : Int) == ((countR ys : Nat) : Int))) = true := by
    rw [beq_iff_eq, Bool.eq_iff_iff, decide_eq_true_iff, beq_iff_eq]; omega
  replace hfin := Lib.hid hfin
  have hmem := listN_mem (orR xs ys)
  have hcle : countR (orR xs ys) ≤ 640 := by have := countR_le (orR xs ys); rw [orR_len, hr.len, hs.len] at this; omega
  have hcy : countR ys ≤ 640 := by have := countR_le ys; rw [hs.len] at this; omega
  have hol : (orR xs ys).length = max n m := by rw [orR_len, hr.len, hs.len]
  have hol2 : (orR ys xs).length = max m n := by rw [orR_len, hr.len, hs.len]
  replace hol := Lib.hid hol
  replace hol2 := Lib.hid hol2
  replace hmem := Lib.hid hmem
  replace hr := Lib.hid hr
  replace hs := Lib.hid hs
  clear hsame
  go_enter Try.func5, Try.ntmps5
  go_wp2_with fail
  refine (row_Or _ _ _ _ _ _ _ _ _ hr.out hs.out (by omega) (by omega)).mono ?_; rintro e w1 ⟨A1, n1, c1, rfl, h1, b1⟩
  have hn1 : n1 ≤ 10 := by have := h1.len; rw [hol.out] at this; omega
  have hr1 := Lib.hid (hr.out.below b1)
  have hs1' := Lib.hid (hs.out.below b1)
  have h1' := Lib.hid h1
  have b1' := Lib.hid b1
  clear h1 b1 hr hs
  go_wp2_with fail
  refine (row_List _ _ _ _ _ h1'.out (by omega)).mono ?_; rintro e w2 ⟨A2, n2, c2, rfl, h2, b2⟩
  have hn2 : n2 ≤ 640 := by have := h2.len; rw [listR_len] at this; omega
  have h12 := Lib.hid (h1'.out.below b2)
  have hr2 := Lib.hid (hr1.out.below b2)
  have hs2' := Lib.hid (hs1'.out.below b2)
  have b2' := Lib.hid (below_trans2 b1'.out b2)
  have h2' := Lib.hid h2
  clear h2 b2 h1' hr1 hs1' b1'
  go_wp2
  go_loop [7] (fun i => ∃ k : Nat, k ≤ n2 ∧ i = .int .i64 k) (fun i => n2 - (intOf i).toNat)
  case atStart => exact ⟨0, Nat.zero_le _, rfl⟩
  case round =>
    obtain ⟨k, hk, rfl⟩ := hrel
    by_cases hlt : k < n2
    · obtain ⟨b, off, z, rfl, hbk, hz, hz64, hc⟩ := h2'.out.at_ hlt
      obtain ⟨i, hi, rfl⟩ : ∃ i, (listN (orR xs ys))[k]? = some i ∧ z = Int.ofNat i := by
        unfold listR at hz
        rw [List.getElem?_map] at hz
        cases hx : (listN (orR xs ys))[k]? with
        | none => rw [hx] at hz; cases hz
        | some i => rw [hx] at hz; exact ⟨i, rfl, by simpa using hz.symm⟩
      have hc' : w2.cell? ⟨b, off + k, none⟩ = some (.int .i64 (i : Int)) := hc
      have hbit := ((hmem.out i).1 (List.mem_of_getElem? hi)).2
      rw [hor.out i] at hbit
      have hH := Lib.hid (row_Has A n c xs (i : Int) w2 hr2.out (by omega) hz64.1 hz64.2)
      have hH2 := Lib.hid (row_Has B m d ys (i : Int) w2 hs2'.out (by omega) hz64.1 hz64.2)
      clear hc hz hz64 hi
      rcases Bool.eq_false_or_eq_true (hasR xs (i : Int)) with ht | ht
      · rw [ht] at hH
        clear ht hbit hH2
        go_wp2_with fail
        refine hH.out.mono ?_; rintro e w' ⟨rfl, rfl⟩
        go_wp2
        go_round
        case rel => exact ⟨k + 1, by omega, by go_num⟩
        case measure => simp [intOf]; omega
      · rw [ht, Bool.false_or] at hbit
        rw [ht] at hH
        rw [hbit] at hH2
        clear ht hbit
        go_wp2_with fail
        refine hH.out.mono ?_; rintro e w' ⟨rfl, rfl⟩
        go_wp2_with fail
        refine hH2.out.mono ?_; rintro e w' ⟨rfl, rfl⟩
        go_wp2
        go_round
        case rel => exact ⟨k + 1, by omega, by go_num⟩
        case measure => simp [intOf]; omega
    · clear h2'
      go_wp2_with fail
      refine (awake2 _).mono ?_; rintro e w3 ⟨rfl, b3⟩
      have h13 := Lib.hid (h12.out.below b3)
      have hr3 := Lib.hid (hr2.out.below b3)
      have hs3 := Lib.hid (hs2'.out.below b3)
      have b3' := Lib.hid (below_trans2 b2'.out b3)
      clear b3 h12 hr2 hs2' b2'
      go_wp2_with fail
      refine (row_Sub _ _ _ _ _ _ _ _ _ hr3.out h13.out (by omega) (by omega)).mono ?_; rintro e w' ⟨rfl, rfl⟩
      rw [hs1.out]
      go_wp2_with fail
      refine (row_Sub _ _ _ _ _ _ _ _ _ hs3.out h13.out (by omega) (by omega)).mono ?_; rintro e w' ⟨rfl, rfl⟩
      rw [hs2.out]
      go_wp2_with fail
      refine (row_Or _ _ _ _ _ _ _ _ _ hs3.out hr3.out (by omega) (by omega)).mono ?_; rintro e w4 ⟨A4, n4, c4, rfl, h4, b4⟩
      have hn4 : n4 ≤ 10 := by have := h4.len; rw [hol2.out] at this; omega
      have h14 := Lib.hid (h13.out.below b4)
      have hr4 := Lib.hid (hr3.out.below b4)
      have hs4 := Lib.hid (hs3.out.below b4)
      have b4' := Lib.hid (below_trans2 b3'.out b4)
      have h4' := Lib.hid h4
      clear h4 b4 h13 hr3 hs3 b3'
      go_wp2_with fail
      refine (row_Same _ _ _ _ _ _ _ _ _ h14.out h4'.out (by omega) (by omega)).mono ?_; rintro e w' ⟨rfl, rfl⟩
      rw [hsame'.out]
      go_wp2_with fail
      refine (row_Sub _ _ _ _ _ _ _ _ _ hr4.out hs4.out (by omega) (by omega)).mono ?_; rintro e w' ⟨rfl, rfl⟩
      rw [hcnt.out]
      go_wp2_with fail
      refine (row_Or _ _ _ _ _ _ _ _ _ hr4.out hs4.out (by omega) (by omega)).mono ?_; rintro e w5 ⟨A5, n5, c5, rfl, h5, b5⟩
      have hn5 : n5 ≤ 10 := by have := h5.len; rw [hol.out] at this; omega
      have hs5 := Lib.hid (hs4.out.below b5)
      have b5' := Lib.hid (below_trans2 b4'.out b5)
      have h5' := Lib.hid h5
      clear h5 b5 h14 hr4 hs4 b4'
      go_wp2_with fail
      refine (row_Count _ _ _ _ _ h5'.out (by omega)).mono ?_; rintro e w' ⟨rfl, rfl⟩
      go_wp2_with fail
      refine (row_Count _ _ _ _ _ hs5.out (by omega)).mono ?_; rintro e w' ⟨rfl, rfl⟩
      go_wp2
      go_ret
      exact ⟨ret_bool hfin.out, b5'.out⟩

end Go.Proofs.Ytjiinfhfeajooaa
