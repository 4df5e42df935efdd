/- Contracts of the document's own answers for matrices: Right. -/
import Derived.Test.YtkikoniihmieiaaMatRefC
namespace Go.Proofs.Ytkikoniihmieiaa
open Go.RowKit
set_option linter.unusedVariables false

theorem fitsR_bit {r : List Nat} {n j : Nat} (hj : j < 64 * r.length) (hn : n ≤ j) (h : hasR r (j : Int) = true) : fitsR r (n : Int) = false := by
  unfold fitsR
  rw [List.all_eq_false.2 ⟨j, List.mem_range.2 hj, by rw [decide_eq_false (by omega), h]; simp⟩, Bool.and_false]
theorem fitsR_yes {r : List Nat} {n : Nat} (hl : (r.length : Int) = wordsZ (n : Int)) (h : ∀ j : Nat, n ≤ j → j < 64 * r.length → hasR r (j : Int) = false) : fitsR r (n : Int) = true := by
  unfold fitsR
  rw [decide_eq_true hl, Bool.true_and, List.all_eq_true]
  intro j hj
  have hj' := List.mem_range.1 hj
  rcases Nat.lt_or_ge j n with h1 | h1
  · rw [decide_eq_true (by omega)]; rfl
  · rw [h j h1 hj']; simp

set_option maxRecDepth 100000 in
set_option maxHeartbeats 2000000 in
theorem ref3_Right (N : Int) (A : Option Addr) (n c : Nat) (xss : List (List Nat)) (w : World) (hr : RowsAt w A n xss) (hn : n ≤ 1073741824) (hl : ∀ (i : Nat) (xs : List Nat), xss[i]? = some xs → xs.length ≤ 1024) :
    Calls Try.prog 11 #[.agg #[.int .i64 N, .slice A n c]] w (RetB (rightM N xss) w) := by
  have hlen := hr.len
  obtain ⟨W0, hW0⟩ : ∃ W0, W0 = w.alloc (.cells #[.int .i64 N, .slice A n c] 24) := ⟨_, rfl⟩
  have ha : Below w.heap.size w W0 := by rw [hW0]; exact (Below.refl _ _).alloc (Nat.le_refl _) _
  have hB : MatB W0 w.heap.size 24 N A n c := by rw [hW0]; exact MatB.new w _
  have l0 := hB.c0
  have l1 := hB.c1
  have ha' := Lib.hid ha
  by_cases h1 : N < 0
  · have H := Lib.hid (rightM_out (xss := xss) (N := N) (by omega))
    clear hr ha hB hl hlen
    go_enter Try.func11, Try.ntmps11
    go_wp2_with fail
    rw [← hW0]
    clear hW0
    go_wp2_with fail
    go_ret
    rw [H.out]; exact ⟨rfl, ha'.out⟩
  by_cases h2 : 4096 < N
  · have H := Lib.hid (rightM_out (xss := xss) (N := N) (by omega))
    clear hr ha hB hl hlen
    go_enter Try.func11, Try.ntmps11
    go_wp2_with fail
    rw [← hW0]
    clear hW0
    go_wp2_with fail
    go_ret
    rw [H.out]; exact ⟨rfl, ha'.out⟩
  by_cases h3 : (n : Int) = N
  · subst h3
    have hne : ((n : Int) != (n : Int)) = false := by simp
    have hyes := Lib.hid (fun h => rightM_yes (n := n) (xss := xss) (by omega) hlen h)
    have hno := Lib.hid (fun k xs hx h => rightM_row (N := (n : Int)) (xss := xss) (k := k) (xs := xs) hx h)
    have hr' := Lib.hid (hr.below ha)
    have hnn : n ≤ 4096 := by omega
    have hwl := words_le hnn
    obtain ⟨wz, hwz⟩ : ∃ wz, wz = (wordsZ (n : Int)).toNat := ⟨_, rfl⟩
    have hwzz : wordsZ (n : Int) = (wz : Int) := by rw [hwz]; exact wordsZ_N (n : Int)
    have hnw : n ≤ 64 * wz := by
      rcases Nat.eq_zero_or_pos n with h0 | h0
      · omega
      · have := (words_pos h0).2; omega
    have hwz64 : wz ≤ 64 := by omega
    replace hwz := Lib.hid hwz
    replace hwzz := Lib.hid hwzz
    replace hB := Lib.hid hB
    replace hlen := Lib.hid hlen
    replace hl := Lib.hid hl
    clear hr h1 h2 ha hwl
    go_enter Try.func11, Try.ntmps11
    go_wp2_with fail
    rw [← hW0]
    clear hW0
    go_wp2_with fail
    clear l0 l1
    go_loopw [3] (fun i wr => ∃ k : Nat, k ≤ n ∧ i = .int .i64 k ∧ Hid (∀ (j : Nat) (xs : List Nat), j < k → xss[j]? = some xs → fitsR xs (n : Int) = true) ∧ Hid (Below W0.heap.size W0 wr)) (fun i _ => n - (intOf i).toNat)
    case atStart => exact ⟨0, Nat.zero_le _, rfl, Lib.hid (fun j xs hj => absurd hj (by omega)), Lib.hid (Below.refl _ _)⟩
    case round =>
      obtain ⟨k, hk, rfl, hall, hbr⟩ := hrel
      have l0 := (hB.out.below_ hbr.out).c0
      have l1 := (hB.out.below_ hbr.out).c1
      by_cases hlt : k < n
      · obtain ⟨b, off, B, m, d, xs, rfl, hbl, hx, hc, hxr⟩ := (hr'.out.below hbr.out).at_ hlt
        have hml : xs.length = m := hxr.len
        have hm : m ≤ 1024 := by have := hl.out k xs hx; omega
        have hk0 : (0 : Int) ≤ (k : Int) := by omega
        have hkn : (k : Int) < (n : Int) := by omega
        have hWd := Lib.hid (fun W => ref2_Words (n : Int) (by omega) (by omega) W)
        by_cases hmw : m = wz
        · have hne2 : ((m : Int) != (wz : Int)) = false := by rw [hmw]; simp
          have hfit := Lib.hid (fun h => fitsR_yes (r := xs) (n := n) (by rw [hwzz.out, hml, hmw]) h)
          have hbad := Lib.hid (fun j a b c => fitsR_bit (r := xs) (n := n) (j := j) a b c)
          have hresn := Lib.hid (hno.out k xs hx)
          have hall' : Hid (fitsR xs (n : Int) = true → ∀ (j : Nat) (ys : List Nat), j < k + 1 → xss[j]? = some ys → fitsR ys (n : Int) = true) := Lib.hid (fun hf j ys hj hy => by
            rcases Nat.lt_succ_iff_lt_or_eq.1 hj with h | h
            · exact hall.out j ys h hy
            · rw [h, hx] at hy
              injection hy with hy
              rw [← hy]; exact hf)
          have hnm : n ≤ 64 * m := by omega
          replace hml := Lib.hid hml
          replace hxr := Lib.hid hxr
          clear hx hmw
          go_wp2_with fail
          refine wp_region_plan 10 [(true, 0), (true, 1), (true, 2), (true, 3), (true, 4), (true, 5), (true, 6), (true, 7), (false, 8), (true, 9)] (by kernel_rfl) (by kernel_rfl) (fun W hW => ?_)
          have p0 : W.cell? ⟨w.heap.size, 0, none⟩ = some (.int .i64 n) := by rw [hW.out]; exact l0
          have p1 : W.cell? ⟨w.heap.size, 1, none⟩ = some (.slice (some ⟨b, off, none⟩) n c) := by rw [hW.out]; exact l1
          have p2 : W.cell? ⟨b, off + k, none⟩ = some (.slice B m d) := by rw [hW.out]; exact hc
          have hbW := Lib.hid (show Below W0.heap.size W0 W by rw [hW.out]; exact hbr.out.drew)
          have hxW := Lib.hid (show Row W B m xs by rw [hW.out]; exact hxr.out)
          clear l0 l1 hc
          simp only [List.drop_succ_cons, List.drop_nil]
          iterate 8
            refine wpPlan_float (v := ?_) rfl (by rfl) (fun w' hw' => ?_) (fun K hK => ?_)
            rotate_left
            · (go_simp; try with_reducible rfl)
            go_simp
            refine hK _ ?_
            clear hK K
          refine wpPlan_only rfl (by rfl) (fun K hK => ?_)
          go_simp
          refine (hWd.out W).mono ?_
          rintro e w' ⟨rfl, rfl⟩
          refine hK _ _ (Below.refl _ _) ?_
          clear hK K
          rw [hwzz.out]
          iterate 1
            refine wpPlan_float (v := ?_) rfl (by rfl) (fun w' hw' => ?_) (fun K hK => ?_)
            rotate_left
            · (go_simp; try with_reducible rfl)
            go_simp
            refine hK _ ?_
            clear hK K
          refine wpPlan_nil (NoPanic.normal ?_)
          go_wp2_with fail
          go_loop [4] (fun t => ∃ j : Nat, n ≤ j ∧ j ≤ 64 * m ∧ t = .int .i64 j ∧ Hid (∀ i : Nat, n ≤ i → i < j → hasR xs (i : Int) = false)) (fun t => 64 * m - (intOf t).toNat)
          case atStart => exact ⟨n, Nat.le_refl _, hnm, rfl, Lib.hid (fun i h1 h2 => by omega)⟩
          case round =>
            obtain ⟨j, hj1, hj2, rfl, hbits⟩ := hrel
            by_cases hlj : j < 64 * m
            · have hH := Lib.hid (ref2_Has B m d xs (j : Int) W hxW.out (by omega) (by omega) (by omega))
              rcases Bool.eq_false_or_eq_true (hasR xs (j : Int)) with ht | ht
              · have H := Lib.hid (hresn.out (hbad.out j (by rw [hml.out]; exact hlj) hj1 ht))
                replace ht := Lib.hid ht
                go_wp2_with fail
                refine hH.out.mono ?_; rintro e w' ⟨rfl, rfl⟩
                rw [ht.out]
                go_wp2_with fail
                go_ret
                rw [H.out]; exact ⟨rfl, below_trans2 ha'.out hbW.out⟩
              · have hbits' : Hid (∀ i : Nat, n ≤ i → i < j + 1 → hasR xs (i : Int) = false) := Lib.hid (fun i h1 h2 => by
                  rcases Nat.lt_succ_iff_lt_or_eq.1 h2 with h | h
                  · exact hbits.out i h1 h
                  · rw [h]; exact ht)
                replace ht := Lib.hid ht
                go_wp2_with fail
                refine hH.out.mono ?_; rintro e w' ⟨rfl, rfl⟩
                rw [ht.out]
                go_wp2_with fail
                go_round
                case rel => exact ⟨j + 1, by omega, by omega, by go_num, hbits'⟩
                case measure => simp [intOf]; omega
            · have hf := Lib.hid (hall'.out (hfit.out (fun i h1 h2 => hbits.out i h1 (by have := hml.out; omega))))
              go_wp2_with fail
              go_roundw
              case rel => exact ⟨k + 1, by omega, by go_num, hf, hbW⟩
              case measure => simp [intOf]; omega
        · have hne2 : ((m : Int) != (wz : Int)) = true := by rw [bne_iff_ne]; omega
          have H := Lib.hid (hno.out k xs hx (fitsR_len (by rw [hwzz.out, hml]; intro h; exact hmw (by omega))))
          clear hx hmw hxr hml
          go_wp2_with fail
          refine wp_region_plan 10 [(true, 0), (true, 1), (true, 2), (true, 3), (true, 4), (true, 5), (true, 6), (true, 7), (false, 8), (true, 9)] (by kernel_rfl) (by kernel_rfl) (fun W hW => ?_)
          have p0 : W.cell? ⟨w.heap.size, 0, none⟩ = some (.int .i64 n) := by rw [hW.out]; exact l0
          have p1 : W.cell? ⟨w.heap.size, 1, none⟩ = some (.slice (some ⟨b, off, none⟩) n c) := by rw [hW.out]; exact l1
          have p2 : W.cell? ⟨b, off + k, none⟩ = some (.slice B m d) := by rw [hW.out]; exact hc
          have hbW := Lib.hid (show Below W0.heap.size W0 W by rw [hW.out]; exact hbr.out.drew)
          clear l0 l1 hc
          simp only [List.drop_succ_cons, List.drop_nil]
          iterate 8
            refine wpPlan_float (v := ?_) rfl (by rfl) (fun w' hw' => ?_) (fun K hK => ?_)
            rotate_left
            · (go_simp; try with_reducible rfl)
            go_simp
            refine hK _ ?_
            clear hK K
          refine wpPlan_only rfl (by rfl) (fun K hK => ?_)
          go_simp
          refine (hWd.out W).mono ?_
          rintro e w' ⟨rfl, rfl⟩
          refine hK _ _ (Below.refl _ _) ?_
          clear hK K
          rw [hwzz.out]
          iterate 1
            refine wpPlan_float (v := ?_) rfl (by rfl) (fun w' hw' => ?_) (fun K hK => ?_)
            rotate_left
            · (go_simp; try with_reducible rfl)
            go_simp
            refine hK _ ?_
            clear hK K
          refine wpPlan_nil (NoPanic.normal ?_)
          go_wp2_with fail
          go_ret
          rw [H.out]; exact ⟨rfl, below_trans2 ha'.out hbW.out⟩
      · have H := Lib.hid (hyes.out (fun j xs hx => hall.out j xs (by have := (List.getElem?_eq_some_iff.1 hx).1; have := hlen.out; omega) hx))
        go_wp2_with fail
        go_ret
        rw [H.out]; exact ⟨rfl, below_trans2 ha'.out hbr.out⟩
  · have H := Lib.hid (rightM_len (xss := xss) (N := N) (by rw [hlen]; exact h3))
    have hne : ((n : Int) != N) = true := by rw [bne_iff_ne]; exact h3
    clear hr ha hB hl hlen h3
    go_enter Try.func11, Try.ntmps11
    go_wp2_with fail
    rw [← hW0]
    clear hW0
    go_wp2_with fail
    go_ret
    rw [H.out]; exact ⟨rfl, ha'.out⟩

end Go.Proofs.Ytkikoniihmieiaa
