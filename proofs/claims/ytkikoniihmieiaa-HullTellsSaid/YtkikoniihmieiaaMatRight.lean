/- Contracts of package mat: fits, Right. -/
import Derived.Test.YtkikoniihmieiaaMatOr
namespace Go.Proofs.Ytkikoniihmieiaa
open Go.RowKit
set_option linter.unusedVariables false

theorem and_ones (x t : Nat) : x &&& (2 ^ t - 1) = x % 2 ^ t := Nat.and_two_pow_sub_one_eq_mod x t
theorem mod_eq_of_bits {x t : Nat} (hx : x < 18446744073709551616) (ht : t ≤ 64) : (x % 2 ^ t = x) ↔ ∀ b, b < 64 → b < t ∨ x.testBit b = false := by
  constructor
  · intro h b hb
    rcases Nat.lt_or_ge b t with hbt | hbt
    · exact .inl hbt
    · right
      have hlt : x < 2 ^ t := by rw [← h]; exact Nat.mod_lt _ (Nat.two_pow_pos t)
      exact Nat.testBit_lt_two_pow (Nat.lt_of_lt_of_le hlt (Nat.pow_le_pow_right (by omega) hbt))
  · intro h
    apply Nat.eq_of_testBit_eq
    intro b
    rw [Nat.testBit_mod_two_pow]
    rcases Nat.lt_or_ge b t with hbt | hbt
    · simp [hbt]
    · rcases Nat.lt_or_ge b 64 with hb | hb
      · rcases h b hb with h1 | h1
        · omega
        · rw [h1]; simp
      · rw [bit_out hx hb]; simp
theorem fitsR_len {r : List Nat} {n : Int} (h : ((r.length : Int) = wordsZ n) → False) : fitsR r n = false := by
  unfold fitsR; rw [decide_eq_false h]; rfl
theorem fitsR_last {r : List Nat} {n k t x : Nat} (hn : 0 < n) (hk : r.length = k + 1) (ht : n = 64 * k + t) (ht0 : 0 < t) (ht64 : t ≤ 64) (hx : r[k]? = some x) (hx64 : x < 18446744073709551616) : fitsR r (n : Int) = (x &&& (2 ^ t - 1) == x) := by
  have hw : ((r.length : Int) = wordsZ (n : Int)) := by unfold wordsZ; rw [if_neg (by omega)]; omega
  unfold fitsR
  rw [decide_eq_true hw, Bool.true_and, Bool.eq_iff_iff, List.all_eq_true, beq_iff_eq, and_ones, mod_eq_of_bits hx64 ht64]
  have hg : r.getD k 0 = x := Row.get hx
  constructor
  · intro h b hb
    have := h (64 * k + b) (List.mem_range.2 (by omega))
    rw [hasR_w r k b hb, hg] at this
    rcases Nat.lt_or_ge b t with hbt | hbt
    · exact .inl hbt
    · right
      rw [decide_eq_false (by omega), Bool.false_or] at this
      simpa using this
  · intro h j hj
    have hj' := List.mem_range.1 hj
    rcases Nat.lt_or_ge j n with hjn | hjn
    · rw [decide_eq_true (by omega)]; rfl
    · have e : j = 64 * k + (j - 64 * k) := by omega
      rw [e, hasR_w r k (j - 64 * k) (by omega), hg]
      rcases h (j - 64 * k) (by omega) with h1 | h1
      · omega
      · rw [h1]; simp

set_option maxHeartbeats 1000000 in
theorem mat_fits (A : Option Addr) (m c : Nat) (r : List Nat) (n : Nat) (w : World) (hr : Row w A m r) (hm : m ≤ 17592186044416) (hn : 0 < n) (hn2 : n ≤ 4096) :
    Calls Try.prog 43 #[.slice A m c, .int .i64 (n : Int)] w (RetQ (.bool (fitsR r (n : Int))) w) := by
  obtain ⟨k, hk⟩ : ∃ k, k = (n - 1) / 64 := ⟨_, rfl⟩
  have hwz : wordsZ (n : Int) = ((k + 1 : Nat) : Int) := by unfold wordsZ; rw [if_neg (by omega)]; omega
  replace hwz := Lib.hid hwz
  have hml := hr.len
  by_cases h : m = k + 1
  · obtain ⟨b, off, x, rfl, hbl, hx, hx64, hc⟩ := hr.at_ (k := k) (by omega)
    obtain ⟨t, ht⟩ : ∃ t, t = n - 64 * k := ⟨_, rfl⟩
    have hF := fitsR_last (r := r) (n := n) (k := k) (t := t) hn (by omega) (by omega) (by omega) (by omega) hx hx64
    have hlow : lowZ (t : Int) = ((2 ^ t - 1 : Nat) : Int) := by
      unfold lowZ
      rw [if_neg (by omega), Int.toNat_natCast, Nat.min_eq_left (by omega), Int.ofNat_sub (Nat.two_pow_pos t)]
      simp
    have hp : 2 ^ t ≤ 18446744073709551616 := by
      have : 2 ^ t ≤ 2 ^ 64 := Nat.pow_le_pow_right (by omega) (by omega)
      simpa using this
    have hy : 2 ^ t - 1 < 18446744073709551616 := by have := Nat.two_pow_pos t; omega
    obtain ⟨y, hye⟩ : ∃ y, y = 2 ^ t - 1 := ⟨_, rfl⟩
    rw [← hye] at hF hlow hy
    have hT := andNot_eq x y hx64 hy
    have hZ := and_not_zero x y hx64 hy
    have hfin : (bits BinOp.andNot IntKind.u64 (x : Int) (y : Int) == 0) = fitsR r (n : Int) := by
      rw [hT, hF, ← hZ, Bool.eq_iff_iff, beq_iff_eq, beq_iff_eq]; omega
    replace hfin := Lib.hid hfin
    replace hlow := Lib.hid hlow
    have hL := Lib.hid (word_Low (t : Int) (by omega) (by omega))
    have hs1 : IntKind.i64.wrap ((k : Int) + 1) = (k : Int) + 1 := by rw [IntKind.wrap_i64]; omega
    have hs2 : IntKind.i64.wrap ((k : Int) * 64) = (k : Int) * 64 := by rw [IntKind.wrap_i64]; omega
    have hs3 : IntKind.i64.wrap ((n : Int) - (k : Int) * 64) = (t : Int) := by rw [IntKind.wrap_i64]; omega
    replace hs1 := Lib.hid hs1
    replace hs2 := Lib.hid hs2
    replace hs3 := Lib.hid hs3
    have hnt : (n : Int) - (k : Int) * 64 = (t : Int) := by omega
    have hk0 : (0 : Int) ≤ (k : Int) := by omega
    have hkm : (k : Int) < (m : Int) := by omega
    have heq : ((m : Int) == (k : Int) + 1) = true := by rw [beq_iff_eq]; omega
    have hkb : (k : Int) ≤ 4096 := by omega
    clear hF hT hZ hk hml h hx hr hye ht
    replace hnt := Lib.hid hnt
    go_enter Try.func43, Try.ntmps43
    go_wp2_with fail
    refine (row_Words _ (by omega) (by omega) _).mono ?_; rintro e w' ⟨rfl, rfl⟩
    rw [hwz.out]
    go_wp2_with fail
    refine wp_region_plan 19 [(true, 0), (true, 1), (true, 2), (true, 3), (true, 4), (true, 5), (true, 6), (true, 7), (true, 8), (true, 9), (true, 10), (true, 11), (true, 12), (true, 13), (false, 14), (true, 15), (true, 16), (true, 17), (true, 18)] (by kernel_rfl) (by kernel_rfl) (fun W hW => ?_)
    have hcW : W.cell? ⟨b, off + k, none⟩ = some (.int .u64 (x : Int)) := by rw [hW.out]; exact hc
    replace hs1 := hs1.out
    replace hs2 := hs2.out
    replace hs3 := hs3.out
    clear hc
    simp only [List.drop_succ_cons, List.drop_nil]
    iterate 14
      refine wpPlan_float (v := ?_) rfl (by rfl) (fun w' hw' => ?_) (fun K hK => ?_)
      rotate_left
      · (go_simp; try with_reducible rfl)
      go_simp
      refine hK _ ?_
      clear hK K
    clear hs1 hs2 hs3
    refine wpPlan_only rfl (by rfl) (fun K hK => ?_)
    go_simp
    refine (hL.out _).mono ?_
    rintro e w' ⟨rfl, rfl⟩
    refine hK _ _ (Below.refl _ _) ?_
    clear hK K
    rw [hlow.out]
    iterate 4
      refine wpPlan_float (v := ?_) rfl (by rfl) (fun w' hw' => ?_) (fun K hK => ?_)
      rotate_left
      · (go_simp; try with_reducible rfl)
      go_simp
      refine hK _ ?_
      clear hK K
    refine wpPlan_nil (NoPanic.normal ?_)
    go_wp2
    go_ret
    rw [hfin.out]
    exact ⟨rfl, 1, hW.out⟩
  · have hne : ((m : Int) == (k : Int) + 1) = false := by rw [beq_eq_false_iff_ne]; omega
    have hF := Lib.hid (fitsR_len (r := r) (n := (n : Int)) (by rw [hwz.out]; omega))
    have hs1 : IntKind.i64.wrap ((k : Int) + 1) = (k : Int) + 1 := by rw [IntKind.wrap_i64]; omega
    replace hs1 := Lib.hid hs1
    have hkb : (k : Int) ≤ 4096 := by omega
    have hk0 : (0 : Int) ≤ (k : Int) := by omega
    clear hk h hml hr
    go_enter Try.func43, Try.ntmps43
    go_wp2_with fail
    refine (row_Words _ (by omega) (by omega) _).mono ?_; rintro e w' ⟨rfl, rfl⟩
    rw [hwz.out]
    go_wp2_with fail
    refine wp_region_plan 19 [(true, 0), (true, 1), (true, 2), (true, 3), (true, 4), (true, 5), (true, 6), (true, 7), (true, 8), (true, 9), (true, 10), (true, 11), (true, 12), (true, 13), (false, 14), (true, 15), (true, 16), (true, 17), (true, 18)] (by kernel_rfl) (by kernel_rfl) (fun W hW => ?_)
    replace hs1 := hs1.out
    simp only [List.drop_succ_cons, List.drop_nil]
    iterate 6
      refine wpPlan_float (v := ?_) rfl (by rfl) (fun w' hw' => ?_) (fun K hK => ?_)
      rotate_left
      · (go_simp; try with_reducible rfl)
      go_simp
      refine hK _ ?_
      clear hK K
    clear hs1
    iterate 8
      refine wpPlan_skip rfl (by rfl) (fun K hK => ?_)
      go_simp
      refine hK _ ?_
      clear hK K
    refine wpPlan_skip' rfl (by rfl) (fun K hK => ?_)
    go_simp
    refine hK _ ?_
    clear hK K
    iterate 2
      refine wpPlan_skip rfl (by rfl) (fun K hK => ?_)
      go_simp
      refine hK _ ?_
      clear hK K
    iterate 2
      refine wpPlan_float (v := ?_) rfl (by rfl) (fun w' hw' => ?_) (fun K hK => ?_)
      rotate_left
      · (go_simp; try with_reducible rfl)
      go_simp
      refine hK _ ?_
      clear hK K
    refine wpPlan_nil (NoPanic.normal ?_)
    go_wp2
    go_ret
    rw [hF.out]
    exact ⟨rfl, 1, hW.out⟩

theorem rightM_out {N : Int} {xss : List (List Nat)} (h : N < 0 ∨ 4097 ≤ N) : rightM N xss = false := by
  unfold rightM
  rcases h with h | h
  · rw [decide_eq_false (p := 0 ≤ N) (by omega)]; rfl
  · rw [decide_eq_false (p := N ≤ 4096) (by omega)]; simp
theorem rightM_len {N : Int} {xss : List (List Nat)} (h : (xss.length : Int) ≠ N) : rightM N xss = false := by
  unfold rightM; rw [decide_eq_false h]; simp
theorem rightM_row {N : Int} {xss : List (List Nat)} {k : Nat} {xs : List Nat} (hx : xss[k]? = some xs) (h : fitsR xs N = false) : rightM N xss = false := by
  unfold rightM
  rw [List.all_eq_false.2 ⟨xs, List.mem_of_getElem? hx, by rw [h]; simp⟩, Bool.and_false]
theorem rightM_yes {n : Nat} {xss : List (List Nat)} (h1 : n ≤ 4096) (h2 : xss.length = n) (h : ∀ (k : Nat) (xs : List Nat), xss[k]? = some xs → fitsR xs (n : Int) = true) : rightM (n : Int) xss = true := by
  unfold rightM
  rw [decide_eq_true (p := (0 : Int) ≤ n) (by omega), decide_eq_true (p := (n : Int) ≤ 4096) (by omega), decide_eq_true (p := (xss.length : Int) = n) (by omega)]
  simp only [Bool.true_and, List.all_eq_true]
  intro xs hxs
  obtain ⟨k, hk⟩ := List.getElem?_of_mem hxs
  exact h k xs hk

set_option maxRecDepth 100000 in
set_option maxHeartbeats 1000000 in
theorem mat_Right (N : Int) (A : Option Addr) (n c : Nat) (xss : List (List Nat)) (w : World) (hr : RowsAt w A n xss) (hn : n ≤ 1073741824) (hl : ∀ (i : Nat) (xs : List Nat), xss[i]? = some xs → xs.length ≤ 1073741824) :
    Calls Try.prog 10 #[.agg #[.int .i64 N, .slice A n c]] w (RetB (rightM N xss) w) := by
  have hlen := hr.len
  obtain ⟨W0, hW0⟩ : ∃ W0, W0 = w.alloc (.cells #[.int .i64 N, .slice A n c] 24) := ⟨_, rfl⟩
  have ha : Below w.heap.size w W0 := by rw [hW0]; exact (Below.refl _ _).alloc (Nat.le_refl _) _
  have hB : MatB W0 w.heap.size 24 N A n c := by rw [hW0]; exact MatB.new w _
  have l0 := hB.c0
  have l1 := hB.c1
  have ha' := Lib.hid ha
  by_cases h1 : 0 ≤ N ∧ N < 4097
  · have hb := Lib.hid (belowZ_yes h1.1 h1.2)
    by_cases h2 : (n : Int) = N
    · subst h2
      have hne : ((n : Int) != (n : Int)) = false := by simp
      have hyes := Lib.hid (fun h => rightM_yes (n := n) (xss := xss) (by omega) hlen h)
      have hno := Lib.hid (fun k xs hx h => rightM_row (N := (n : Int)) (xss := xss) (k := k) (xs := xs) hx h)
      have hrr := Lib.hid (hr.below ha)
      have hnn : n ≤ 4096 := by omega
      replace hlen := Lib.hid hlen
      replace hl := Lib.hid hl
      clear hr h1 ha hB
      go_enter Try.func10, Try.ntmps10
      go_wp2_with fail
      rw [← hW0]
      clear hW0
      refine (mat_below _ _ _).mono ?_; rintro e w' ⟨rfl, rfl⟩
      rw [hb.out]
      go_wp2_with fail
      go_loopw [20] (fun i wr => ∃ k q : Nat, k ≤ n ∧ i = .int .i64 k ∧ Hid (∀ (j : Nat) (xs : List Nat), j < k → xss[j]? = some xs → fitsR xs (n : Int) = true) ∧ wr = W0.drewN q) (fun i _ => n - (intOf i).toNat)
      case atStart => exact ⟨0, 0, Nat.zero_le _, rfl, Lib.hid (fun j xs hj => absurd hj (by omega)), rfl⟩
      case round =>
        obtain ⟨k, q, hk, rfl, hall, rfl⟩ := hrel
        by_cases hlt : k < n
        · obtain ⟨b, off, B, m, d, xs, rfl, hbl, hx, hc, hxr⟩ := hrr.out.at_ hlt
          have hm : m ≤ 1073741824 := by have := hxr.len; have := hl.out k xs hx; omega
          have hk0 : (0 : Int) ≤ (k : Int) := by omega
          have hkn : (k : Int) < (n : Int) := by omega
          have hF := Lib.hid (mat_fits B m d xs n (W0.drewN q) (hxr.drewN q) (by omega) (by omega) hnn)
          rcases Bool.eq_false_or_eq_true (fitsR xs (n : Int)) with hf | hf
          · have hall' : Hid (∀ (j : Nat) (ys : List Nat), j < k + 1 → xss[j]? = some ys → fitsR ys (n : Int) = true) := Lib.hid (fun j ys hj hy => by
              rcases Nat.lt_succ_iff_lt_or_eq.1 hj with h | h
              · exact hall.out j ys h hy
              · rw [h, hx] at hy
                injection hy with hy
                rw [← hy]; exact hf)
            replace hf := Lib.hid hf
            clear hx hxr
            go_wp2_with fail
            refine hF.out.mono ?_; rintro e w' ⟨rfl, z, rfl⟩
            rw [hf.out]
            go_wp2_with fail
            go_roundw
            case rel => exact ⟨k + 1, _, by omega, by go_num, hall', rfl⟩
            case measure => simp [intOf]; omega
          · have hres := Lib.hid (hno.out k xs hx hf)
            replace hf := Lib.hid hf
            clear hx hxr
            go_wp2_with fail
            refine hF.out.mono ?_; rintro e w' ⟨rfl, z, rfl⟩
            rw [hf.out]
            go_wp2_with fail
            go_ret
            rw [hres.out]
            exact ⟨rfl, below_drewN ha'.out _⟩
        · have hres := Lib.hid (hyes.out (fun j xs hx => hall.out j xs (by have := (List.getElem?_eq_some_iff.1 hx).1; have := hlen.out; omega) hx))
          go_wp2_with fail
          go_ret
          rw [hres.out]
          exact ⟨rfl, below_drewN ha'.out q⟩
    · have hres := Lib.hid (rightM_len (xss := xss) (N := N) (by rw [hlen]; exact h2))
      have hne : ((n : Int) != N) = true := by rw [bne_iff_ne]; exact h2
      clear hr h1 h2 ha hB hl hlen
      go_enter Try.func10, Try.ntmps10
      go_wp2_with fail
      rw [← hW0]
      clear hW0
      refine (mat_below _ _ _).mono ?_; rintro e w' ⟨rfl, rfl⟩
      rw [hb.out]
      go_wp2_with fail
      go_ret
      rw [hres.out]
      exact ⟨rfl, ha'.out⟩
  · have hb := Lib.hid (belowZ_no (i := N) (n := 4097) (by omega))
    have hres := Lib.hid (rightM_out (xss := xss) (N := N) (by omega))
    clear hr h1 ha hB hl hlen
    go_enter Try.func10, Try.ntmps10
    go_wp2_with fail
    rw [← hW0]
    clear hW0
    refine (mat_below _ _ _).mono ?_; rintro e w' ⟨rfl, rfl⟩
    rw [hb.out]
    go_wp2_with fail
    go_ret
    rw [hres.out]
    exact ⟨rfl, ha'.out⟩

end Go.Proofs.Ytkikoniihmieiaa
