/- Contracts of the document's own answers for rows: Sub, Set, Or. -/
import Derived.Test.YtlfdmjlllikmcaaRowRef
namespace Go.Proofs.Ytlfdmjlllikmcaa
open Go.RowKit
set_option linter.unusedVariables false

theorem all_no (b : List Nat) (l : List Nat) (k i : Nat) (h : l[k]? = some i) (hh : hasR b (i : Int) = false) : (l.all fun i : Nat => hasR b (i : Int)) = false := by
  rw [List.all_eq_false]; exact ⟨i, List.mem_of_getElem? h, by rw [hh]; simp⟩
theorem all_yes (b : List Nat) (l : List Nat) (h : ∀ k i : Nat, l[k]? = some i → hasR b (i : Int) = true) : (l.all fun i : Nat => hasR b (i : Int)) = true := by
  rw [List.all_eq_true]; intro i hi
  obtain ⟨k, hk⟩ := List.getElem?_of_mem hi
  exact h k i hk
set_option maxHeartbeats 400000 in
theorem ref2_Sub (A B : Option Addr) (n m c d : Nat) (xs ys : List Nat) (w : World) (hr : Row w A n xs) (hs : Row w B m ys) (hn : n ≤ 1073741824) (hm : m ≤ 1073741824) :
    Calls Try.prog 52 #[.slice A n c, .slice B m d] w fun e w' => e = .returned (.bool (subR xs ys)) ∧ Below w.heap.size w w' := by
  have hcl := Lib.hid (ref2_List A n c xs w hr hn)
  have hsub := Lib.hid (subR_list xs ys hr.2)
  have hlen := (listR_len xs)
  have hcle : countR xs ≤ 64 * n := by have := countR_le xs; rw [hr.len] at this; exact this
  replace hlen := Lib.hid hlen
  clear hr
  replace hs := Lib.hid hs
  go_enter Try.func52, Try.ntmps52
  go_wp2_with fail
  refine hcl.out.mono ?_; rintro e w1 ⟨A1, n1, c1, rfl, hI, hb⟩
  have hn1 : n1 ≤ 64 * n := by have := hI.len; rw [hlen.out] at this; omega
  have hs1 := Lib.hid (hs.out.below hb)
  replace hI := Lib.hid hI
  replace hb := Lib.hid hb
  go_wp2
  go_loop [6] (fun i => ∃ k : Nat, k ≤ n1 ∧ i = .int .i64 k ∧ Hid (∀ j i : Nat, j < k → (listN xs)[j]? = some i → hasR ys (i : Int) = true)) (fun i => n1 - (intOf i).toNat)
  case atStart => exact ⟨0, Nat.zero_le _, rfl, Lib.hid (fun j i hj => absurd hj (by omega))⟩
  case round =>
    obtain ⟨k, hk, rfl, hall⟩ := hrel
    by_cases hlt : k < n1
    · obtain ⟨b, off, z, rfl, hbk, hz, hz64, hc⟩ := hI.out.at_ hlt
      obtain ⟨i, hi, rfl⟩ : ∃ i, (listN xs)[k]? = some i ∧ z = Int.ofNat i := by
        unfold listR at hz
        rw [List.getElem?_map] at hz
        cases hx : (listN xs)[k]? with
        | none => rw [hx] at hz; cases hz
        | some i => rw [hx] at hz; exact ⟨i, rfl, by simpa using hz.symm⟩
      have hc' : w1.cell? ⟨b, off + k, none⟩ = some (.int .i64 (i : Int)) := hc
      have hH := Lib.hid (ref2_Has B m d ys (i : Int) w1 hs1.out hm hz64.1 hz64.2)
      clear hc hz hz64
      rcases Bool.eq_false_or_eq_true (hasR ys (i : Int)) with ht | ht
      · have hall' : Hid (∀ j i : Nat, j < k + 1 → (listN xs)[j]? = some i → hasR ys (i : Int) = true) := Lib.hid (fun j i' hj hi' => by
          rcases Nat.lt_succ_iff_lt_or_eq.1 hj with h | h
          · exact hall.out j i' h hi'
          · rw [h, hi] at hi'; injection hi' with hi'; rw [← hi']; exact ht)
        rw [ht] at hH
        clear ht hi
        go_wp2_with fail
        refine hH.out.mono ?_; rintro e w' ⟨rfl, rfl⟩
        go_wp2
        go_round
        case rel => exact ⟨k + 1, by omega, by go_num, hall'⟩
        case measure => simp [intOf]; omega
      · have hno := Lib.hid (all_no ys (listN xs) k i hi ht)
        rw [ht] at hH
        clear ht hi
        go_wp2_with fail
        refine hH.out.mono ?_; rintro e w' ⟨rfl, rfl⟩
        go_wp2
        go_ret
        rw [hsub.out, hno.out]; exact ⟨rfl, hb.out⟩
    · have hyes := Lib.hid (all_yes ys (listN xs) (fun j i hi => hall.out j i (by
        have h1 := hI.out.len
        have h2 : (listR xs).length = (listN xs).length := List.length_map _
        have := (List.getElem?_eq_some_iff.1 hi).1
        omega) hi))
      go_wp2
      go_ret
      rw [hsub.out, hyes.out]; exact ⟨rfl, hb.out⟩

theorem orP_lt (N k : Nat) (a b : List Nat) (ha : ∀ x ∈ a, x < 18446744073709551616) (hb : ∀ x ∈ b, x < 18446744073709551616) : ∀ x ∈ orP N k a b, x < 18446744073709551616 := by
  have hd : ∀ (l : List Nat), (∀ x ∈ l, x < 18446744073709551616) → ∀ j, l.getD j 0 < 18446744073709551616 := fun l hl j => by
    rw [List.getD_eq_getElem?_getD]
    cases hx : l[j]? with
    | none => simp
    | some x => simpa using hl x (List.mem_of_getElem? hx)
  intro x hx
  unfold orP at hx
  obtain ⟨j, _, rfl⟩ := List.mem_map.1 hx
  split
  · exact Nat.or_lt_two_pow (n := 64) (hd a ha j) (hd b hb j)
  · decide
theorem orP_len (N k : Nat) (a b : List Nat) : (orP N k a b).length = N := by simp [orP]
set_option maxHeartbeats 1000000 in
theorem ref2_Or_lt (A B : Option Addr) (n m c d : Nat) (xs ys : List Nat) (w : World) (hr : Row w A n xs) (hs : Row w B m ys) (hn : n ≤ 1073741824) (hm : m ≤ 1073741824) (h : n < m) :
    Calls Try.prog 40 #[.slice A n c, .slice B m d] w (RetRowO 47 (orR xs ys) w) := by
  have hl := Lib.hid hr.len
  have hl2 := Lib.hid hs.len
  have hmk := mk_u64 .i64 .i64 m m (Nat.le_refl _) (by omega)
  have hall := Lib.hid (orP_all m xs ys (by rw [hl.out, hl2.out]; omega))
  have hlt := Lib.hid (orP_lt m m xs ys hr.2 hs.2)
  have hown0 := own_zeros w m (.int .u64 0) 47 (by unfold maxLen; omega)
  have hz0 : List.replicate m (Value.int .u64 0) = (orP m 0 xs ys).map u64v := by rw [orP_zero, replicate_zero_u64]
  rw [hz0] at hown0
  replace hown0 := Lib.hid hown0
  clear hz0
  replace hr := Lib.hid hr
  replace hs := Lib.hid hs
  go_enter Try.func40, Try.ntmps40
  go_wp2
  go_loopw [6] (fun i wr => ∃ k : Nat, k ≤ m ∧ i = .int .i64 k ∧ wr.ownsRow w.heap.size 47 1 (.slice (some ⟨w.heap.size, 0, none⟩) m m) m ((orP m k xs ys).map u64v) ∧ Below w.heap.size w wr) (fun i _ => m - (intOf i).toNat)
  case atStart => exact ⟨0, Nat.zero_le _, rfl, hown0.out, (Below.refl _ _).alloc (Nat.le_refl _) _⟩
  case round =>
    obtain ⟨k, hk, rfl, hown, hb⟩ := hrel
    clear hown0 hmk
    by_cases hlt' : k < m
    · obtain ⟨z, hcg⟩ : ∃ z : Int, wr.cell? ⟨w.heap.size, k, none⟩ = some (.int .u64 z) := by
        have h0 := hown.cellAt k (by omega)
        rw [List.getElem?_map, List.getElem?_eq_getElem (by rw [orP_len]; exact hlt')] at h0
        exact ⟨_, h0⟩
      have hf := hown.frozenAt k
      have hst := orP_set m k xs ys
      by_cases h1 : k < n
      · obtain ⟨b, off, x, rfl, hbk, hx, hx64, hc⟩ := (hr.out.below hb).at_ h1
        rw [Row.get hx] at hst
        clear hx
        have hown1 := (hown.stored k (u64v x)).1
        have hb1 := hb.setCell (p := ⟨w.heap.size, k, none⟩) (Nat.le_refl _) (u64v x)
        by_cases h2 : k < m
        · obtain ⟨b2, off2, y, rfl, hbk2, hy, hy64, hc2⟩ := (hs.out.below hb1).at_ h2
          rw [Row.get hy] at hst
          clear hy
          have hE := Lib.hid (orv x y hx64 hy64)
          have hst' := Lib.hid hst
          have hcg1 := hown1.cellAt k (by omega)
          rw [List.getElem?_set_self (by rw [List.length_map, orP_len]; exact hlt')] at hcg1
          have hf1 := hown1.frozenAt k
          clear hst
          go_wp2
          refine still_tail 12 (by kernel_rfl) (by kernel_rfl) (fun W hW => ?_)
          have hcW : W.cell? ⟨w.heap.size, k, none⟩ = some (.int .u64 (x : Int)) := by rw [hW.out]; exact hcg1
          have hfW : W.frozen? ⟨w.heap.size, k, none⟩ = false := by rw [hW.out]; exact hf1
          have hcW2 : W.cell? ⟨b2, off2 + k, none⟩ = some (.int .u64 (y : Int)) := by rw [hW.out]; exact hc2
          have hownW := hown1.drew
          have hbW := hb1.drew
          rw [show ((wr.setCell ⟨w.heap.size, k, none⟩ (u64v x)).drew) = W from hW.out.symm] at hownW hbW
          clear hcg hf hcg1 hf1 hc hc2 hown1 hb1 hown hb
          simp only [List.take_succ_cons, List.take_zero, List.drop_succ_cons, List.drop_zero]
          have hk0 : (0 : Int) ≤ (k : Int) := by omega
          have hkN : (k : Int) < (m : Int) := by omega
          have hkm : (k : Int) < (m : Int) := by omega
          repeat still_step
          refine wpStill_nil ?_
          go_wp2
          go_roundw
          case rel =>
            refine ⟨k + 1, by omega, by go_num, ?_, hbW.setCell (Nat.le_refl _) _⟩
            rw [hE.out, ← hst'.out, List.map_set]
            have := (hownW.stored k (u64v (x ||| y))).1
            rwa [List.set_set] at this
          case measure => simp [intOf]; omega
        · omega
      · have h2 : k < m := by omega
        obtain ⟨b2, off2, y, rfl, hbk2, hy, hy64, hc2⟩ := (hs.out.below hb).at_ h2
        have hz : z = 0 := by
          have hz := hown.cellAt k (by omega)
          rw [hcg, List.getElem?_map] at hz
          unfold orP at hz
          rw [List.getElem?_map, List.getElem?_range hlt'] at hz
          simpa [u64v] using hz
        subst hz
        rw [Row.get hy, getD_out xs k (by rw [hl.out]; omega)] at hst
        clear hy
        have hE := Lib.hid (orv 0 y (by omega) hy64)
        have hst' := Lib.hid hst
        clear hst
        go_wp2
        refine still_tail 12 (by kernel_rfl) (by kernel_rfl) (fun W hW => ?_)
        have hcW : W.cell? ⟨w.heap.size, k, none⟩ = some (.int .u64 0) := by rw [hW.out]; exact hcg
        have hfW : W.frozen? ⟨w.heap.size, k, none⟩ = false := by rw [hW.out]; exact hf
        have hcW2 : W.cell? ⟨b2, off2 + k, none⟩ = some (.int .u64 (y : Int)) := by rw [hW.out]; exact hc2
        have hownW := hown.drew
        have hbW := hb.drew
        rw [← hW.out] at hownW hbW
        clear hcg hf hc2 hown hb
        simp only [List.take_succ_cons, List.take_zero, List.drop_succ_cons, List.drop_zero]
        have hk0 : (0 : Int) ≤ (k : Int) := by omega
        have hkN : (k : Int) < (m : Int) := by omega
        have hkm : (k : Int) < (m : Int) := by omega
        repeat still_step
        refine wpStill_nil ?_
        go_wp2
        go_roundw
        case rel =>
          refine ⟨k + 1, by omega, by go_num, ?_, hbW.setCell (Nat.le_refl _) _⟩
          rw [show (0 : Int) = ((0 : Nat) : Int) from rfl, hE.out, ← hst'.out, List.map_set]
          exact (hownW.stored k (u64v (0 ||| y))).1
        case measure => simp [intOf]; omega
    · obtain rfl : k = m := by omega
      go_wp2
      go_ret
      rw [← hall.out]
      exact own_ret hown hlt.out (hb)
set_option maxHeartbeats 1000000 in
theorem ref2_Or_ge (A B : Option Addr) (n m c d : Nat) (xs ys : List Nat) (w : World) (hr : Row w A n xs) (hs : Row w B m ys) (hn : n ≤ 1073741824) (hm : m ≤ 1073741824) (h : ¬ n < m) :
    Calls Try.prog 40 #[.slice A n c, .slice B m d] w (RetRowO 47 (orR xs ys) w) := by
  have hl := Lib.hid hr.len
  have hl2 := Lib.hid hs.len
  have hmk := mk_u64 .i64 .i64 n n (Nat.le_refl _) (by omega)
  have hall := Lib.hid (orP_all n xs ys (by rw [hl.out, hl2.out]; omega))
  have hlt := Lib.hid (orP_lt n n xs ys hr.2 hs.2)
  have hown0 := own_zeros w n (.int .u64 0) 47 (by unfold maxLen; omega)
  have hz0 : List.replicate n (Value.int .u64 0) = (orP n 0 xs ys).map u64v := by rw [orP_zero, replicate_zero_u64]
  rw [hz0] at hown0
  replace hown0 := Lib.hid hown0
  clear hz0
  replace hr := Lib.hid hr
  replace hs := Lib.hid hs
  go_enter Try.func40, Try.ntmps40
  go_wp2
  go_loopw [6] (fun i wr => ∃ k : Nat, k ≤ n ∧ i = .int .i64 k ∧ wr.ownsRow w.heap.size 47 1 (.slice (some ⟨w.heap.size, 0, none⟩) n n) n ((orP n k xs ys).map u64v) ∧ Below w.heap.size w wr) (fun i _ => n - (intOf i).toNat)
  case atStart => exact ⟨0, Nat.zero_le _, rfl, hown0.out, (Below.refl _ _).alloc (Nat.le_refl _) _⟩
  case round =>
    obtain ⟨k, hk, rfl, hown, hb⟩ := hrel
    clear hown0 hmk
    by_cases hlt' : k < n
    · obtain ⟨z, hcg⟩ : ∃ z : Int, wr.cell? ⟨w.heap.size, k, none⟩ = some (.int .u64 z) := by
        have h0 := hown.cellAt k (by omega)
        rw [List.getElem?_map, List.getElem?_eq_getElem (by rw [orP_len]; exact hlt')] at h0
        exact ⟨_, h0⟩
      have hf := hown.frozenAt k
      have hst := orP_set n k xs ys
      by_cases h1 : k < n
      · obtain ⟨b, off, x, rfl, hbk, hx, hx64, hc⟩ := (hr.out.below hb).at_ h1
        rw [Row.get hx] at hst
        clear hx
        have hown1 := (hown.stored k (u64v x)).1
        have hb1 := hb.setCell (p := ⟨w.heap.size, k, none⟩) (Nat.le_refl _) (u64v x)
        by_cases h2 : k < m
        · obtain ⟨b2, off2, y, rfl, hbk2, hy, hy64, hc2⟩ := (hs.out.below hb1).at_ h2
          rw [Row.get hy] at hst
          clear hy
          have hE := Lib.hid (orv x y hx64 hy64)
          have hst' := Lib.hid hst
          have hcg1 := hown1.cellAt k (by omega)
          rw [List.getElem?_set_self (by rw [List.length_map, orP_len]; exact hlt')] at hcg1
          have hf1 := hown1.frozenAt k
          clear hst
          go_wp2
          refine still_tail 12 (by kernel_rfl) (by kernel_rfl) (fun W hW => ?_)
          have hcW : W.cell? ⟨w.heap.size, k, none⟩ = some (.int .u64 (x : Int)) := by rw [hW.out]; exact hcg1
          have hfW : W.frozen? ⟨w.heap.size, k, none⟩ = false := by rw [hW.out]; exact hf1
          have hcW2 : W.cell? ⟨b2, off2 + k, none⟩ = some (.int .u64 (y : Int)) := by rw [hW.out]; exact hc2
          have hownW := hown1.drew
          have hbW := hb1.drew
          rw [show ((wr.setCell ⟨w.heap.size, k, none⟩ (u64v x)).drew) = W from hW.out.symm] at hownW hbW
          clear hcg hf hcg1 hf1 hc hc2 hown1 hb1 hown hb
          simp only [List.take_succ_cons, List.take_zero, List.drop_succ_cons, List.drop_zero]
          have hk0 : (0 : Int) ≤ (k : Int) := by omega
          have hkN : (k : Int) < (n : Int) := by omega
          have hkm : (k : Int) < (m : Int) := by omega
          repeat still_step
          refine wpStill_nil ?_
          go_wp2
          go_roundw
          case rel =>
            refine ⟨k + 1, by omega, by go_num, ?_, hbW.setCell (Nat.le_refl _) _⟩
            rw [hE.out, ← hst'.out, List.map_set]
            have := (hownW.stored k (u64v (x ||| y))).1
            rwa [List.set_set] at this
          case measure => simp [intOf]; omega
        · rw [getD_out ys k (by rw [hl2.out]; omega), Nat.or_zero] at hst
          replace hst := Lib.hid hst
          clear hown hb
          go_wp2
          go_roundw
          case rel =>
            refine ⟨k + 1, by omega, by go_num, ?_, hb1⟩
            rw [← hst.out, List.map_set]; exact hown1
          case measure => simp [intOf]; omega
      · omega
    · obtain rfl : k = n := by omega
      go_wp2
      go_ret
      rw [← hall.out]
      exact own_ret hown hlt.out (hb)
theorem ref2_OrO (A B : Option Addr) (n m c d : Nat) (xs ys : List Nat) (w : World) (hr : Row w A n xs) (hs : Row w B m ys) (hn : n ≤ 1073741824) (hm : m ≤ 1073741824) :
    Calls Try.prog 40 #[.slice A n c, .slice B m d] w (RetRowO 47 (orR xs ys) w) := by
  by_cases h : n < m
  · exact ref2_Or_lt A B n m c d xs ys w hr hs hn hm h
  · exact ref2_Or_ge A B n m c d xs ys w hr hs hn hm h
theorem ref2_Or (A B : Option Addr) (n m c d : Nat) (xs ys : List Nat) (w : World) (hr : Row w A n xs) (hs : Row w B m ys) (hn : n ≤ 1073741824) (hm : m ≤ 1073741824) :
    Calls Try.prog 40 #[.slice A n c, .slice B m d] w (RetRow (orR xs ys) w) := (ref2_OrO A B n m c d xs ys w hr hs hn hm).mono fun _ _ h => h.row

end Go.Proofs.Ytlfdmjlllikmcaa
