/- Contracts of the document's own answers for rows (package eyewitnessref02). Contracts of the document's own answers for rows: Sub, Set, Or. Contracts of the document's own answers for rows: Set. -/
import Derived.Test.YtkikoniihmieiaaRowB
import Derived.Laws.AppendOwnNone
namespace Go.Proofs.Ytkikoniihmieiaa
open Go.RowKit
set_option linter.unusedVariables false

/-- what a call that only reads ends in -/
def RetQ (v : Value) (w : World) (e : Ending) (w' : World) : Prop := e = .returned v ∧ ∃ k, w' = w.drewN k
theorem RetQ.below {w w' : World} {e : Ending} {v : Value} (h : RetQ v w e w') : Below w.heap.size w w' := by
  obtain ⟨_, k, rfl⟩ := h; exact below_drewN (Below.refl _ _) k

set_option maxHeartbeats 400000 in
theorem ref2_Words (n : Int) (h1 : -9223372036854775808 ≤ n) (h2 : n ≤ 1099511627776) (w : World) :
    Calls Try.prog 44 #[.int .i64 n] w fun e w' => e = .returned (.int .i64 (wordsZ n)) ∧ w = w' := by
  by_cases h : n < 0
  · have H := Lib.hid (show wordsZ n = 0 from if_pos h)
    go_enter Try.func44, Try.ntmps44
    go_wp2
    go_ret
    rw [H.out]; exact ⟨rfl, rfl⟩
  · have H := Lib.hid (wordsZ_nat n (by omega))
    go_enter Try.func44, Try.ntmps44
    go_wp2
    go_ret
    rw [H.out]; exact ⟨rfl, rfl⟩

set_option maxHeartbeats 400000 in
theorem ref2_NewO (n : Int) (h1 : -9223372036854775808 ≤ n) (h2 : n ≤ 1099511627776) (w : World) :
    Calls Try.prog 76 #[.int .i64 n] w (RetRowO 56 (List.replicate (wordsN n) 0) w) := by
  have hw := Lib.hid (wordsZ_N n)
  have hle := wordsN_le n h2
  have hmk := mk_u64 .i64 .i64 (wordsN n) (wordsN n) (Nat.le_refl _) (by omega)
  go_enter Try.func76, Try.ntmps76
  go_wp2_with fail
  refine (ref2_Words _ (by omega) (by omega) _).mono ?_; rintro e w' ⟨rfl, rfl⟩
  rw [hw.out]
  go_wp2
  go_ret
  refine own_ret (by simpa [u64v] using own_zeros w (wordsN n) (.int .u64 0) 56 (by unfold maxLen; omega)) (by simp) ((Below.refl _ _).alloc (Nat.le_refl _) _)
theorem ref2_New (n : Int) (h1 : -9223372036854775808 ≤ n) (h2 : n ≤ 1099511627776) (w : World) :
    Calls Try.prog 76 #[.int .i64 n] w (RetRow (List.replicate (wordsN n) 0) w) := (ref2_NewO n h1 h2 w).mono fun _ _ h => h.row

set_option maxHeartbeats 400000 in
theorem ref2_Has (A : Option Addr) (n c : Nat) (xs : List Nat) (i : Int) (w : World) (hr : Row w A n xs) (hn : n ≤ 1073741824) (h1 : -9223372036854775808 ≤ i) (h2 : i < 9223372036854775808) :
    Calls Try.prog 45 #[.slice A n c, .int .i64 i] w fun e w' => e = .returned (.bool (hasR xs i)) ∧ w = w' := by
  have hl := hr.len
  by_cases h0 : 0 ≤ i
  · by_cases h3 : i < 64 * (n : Int)
    · obtain ⟨m, rfl⟩ := Int.eq_ofNat_of_zero_le h0
      have hm : m < 64 * n := by omega
      obtain ⟨b, off, x, rfl, hb, hx, hx64, hc⟩ := hr.at_ (k := m / 64) (by omega)
      have H := hasR_in xs m x hx
      rw [show ((m % 64 : Nat) : Int) = (m : Int) % 64 from by omega] at H
      replace H := Lib.hid H
      clear hx hr hl
      go_enter Try.func45, Try.ntmps45
      go_wp2_with fail
      refine (ref_Has x hx64 _ (by omega) (by omega) _).mono ?_; rintro e w' ⟨rfl, rfl⟩
      go_wp2
      go_ret
      rw [H.out]; exact ⟨rfl, rfl⟩
    · have H := Lib.hid (hasR_out xs i (by omega))
      clear hl hr
      go_enter Try.func45, Try.ntmps45
      go_wp2
      go_ret
      rw [H.out]; exact ⟨rfl, rfl⟩
  · have H := Lib.hid (hasR_out xs i (by omega))
    clear hl hr
    go_enter Try.func45, Try.ntmps45
    go_wp2
    go_ret
    rw [H.out]; exact ⟨rfl, rfl⟩

set_option maxHeartbeats 400000 in
theorem ref2_Same (A B : Option Addr) (n m c d : Nat) (xs ys : List Nat) (w : World) (hr : Row w A n xs) (hs : Row w B m ys) (hn : n ≤ 17592186044416) (hm : m ≤ 17592186044416) :
    Calls Try.prog 53 #[.slice A n c, .slice B m d] w (RetQ (.bool (sameR xs ys)) w) := by
  have hl := Lib.hid hr.len
  have hl2 := Lib.hid hs.len
  replace hr := Lib.hid hr
  replace hs := Lib.hid hs
  by_cases hnm : n = m
  · subst hnm
    have hne : ((n : Int) != (n : Int)) = false := by simp
    go_enter Try.func53, Try.ntmps53
    go_wp2
    go_loopw [5] (fun i wr => ∃ k q : Nat, k ≤ n ∧ i = .int .i64 k ∧ Hid (∀ j, j < k → xs[j]? = ys[j]?) ∧ wr = w.drewN q) (fun i _ => n - (intOf i).toNat)
    case atStart => exact ⟨0, 0, Nat.zero_le _, rfl, Lib.hid (fun j hj => absurd hj (by omega)), rfl⟩
    case round =>
      obtain ⟨k, q, hk, rfl, hall, rfl⟩ := hrel
      by_cases hlt : k < n
      · obtain ⟨b, off, x, rfl, hbk, hx, hx64, hc⟩ := hr.out.at_ hlt
        obtain ⟨b2, off2, y, rfl, hbk2, hy, hy64, hc2⟩ := hs.out.at_ hlt
        have hk0 : (0 : Int) ≤ (k : Int) := by omega
        have hkn : (k : Int) < (n : Int) := by omega
        by_cases hxy : x = y
        · subst hxy
          have hall' : Hid (∀ j, j < k + 1 → xs[j]? = ys[j]?) := Lib.hid (fun j hj => by
            rcases Nat.lt_succ_iff_lt_or_eq.1 hj with h | h
            · exact hall.out j h
            · rw [h, hx, hy])
          have hne' : ((x : Int) != (x : Int)) = false := by simp
          clear hx hy
          go_wp2
          go_quiet (fail)
          go_wp2
          go_roundw
          case rel => exact ⟨k + 1, _, by omega, by go_num, hall', rfl⟩
          case measure => simp [intOf]; omega
        · have hno := Lib.hid (sameR_no xs ys k x y hx hy hxy)
          have hne' : ((x : Int) != (y : Int)) = true := by rw [bne_iff_ne]; omega
          clear hx hy
          go_wp2
          go_quiet (fail)
          go_wp2
          go_ret
          rw [hno.out]; exact ⟨rfl, _, by rw [World.drewN_drewN]⟩
      · have hyes := Lib.hid (sameR_yes xs ys (by rw [hl.out, hl2.out]) (fun j hj => hall.out j (by rw [hl.out] at hj; omega)))
        go_wp2
        go_ret
        rw [hyes.out]; exact ⟨rfl, _, rfl⟩
  · have hno := Lib.hid (sameR_no_len xs ys (by rw [hl.out, hl2.out]; exact hnm))
    have hne : ((n : Int) != (m : Int)) = true := by rw [bne_iff_ne]; omega
    go_enter Try.func53, Try.ntmps53
    go_wp2
    go_ret
    rw [hno.out]; exact ⟨rfl, 0, rfl⟩


set_option maxHeartbeats 1000000 in
theorem ref2_ListO (A : Option Addr) (n c : Nat) (xs : List Nat) (w : World) (hr : Row w A n xs) (hn : n ≤ 1073741824) :
    Calls Try.prog 56 #[.slice A n c] w (RetIntsO 3 (listR xs) w) := by
  have hl := Lib.hid hr.len
  obtain ⟨i0, hi, hz0, hz1, hz2⟩ := info_parts info_int
  replace hi := Lib.hid hi
  replace hz0 := Lib.hid hz0
  replace hz1 := Lib.hid hz1
  replace hz2 := Lib.hid hz2
  replace hr := Lib.hid hr
  go_enter Try.func56, Try.ntmps56
  go_wp2
  go_loopw [3, 4] (fun l i wr => ∃ p : Nat, p ≤ 64 * n ∧ i = .int .i64 p ∧ wr.ownsRow w.heap.size 3 1 l (listP xs p).length ((listP xs p).map natv) ∧ Below w.heap.size w wr) (fun _ i _ => 64 * n - (intOf i).toNat)
  case atStart => exact ⟨0, Nat.zero_le _, rfl, World.ownsRow_nil _ _ _ _, Below.refl _ _⟩
  case round =>
    obtain ⟨p, hp, rfl, hown, hb⟩ := hrel
    by_cases hlt : p < 64 * n
    · have hH := Lib.hid (ref2_Has A n c xs p wr (hr.out.below hb) hn (by omega) (by omega))
      have hlen := listP_len xs p
      rcases Bool.eq_false_or_eq_true (hasR xs (p : Int)) with ht | ht
      · have hy := Lib.hid (listP_yes xs p ht)
        rw [ht] at hH
        clear ht
        go_wp2_with fail
        refine hH.out.mono ?_; rintro e w' ⟨rfl, rfl⟩
        go_wp2_with (at_builtin; refine wpList_append_lies _ rfl (.tmp 15) (.tmp 17) _ rfl w.heap.size 3 i0 _ 1 8 Try.underlying41 hi.out hz0.out hz1.out hz2.out rfl (by omega) _ _ _ (by rfl) (hown.alloc _) ⟨wr.heap.size, 0, none⟩ 1 1 [.int .i64 (p : Int)] rfl rfl (cell_one_new _ _ _) (by simp [Value.oneCell']) (by omega) (by unfold maxLen; omega) (by omega) (by have := hb.size; simp; omega) _ rfl ?_; intro g cap w1 hown1 hgrow hat hlt1; have hb1 := (hb.alloc hb.size _).grown hgrow (by have := hb.size; simp; omega) (own_lt_block hown); clear hgrow hat hlt1)
        go_roundw
        case rel =>
          refine ⟨p + 1, by omega, by go_num, ?_, hb1⟩
          rw [hy.out, List.length_append, List.map_append]
          exact hown1
        case measure => simp [intOf]; omega
      · have hy := Lib.hid (listP_no xs p ht)
        rw [ht] at hH
        clear ht
        go_wp2_with fail
        refine hH.out.mono ?_; rintro e w' ⟨rfl, rfl⟩
        go_wp2
        go_roundw
        case rel => exact ⟨p + 1, by omega, by go_num, by rw [hy.out]; exact hown, hb⟩
        case measure => simp [intOf]; omega
    · obtain rfl : p = 64 * n := by omega
      have he : listP xs (64 * n) = listN xs := by rw [← hl.out]; rfl
      rw [he] at hown
      have hb64 : ∀ i ∈ listN xs, i < 9223372036854775808 := fun i hi' => by
        have := ((listN_mem xs i).1 hi').1
        rw [hl.out] at this; omega
      obtain ⟨A', c', rfl, hI⟩ := own_ints hown hb64
      have hO := hown
      rw [natv_ints] at hO
      clear he hb64 hown
      go_wp2
      go_ret
      exact ⟨_, _, _, rfl, hO, hI.2, hb⟩
theorem ref2_List (A : Option Addr) (n c : Nat) (xs : List Nat) (w : World) (hr : Row w A n xs) (hn : n ≤ 1073741824) :
    Calls Try.prog 56 #[.slice A n c] w (RetInts (listR xs) w) := (ref2_ListO A n c xs w hr hn).mono fun _ _ h => h.ints


end Go.Proofs.Ytkikoniihmieiaa

namespace Go.Proofs.Ytkikoniihmieiaa
open Go.RowKit
set_option linter.unusedVariables false

theorem all_no (b : List Nat) (l : List Nat) (k i : Nat) (h : l[k]? = some i) (hh : hasR b (i : Int) = false) : (l.all fun i : Nat => hasR b (i : Int)) = false := by
  rw [List.all_eq_false]; exact ⟨i, List.mem_of_getElem? h, by rw [hh]; simp⟩
theorem all_yes (b : List Nat) (l : List Nat) (h : ∀ k i : Nat, l[k]? = some i → hasR b (i : Int) = true) : (l.all fun i : Nat => hasR b (i : Int)) = true := by
  rw [List.all_eq_true]; intro i hi
  obtain ⟨k, hk⟩ := List.getElem?_of_mem hi
  exact h k i hk
set_option maxHeartbeats 400000 in
theorem ref2_Sub (A B : Option Addr) (n m c d : Nat) (xs ys : List Nat) (w : World) (hr : Row w A n xs) (hs : Row w B m ys) (hn : n ≤ 1073741824) (hm : m ≤ 1073741824) :
    Calls Try.prog 64 #[.slice A n c, .slice B m d] w fun e w' => e = .returned (.bool (subR xs ys)) ∧ Below w.heap.size w w' := by
  have hcl := Lib.hid (ref2_List A n c xs w hr hn)
  have hsub := Lib.hid (subR_list xs ys hr.2)
  have hlen := (listR_len xs)
  have hcle : countR xs ≤ 64 * n := by have := countR_le xs; rw [hr.len] at this; exact this
  replace hlen := Lib.hid hlen
  clear hr
  replace hs := Lib.hid hs
  go_enter Try.func64, Try.ntmps64
  go_wp2_with fail
  refine hcl.out.mono ?_; rintro e w1 ⟨A1, n1, c1, rfl, hI, hb⟩
  have hn1 : n1 ≤ 64 * n := by have := hI.len; rw [hlen.out] at this; omega
  have hs1 := Lib.hid (hs.out.below hb)
  replace hI := Lib.hid hI
  replace hb := Lib.hid hb
  go_wp2
  go_loop [6] (fun i => ∃ k : Nat, k ≤ n1 ∧ i = .int .i64 k ∧ Hid (∀ j i : Nat, j < k → (listN xs)[j]? = some i → hasR ys (i : Int) = true)) (fun i => n1 - (intOf i).toNat)
  case atStart => exact ⟨0, Nat.zero_le _, rfl, Lib.hid (fun j i hj => absurd hj (by omega))⟩
  case round =>
    obtain ⟨k, hk, rfl, hall⟩ := hrel
    by_cases hlt : k < n1
    · obtain ⟨b, off, z, rfl, hbk, hz, hz64, hc⟩ := hI.out.at_ hlt
      obtain ⟨i, hi, rfl⟩ : ∃ i, (listN xs)[k]? = some i ∧ z = Int.ofNat i := by
        unfold listR at hz
        rw [List.getElem?_map] at hz
        cases hx : (listN xs)[k]? with
        | none => rw [hx] at hz; cases hz
        | some i => rw [hx] at hz; exact ⟨i, rfl, by simpa using hz.symm⟩
      have hc' : w1.cell? ⟨b, off + k, none⟩ = some (.int .i64 (i : Int)) := hc
      have hH := Lib.hid (ref2_Has B m d ys (i : Int) w1 hs1.out hm hz64.1 hz64.2)
      clear hc hz hz64
      rcases Bool.eq_false_or_eq_true (hasR ys (i : Int)) with ht | ht
      · have hall' : Hid (∀ j i : Nat, j < k + 1 → (listN xs)[j]? = some i → hasR ys (i : Int) = true) := Lib.hid (fun j i' hj hi' => by
          rcases Nat.lt_succ_iff_lt_or_eq.1 hj with h | h
          · exact hall.out j i' h hi'
          · rw [h, hi] at hi'; injection hi' with hi'; rw [← hi']; exact ht)
        rw [ht] at hH
        clear ht hi
        go_wp2_with fail
        refine hH.out.mono ?_; rintro e w' ⟨rfl, rfl⟩
        go_wp2
        go_round
        case rel => exact ⟨k + 1, by omega, by go_num, hall'⟩
        case measure => simp [intOf]; omega
      · have hno := Lib.hid (all_no ys (listN xs) k i hi ht)
        rw [ht] at hH
        clear ht hi
        go_wp2_with fail
        refine hH.out.mono ?_; rintro e w' ⟨rfl, rfl⟩
        go_wp2
        go_ret
        rw [hsub.out, hno.out]; exact ⟨rfl, hb.out⟩
    · have hyes := Lib.hid (all_yes ys (listN xs) (fun j i hi => hall.out j i (by
        have h1 := hI.out.len
        have h2 : (listR xs).length = (listN xs).length := List.length_map _
        have := (List.getElem?_eq_some_iff.1 hi).1
        omega) hi))
      go_wp2
      go_ret
      rw [hsub.out, hyes.out]; exact ⟨rfl, hb.out⟩

theorem orP_lt (N k : Nat) (a b : List Nat) (ha : ∀ x ∈ a, x < 18446744073709551616) (hb : ∀ x ∈ b, x < 18446744073709551616) : ∀ x ∈ orP N k a b, x < 18446744073709551616 := by
  have hd : ∀ (l : List Nat), (∀ x ∈ l, x < 18446744073709551616) → ∀ j, l.getD j 0 < 18446744073709551616 := fun l hl j => by
    rw [List.getD_eq_getElem?_getD]
    cases hx : l[j]? with
    | none => simp
    | some x => simpa using hl x (List.mem_of_getElem? hx)
  intro x hx
  unfold orP at hx
  obtain ⟨j, _, rfl⟩ := List.mem_map.1 hx
  split
  · exact Nat.or_lt_two_pow (n := 64) (hd a ha j) (hd b hb j)
  · decide
theorem orP_len (N k : Nat) (a b : List Nat) : (orP N k a b).length = N := by simp [orP]
set_option maxHeartbeats 1000000 in
theorem ref2_Or_lt (A B : Option Addr) (n m c d : Nat) (xs ys : List Nat) (w : World) (hr : Row w A n xs) (hs : Row w B m ys) (hn : n ≤ 1073741824) (hm : m ≤ 1073741824) (h : n < m) :
    Calls Try.prog 51 #[.slice A n c, .slice B m d] w (RetRowO 56 (orR xs ys) w) := by
  have hl := Lib.hid hr.len
  have hl2 := Lib.hid hs.len
  have hmk := mk_u64 .i64 .i64 m m (Nat.le_refl _) (by omega)
  have hall := Lib.hid (orP_all m xs ys (by rw [hl.out, hl2.out]; omega))
  have hlt := Lib.hid (orP_lt m m xs ys hr.2 hs.2)
  have hown0 := own_zeros w m (.int .u64 0) 56 (by unfold maxLen; omega)
  have hz0 : List.replicate m (Value.int .u64 0) = (orP m 0 xs ys).map u64v := by rw [orP_zero, replicate_zero_u64]
  rw [hz0] at hown0
  replace hown0 := Lib.hid hown0
  clear hz0
  replace hr := Lib.hid hr
  replace hs := Lib.hid hs
  go_enter Try.func51, Try.ntmps51
  go_wp2
  go_loopw [6] (fun i wr => ∃ k : Nat, k ≤ m ∧ i = .int .i64 k ∧ wr.ownsRow w.heap.size 56 1 (.slice (some ⟨w.heap.size, 0, none⟩) m m) m ((orP m k xs ys).map u64v) ∧ Below w.heap.size w wr) (fun i _ => m - (intOf i).toNat)
  case atStart => exact ⟨0, Nat.zero_le _, rfl, hown0.out, (Below.refl _ _).alloc (Nat.le_refl _) _⟩
  case round =>
    obtain ⟨k, hk, rfl, hown, hb⟩ := hrel
    clear hown0 hmk
    by_cases hlt' : k < m
    · obtain ⟨z, hcg⟩ : ∃ z : Int, wr.cell? ⟨w.heap.size, k, none⟩ = some (.int .u64 z) := by
        have h0 := hown.cellAt k (by omega)
        rw [List.getElem?_map, List.getElem?_eq_getElem (by rw [orP_len]; exact hlt')] at h0
        exact ⟨_, h0⟩
      have hf := hown.frozenAt k
      have hst := orP_set m k xs ys
      by_cases h1 : k < n
      · obtain ⟨b, off, x, rfl, hbk, hx, hx64, hc⟩ := (hr.out.below hb).at_ h1
        rw [Row.get hx] at hst
        clear hx
        have hown1 := (hown.stored k (u64v x)).1
        have hb1 := hb.setCell (p := ⟨w.heap.size, k, none⟩) (Nat.le_refl _) (u64v x)
        by_cases h2 : k < m
        · obtain ⟨b2, off2, y, rfl, hbk2, hy, hy64, hc2⟩ := (hs.out.below hb1).at_ h2
          rw [Row.get hy] at hst
          clear hy
          have hE := Lib.hid (orv x y hx64 hy64)
          have hst' := Lib.hid hst
          have hcg1 := hown1.cellAt k (by omega)
          rw [List.getElem?_set_self (by rw [List.length_map, orP_len]; exact hlt')] at hcg1
          have hf1 := hown1.frozenAt k
          clear hst
          go_wp2
          refine still_tail 12 (by kernel_rfl) (by kernel_rfl) (fun W hW => ?_)
          have hcW : W.cell? ⟨w.heap.size, k, none⟩ = some (.int .u64 (x : Int)) := by rw [hW.out]; exact hcg1
          have hfW : W.frozen? ⟨w.heap.size, k, none⟩ = false := by rw [hW.out]; exact hf1
          have hcW2 : W.cell? ⟨b2, off2 + k, none⟩ = some (.int .u64 (y : Int)) := by rw [hW.out]; exact hc2
          have hownW := hown1.drew
          have hbW := hb1.drew
          rw [show ((wr.setCell ⟨w.heap.size, k, none⟩ (u64v x)).drew) = W from hW.out.symm] at hownW hbW
          clear hcg hf hcg1 hf1 hc hc2 hown1 hb1 hown hb
          simp only [List.take_succ_cons, List.take_zero, List.drop_succ_cons, List.drop_zero]
          have hk0 : (0 : Int) ≤ (k : Int) := by omega
          have hkN : (k : Int) < (m : Int) := by omega
          have hkm : (k : Int) < (m : Int) := by omega
          repeat still_step
          refine wpStill_nil ?_
          go_wp2
          go_roundw
          case rel =>
            refine ⟨k + 1, by omega, by go_num, ?_, hbW.setCell (Nat.le_refl _) _⟩
            rw [hE.out, ← hst'.out, List.map_set]
            have := (hownW.stored k (u64v (x ||| y))).1
            rwa [List.set_set] at this
          case measure => simp [intOf]; omega
        · omega
      · have h2 : k < m := by omega
        obtain ⟨b2, off2, y, rfl, hbk2, hy, hy64, hc2⟩ := (hs.out.below hb).at_ h2
        have hz : z = 0 := by
          have hz := hown.cellAt k (by omega)
          rw [hcg, List.getElem?_map] at hz
          unfold orP at hz
          rw [List.getElem?_map, List.getElem?_range hlt'] at hz
          simpa [u64v] using hz
        subst hz
        rw [Row.get hy, getD_out xs k (by rw [hl.out]; omega)] at hst
        clear hy
        have hE := Lib.hid (orv 0 y (by omega) hy64)
        have hst' := Lib.hid hst
        clear hst
        go_wp2
        refine still_tail 12 (by kernel_rfl) (by kernel_rfl) (fun W hW => ?_)
        have hcW : W.cell? ⟨w.heap.size, k, none⟩ = some (.int .u64 0) := by rw [hW.out]; exact hcg
        have hfW : W.frozen? ⟨w.heap.size, k, none⟩ = false := by rw [hW.out]; exact hf
        have hcW2 : W.cell? ⟨b2, off2 + k, none⟩ = some (.int .u64 (y : Int)) := by rw [hW.out]; exact hc2
        have hownW := hown.drew
        have hbW := hb.drew
        rw [← hW.out] at hownW hbW
        clear hcg hf hc2 hown hb
        simp only [List.take_succ_cons, List.take_zero, List.drop_succ_cons, List.drop_zero]
        have hk0 : (0 : Int) ≤ (k : Int) := by omega
        have hkN : (k : Int) < (m : Int) := by omega
        have hkm : (k : Int) < (m : Int) := by omega
        repeat still_step
        refine wpStill_nil ?_
        go_wp2
        go_roundw
        case rel =>
          refine ⟨k + 1, by omega, by go_num, ?_, hbW.setCell (Nat.le_refl _) _⟩
          rw [show (0 : Int) = ((0 : Nat) : Int) from rfl, hE.out, ← hst'.out, List.map_set]
          exact (hownW.stored k (u64v (0 ||| y))).1
        case measure => simp [intOf]; omega
    · obtain rfl : k = m := by omega
      go_wp2
      go_ret
      rw [← hall.out]
      exact own_ret hown hlt.out (hb)
set_option maxHeartbeats 1000000 in
theorem ref2_Or_ge (A B : Option Addr) (n m c d : Nat) (xs ys : List Nat) (w : World) (hr : Row w A n xs) (hs : Row w B m ys) (hn : n ≤ 1073741824) (hm : m ≤ 1073741824) (h : ¬ n < m) :
    Calls Try.prog 51 #[.slice A n c, .slice B m d] w (RetRowO 56 (orR xs ys) w) := by
  have hl := Lib.hid hr.len
  have hl2 := Lib.hid hs.len
  have hmk := mk_u64 .i64 .i64 n n (Nat.le_refl _) (by omega)
  have hall := Lib.hid (orP_all n xs ys (by rw [hl.out, hl2.out]; omega))
  have hlt := Lib.hid (orP_lt n n xs ys hr.2 hs.2)
  have hown0 := own_zeros w n (.int .u64 0) 56 (by unfold maxLen; omega)
  have hz0 : List.replicate n (Value.int .u64 0) = (orP n 0 xs ys).map u64v := by rw [orP_zero, replicate_zero_u64]
  rw [hz0] at hown0
  replace hown0 := Lib.hid hown0
  clear hz0
  replace hr := Lib.hid hr
  replace hs := Lib.hid hs
  go_enter Try.func51, Try.ntmps51
  go_wp2
  go_loopw [6] (fun i wr => ∃ k : Nat, k ≤ n ∧ i = .int .i64 k ∧ wr.ownsRow w.heap.size 56 1 (.slice (some ⟨w.heap.size, 0, none⟩) n n) n ((orP n k xs ys).map u64v) ∧ Below w.heap.size w wr) (fun i _ => n - (intOf i).toNat)
  case atStart => exact ⟨0, Nat.zero_le _, rfl, hown0.out, (Below.refl _ _).alloc (Nat.le_refl _) _⟩
  case round =>
    obtain ⟨k, hk, rfl, hown, hb⟩ := hrel
    clear hown0 hmk
    by_cases hlt' : k < n
    · obtain ⟨z, hcg⟩ : ∃ z : Int, wr.cell? ⟨w.heap.size, k, none⟩ = some (.int .u64 z) := by
        have h0 := hown.cellAt k (by omega)
        rw [List.getElem?_map, List.getElem?_eq_getElem (by rw [orP_len]; exact hlt')] at h0
        exact ⟨_, h0⟩
      have hf := hown.frozenAt k
      have hst := orP_set n k xs ys
      by_cases h1 : k < n
      · obtain ⟨b, off, x, rfl, hbk, hx, hx64, hc⟩ := (hr.out.below hb).at_ h1
        rw [Row.get hx] at hst
        clear hx
        have hown1 := (hown.stored k (u64v x)).1
        have hb1 := hb.setCell (p := ⟨w.heap.size, k, none⟩) (Nat.le_refl _) (u64v x)
        by_cases h2 : k < m
        · obtain ⟨b2, off2, y, rfl, hbk2, hy, hy64, hc2⟩ := (hs.out.below hb1).at_ h2
          rw [Row.get hy] at hst
          clear hy
          have hE := Lib.hid (orv x y hx64 hy64)
          have hst' := Lib.hid hst
          have hcg1 := hown1.cellAt k (by omega)
          rw [List.getElem?_set_self (by rw [List.length_map, orP_len]; exact hlt')] at hcg1
          have hf1 := hown1.frozenAt k
          clear hst
          go_wp2
          refine still_tail 12 (by kernel_rfl) (by kernel_rfl) (fun W hW => ?_)
          have hcW : W.cell? ⟨w.heap.size, k, none⟩ = some (.int .u64 (x : Int)) := by rw [hW.out]; exact hcg1
          have hfW : W.frozen? ⟨w.heap.size, k, none⟩ = false := by rw [hW.out]; exact hf1
          have hcW2 : W.cell? ⟨b2, off2 + k, none⟩ = some (.int .u64 (y : Int)) := by rw [hW.out]; exact hc2
          have hownW := hown1.drew
          have hbW := hb1.drew
          rw [show ((wr.setCell ⟨w.heap.size, k, none⟩ (u64v x)).drew) = W from hW.out.symm] at hownW hbW
          clear hcg hf hcg1 hf1 hc hc2 hown1 hb1 hown hb
          simp only [List.take_succ_cons, List.take_zero, List.drop_succ_cons, List.drop_zero]
          have hk0 : (0 : Int) ≤ (k : Int) := by omega
          have hkN : (k : Int) < (n : Int) := by omega
          have hkm : (k : Int) < (m : Int) := by omega
          repeat still_step
          refine wpStill_nil ?_
          go_wp2
          go_roundw
          case rel =>
            refine ⟨k + 1, by omega, by go_num, ?_, hbW.setCell (Nat.le_refl _) _⟩
            rw [hE.out, ← hst'.out, List.map_set]
            have := (hownW.stored k (u64v (x ||| y))).1
            rwa [List.set_set] at this
          case measure => simp [intOf]; omega
        · rw [getD_out ys k (by rw [hl2.out]; omega), Nat.or_zero] at hst
          replace hst := Lib.hid hst
          clear hown hb
          go_wp2
          go_roundw
          case rel =>
            refine ⟨k + 1, by omega, by go_num, ?_, hb1⟩
            rw [← hst.out, List.map_set]; exact hown1
          case measure => simp [intOf]; omega
      · omega
    · obtain rfl : k = n := by omega
      go_wp2
      go_ret
      rw [← hall.out]
      exact own_ret hown hlt.out (hb)
theorem ref2_OrO (A B : Option Addr) (n m c d : Nat) (xs ys : List Nat) (w : World) (hr : Row w A n xs) (hs : Row w B m ys) (hn : n ≤ 1073741824) (hm : m ≤ 1073741824) :
    Calls Try.prog 51 #[.slice A n c, .slice B m d] w (RetRowO 56 (orR xs ys) w) := by
  by_cases h : n < m
  · exact ref2_Or_lt A B n m c d xs ys w hr hs hn hm h
  · exact ref2_Or_ge A B n m c d xs ys w hr hs hn hm h
theorem ref2_Or (A B : Option Addr) (n m c d : Nat) (xs ys : List Nat) (w : World) (hr : Row w A n xs) (hs : Row w B m ys) (hn : n ≤ 1073741824) (hm : m ≤ 1073741824) :
    Calls Try.prog 51 #[.slice A n c, .slice B m d] w (RetRow (orR xs ys) w) := (ref2_OrO A B n m c d xs ys w hr hs hn hm).mono fun _ _ h => h.row

end Go.Proofs.Ytkikoniihmieiaa

namespace Go.Proofs.Ytkikoniihmieiaa
open Go.RowKit
set_option linter.unusedVariables false

theorem ref_BitN (r : Nat) (hr : r < 64) (w : World) : Calls Try.prog 83 #[.int .i64 (r : Int)] w fun e w' => e = .returned (.int .u64 (p2 r : Nat)) ∧ w = w' := by
  have h := ref_Bit (r : Int) (by omega) (by omega) w
  rwa [bitZ_p2 (r : Int) (by omega) (by omega), Int.toNat_natCast] at h
set_option maxRecDepth 100000 in
set_option maxHeartbeats 1000000 in
theorem ref2_SetO (A : Option Addr) (n c : Nat) (xs : List Nat) (i : Int) (w : World) (hr : Row w A n xs) (hn : n ≤ 1073741824) (h1 : -9223372036854775808 ≤ i) (h2 : i < 9223372036854775808) :
    Calls Try.prog 49 #[.slice A n c, .int .i64 i] w (RetRowO 56 (setR xs i) w) := by
  obtain ⟨i0, hi, hz0, hz1, hz2⟩ := info_parts info_u64
  replace hi := Lib.hid hi
  replace hz0 := Lib.hid hz0
  replace hz1 := Lib.hid hz1
  replace hz2 := Lib.hid hz2
  have hl := hr.len
  have hlt := Lib.hid hr.2
  have hlit : (w.alloc (.cells #[] 56)).ownsRow w.heap.size 56 1 (.slice (some ⟨w.heap.size, 0, none⟩) 0 0) 0 [] := by
    have h := World.ownsRow_lit (size := 1) (base := w.heap.size) (e := 56) w #[] 0 (Nat.le_refl _) (by omega) (by simp)
    simpa using h
  have hb0 : Below w.heap.size w (w.alloc (.cells #[] 56)) := (Below.refl _ _).alloc (Nat.le_refl _) _
  have hrd : Rd (w.alloc (.cells #[] 56)) A n (xs.map u64v) := hr.1.below hb0
  have hH := ref2_Has A n c xs i
  have hr0 := Lib.hid hr
  by_cases hin : 0 ≤ i ∧ i < 64 * (n : Int)
  · obtain ⟨m, rfl⟩ := Int.eq_ofNat_of_zero_le hin.1
    obtain ⟨hi1, hi2⟩ := hin
    have hm : m < 64 * n := by omega
    obtain ⟨x, hx⟩ : ∃ x, xs[m / 64]? = some x := ⟨_, List.getElem?_eq_getElem (by omega)⟩
    have hx64 : x < 18446744073709551616 := hlt.out x (List.mem_of_getElem? hx)
    have hS := setR_in (m := m) (by omega) hx
    have hHin := hasR_in xs m x hx
    rw [hasB_nat] at hHin
    obtain ⟨r, hre⟩ : ∃ r, r = m % 64 := ⟨_, rfl⟩
    have hr64 : r < 64 := by omega
    rw [← hre] at hS hHin
    rcases Bool.eq_false_or_eq_true (x.testBit r) with ht | ht
    · rw [or_same x r ht] at hS
      have hset : xs.set (m / 64) x = xs := by
        apply List.ext_getElem?; intro j
        rw [List.getElem?_set]
        by_cases hj : m / 64 = j
        · subst hj; rw [if_pos rfl, if_pos (by omega), hx]
        · rw [if_neg hj]
      rw [hset] at hS
      rw [ht] at hHin
      replace hS := Lib.hid hS
      replace hHin := Lib.hid hHin
      have hl' := Lib.hid hl
      replace hH := Lib.hid hH
      clear hl hre ht hset hx hr
      go_enter Try.func49, Try.ntmps49
      go_wp2_with (first
        | (at_builtin; refine wpList_append_rd rfl (.tmp 6) (.tmp 7) _ rfl w.heap.size 56 i0 _ 8 Try.underlying53 hi.out hz0.out hz1.out hz2.out rfl _ 0 _ (by rfl) hlit A n c _ rfl hrd (by simp [u64v, Value.oneCell']) (by unfold maxLen; omega) (by omega) hb0.size ?_; intro v1 w1 hown1 hbb hform; simp only [Nat.zero_add, List.nil_append] at hown1 hform; obtain ⟨g, cap, rfl⟩ := hform (by omega); have hb1 := hb0.trans hbb; have hrr := Lib.hid (hr0.out.below hb1); clear hbb hlit hb0 hrd)
        | (go_at_call 45; refine (hH.out _ hrr.out hn h1 h2).mono ?_; rintro e w' ⟨rfl, rfl⟩; rw [hHin.out]))
      go_ret
      rw [hS.out]
      exact own_ret hown1 hlt.out (hb1)
    · rw [← add_or x r ht] at hS
      rw [ht] at hHin
      have hE := add_or x r ht
      have hO := or_p2_lt hx64 hr64
      rw [← hE] at hO
      replace hO := Lib.hid hO
      replace hS := Lib.hid hS
      replace hHin := Lib.hid hHin
      replace hx := Lib.hid hx
      have hl' := Lib.hid hl
      replace hH := Lib.hid hH
      have hrem : (m : Int) % 64 = (r : Int) := by omega
      have hp2 := p2_lt r hr64
      have hp20 := p2_pos r
      clear hl hre ht hE hr
      go_enter Try.func49, Try.ntmps49
      go_wp2_with (first
        | (at_builtin; refine wpList_append_rd rfl (.tmp 6) (.tmp 7) _ rfl w.heap.size 56 i0 _ 8 Try.underlying53 hi.out hz0.out hz1.out hz2.out rfl _ 0 _ (by rfl) hlit A n c _ rfl hrd (by simp [u64v, Value.oneCell']) (by unfold maxLen; omega) (by omega) hb0.size ?_; intro v1 w1 hown1 hbb hform; simp only [Nat.zero_add, List.nil_append] at hown1 hform; obtain ⟨g, cap, rfl⟩ := hform (by omega); have hb1 := hb0.trans hbb; have hrr := Lib.hid (hr0.out.below hb1); clear hbb hlit hb0 hrd)
        | (go_at_call 45; refine (hH.out _ hrr.out hn h1 h2).mono ?_; rintro e w' ⟨rfl, rfl⟩; rw [hHin.out]))
      have hc : w1.cell? ⟨g, m / 64, none⟩ = some (.int .u64 (x : Int)) := by
        rw [hown1.cellAt _ (by omega), List.getElem?_map, hx.out]; rfl
      have hf := hown1.frozenAt (m / 64)
      have hg := (hown1.lt g rfl).1
      have hA1 : (0 : Int) ≤ (m : Int) / 64 := by omega
      have hA2 : (m : Int) / 64 < (n : Int) := by omega
      have hA3 : ((m : Int) / 64).toNat = m / 64 := by omega
      refine still_tail 13 (by kernel_rfl) (by kernel_rfl) (fun W hW => ?_)
      have hc' : W.cell? ⟨g, m / 64, none⟩ = some (.int .u64 (x : Int)) := by rw [hW.out]; exact hc
      have hf' : W.frozen? ⟨g, m / 64, none⟩ = false := by rw [hW.out]; exact hf
      have hown' : W.ownsRow w.heap.size 56 1 (.slice (some ⟨g, 0, none⟩) n cap) n (xs.map u64v) := by rw [hW.out]; exact hown1.drew
      have hb' : Below w.heap.size w W := by rw [hW.out]; exact hb1.drew
      clear hc hf hb1 hown1
      simp only [List.take_succ_cons, List.take_zero, List.drop_succ_cons, List.drop_zero]
      have htd : (m : Int).tdiv 64 = (m : Int) / 64 := Int.tdiv_eq_ediv_of_nonneg hi1
      have htm : (m : Int).tmod 64 = (r : Int) := by rw [Int.tmod_eq_emod_of_nonneg hi1]; exact hrem
      have hsum : IntKind.u64.wrap ((x : Int) + (p2 r : Nat)) = ((x + p2 r : Nat) : Int) := by
        have := hO.out
        rw [IntKind.wrap_u64]; omega
      have hw1 : IntKind.i64.wrap ((m : Int) / 64) = (m : Int) / 64 := by rw [IntKind.wrap_i64]; omega
      have hw2 : IntKind.i64.wrap (r : Int) = (r : Int) := by rw [IntKind.wrap_i64]; omega
      clear hrem
      repeat still_step
      refine wpStill_step (fun K hK => ?_)
      go_simp
      refine ⟨_, still_call (ref_BitN r hr64 _), hK _ ?_⟩
      clear hK K
      repeat still_step
      refine wpStill_nil ?_
      clear htd htm hw1 hw2 hsum
      go_wp2
      go_ret
      rw [hS.out, show (x : Int) + (p2 r : Nat) = ((x + p2 r : Nat) : Int) from by omega]
      refine own_ret (c := cap) ?_ (mem_set_lt hlt.out hO.out) (hb'.setCell hg _)
      rw [List.map_set]
      exact (hown'.stored _ _).1
  · have hS := Lib.hid (setR_out (xs := xs) (i := i) (by omega))
    clear hl hr hH
    have hdec : (0 ≤ i ∧ ¬ i < 64 * (n : Int)) ∨ ¬ 0 ≤ i := by omega
    clear hin
    rcases hdec with ⟨d1, d2⟩ | d1
    all_goals
      go_enter Try.func49, Try.ntmps49
      go_wp2_with (at_builtin; refine wpList_append_rd rfl (.tmp 6) (.tmp 7) _ rfl w.heap.size 56 i0 _ 8 Try.underlying53 hi.out hz0.out hz1.out hz2.out rfl _ 0 _ (by rfl) hlit A n c _ rfl hrd (by simp [u64v, Value.oneCell']) (by unfold maxLen; omega) (by omega) hb0.size ?_; intro v1 w1 hown1 hbb hform; simp only [Nat.zero_add, List.nil_append] at hown1 hform; have hb1 := hb0.trans hbb; clear hbb hlit hb0 hrd hform)
      obtain ⟨A2, c2, rfl, hrd2⟩ := Rd.of_own hown1
      go_ret
      rw [hS.out]
      exact own_ret hown1 hlt.out hb1
theorem ref2_Set (A : Option Addr) (n c : Nat) (xs : List Nat) (i : Int) (w : World) (hr : Row w A n xs) (hn : n ≤ 1073741824) (h1 : -9223372036854775808 ≤ i) (h2 : i < 9223372036854775808) :
    Calls Try.prog 49 #[.slice A n c, .int .i64 i] w (RetRow (setR xs i) w) := (ref2_SetO A n c xs i w hr hn h1 h2).mono fun _ _ h => h.row

end Go.Proofs.Ytkikoniihmieiaa
