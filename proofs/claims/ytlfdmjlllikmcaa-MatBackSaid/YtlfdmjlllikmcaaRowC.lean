/- Contracts of package row: Or, Sub, Same, Count. -/
import Derived.Test.YtlfdmjlllikmcaaRowB
namespace Go.Proofs.Ytlfdmjlllikmcaa
open Go.RowKit
set_option linter.unusedVariables false

theorem orv (x y : Nat) (hx : x < 18446744073709551616) (hy : y < 18446744073709551616) : bits BinOp.or IntKind.u64 (x : Int) (y : Int) = ((x ||| y : Nat) : Int) := u64_or_nat x y hx hy

set_option maxHeartbeats 400000 in
theorem row_Or_ge (A B : Option Addr) (n m c d : Nat) (xs ys : List Nat) (w : World) (hr : Row w A n xs) (hs : Row w B m ys) (hn : n ≤ 17592186044416) (h : m ≤ n) :
    Calls Try.prog 63 #[.slice A n c, .slice B m d] w (RetRowO 47 (orR xs ys) w) := by
  have hcl := Lib.hid (row_clone A n c xs w hr hn)
  have hl := Lib.hid hr.len
  have hl2 := Lib.hid hs.len
  have hlt := Lib.hid (orK_lt xs ys m hr.2 hs.2)
  have hd := Lib.hid (Row.getD_lt hr)
  have hall := orK_all xs ys (by rw [hl.out, hl2.out]; exact h)
  rw [hl2.out] at hall
  replace hall := Lib.hid hall
  have h0 : ¬ n < m := by omega
  replace hs := Lib.hid hs
  clear hr
  go_enter Try.func63, Try.ntmps63
  go_wp2_with fail
  refine hcl.out.mono ?_; rintro e w1 ⟨g, rfl, hown, hb⟩
  have hg := (hown.lt g rfl).1
  go_wp2_with fail
  go_loopw [19] (fun i wr => ∃ k : Nat, k ≤ m ∧ i = .int .i64 k ∧ wr.ownsRow w.heap.size 47 1 (.slice (some ⟨g, 0, none⟩) n n) n ((orK xs ys k).map u64v) ∧ Below w.heap.size w wr) (fun i _ => m - (intOf i).toNat)
  case atStart => exact ⟨0, Nat.zero_le _, rfl, by rw [orK_zero]; exact hown, hb⟩
  case round =>
    obtain ⟨k, hk, rfl, hownr, hbr⟩ := hrel
    clear hown hb
    by_cases hlt' : k < m
    · have hs' := hs.out.below hbr
      obtain ⟨b, off, y, rfl, hbk, hy, hy64, hc⟩ := hs'.at_ hlt'
      have hgx := orK_get xs ys k (by rw [hl.out]; omega)
      have hx64 := hd.out k
      obtain ⟨x, hx⟩ : ∃ x, x = xs.getD k 0 := ⟨_, rfl⟩
      rw [← hx] at hgx hx64
      have hcg : wr.cell? ⟨g, k, none⟩ = some (.int .u64 (x : Int)) := by
        rw [hownr.cellAt _ (by omega), List.getElem?_map, hgx]; rfl
      have hf := hownr.frozenAt k
      have hE := Lib.hid (orv x y hx64 hy64)
      have hst := orK_set xs ys k
      rw [← hx, Row.get hy] at hst
      have hst := Lib.hid hst
      clear hgx hy hs'
      replace hx := Lib.hid hx
      go_wp2
      go_roundw
      case rel =>
        refine ⟨k + 1, by omega, by go_num, ?_, hbr.setCell hg _⟩
        rw [hE.out, ← hst.out, List.map_set]
        exact (hownr.stored _ _).1
      case measure => simp [intOf]; omega
    · obtain rfl : k = m := by omega
      clear hlt'
      go_wp2
      go_ret
      rw [← hall.out]
      exact own_ret hownr hlt.out (hbr)
set_option maxHeartbeats 400000 in
theorem row_Or_lt (A B : Option Addr) (n m c d : Nat) (xs ys : List Nat) (w : World) (hr : Row w A n xs) (hs : Row w B m ys) (hn : n ≤ 17592186044416) (h : m < n) :
    Calls Try.prog 63 #[.slice B m d, .slice A n c] w (RetRowO 47 (orR xs ys) w) := by
  have hcl := Lib.hid (row_clone A n c xs w hr hn)
  have hl := Lib.hid hr.len
  have hl2 := Lib.hid hs.len
  have hlt := Lib.hid (orK_lt xs ys m hr.2 hs.2)
  have hd := Lib.hid (Row.getD_lt hr)
  have hall := orK_all xs ys (by rw [hl.out, hl2.out]; omega)
  rw [hl2.out] at hall
  replace hall := Lib.hid hall
  replace hs := Lib.hid hs
  clear hr
  go_enter Try.func63, Try.ntmps63
  go_wp2_with fail
  refine hcl.out.mono ?_; rintro e w1 ⟨g, rfl, hown, hb⟩
  have hg := (hown.lt g rfl).1
  go_wp2_with fail
  go_loopw [19] (fun i wr => ∃ k : Nat, k ≤ m ∧ i = .int .i64 k ∧ wr.ownsRow w.heap.size 47 1 (.slice (some ⟨g, 0, none⟩) n n) n ((orK xs ys k).map u64v) ∧ Below w.heap.size w wr) (fun i _ => m - (intOf i).toNat)
  case atStart => exact ⟨0, Nat.zero_le _, rfl, by rw [orK_zero]; exact hown, hb⟩
  case round =>
    obtain ⟨k, hk, rfl, hownr, hbr⟩ := hrel
    clear hown hb
    by_cases hlt' : k < m
    · have hs' := hs.out.below hbr
      obtain ⟨b, off, y, rfl, hbk, hy, hy64, hc⟩ := hs'.at_ hlt'
      have hgx := orK_get xs ys k (by rw [hl.out]; omega)
      have hx64 := hd.out k
      obtain ⟨x, hx⟩ : ∃ x, x = xs.getD k 0 := ⟨_, rfl⟩
      rw [← hx] at hgx hx64
      have hcg : wr.cell? ⟨g, k, none⟩ = some (.int .u64 (x : Int)) := by
        rw [hownr.cellAt _ (by omega), List.getElem?_map, hgx]; rfl
      have hf := hownr.frozenAt k
      have hE := Lib.hid (orv x y hx64 hy64)
      have hst := orK_set xs ys k
      rw [← hx, Row.get hy] at hst
      have hst := Lib.hid hst
      clear hgx hy hs'
      replace hx := Lib.hid hx
      go_wp2
      go_roundw
      case rel =>
        refine ⟨k + 1, by omega, by go_num, ?_, hbr.setCell hg _⟩
        rw [hE.out, ← hst.out, List.map_set]
        exact (hownr.stored _ _).1
      case measure => simp [intOf]; omega
    · obtain rfl : k = m := by omega
      clear hlt'
      go_wp2
      go_ret
      rw [← hall.out]
      exact own_ret hownr hlt.out (hbr)
theorem row_OrO (A B : Option Addr) (n m c d : Nat) (xs ys : List Nat) (w : World) (hr : Row w A n xs) (hs : Row w B m ys) (hn : n ≤ 17592186044416) (hm : m ≤ 17592186044416) :
    Calls Try.prog 63 #[.slice A n c, .slice B m d] w (RetRowO 47 (orR xs ys) w) := by
  rcases Nat.lt_or_ge n m with h | h
  · rw [orR_comm]; exact row_Or_lt B A m n d c ys xs w hs hr hm h
  · exact row_Or_ge A B n m c d xs ys w hr hs hn h
theorem row_Or (A B : Option Addr) (n m c d : Nat) (xs ys : List Nat) (w : World) (hr : Row w A n xs) (hs : Row w B m ys) (hn : n ≤ 17592186044416) (hm : m ≤ 17592186044416) :
    Calls Try.prog 63 #[.slice A n c, .slice B m d] w (RetRow (orR xs ys) w) := (row_OrO A B n m c d xs ys w hr hs hn hm).mono fun _ _ h => h.row

theorem andNot_eq (x y : Nat) (hx : x < 18446744073709551616) (hy : y < 18446744073709551616) : bits BinOp.andNot IntKind.u64 (x : Int) (y : Int) = ((x &&& (18446744073709551615 - y) : Nat) : Int) := u64_andNot_nat x y hx hy
theorem andNot_test (x y : Nat) (hx : x < 18446744073709551616) (hy : y < 18446744073709551616) : (bits BinOp.andNot IntKind.u64 (x : Int) (y : Int) != 0) = !(x &&& y == x) := by
  rw [andNot_eq x y hx hy, ← and_not_zero x y hx hy, bne]
  congr 1
  rw [Bool.eq_iff_iff, beq_iff_eq, beq_iff_eq]; omega
set_option maxHeartbeats 400000 in
theorem row_Sub (A B : Option Addr) (n m c d : Nat) (xs ys : List Nat) (w : World) (hr : Row w A n xs) (hs : Row w B m ys) (hn : n ≤ 17592186044416) (_hm : m ≤ 17592186044416) :
    Calls Try.prog 51 #[.slice A n c, .slice B m d] w fun e w' => e = .returned (.bool (subR xs ys)) ∧ w = w' := by
  have hl := Lib.hid hr.len
  have hl2 := Lib.hid hs.len
  replace hr := Lib.hid hr
  replace hs := Lib.hid hs
  go_enter Try.func51, Try.ntmps51
  go_wp2
  go_loop [9] (fun i => ∃ k : Nat, k ≤ n ∧ i = .int .i64 k ∧ Hid (∀ j, j < k → (xs.getD j 0 &&& ys.getD j 0 == xs.getD j 0) = true)) (fun i => n - (intOf i).toNat)
  case atStart => exact ⟨0, Nat.zero_le _, rfl, Lib.hid (fun j hj => absurd hj (by omega))⟩
  case round =>
    obtain ⟨k, hk, rfl, hall⟩ := hrel
    by_cases hlt : k < n
    · obtain ⟨b, off, x, rfl, hbk, hx, hx64, hc⟩ := hr.out.at_ hlt
      have hgx := Row.get hx
      clear hx
      by_cases hkm : k < m
      · obtain ⟨b2, off2, y, rfl, hbk2, hy, hy64, hc2⟩ := hs.out.at_ hkm
        have hgy := Row.get hy
        clear hy
        have hT := andNot_test x y hx64 hy64
        rcases Bool.eq_false_or_eq_true (x &&& y == x) with ht | ht
        · have hall' : Hid (∀ j, j < k + 1 → (xs.getD j 0 &&& ys.getD j 0 == xs.getD j 0) = true) := Lib.hid (fun j hj => by
            rcases Nat.lt_succ_iff_lt_or_eq.1 hj with h | h
            · exact hall.out j h
            · rw [h, hgx, hgy]; exact ht)
          rw [ht] at hT
          replace hT : (bits BinOp.andNot IntKind.u64 (x : Int) (y : Int) != 0) = false := hT
          clear ht hgx hgy
          go_wp2
          go_round
          case rel => exact ⟨k + 1, by omega, by go_num, hall'⟩
          case measure => simp [intOf]; omega
        · have hno := Lib.hid (subR_no xs ys k (by rw [hl.out]; exact hlt) (by rw [hgx, hgy]; exact ht))
          rw [ht] at hT
          replace hT : (bits BinOp.andNot IntKind.u64 (x : Int) (y : Int) != 0) = true := hT
          clear ht hgx hgy
          go_wp2
          go_ret
          rw [hno.out]; exact ⟨rfl, rfl⟩
      · have hgy := getD_out ys k (by rw [hl2.out]; omega)
        by_cases hx0 : x = 0
        · subst hx0
          have hall' : Hid (∀ j, j < k + 1 → (xs.getD j 0 &&& ys.getD j 0 == xs.getD j 0) = true) := Lib.hid (fun j hj => by
            rcases Nat.lt_succ_iff_lt_or_eq.1 hj with h | h
            · exact hall.out j h
            · rw [h, hgx, hgy]; rfl)
          clear hgx hgy
          go_wp2
          go_round
          case rel => exact ⟨k + 1, by omega, by go_num, hall'⟩
          case measure => simp [intOf]; omega
        · have hno := Lib.hid (subR_no xs ys k (by rw [hl.out]; exact hlt) (by rw [hgx, hgy, Nat.and_zero, beq_eq_false_iff_ne]; omega))
          have hne : ((x : Int) != 0) = true := by rw [bne_iff_ne]; omega
          clear hgx hgy
          go_wp2
          go_ret
          rw [hno.out]; exact ⟨rfl, rfl⟩
    · have hyes := Lib.hid (subR_yes xs ys (fun j hj => hall.out j (by rw [hl.out] at hj; omega)))
      go_wp2
      go_ret
      rw [hyes.out]; exact ⟨rfl, rfl⟩

set_option maxHeartbeats 400000 in
theorem row_Count (A : Option Addr) (n c : Nat) (xs : List Nat) (w : World) (hr : Row w A n xs) (hn : n ≤ 17592186044416) :
    Calls Try.prog 43 #[.slice A n c] w fun e w' => e = .returned (.int .i64 (countR xs : Nat)) ∧ w = w' := by
  have hl := Lib.hid hr.len
  replace hr := Lib.hid hr
  go_enter Try.func43, Try.ntmps43
  go_wp2
  go_loop [3, 8] (fun s i => ∃ k : Nat, k ≤ n ∧ i = .int .i64 k ∧ s = .int .i64 (countR (xs.take k) : Nat)) (fun _ i => n - (intOf i).toNat)
  case atStart => exact ⟨0, Nat.zero_le _, rfl, rfl⟩
  case round =>
    obtain ⟨k, hk, rfl, rfl⟩ := hrel
    by_cases hlt : k < n
    · obtain ⟨b, off, x, rfl, hbk, hx, hx64, hc⟩ := hr.out.at_ hlt
      have hst := Lib.hid (countR_take xs k x hx)
      have hle : countR (xs.take k) ≤ 64 * k := Nat.le_trans (countR_le _) (by rw [List.length_take]; omega)
      have hp := pop_le x
      clear hx
      go_wp2_with fail
      refine (word_Count x hx64 _).mono ?_; rintro e w' ⟨rfl, rfl⟩
      go_wp2
      go_round
      case rel => exact ⟨k + 1, by omega, by go_num, by rw [hst.out]; go_num⟩
      case measure => simp [intOf]; omega
    · have he : xs.take k = xs := List.take_of_length_le (by rw [hl.out]; omega)
      rw [he]
      clear he
      go_wp2
      go_ret
      exact ⟨rfl, rfl⟩

set_option maxHeartbeats 400000 in
theorem row_Same (A B : Option Addr) (n m c d : Nat) (xs ys : List Nat) (w : World) (hr : Row w A n xs) (hs : Row w B m ys) (hn : n ≤ 17592186044416) (hm : m ≤ 17592186044416) :
    Calls Try.prog 53 #[.slice A n c, .slice B m d] w fun e w' => e = .returned (.bool (sameR xs ys)) ∧ w = w' := by
  have hl := Lib.hid hr.len
  have hl2 := Lib.hid hs.len
  replace hr := Lib.hid hr
  replace hs := Lib.hid hs
  by_cases hnm : n = m
  · subst hnm
    have hne : ((n : Int) != (n : Int)) = false := by simp
    go_enter Try.func53, Try.ntmps53
    go_wp2
    go_loop [14] (fun i => ∃ k : Nat, k ≤ n ∧ i = .int .i64 k ∧ Hid (∀ j, j < k → xs[j]? = ys[j]?)) (fun i => n - (intOf i).toNat)
    case atStart => exact ⟨0, Nat.zero_le _, rfl, Lib.hid (fun j hj => absurd hj (by omega))⟩
    case round =>
      obtain ⟨k, hk, rfl, hall⟩ := hrel
      by_cases hlt : k < n
      · obtain ⟨b, off, x, rfl, hbk, hx, hx64, hc⟩ := hr.out.at_ hlt
        obtain ⟨b2, off2, y, rfl, hbk2, hy, hy64, hc2⟩ := hs.out.at_ hlt
        by_cases hxy : x = y
        · subst hxy
          have hall' : Hid (∀ j, j < k + 1 → xs[j]? = ys[j]?) := Lib.hid (fun j hj => by
            rcases Nat.lt_succ_iff_lt_or_eq.1 hj with h | h
            · exact hall.out j h
            · rw [h, hx, hy])
          clear hx hy
          go_wp2
          go_round
          case rel => exact ⟨k + 1, by omega, by go_num, hall'⟩
          case measure => simp [intOf]; omega
        · have hno := Lib.hid (sameR_no xs ys k x y hx hy hxy)
          have hne' : ((x : Int) != (y : Int)) = true := by rw [bne_iff_ne]; omega
          clear hx hy
          go_wp2
          go_ret
          rw [hno.out]; exact ⟨rfl, rfl⟩
      · have hyes := Lib.hid (sameR_yes xs ys (by rw [hl.out, hl2.out]) (fun j hj => hall.out j (by rw [hl.out] at hj; omega)))
        go_wp2
        go_ret
        rw [hyes.out]; exact ⟨rfl, rfl⟩
  · have hno := Lib.hid (sameR_no_len xs ys (by rw [hl.out, hl2.out]; exact hnm))
    have hne : ((n : Int) != (m : Int)) = true := by rw [bne_iff_ne]; omega
    go_enter Try.func53, Try.ntmps53
    go_wp2
    go_ret
    rw [hno.out]; exact ⟨rfl, rfl⟩

end Go.Proofs.Ytlfdmjlllikmcaa
