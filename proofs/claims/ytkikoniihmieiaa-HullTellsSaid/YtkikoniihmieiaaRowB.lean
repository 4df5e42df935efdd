/- Contracts of package row: clone, Set. Contracts of package row: Or, Sub, Same, Count. Contracts of package row: List. -/
import Derived.Test.YtkikoniihmieiaaRow
import Derived.Deep.RegionWith
import Derived.Deep.RegionHeld3
import Derived.BigRegion
import Derived.Deep.DrawnRows
namespace Go.Proofs.Ytkikoniihmieiaa
open Go.RowKit
set_option linter.unusedVariables false

theorem replicate_zero_u64 (n : Nat) : List.replicate n (Value.int .u64 0) = (List.replicate n (0 : Nat)).map u64v := by simp [u64v]
theorem splice_all (cur cs : List Value) (h : cs.length = cur.length) : splice cur 0 cs = cs := by
  unfold splice; simp [h]
theorem own_of_heap {w : World} {base g n : Nat} {t : TypeId} {cs : List Value} (hb : base ≤ g) (hn : cs.length = n) (hm : n ≤ maxLen) (h : w.heap[g]? = some (.cells cs.toArray t (0, 0))) :
    w.ownsRow base t 1 (.slice (some ⟨g, 0, none⟩) n n) n cs :=
  ⟨by simpa using hn, .inr ⟨g, n, cs.toArray, rfl, hb, h, Nat.le_refl _, hm, by simpa using hn, by rw [List.take_of_length_le (by simp; omega)]⟩⟩

/-- what a call that answers a new row of its own ends in -/
def RetOwn (n : Nat) (xs : List Nat) (w : World) (e : Ending) (w' : World) : Prop :=
  ∃ g, e = .returned (.slice (some ⟨g, 0, none⟩) n n) ∧ w'.ownsRow w.heap.size 56 1 (.slice (some ⟨g, 0, none⟩) n n) n (xs.map u64v) ∧ Below w.heap.size w w'

set_option maxHeartbeats 400000 in
theorem row_clone (A : Option Addr) (n c : Nat) (xs : List Nat) (w : World) (hr : Row w A n xs) (hn : n ≤ 17592186044416) :
    Calls Try.prog 80 #[.slice A n c] w (RetOwn n xs w) := by
  have hl := Lib.hid hr.len
  have hmk := mk_u64 .i64 .i64 n n (Nat.le_refl _) (by omega)
  obtain ⟨i0, hi, hz0, hz1, hz2⟩ := info_parts info_u64
  have hsz : (Try.prog.info? 56).map (·.size) = some 1 := by rw [hi]; simp [hz1]
  replace hsz := Lib.hid hsz
  replace hi := Lib.hid hi
  replace hz0 := Lib.hid hz0
  replace hz1 := Lib.hid hz1
  replace hz2 := Lib.hid hz2
  have hsrc : 0 < (xs.map u64v).length → some (⟨w.heap.size, 0, none⟩ : Addr) = some ⟨w.heap.size, 0, none⟩ ∧ ∃ ad, A = some ad ∧ ∀ j v, (xs.map u64v)[j]? = some v → (w.alloc (.cells (zeros n (.int .u64 0)) 56)).cell? (ad.add j) = some v := by
    intro hp
    obtain ⟨b, off, e, hb, hc⟩ := hr.1.2 (by have := hr.len; simp at hp; omega)
    refine ⟨rfl, _, e, fun j v hv => ?_⟩
    have h := hc j v hv
    have he : (⟨b, off, none⟩ : Addr).add j = ⟨b, off + j, none⟩ := by unfold Addr.add; split <;> simp_all
    rw [he, World.cell?_alloc_lt w _ _ hb]; exact h
  replace hsrc := Lib.hid hsrc
  clear hr
  go_enter Try.func80, Try.ntmps80
  go_wp2_with (with_reducible refine wpList_copy_splice rfl _ _ _ _ rfl 56 Try.underlying53 hsz.out (some ⟨w.heap.size, 0, none⟩) A n n n c rfl rfl w.heap.size 0 (List.replicate n (.int .u64 0)) 56 (heap_alloc_new _ _) (xs.map u64v) (by simp [hl.out]) hsrc.out (by simp [hl.out]) (by simp [u64v, Value.oneCell']) w.heap.size w ((Below.refl _ _).alloc (Nat.le_refl _) _) (Nat.le_refl _) ?_; intro w1 hg1 hb1)
  go_ret
  refine ⟨_, rfl, own_of_heap (Nat.le_refl _) (by simp [hl.out]) (by unfold maxLen; omega) ?_, hb1⟩
  rw [hg1.out, splice_all _ _ (by simp [hl.out])]

theorem word_BitN (r : Nat) (hr : r < 64) (w : World) : Calls Try.prog 82 #[.int .i64 (r : Int)] w fun e w' => e = .returned (.int .u64 (p2 r : Nat)) ∧ w = w' := by
  have h := word_Bit (r : Int) (by omega) (by omega) w
  rwa [bitZ_p2 (r : Int) (by omega) (by omega), Int.toNat_natCast] at h
theorem setR_in {xs : List Nat} {m x : Nat} (hm : m < 64 * xs.length) (hx : xs[m / 64]? = some x) : setR xs (m : Int) = xs.set (m / 64) (x ||| p2 (m % 64)) := by
  unfold setR p2
  rw [Int.toNat_natCast, if_pos (inR_in _ _ hm), Row.get hx]
theorem setR_out {xs : List Nat} {i : Int} (h : i < 0 ∨ 64 * (xs.length : Int) ≤ i) : setR xs i = xs := by
  unfold setR; rw [inR_out _ _ h]; rfl
theorem or_p2_lt {x r : Nat} (hx : x < 18446744073709551616) (hr : r < 64) : x ||| p2 r < 18446744073709551616 := by
  have := p2_lt r hr
  exact Nat.or_lt_two_pow (n := 64) hx (by omega)
theorem mem_set_lt {xs : List Nat} {k y B : Nat} (h : ∀ x ∈ xs, x < B) (hy : y < B) : ∀ x ∈ xs.set k y, x < B := fun x hx => by
  rcases List.mem_or_eq_of_mem_set hx with h1 | h1
  · exact h x h1
  · rw [h1]; exact hy

set_option maxHeartbeats 400000 in
theorem row_SetO (A : Option Addr) (n c : Nat) (xs : List Nat) (i : Int) (w : World) (hr : Row w A n xs) (hn : n ≤ 17592186044416) (h1 : -9223372036854775808 ≤ i) (h2 : i < 9223372036854775808) :
    Calls Try.prog 47 #[.slice A n c, .int .i64 i] w (RetRowO 56 (setR xs i) w) := by
  have hcl := Lib.hid (row_clone A n c xs w hr hn)
  have hlt := Lib.hid hr.2
  have hl := hr.len
  by_cases h : 0 ≤ i ∧ i < 64 * (n : Int)
  · obtain ⟨m, rfl⟩ := Int.eq_ofNat_of_zero_le h.1
    have hm : m < 64 * n := by omega
    have hI := Lib.hid (inR_in n m hm)
    obtain ⟨x, hx⟩ : ∃ x, xs[m / 64]? = some x := ⟨_, List.getElem?_eq_getElem (by omega)⟩
    have hx64 : x < 18446744073709551616 := hlt.out x (List.mem_of_getElem? hx)
    have hS := setR_in (m := m) (by omega) hx
    obtain ⟨r, hre⟩ : ∃ r, r = m % 64 := ⟨_, rfl⟩
    have hr64 : r < 64 := by omega
    have hA := i64_and_63 m (by omega)
    rw [← hre] at hS hA
    have hE := u64_or_nat x (p2 r) hx64 (by have := p2_lt r hr64; omega)
    have hO := or_p2_lt hx64 hr64
    replace hO := Lib.hid hO
    replace hE := Lib.hid hE
    replace hS := Lib.hid hS
    replace hA := Lib.hid hA
    replace hx := Lib.hid hx
    have hl' := Lib.hid hl
    clear h hl hr hre
    go_enter Try.func47, Try.ntmps47
    go_wp2_with fail
    refine hcl.out.mono ?_; rintro e w1 ⟨g, rfl, hown, hb⟩
    have hc : w1.cell? ⟨g, m / 64, none⟩ = some (.int .u64 (x : Int)) := by
      rw [hown.cellAt _ (by omega), List.getElem?_map, hx.out]; rfl
    have hf := hown.frozenAt (m / 64)
    have hg := (hown.lt g rfl).1
    go_wp2_with fail
    refine (row_within _ n _ m (by omega) (by omega) (by omega) _).mono ?_; rintro e w' ⟨rfl, rfl⟩
    rw [hI.out]
    go_wp2_with fail
    have hA1 : (0 : Int) ≤ (m : Int) / 64 := by omega
    have hA2 : (m : Int) / 64 < (n : Int) := by omega
    have hA3 : ((m : Int) / 64).toNat = m / 64 := by omega
    refine still_tail 10 (by kernel_rfl) (by kernel_rfl) (fun W hW => ?_)
    have hc' : W.cell? ⟨g, m / 64, none⟩ = some (.int .u64 (x : Int)) := by rw [hW.out]; exact hc
    have hf' : W.frozen? ⟨g, m / 64, none⟩ = false := by rw [hW.out]; exact hf
    have hown' : W.ownsRow w.heap.size 56 1 (.slice (some ⟨g, 0, none⟩) n n) n (xs.map u64v) := by rw [hW.out]; exact hown.drew
    have hb' : Below w.heap.size w W := by rw [hW.out]; exact hb.drew
    clear hc hf hb hown
    simp only [List.take_succ_cons, List.take_zero, List.drop_succ_cons, List.drop_zero]
    repeat still_step
    refine wpStill_step (fun K hK => ?_)
    go_simp
    rw [hA.out]
    refine ⟨_, still_call (word_BitN _ hr64 _), hK _ ?_⟩
    clear hK K
    repeat still_step
    refine wpStill_nil ?_
    go_wp2
    go_ret
    rw [hE.out, hS.out]
    refine own_ret (c := n) ?_ (mem_set_lt hlt.out hO.out) (hb'.setCell hg _)
    rw [List.map_set]
    exact (hown'.stored _ _).1
  · have hI := Lib.hid (inR_out n i (by omega))
    have hS := Lib.hid (setR_out (xs := xs) (i := i) (by omega))
    clear h hl hr
    go_enter Try.func47, Try.ntmps47
    go_wp2_with fail
    refine hcl.out.mono ?_; rintro e w1 ⟨g, rfl, hown, hb⟩
    go_wp2_with fail
    refine (row_within _ n _ i (by omega) (by omega) (by omega) _).mono ?_; rintro e w' ⟨rfl, rfl⟩
    rw [hI.out]
    go_wp2
    go_ret
    rw [hS.out]
    exact own_ret hown hlt.out (hb)
theorem row_Set (A : Option Addr) (n c : Nat) (xs : List Nat) (i : Int) (w : World) (hr : Row w A n xs) (hn : n ≤ 17592186044416) (h1 : -9223372036854775808 ≤ i) (h2 : i < 9223372036854775808) :
    Calls Try.prog 47 #[.slice A n c, .int .i64 i] w (RetRow (setR xs i) w) := (row_SetO A n c xs i w hr hn h1 h2).mono fun _ _ h => h.row

end Go.Proofs.Ytkikoniihmieiaa

namespace Go.Proofs.Ytkikoniihmieiaa
open Go.RowKit
set_option linter.unusedVariables false

theorem orv (x y : Nat) (hx : x < 18446744073709551616) (hy : y < 18446744073709551616) : bits BinOp.or IntKind.u64 (x : Int) (y : Int) = ((x ||| y : Nat) : Int) := u64_or_nat x y hx hy

set_option maxHeartbeats 400000 in
theorem row_Or_ge (A B : Option Addr) (n m c d : Nat) (xs ys : List Nat) (w : World) (hr : Row w A n xs) (hs : Row w B m ys) (hn : n ≤ 17592186044416) (h : m ≤ n) :
    Calls Try.prog 72 #[.slice A n c, .slice B m d] w (RetRowO 56 (orR xs ys) w) := by
  have hcl := Lib.hid (row_clone A n c xs w hr hn)
  have hl := Lib.hid hr.len
  have hl2 := Lib.hid hs.len
  have hlt := Lib.hid (orK_lt xs ys m hr.2 hs.2)
  have hd := Lib.hid (Row.getD_lt hr)
  have hall := orK_all xs ys (by rw [hl.out, hl2.out]; exact h)
  rw [hl2.out] at hall
  replace hall := Lib.hid hall
  have h0 : ¬ n < m := by omega
  replace hs := Lib.hid hs
  clear hr
  go_enter Try.func72, Try.ntmps72
  go_wp2_with fail
  refine hcl.out.mono ?_; rintro e w1 ⟨g, rfl, hown, hb⟩
  have hg := (hown.lt g rfl).1
  go_wp2_with fail
  go_loopw [19] (fun i wr => ∃ k : Nat, k ≤ m ∧ i = .int .i64 k ∧ wr.ownsRow w.heap.size 56 1 (.slice (some ⟨g, 0, none⟩) n n) n ((orK xs ys k).map u64v) ∧ Below w.heap.size w wr) (fun i _ => m - (intOf i).toNat)
  case atStart => exact ⟨0, Nat.zero_le _, rfl, by rw [orK_zero]; exact hown, hb⟩
  case round =>
    obtain ⟨k, hk, rfl, hownr, hbr⟩ := hrel
    clear hown hb
    by_cases hlt' : k < m
    · have hs' := hs.out.below hbr
      obtain ⟨b, off, y, rfl, hbk, hy, hy64, hc⟩ := hs'.at_ hlt'
      have hgx := orK_get xs ys k (by rw [hl.out]; omega)
      have hx64 := hd.out k
      obtain ⟨x, hx⟩ : ∃ x, x = xs.getD k 0 := ⟨_, rfl⟩
      rw [← hx] at hgx hx64
      have hcg : wr.cell? ⟨g, k, none⟩ = some (.int .u64 (x : Int)) := by
        rw [hownr.cellAt _ (by omega), List.getElem?_map, hgx]; rfl
      have hf := hownr.frozenAt k
      have hE := Lib.hid (orv x y hx64 hy64)
      have hst := orK_set xs ys k
      rw [← hx, Row.get hy] at hst
      have hst := Lib.hid hst
      clear hgx hy hs'
      replace hx := Lib.hid hx
      go_wp2
      go_roundw
      case rel =>
        refine ⟨k + 1, by omega, by go_num, ?_, hbr.setCell hg _⟩
        rw [hE.out, ← hst.out, List.map_set]
        exact (hownr.stored _ _).1
      case measure => simp [intOf]; omega
    · obtain rfl : k = m := by omega
      clear hlt'
      go_wp2
      go_ret
      rw [← hall.out]
      exact own_ret hownr hlt.out (hbr)
set_option maxHeartbeats 400000 in
theorem row_Or_lt (A B : Option Addr) (n m c d : Nat) (xs ys : List Nat) (w : World) (hr : Row w A n xs) (hs : Row w B m ys) (hn : n ≤ 17592186044416) (h : m < n) :
    Calls Try.prog 72 #[.slice B m d, .slice A n c] w (RetRowO 56 (orR xs ys) w) := by
  have hcl := Lib.hid (row_clone A n c xs w hr hn)
  have hl := Lib.hid hr.len
  have hl2 := Lib.hid hs.len
  have hlt := Lib.hid (orK_lt xs ys m hr.2 hs.2)
  have hd := Lib.hid (Row.getD_lt hr)
  have hall := orK_all xs ys (by rw [hl.out, hl2.out]; omega)
  rw [hl2.out] at hall
  replace hall := Lib.hid hall
  replace hs := Lib.hid hs
  clear hr
  go_enter Try.func72, Try.ntmps72
  go_wp2_with fail
  refine hcl.out.mono ?_; rintro e w1 ⟨g, rfl, hown, hb⟩
  have hg := (hown.lt g rfl).1
  go_wp2_with fail
  go_loopw [19] (fun i wr => ∃ k : Nat, k ≤ m ∧ i = .int .i64 k ∧ wr.ownsRow w.heap.size 56 1 (.slice (some ⟨g, 0, none⟩) n n) n ((orK xs ys k).map u64v) ∧ Below w.heap.size w wr) (fun i _ => m - (intOf i).toNat)
  case atStart => exact ⟨0, Nat.zero_le _, rfl, by rw [orK_zero]; exact hown, hb⟩
  case round =>
    obtain ⟨k, hk, rfl, hownr, hbr⟩ := hrel
    clear hown hb
    by_cases hlt' : k < m
    · have hs' := hs.out.below hbr
      obtain ⟨b, off, y, rfl, hbk, hy, hy64, hc⟩ := hs'.at_ hlt'
      have hgx := orK_get xs ys k (by rw [hl.out]; omega)
      have hx64 := hd.out k
      obtain ⟨x, hx⟩ : ∃ x, x = xs.getD k 0 := ⟨_, rfl⟩
      rw [← hx] at hgx hx64
      have hcg : wr.cell? ⟨g, k, none⟩ = some (.int .u64 (x : Int)) := by
        rw [hownr.cellAt _ (by omega), List.getElem?_map, hgx]; rfl
      have hf := hownr.frozenAt k
      have hE := Lib.hid (orv x y hx64 hy64)
      have hst := orK_set xs ys k
      rw [← hx, Row.get hy] at hst
      have hst := Lib.hid hst
      clear hgx hy hs'
      replace hx := Lib.hid hx
      go_wp2
      go_roundw
      case rel =>
        refine ⟨k + 1, by omega, by go_num, ?_, hbr.setCell hg _⟩
        rw [hE.out, ← hst.out, List.map_set]
        exact (hownr.stored _ _).1
      case measure => simp [intOf]; omega
    · obtain rfl : k = m := by omega
      clear hlt'
      go_wp2
      go_ret
      rw [← hall.out]
      exact own_ret hownr hlt.out (hbr)
theorem row_OrO (A B : Option Addr) (n m c d : Nat) (xs ys : List Nat) (w : World) (hr : Row w A n xs) (hs : Row w B m ys) (hn : n ≤ 17592186044416) (hm : m ≤ 17592186044416) :
    Calls Try.prog 72 #[.slice A n c, .slice B m d] w (RetRowO 56 (orR xs ys) w) := by
  rcases Nat.lt_or_ge n m with h | h
  · rw [orR_comm]; exact row_Or_lt B A m n d c ys xs w hs hr hm h
  · exact row_Or_ge A B n m c d xs ys w hr hs hn h
theorem row_Or (A B : Option Addr) (n m c d : Nat) (xs ys : List Nat) (w : World) (hr : Row w A n xs) (hs : Row w B m ys) (hn : n ≤ 17592186044416) (hm : m ≤ 17592186044416) :
    Calls Try.prog 72 #[.slice A n c, .slice B m d] w (RetRow (orR xs ys) w) := (row_OrO A B n m c d xs ys w hr hs hn hm).mono fun _ _ h => h.row

theorem andNot_eq (x y : Nat) (hx : x < 18446744073709551616) (hy : y < 18446744073709551616) : bits BinOp.andNot IntKind.u64 (x : Int) (y : Int) = ((x &&& (18446744073709551615 - y) : Nat) : Int) := u64_andNot_nat x y hx hy
theorem andNot_test (x y : Nat) (hx : x < 18446744073709551616) (hy : y < 18446744073709551616) : (bits BinOp.andNot IntKind.u64 (x : Int) (y : Int) != 0) = !(x &&& y == x) := by
  rw [andNot_eq x y hx hy, ← and_not_zero x y hx hy, bne]
  congr 1
  rw [Bool.eq_iff_iff, beq_iff_eq, beq_iff_eq]; omega
set_option maxHeartbeats 400000 in
theorem row_Sub (A B : Option Addr) (n m c d : Nat) (xs ys : List Nat) (w : World) (hr : Row w A n xs) (hs : Row w B m ys) (hn : n ≤ 17592186044416) (_hm : m ≤ 17592186044416) :
    Calls Try.prog 63 #[.slice A n c, .slice B m d] w fun e w' => e = .returned (.bool (subR xs ys)) ∧ w = w' := by
  have hl := Lib.hid hr.len
  have hl2 := Lib.hid hs.len
  replace hr := Lib.hid hr
  replace hs := Lib.hid hs
  go_enter Try.func63, Try.ntmps63
  go_wp2
  go_loop [9] (fun i => ∃ k : Nat, k ≤ n ∧ i = .int .i64 k ∧ Hid (∀ j, j < k → (xs.getD j 0 &&& ys.getD j 0 == xs.getD j 0) = true)) (fun i => n - (intOf i).toNat)
  case atStart => exact ⟨0, Nat.zero_le _, rfl, Lib.hid (fun j hj => absurd hj (by omega))⟩
  case round =>
    obtain ⟨k, hk, rfl, hall⟩ := hrel
    by_cases hlt : k < n
    · obtain ⟨b, off, x, rfl, hbk, hx, hx64, hc⟩ := hr.out.at_ hlt
      have hgx := Row.get hx
      clear hx
      by_cases hkm : k < m
      · obtain ⟨b2, off2, y, rfl, hbk2, hy, hy64, hc2⟩ := hs.out.at_ hkm
        have hgy := Row.get hy
        clear hy
        have hT := andNot_test x y hx64 hy64
        rcases Bool.eq_false_or_eq_true (x &&& y == x) with ht | ht
        · have hall' : Hid (∀ j, j < k + 1 → (xs.getD j 0 &&& ys.getD j 0 == xs.getD j 0) = true) := Lib.hid (fun j hj => by
            rcases Nat.lt_succ_iff_lt_or_eq.1 hj with h | h
            · exact hall.out j h
            · rw [h, hgx, hgy]; exact ht)
          rw [ht] at hT
          replace hT : (bits BinOp.andNot IntKind.u64 (x : Int) (y : Int) != 0) = false := hT
          clear ht hgx hgy
          go_wp2
          go_round
          case rel => exact ⟨k + 1, by omega, by go_num, hall'⟩
          case measure => simp [intOf]; omega
        · have hno := Lib.hid (subR_no xs ys k (by rw [hl.out]; exact hlt) (by rw [hgx, hgy]; exact ht))
          rw [ht] at hT
          replace hT : (bits BinOp.andNot IntKind.u64 (x : Int) (y : Int) != 0) = true := hT
          clear ht hgx hgy
          go_wp2
          go_ret
          rw [hno.out]; exact ⟨rfl, rfl⟩
      · have hgy := getD_out ys k (by rw [hl2.out]; omega)
        by_cases hx0 : x = 0
        · subst hx0
          have hall' : Hid (∀ j, j < k + 1 → (xs.getD j 0 &&& ys.getD j 0 == xs.getD j 0) = true) := Lib.hid (fun j hj => by
            rcases Nat.lt_succ_iff_lt_or_eq.1 hj with h | h
            · exact hall.out j h
            · rw [h, hgx, hgy]; rfl)
          clear hgx hgy
          go_wp2
          go_round
          case rel => exact ⟨k + 1, by omega, by go_num, hall'⟩
          case measure => simp [intOf]; omega
        · have hno := Lib.hid (subR_no xs ys k (by rw [hl.out]; exact hlt) (by rw [hgx, hgy, Nat.and_zero, beq_eq_false_iff_ne]; omega))
          have hne : ((x : Int) != 0) = true := by rw [bne_iff_ne]; omega
          clear hgx hgy
          go_wp2
          go_ret
          rw [hno.out]; exact ⟨rfl, rfl⟩
    · have hyes := Lib.hid (subR_yes xs ys (fun j hj => hall.out j (by rw [hl.out] at hj; omega)))
      go_wp2
      go_ret
      rw [hyes.out]; exact ⟨rfl, rfl⟩

set_option maxHeartbeats 400000 in
theorem row_Count (A : Option Addr) (n c : Nat) (xs : List Nat) (w : World) (hr : Row w A n xs) (hn : n ≤ 17592186044416) :
    Calls Try.prog 54 #[.slice A n c] w fun e w' => e = .returned (.int .i64 (countR xs : Nat)) ∧ w = w' := by
  have hl := Lib.hid hr.len
  replace hr := Lib.hid hr
  go_enter Try.func54, Try.ntmps54
  go_wp2
  go_loop [3, 8] (fun s i => ∃ k : Nat, k ≤ n ∧ i = .int .i64 k ∧ s = .int .i64 (countR (xs.take k) : Nat)) (fun _ i => n - (intOf i).toNat)
  case atStart => exact ⟨0, Nat.zero_le _, rfl, rfl⟩
  case round =>
    obtain ⟨k, hk, rfl, rfl⟩ := hrel
    by_cases hlt : k < n
    · obtain ⟨b, off, x, rfl, hbk, hx, hx64, hc⟩ := hr.out.at_ hlt
      have hst := Lib.hid (countR_take xs k x hx)
      have hle : countR (xs.take k) ≤ 64 * k := Nat.le_trans (countR_le _) (by rw [List.length_take]; omega)
      have hp := pop_le x
      clear hx
      go_wp2_with fail
      refine (word_Count x hx64 _).mono ?_; rintro e w' ⟨rfl, rfl⟩
      go_wp2
      go_round
      case rel => exact ⟨k + 1, by omega, by go_num, by rw [hst.out]; go_num⟩
      case measure => simp [intOf]; omega
    · have he : xs.take k = xs := List.take_of_length_le (by rw [hl.out]; omega)
      rw [he]
      clear he
      go_wp2
      go_ret
      exact ⟨rfl, rfl⟩

set_option maxHeartbeats 400000 in
theorem row_Same (A B : Option Addr) (n m c d : Nat) (xs ys : List Nat) (w : World) (hr : Row w A n xs) (hs : Row w B m ys) (hn : n ≤ 17592186044416) (hm : m ≤ 17592186044416) :
    Calls Try.prog 65 #[.slice A n c, .slice B m d] w fun e w' => e = .returned (.bool (sameR xs ys)) ∧ w = w' := by
  have hl := Lib.hid hr.len
  have hl2 := Lib.hid hs.len
  replace hr := Lib.hid hr
  replace hs := Lib.hid hs
  by_cases hnm : n = m
  · subst hnm
    have hne : ((n : Int) != (n : Int)) = false := by simp
    go_enter Try.func65, Try.ntmps65
    go_wp2
    go_loop [14] (fun i => ∃ k : Nat, k ≤ n ∧ i = .int .i64 k ∧ Hid (∀ j, j < k → xs[j]? = ys[j]?)) (fun i => n - (intOf i).toNat)
    case atStart => exact ⟨0, Nat.zero_le _, rfl, Lib.hid (fun j hj => absurd hj (by omega))⟩
    case round =>
      obtain ⟨k, hk, rfl, hall⟩ := hrel
      by_cases hlt : k < n
      · obtain ⟨b, off, x, rfl, hbk, hx, hx64, hc⟩ := hr.out.at_ hlt
        obtain ⟨b2, off2, y, rfl, hbk2, hy, hy64, hc2⟩ := hs.out.at_ hlt
        by_cases hxy : x = y
        · subst hxy
          have hall' : Hid (∀ j, j < k + 1 → xs[j]? = ys[j]?) := Lib.hid (fun j hj => by
            rcases Nat.lt_succ_iff_lt_or_eq.1 hj with h | h
            · exact hall.out j h
            · rw [h, hx, hy])
          clear hx hy
          go_wp2
          go_round
          case rel => exact ⟨k + 1, by omega, by go_num, hall'⟩
          case measure => simp [intOf]; omega
        · have hno := Lib.hid (sameR_no xs ys k x y hx hy hxy)
          have hne' : ((x : Int) != (y : Int)) = true := by rw [bne_iff_ne]; omega
          clear hx hy
          go_wp2
          go_ret
          rw [hno.out]; exact ⟨rfl, rfl⟩
      · have hyes := Lib.hid (sameR_yes xs ys (by rw [hl.out, hl2.out]) (fun j hj => hall.out j (by rw [hl.out] at hj; omega)))
        go_wp2
        go_ret
        rw [hyes.out]; exact ⟨rfl, rfl⟩
  · have hno := Lib.hid (sameR_no_len xs ys (by rw [hl.out, hl2.out]; exact hnm))
    have hne : ((n : Int) != (m : Int)) = true := by rw [bne_iff_ne]; omega
    go_enter Try.func65, Try.ntmps65
    go_wp2
    go_ret
    rw [hno.out]; exact ⟨rfl, rfl⟩

end Go.Proofs.Ytkikoniihmieiaa

namespace Go.Proofs.Ytkikoniihmieiaa
open Go.RowKit
set_option linter.unusedVariables false

/-- the numbers without a sign, as cells -/
def natv (i : Nat) : Value := .int .i64 (i : Int)
theorem natv_ints (l : List Nat) : l.map natv = (l.map Int.ofNat).map i64v := by
  rw [List.map_map]; rfl
theorem own_ints {w : World} {base n : Nat} {e : TypeId} {v : Value} {zs : List Nat} (h : w.ownsRow base e 1 v n (zs.map natv)) (hx : ∀ x ∈ zs, x < 9223372036854775808) : ∃ A c, v = .slice A n c ∧ Ints w A n (zs.map Int.ofNat) := by
  obtain ⟨A, c, hv, hr⟩ := Rd.of_own h
  refine ⟨A, c, hv, by rw [← natv_ints]; exact hr, fun x hx' => ?_⟩
  obtain ⟨i, hi, rfl⟩ := List.mem_map.1 hx'
  have := hx i hi
  show -9223372036854775808 ≤ (i : Int) ∧ (i : Int) < 9223372036854775808
  omega
theorem off_eq (x i : Nat) (hx : x < 18446744073709551616) (hi : i < 64) : bits BinOp.andNot IntKind.u64 (x : Int) (p2 i : Nat) = (offN x i : Nat) := by
  have := p2_lt i hi
  exact u64_andNot_nat x (p2 i) hx (by omega)

set_option maxHeartbeats 1000000 in
theorem row_ListO (A : Option Addr) (n c : Nat) (xs : List Nat) (w : World) (hr : Row w A n xs) (hn : n ≤ 1073741824) :
    Calls Try.prog 55 #[.slice A n c] w (RetIntsO 3 (listR xs) w) := by
  have hcn := Lib.hid (row_Count A n c xs w hr (by omega))
  have hl := Lib.hid hr.len
  have hcle : countR xs ≤ 64 * n := by have := countR_le xs; rw [hr.len] at this; exact this
  have hmk := mk_int .i64 .i64 0 (countR xs) (by omega) (by omega)
  rw [show ((0 : Nat) : Int) = 0 from rfl] at hmk
  obtain ⟨i0, hi, hz0, hz1, hz2⟩ := info_parts info_int
  replace hi := Lib.hid hi
  replace hz0 := Lib.hid hz0
  replace hz1 := Lib.hid hz1
  replace hz2 := Lib.hid hz2
  replace hr := Lib.hid hr
  go_enter Try.func55, Try.ntmps55
  go_wp2_with fail
  refine hcn.out.mono ?_; rintro e w' ⟨rfl, rfl⟩
  have hown0 := World.ownsRow_made (base := w.heap.size) (e := 3) (size := 1) w (zeros (countR xs) (.int .i64 0)) (countR xs) (Nat.le_refl _) (by unfold maxLen; omega) (by simp [zeros])
  have hb0 : Below w.heap.size w (w.alloc (.cells (zeros (countR xs) (.int .i64 0)) 3)) := (Below.refl _ _).alloc (Nat.le_refl _) _
  go_wp2
  go_loopw [3, 12] (fun l i wr => ∃ k : Nat, k ≤ n ∧ i = .int .i64 k ∧ wr.ownsRow w.heap.size 3 1 l (listK xs k).length ((listK xs k).map natv) ∧ Below w.heap.size w wr) (fun _ i _ => n - (intOf i).toNat)
  case atStart => exact ⟨0, Nat.zero_le _, rfl, hown0, hb0⟩
  case round =>
    obtain ⟨k, hk, rfl, hown, hb⟩ := hrel
    clear hown0 hb0 hmk
    by_cases hlt : k < n
    · obtain ⟨b, off, x, rfl, hbk, hx, hx64, hc⟩ := (hr.out.below hb).at_ hlt
      have hst := Lib.hid (listK_succ xs k x hx)
      clear hx
      go_wp2
      go_loopw [3, 5] (fun l v wi => ∃ (D : List Nat) (r : Nat), r < 18446744073709551616 ∧ v = .int .u64 r ∧ Hid (D ++ (bitsOf r).map (64 * k + ·) = listK xs (k + 1)) ∧ wi.ownsRow w.heap.size 3 1 l D.length (D.map natv) ∧ Below w.heap.size w wi) (fun _ v _ => (bitsOf (intOf v).toNat).length)
      case atStart => exact ⟨_, x, hx64, rfl, Lib.hid hst.out.symm, hown, hb⟩
      case round =>
        obtain ⟨D, r, hr64, rfl, hD, hownD, hbD⟩ := hrel
        clear hown hb hc
        by_cases h0 : r = 0
        · subst h0
          have hD' := hD.out
          rw [bitsOf_zero, List.map_nil, List.append_nil] at hD'
          rw [hD'] at hownD
          clear hD hD' hst
          go_wp2
          go_roundw
          case rel => exact ⟨k + 1, by omega, by go_num, hownD, hbD⟩
          case measure => simp [intOf]; omega
        · have hbs := bitsOf_step r hr64 h0
          have hl64 := low0_lt r hr64 h0
          obtain ⟨i, hie⟩ : ∃ i, i = low0 r := ⟨_, rfl⟩
          have hne : ((r : Int) != 0) = true := by rw [bne_iff_ne]; omega
          have hoff := off_eq r i hr64 (by omega)
          have hof64 := offN_lt r i hr64
          have hfirst := word_First r hr64
          rw [← hie] at hbs hl64 hfirst
          have hDl : D.length ≤ 64 * (k + 1) := by
            have := listK_len xs (k + 1)
            rw [← hD.out, List.length_append] at this; omega
          have hD2 : Hid ((D ++ [64 * k + i]) ++ (bitsOf (offN r i)).map (64 * k + ·) = listK xs (k + 1)) := Lib.hid (by
            rw [← hD.out, hbs]; simp)
          have hlen : (bitsOf r).length = (bitsOf (offN r i)).length + 1 := by rw [hbs]; rfl
          replace hlen := Lib.hid hlen
          replace hoff := Lib.hid hoff
          replace hfirst := Lib.hid hfirst
          clear hbs hie hD hst h0
          go_wp2_with fail
          refine (hfirst.out _).mono ?_; rintro e w' ⟨rfl, rfl⟩
          go_wp2_with (first
            | (at_builtin; refine wpList_append_lies _ rfl (.tmp 21) (.tmp 26) _ rfl w.heap.size 3 i0 _ 1 8 Try.underlying41 hi.out hz0.out hz1.out hz2.out rfl (by omega) _ _ _ (by rfl) (hownD.alloc _) ⟨wr.heap.size, 0, none⟩ 1 1 [.int .i64 ((k : Int) * 64 + i)] rfl rfl (cell_one_new _ _ _) (by simp [Value.oneCell']) (by omega) (by unfold maxLen; omega) (by omega) (by have := hbD.size; simp; omega) _ rfl ?_; intro g cap w1 hown1 hgrow hat hlt1; have hb1 := (hbD.alloc hbD.size _).grown hgrow (by have := hbD.size; simp; omega) (own_lt_block hownD); clear hgrow hat hlt1)
            | (go_at_call 82; refine (word_BitN i hl64 _).mono ?_; rintro e w' ⟨rfl, rfl⟩))
          go_roundw
          case rel =>
            refine ⟨D ++ [64 * k + i], offN r i, hof64, by rw [hoff.out], hD2, ?_, hb1⟩
            rw [List.length_append, List.map_append]
            have e : natv (64 * k + i) = .int .i64 ((k : Int) * 64 + i) := by unfold natv; rw [show ((64 * k + i : Nat) : Int) = (k : Int) * 64 + i from by omega]
            rw [List.map_cons, List.map_nil, e]
            exact hown1
          case measure =>
            rw [hoff.out]; simp only [intOf, Int.toNat_natCast]; rw [hlen.out]; omega
    · obtain rfl : k = n := by omega
      have he : listK xs k = listN xs := by rw [← hl.out]; exact listK_all xs
      rw [he] at hown
      have hb64 : ∀ i ∈ listN xs, i < 9223372036854775808 := fun i hi' => by
        have := listK_lt xs xs.length i hi'
        rw [hl.out] at this; omega
      obtain ⟨A', c', rfl, hI⟩ := own_ints hown hb64
      have hO := hown
      rw [natv_ints] at hO
      clear he hb64 hown
      go_wp2
      go_ret
      exact ⟨_, _, _, rfl, hO, hI.2, hb⟩
theorem row_List (A : Option Addr) (n c : Nat) (xs : List Nat) (w : World) (hr : Row w A n xs) (hn : n ≤ 1073741824) :
    Calls Try.prog 55 #[.slice A n c] w (RetInts (listR xs) w) := (row_ListO A n c xs w hr hn).mono fun _ _ h => h.ints

end Go.Proofs.Ytkikoniihmieiaa
