/- Contracts of package row: clone, Set. Contracts of package row: Or, Sub, Same, Count. Contracts of package row: List. Contracts of the document's own answers for rows (package eyewitnessref02). Contracts of the document's own answers for rows: Sub, Set, Or. Contracts of the document's own answers for rows: Set. Plain facts of rows: what the statements of layer 2 say of them. Plain mathematics of square matrices of bits. Nothing of the program is imported. Plain mathematics of layer 12: what stands ahead within a session. Nothing of the program is named. Facts in a variable (FBox), as the document's answers of layers 10 and on box them. Plain mathematics of layer 10: writes of values, differentiated facts. Nothing of the program is named. Plain mathematics of layer 11: what reads read from. Nothing of the program is named. The contracts of the document's own answers of layer 10: Write, Check. The contracts of the document's own answers of layer 6: Name, Flat, Count, Right, Spot, Small. A region that draws its order: walked in an order of one's own ('plan'): what only reads (copies, addresses, arithmetic, loads) is taken as soon as it may come up; a call comes up alone; behind the plan a tail, one operation behind the other. What a call makes of memory may be anything that leaves the blocks that were there as they were ('Below'). No function of the program is named here. The contracts of the document's own answers of layer 6: Spot, Number, Same. -/
import Derived.Test.YtmgockkjoogcaaaCauseMorePk1
import Derived.Deep.RegionWith
import Derived.Deep.RegionHeld3
import Derived.BigRegion
import Derived.Deep.DrawnRows
import Derived.Laws.AppendOwnNone
import Derived.OpenShut
import Derived.Test.YtmgockkjoogcaaaProg
import Derived.BigQuiet
import Derived.OrdersHeld
import Derived.StillTail
import Derived.Below
import Derived.WalkKit
import Derived.Lib.Hide
namespace Go.Proofs.Ytmgockkjoogcaaa
open Go.RowKit
set_option linter.unusedVariables false

theorem replicate_zero_u64 (n : Nat) : List.replicate n (Value.int .u64 0) = (List.replicate n (0 : Nat)).map u64v := by simp [u64v]
theorem splice_all (cur cs : List Value) (h : cs.length = cur.length) : splice cur 0 cs = cs := by
  unfold splice; simp [h]
theorem own_of_heap {w : World} {base g n : Nat} {t : TypeId} {cs : List Value} (hb : base ≤ g) (hn : cs.length = n) (hm : n ≤ maxLen) (h : w.heap[g]? = some (.cells cs.toArray t (0, 0))) :
    w.ownsRow base t 1 (.slice (some ⟨g, 0, none⟩) n n) n cs :=
  ⟨by simpa using hn, .inr ⟨g, n, cs.toArray, rfl, hb, h, Nat.le_refl _, hm, by simpa using hn, by rw [List.take_of_length_le (by simp; omega)]⟩⟩

/-- what a call that answers a new row of its own ends in -/
def RetOwn (n : Nat) (xs : List Nat) (w : World) (e : Ending) (w' : World) : Prop :=
  ∃ g, e = .returned (.slice (some ⟨g, 0, none⟩) n n) ∧ w'.ownsRow w.heap.size 77 1 (.slice (some ⟨g, 0, none⟩) n n) n (xs.map u64v) ∧ Below w.heap.size w w'

set_option maxHeartbeats 400000 in
theorem row_clone (A : Option Addr) (n c : Nat) (xs : List Nat) (w : World) (hr : Row w A n xs) (hn : n ≤ 17592186044416) :
    Calls Try.prog 68 #[.slice A n c] w (RetOwn n xs w) := by
  have hl := Lib.hid hr.len
  have hmk := mk_u64 .i64 .i64 n n (Nat.le_refl _) (by omega)
  obtain ⟨i0, hi, hz0, hz1, hz2⟩ := info_parts info_u64
  have hsz : (Try.prog.info? 77).map (·.size) = some 1 := by rw [hi]; simp [hz1]
  replace hsz := Lib.hid hsz
  replace hi := Lib.hid hi
  replace hz0 := Lib.hid hz0
  replace hz1 := Lib.hid hz1
  replace hz2 := Lib.hid hz2
  have hsrc : 0 < (xs.map u64v).length → some (⟨w.heap.size, 0, none⟩ : Addr) = some ⟨w.heap.size, 0, none⟩ ∧ ∃ ad, A = some ad ∧ ∀ j v, (xs.map u64v)[j]? = some v → (w.alloc (.cells (zeros n (.int .u64 0)) 77)).cell? (ad.add j) = some v := by
    intro hp
    obtain ⟨b, off, e, hb, hc⟩ := hr.1.2 (by have := hr.len; simp at hp; omega)
    refine ⟨rfl, _, e, fun j v hv => ?_⟩
    have h := hc j v hv
    have he : (⟨b, off, none⟩ : Addr).add j = ⟨b, off + j, none⟩ := by unfold Addr.add; split <;> simp_all
    rw [he, World.cell?_alloc_lt w _ _ hb]; exact h
  replace hsrc := Lib.hid hsrc
  clear hr
  go_enter Try.func68, Try.ntmps68
  go_wp2_with (with_reducible refine wpList_copy_splice rfl _ _ _ _ rfl 77 Try.underlying60 hsz.out (some ⟨w.heap.size, 0, none⟩) A n n n c rfl rfl w.heap.size 0 (List.replicate n (.int .u64 0)) 77 (heap_alloc_new _ _) (xs.map u64v) (by simp [hl.out]) hsrc.out (by simp [hl.out]) (by simp [u64v, Value.oneCell']) w.heap.size w ((Below.refl _ _).alloc (Nat.le_refl _) _) (Nat.le_refl _) ?_; intro w1 hg1 hb1)
  go_ret
  refine ⟨_, rfl, own_of_heap (Nat.le_refl _) (by simp [hl.out]) (by unfold maxLen; omega) ?_, hb1⟩
  rw [hg1.out, splice_all _ _ (by simp [hl.out])]

theorem word_BitN (r : Nat) (hr : r < 64) (w : World) : Calls Try.prog 62 #[.int .i64 (r : Int)] w fun e w' => e = .returned (.int .u64 (p2 r : Nat)) ∧ w = w' := by
  have h := word_Bit (r : Int) (by omega) (by omega) w
  rwa [bitZ_p2 (r : Int) (by omega) (by omega), Int.toNat_natCast] at h
theorem setR_in {xs : List Nat} {m x : Nat} (hm : m < 64 * xs.length) (hx : xs[m / 64]? = some x) : setR xs (m : Int) = xs.set (m / 64) (x ||| p2 (m % 64)) := by
  unfold setR p2
  rw [Int.toNat_natCast, if_pos (inR_in _ _ hm), Row.get hx]
theorem setR_out {xs : List Nat} {i : Int} (h : i < 0 ∨ 64 * (xs.length : Int) ≤ i) : setR xs i = xs := by
  unfold setR; rw [inR_out _ _ h]; rfl
theorem or_p2_lt {x r : Nat} (hx : x < 18446744073709551616) (hr : r < 64) : x ||| p2 r < 18446744073709551616 := by
  have := p2_lt r hr
  exact Nat.or_lt_two_pow (n := 64) hx (by omega)
theorem mem_set_lt {xs : List Nat} {k y B : Nat} (h : ∀ x ∈ xs, x < B) (hy : y < B) : ∀ x ∈ xs.set k y, x < B := fun x hx => by
  rcases List.mem_or_eq_of_mem_set hx with h1 | h1
  · exact h x h1
  · rw [h1]; exact hy

set_option maxHeartbeats 400000 in
theorem row_SetO (A : Option Addr) (n c : Nat) (xs : List Nat) (i : Int) (w : World) (hr : Row w A n xs) (hn : n ≤ 17592186044416) (h1 : -9223372036854775808 ≤ i) (h2 : i < 9223372036854775808) :
    Calls Try.prog 65 #[.slice A n c, .int .i64 i] w (RetRowO 77 (setR xs i) w) := by
  have hcl := Lib.hid (row_clone A n c xs w hr hn)
  have hlt := Lib.hid hr.2
  have hl := hr.len
  by_cases h : 0 ≤ i ∧ i < 64 * (n : Int)
  · obtain ⟨m, rfl⟩ := Int.eq_ofNat_of_zero_le h.1
    have hm : m < 64 * n := by omega
    have hI := Lib.hid (inR_in n m hm)
    obtain ⟨x, hx⟩ : ∃ x, xs[m / 64]? = some x := ⟨_, List.getElem?_eq_getElem (by omega)⟩
    have hx64 : x < 18446744073709551616 := hlt.out x (List.mem_of_getElem? hx)
    have hS := setR_in (m := m) (by omega) hx
    obtain ⟨r, hre⟩ : ∃ r, r = m % 64 := ⟨_, rfl⟩
    have hr64 : r < 64 := by omega
    have hA := i64_and_63 m (by omega)
    rw [← hre] at hS hA
    have hE := u64_or_nat x (p2 r) hx64 (by have := p2_lt r hr64; omega)
    have hO := or_p2_lt hx64 hr64
    replace hO := Lib.hid hO
    replace hE := Lib.hid hE
    replace hS := Lib.hid hS
    replace hA := Lib.hid hA
    replace hx := Lib.hid hx
    have hl' := Lib.hid hl
    clear h hl hr hre
    go_enter Try.func65, Try.ntmps65
    go_wp2_with fail
    refine hcl.out.mono ?_; rintro e w1 ⟨g, rfl, hown, hb⟩
    have hc : w1.cell? ⟨g, m / 64, none⟩ = some (.int .u64 (x : Int)) := by
      rw [hown.cellAt _ (by omega), List.getElem?_map, hx.out]; rfl
    have hf := hown.frozenAt (m / 64)
    have hg := (hown.lt g rfl).1
    go_wp2_with fail
    refine (row_within _ n _ m (by omega) (by omega) (by omega) _).mono ?_; rintro e w' ⟨rfl, rfl⟩
    rw [hI.out]
    go_wp2_with fail
    have hA1 : (0 : Int) ≤ (m : Int) / 64 := by omega
    have hA2 : (m : Int) / 64 < (n : Int) := by omega
    have hA3 : ((m : Int) / 64).toNat = m / 64 := by omega
    refine still_tail 10 (by kernel_rfl) (by kernel_rfl) (fun W hW => ?_)
    have hc' : W.cell? ⟨g, m / 64, none⟩ = some (.int .u64 (x : Int)) := by rw [hW.out]; exact hc
    have hf' : W.frozen? ⟨g, m / 64, none⟩ = false := by rw [hW.out]; exact hf
    have hown' : W.ownsRow w.heap.size 77 1 (.slice (some ⟨g, 0, none⟩) n n) n (xs.map u64v) := by rw [hW.out]; exact hown.drew
    have hb' : Below w.heap.size w W := by rw [hW.out]; exact hb.drew
    clear hc hf hb hown
    simp only [List.take_succ_cons, List.take_zero, List.drop_succ_cons, List.drop_zero]
    repeat
      refine @wpStill_step _ _ _ _ _ _ _ ?_
      intro K hK
      go_simp
      refine hK _ ?_
      clear hK K
    refine wpStill_step (fun K hK => ?_)
    go_simp
    rw [hA.out]
    refine ⟨_, still_call (word_BitN _ hr64 _), hK _ ?_⟩
    clear hK K
    repeat
      refine @wpStill_step _ _ _ _ _ _ _ ?_
      intro K hK
      go_simp
      refine hK _ ?_
      clear hK K
    refine wpStill_nil ?_
    go_wp2
    go_ret
    rw [hE.out, hS.out]
    refine own_ret (c := n) ?_ (mem_set_lt hlt.out hO.out) (hb'.setCell hg _)
    rw [List.map_set]
    exact (hown'.stored _ _).1
  · have hI := Lib.hid (inR_out n i (by omega))
    have hS := Lib.hid (setR_out (xs := xs) (i := i) (by omega))
    clear h hl hr
    go_enter Try.func65, Try.ntmps65
    go_wp2_with fail
    refine hcl.out.mono ?_; rintro e w1 ⟨g, rfl, hown, hb⟩
    go_wp2_with fail
    refine (row_within _ n _ i (by omega) (by omega) (by omega) _).mono ?_; rintro e w' ⟨rfl, rfl⟩
    rw [hI.out]
    go_wp2
    go_ret
    rw [hS.out]
    exact own_ret hown hlt.out (hb)
theorem row_Set (A : Option Addr) (n c : Nat) (xs : List Nat) (i : Int) (w : World) (hr : Row w A n xs) (hn : n ≤ 17592186044416) (h1 : -9223372036854775808 ≤ i) (h2 : i < 9223372036854775808) :
    Calls Try.prog 65 #[.slice A n c, .int .i64 i] w (RetRow (setR xs i) w) := (row_SetO A n c xs i w hr hn h1 h2).mono fun _ _ h => h.row

end Go.Proofs.Ytmgockkjoogcaaa

namespace Go.Proofs.Ytmgockkjoogcaaa
open Go.RowKit
set_option linter.unusedVariables false

theorem orv (x y : Nat) (hx : x < 18446744073709551616) (hy : y < 18446744073709551616) : bits BinOp.or IntKind.u64 (x : Int) (y : Int) = ((x ||| y : Nat) : Int) := u64_or_nat x y hx hy

set_option maxHeartbeats 400000 in
theorem row_Or_ge (A B : Option Addr) (n m c d : Nat) (xs ys : List Nat) (w : World) (hr : Row w A n xs) (hs : Row w B m ys) (hn : n ≤ 17592186044416) (h : m ≤ n) :
    Calls Try.prog 64 #[.slice A n c, .slice B m d] w (RetRowO 77 (orR xs ys) w) := by
  have hcl := Lib.hid (row_clone A n c xs w hr hn)
  have hl := Lib.hid hr.len
  have hl2 := Lib.hid hs.len
  have hlt := Lib.hid (orK_lt xs ys m hr.2 hs.2)
  have hd := Lib.hid (Row.getD_lt hr)
  have hall := orK_all xs ys (by rw [hl.out, hl2.out]; exact h)
  rw [hl2.out] at hall
  replace hall := Lib.hid hall
  have h0 : ¬ n < m := by omega
  replace hs := Lib.hid hs
  clear hr
  go_enter Try.func64, Try.ntmps64
  go_wp2_with fail
  refine hcl.out.mono ?_; rintro e w1 ⟨g, rfl, hown, hb⟩
  have hg := (hown.lt g rfl).1
  go_wp2_with fail
  go_loopw [19] (fun i wr => ∃ k : Nat, k ≤ m ∧ i = .int .i64 k ∧ wr.ownsRow w.heap.size 77 1 (.slice (some ⟨g, 0, none⟩) n n) n ((orK xs ys k).map u64v) ∧ Below w.heap.size w wr) (fun i _ => m - (intOf i).toNat)
  case atStart => exact ⟨0, Nat.zero_le _, rfl, by rw [orK_zero]; exact hown, hb⟩
  case round =>
    obtain ⟨k, hk, rfl, hownr, hbr⟩ := hrel
    clear hown hb
    by_cases hlt' : k < m
    · have hs' := hs.out.below hbr
      obtain ⟨b, off, y, rfl, hbk, hy, hy64, hc⟩ := hs'.at_ hlt'
      have hgx := orK_get xs ys k (by rw [hl.out]; omega)
      have hx64 := hd.out k
      obtain ⟨x, hx⟩ : ∃ x, x = xs.getD k 0 := ⟨_, rfl⟩
      rw [← hx] at hgx hx64
      have hcg : wr.cell? ⟨g, k, none⟩ = some (.int .u64 (x : Int)) := by
        rw [hownr.cellAt _ (by omega), List.getElem?_map, hgx]; rfl
      have hf := hownr.frozenAt k
      have hE := Lib.hid (orv x y hx64 hy64)
      have hst := orK_set xs ys k
      rw [← hx, Row.get hy] at hst
      have hst := Lib.hid hst
      clear hgx hy hs'
      replace hx := Lib.hid hx
      go_wp2
      go_roundw
      case rel =>
        refine ⟨k + 1, by omega, by go_num, ?_, hbr.setCell hg _⟩
        rw [hE.out, ← hst.out, List.map_set]
        exact (hownr.stored _ _).1
      case measure => simp [intOf]; omega
    · obtain rfl : k = m := by omega
      clear hlt'
      go_wp2
      go_ret
      rw [← hall.out]
      exact own_ret hownr hlt.out (hbr)
set_option maxHeartbeats 400000 in
theorem row_Or_lt (A B : Option Addr) (n m c d : Nat) (xs ys : List Nat) (w : World) (hr : Row w A n xs) (hs : Row w B m ys) (hn : n ≤ 17592186044416) (h : m < n) :
    Calls Try.prog 64 #[.slice B m d, .slice A n c] w (RetRowO 77 (orR xs ys) w) := by
  have hcl := Lib.hid (row_clone A n c xs w hr hn)
  have hl := Lib.hid hr.len
  have hl2 := Lib.hid hs.len
  have hlt := Lib.hid (orK_lt xs ys m hr.2 hs.2)
  have hd := Lib.hid (Row.getD_lt hr)
  have hall := orK_all xs ys (by rw [hl.out, hl2.out]; omega)
  rw [hl2.out] at hall
  replace hall := Lib.hid hall
  replace hs := Lib.hid hs
  clear hr
  go_enter Try.func64, Try.ntmps64
  go_wp2_with fail
  refine hcl.out.mono ?_; rintro e w1 ⟨g, rfl, hown, hb⟩
  have hg := (hown.lt g rfl).1
  go_wp2_with fail
  go_loopw [19] (fun i wr => ∃ k : Nat, k ≤ m ∧ i = .int .i64 k ∧ wr.ownsRow w.heap.size 77 1 (.slice (some ⟨g, 0, none⟩) n n) n ((orK xs ys k).map u64v) ∧ Below w.heap.size w wr) (fun i _ => m - (intOf i).toNat)
  case atStart => exact ⟨0, Nat.zero_le _, rfl, by rw [orK_zero]; exact hown, hb⟩
  case round =>
    obtain ⟨k, hk, rfl, hownr, hbr⟩ := hrel
    clear hown hb
    by_cases hlt' : k < m
    · have hs' := hs.out.below hbr
      obtain ⟨b, off, y, rfl, hbk, hy, hy64, hc⟩ := hs'.at_ hlt'
      have hgx := orK_get xs ys k (by rw [hl.out]; omega)
      have hx64 := hd.out k
      obtain ⟨x, hx⟩ : ∃ x, x = xs.getD k 0 := ⟨_, rfl⟩
      rw [← hx] at hgx hx64
      have hcg : wr.cell? ⟨g, k, none⟩ = some (.int .u64 (x : Int)) := by
        rw [hownr.cellAt _ (by omega), List.getElem?_map, hgx]; rfl
      have hf := hownr.frozenAt k
      have hE := Lib.hid (orv x y hx64 hy64)
      have hst := orK_set xs ys k
      rw [← hx, Row.get hy] at hst
      have hst := Lib.hid hst
      clear hgx hy hs'
      replace hx := Lib.hid hx
      go_wp2
      go_roundw
      case rel =>
        refine ⟨k + 1, by omega, by go_num, ?_, hbr.setCell hg _⟩
        rw [hE.out, ← hst.out, List.map_set]
        exact (hownr.stored _ _).1
      case measure => simp [intOf]; omega
    · obtain rfl : k = m := by omega
      clear hlt'
      go_wp2
      go_ret
      rw [← hall.out]
      exact own_ret hownr hlt.out (hbr)
theorem row_OrO (A B : Option Addr) (n m c d : Nat) (xs ys : List Nat) (w : World) (hr : Row w A n xs) (hs : Row w B m ys) (hn : n ≤ 17592186044416) (hm : m ≤ 17592186044416) :
    Calls Try.prog 64 #[.slice A n c, .slice B m d] w (RetRowO 77 (orR xs ys) w) := by
  rcases Nat.lt_or_ge n m with h | h
  · rw [orR_comm]; exact row_Or_lt B A m n d c ys xs w hs hr hm h
  · exact row_Or_ge A B n m c d xs ys w hr hs hn h
theorem row_Or (A B : Option Addr) (n m c d : Nat) (xs ys : List Nat) (w : World) (hr : Row w A n xs) (hs : Row w B m ys) (hn : n ≤ 17592186044416) (hm : m ≤ 17592186044416) :
    Calls Try.prog 64 #[.slice A n c, .slice B m d] w (RetRow (orR xs ys) w) := (row_OrO A B n m c d xs ys w hr hs hn hm).mono fun _ _ h => h.row

theorem andNot_eq (x y : Nat) (hx : x < 18446744073709551616) (hy : y < 18446744073709551616) : bits BinOp.andNot IntKind.u64 (x : Int) (y : Int) = ((x &&& (18446744073709551615 - y) : Nat) : Int) := u64_andNot_nat x y hx hy
theorem andNot_test (x y : Nat) (hx : x < 18446744073709551616) (hy : y < 18446744073709551616) : (bits BinOp.andNot IntKind.u64 (x : Int) (y : Int) != 0) = !(x &&& y == x) := by
  rw [andNot_eq x y hx hy, ← and_not_zero x y hx hy, bne]
  congr 1
  rw [Bool.eq_iff_iff, beq_iff_eq, beq_iff_eq]; omega
set_option maxHeartbeats 400000 in
theorem row_Sub (A B : Option Addr) (n m c d : Nat) (xs ys : List Nat) (w : World) (hr : Row w A n xs) (hs : Row w B m ys) (hn : n ≤ 17592186044416) (_hm : m ≤ 17592186044416) :
    Calls Try.prog 63 #[.slice A n c, .slice B m d] w fun e w' => e = .returned (.bool (subR xs ys)) ∧ w = w' := by
  have hl := Lib.hid hr.len
  have hl2 := Lib.hid hs.len
  replace hr := Lib.hid hr
  replace hs := Lib.hid hs
  go_enter Try.func63, Try.ntmps63
  go_wp2
  go_loop [9] (fun i => ∃ k : Nat, k ≤ n ∧ i = .int .i64 k ∧ Hid (∀ j, j < k → (xs.getD j 0 &&& ys.getD j 0 == xs.getD j 0) = true)) (fun i => n - (intOf i).toNat)
  case atStart => exact ⟨0, Nat.zero_le _, rfl, Lib.hid (fun j hj => absurd hj (by omega))⟩
  case round =>
    obtain ⟨k, hk, rfl, hall⟩ := hrel
    by_cases hlt : k < n
    · obtain ⟨b, off, x, rfl, hbk, hx, hx64, hc⟩ := hr.out.at_ hlt
      have hgx := Row.get hx
      clear hx
      by_cases hkm : k < m
      · obtain ⟨b2, off2, y, rfl, hbk2, hy, hy64, hc2⟩ := hs.out.at_ hkm
        have hgy := Row.get hy
        clear hy
        have hT := andNot_test x y hx64 hy64
        rcases Bool.eq_false_or_eq_true (x &&& y == x) with ht | ht
        · have hall' : Hid (∀ j, j < k + 1 → (xs.getD j 0 &&& ys.getD j 0 == xs.getD j 0) = true) := Lib.hid (fun j hj => by
            rcases Nat.lt_succ_iff_lt_or_eq.1 hj with h | h
            · exact hall.out j h
            · rw [h, hgx, hgy]; exact ht)
          rw [ht] at hT
          replace hT : (bits BinOp.andNot IntKind.u64 (x : Int) (y : Int) != 0) = false := hT
          clear ht hgx hgy
          go_wp2
          go_round
          case rel => exact ⟨k + 1, by omega, by go_num, hall'⟩
          case measure => simp [intOf]; omega
        · have hno := Lib.hid (subR_no xs ys k (by rw [hl.out]; exact hlt) (by rw [hgx, hgy]; exact ht))
          rw [ht] at hT
          replace hT : (bits BinOp.andNot IntKind.u64 (x : Int) (y : Int) != 0) = true := hT
          clear ht hgx hgy
          go_wp2
          go_ret
          rw [hno.out]; exact ⟨rfl, rfl⟩
      · have hgy := getD_out ys k (by rw [hl2.out]; omega)
        by_cases hx0 : x = 0
        · subst hx0
          have hall' : Hid (∀ j, j < k + 1 → (xs.getD j 0 &&& ys.getD j 0 == xs.getD j 0) = true) := Lib.hid (fun j hj => by
            rcases Nat.lt_succ_iff_lt_or_eq.1 hj with h | h
            · exact hall.out j h
            · rw [h, hgx, hgy]; rfl)
          clear hgx hgy
          go_wp2
          go_round
          case rel => exact ⟨k + 1, by omega, by go_num, hall'⟩
          case measure => simp [intOf]; omega
        · have hno := Lib.hid (subR_no xs ys k (by rw [hl.out]; exact hlt) (by rw [hgx, hgy, Nat.and_zero, beq_eq_false_iff_ne]; omega))
          have hne : ((x : Int) != 0) = true := by rw [bne_iff_ne]; omega
          clear hgx hgy
          go_wp2
          go_ret
          rw [hno.out]; exact ⟨rfl, rfl⟩
    · have hyes := Lib.hid (subR_yes xs ys (fun j hj => hall.out j (by rw [hl.out] at hj; omega)))
      go_wp2
      go_ret
      rw [hyes.out]; exact ⟨rfl, rfl⟩



end Go.Proofs.Ytmgockkjoogcaaa

namespace Go.Proofs.Ytmgockkjoogcaaa
open Go.RowKit
set_option linter.unusedVariables false

/-- the numbers without a sign, as cells -/
def natv (i : Nat) : Value := .int .i64 (i : Int)
theorem natv_ints (l : List Nat) : l.map natv = (l.map Int.ofNat).map i64v := by
  rw [List.map_map]; rfl
theorem own_ints {w : World} {base n : Nat} {e : TypeId} {v : Value} {zs : List Nat} (h : w.ownsRow base e 1 v n (zs.map natv)) (hx : ∀ x ∈ zs, x < 9223372036854775808) : ∃ A c, v = .slice A n c ∧ Ints w A n (zs.map Int.ofNat) := by
  obtain ⟨A, c, hv, hr⟩ := Rd.of_own h
  refine ⟨A, c, hv, by rw [← natv_ints]; exact hr, fun x hx' => ?_⟩
  obtain ⟨i, hi, rfl⟩ := List.mem_map.1 hx'
  have := hx i hi
  show -9223372036854775808 ≤ (i : Int) ∧ (i : Int) < 9223372036854775808
  omega
theorem off_eq (x i : Nat) (hx : x < 18446744073709551616) (hi : i < 64) : bits BinOp.andNot IntKind.u64 (x : Int) (p2 i : Nat) = (offN x i : Nat) := by
  have := p2_lt i hi
  exact u64_andNot_nat x (p2 i) hx (by omega)


end Go.Proofs.Ytmgockkjoogcaaa

namespace Go.Proofs.Ytmgockkjoogcaaa
open Go.RowKit
set_option maxRecDepth 100000
set_option linter.unusedVariables false

/-- what a call that only reads ends in -/
def RetQ (v : Value) (w : World) (e : Ending) (w' : World) : Prop := e = .returned v ∧ ∃ k, w' = w.drewN k
theorem RetQ.below {w w' : World} {e : Ending} {v : Value} (h : RetQ v w e w') : Below w.heap.size w w' := by
  obtain ⟨_, k, rfl⟩ := h; exact below_drewN (Below.refl _ _) k

set_option maxHeartbeats 400000 in
theorem ref2_Words (n : Int) (h1 : -9223372036854775808 ≤ n) (h2 : n ≤ 1099511627776) (w : World) :
    Calls Try.prog 35 #[.int .i64 n] w fun e w' => e = .returned (.int .i64 (wordsZ n)) ∧ w = w' := by
  by_cases h : n < 0
  · have H := Lib.hid (show wordsZ n = 0 from if_pos h)
    go_enter Try.func35, Try.ntmps35
    go_wp2
    go_ret
    rw [H.out]; exact ⟨rfl, rfl⟩
  · have H := Lib.hid (wordsZ_nat n (by omega))
    go_enter Try.func35, Try.ntmps35
    go_wp2
    go_ret
    rw [H.out]; exact ⟨rfl, rfl⟩

set_option maxHeartbeats 400000 in
theorem ref2_NewO (n : Int) (h1 : -9223372036854775808 ≤ n) (h2 : n ≤ 1099511627776) (w : World) :
    Calls Try.prog 49 #[.int .i64 n] w (RetRowO 77 (List.replicate (wordsN n) 0) w) := by
  have hw := Lib.hid (wordsZ_N n)
  have hle := wordsN_le n h2
  have hmk := mk_u64 .i64 .i64 (wordsN n) (wordsN n) (Nat.le_refl _) (by omega)
  go_enter Try.func49, Try.ntmps49
  go_wp2_with fail
  refine (ref2_Words _ (by omega) (by omega) _).mono ?_; rintro e w' ⟨rfl, rfl⟩
  rw [hw.out]
  go_wp2
  go_ret
  refine own_ret (by simpa [u64v] using own_zeros w (wordsN n) (.int .u64 0) 77 (by unfold maxLen; omega)) (by simp) ((Below.refl _ _).alloc (Nat.le_refl _) _)
theorem ref2_New (n : Int) (h1 : -9223372036854775808 ≤ n) (h2 : n ≤ 1099511627776) (w : World) :
    Calls Try.prog 49 #[.int .i64 n] w (RetRow (List.replicate (wordsN n) 0) w) := (ref2_NewO n h1 h2 w).mono fun _ _ h => h.row

set_option maxHeartbeats 400000 in
theorem ref2_Has (A : Option Addr) (n c : Nat) (xs : List Nat) (i : Int) (w : World) (hr : Row w A n xs) (hn : n ≤ 1073741824) (h1 : -9223372036854775808 ≤ i) (h2 : i < 9223372036854775808) :
    Calls Try.prog 36 #[.slice A n c, .int .i64 i] w fun e w' => e = .returned (.bool (hasR xs i)) ∧ w = w' := by
  have hl := hr.len
  by_cases h0 : 0 ≤ i
  · by_cases h3 : i < 64 * (n : Int)
    · obtain ⟨m, rfl⟩ := Int.eq_ofNat_of_zero_le h0
      have hm : m < 64 * n := by omega
      obtain ⟨b, off, x, rfl, hb, hx, hx64, hc⟩ := hr.at_ (k := m / 64) (by omega)
      have H := hasR_in xs m x hx
      rw [show ((m % 64 : Nat) : Int) = (m : Int) % 64 from by omega] at H
      replace H := Lib.hid H
      clear hx hr hl
      go_enter Try.func36, Try.ntmps36
      go_wp2_with fail
      refine (ref_Has x hx64 _ (by omega) (by omega) _).mono ?_; rintro e w' ⟨rfl, rfl⟩
      go_wp2
      go_ret
      rw [H.out]; exact ⟨rfl, rfl⟩
    · have H := Lib.hid (hasR_out xs i (by omega))
      clear hl hr
      go_enter Try.func36, Try.ntmps36
      go_wp2
      go_ret
      rw [H.out]; exact ⟨rfl, rfl⟩
  · have H := Lib.hid (hasR_out xs i (by omega))
    clear hl hr
    go_enter Try.func36, Try.ntmps36
    go_wp2
    go_ret
    rw [H.out]; exact ⟨rfl, rfl⟩

set_option maxHeartbeats 400000 in
theorem ref2_Same (A B : Option Addr) (n m c d : Nat) (xs ys : List Nat) (w : World) (hr : Row w A n xs) (hs : Row w B m ys) (hn : n ≤ 17592186044416) (hm : m ≤ 17592186044416) :
    Calls Try.prog 28 #[.slice A n c, .slice B m d] w (RetQ (.bool (sameR xs ys)) w) := by
  have hl := Lib.hid hr.len
  have hl2 := Lib.hid hs.len
  replace hr := Lib.hid hr
  replace hs := Lib.hid hs
  by_cases hnm : n = m
  · subst hnm
    have hne : ((n : Int) != (n : Int)) = false := by simp
    go_enter Try.func28, Try.ntmps28
    go_wp2
    go_loopw [5] (fun i wr => ∃ k q : Nat, k ≤ n ∧ i = .int .i64 k ∧ Hid (∀ j, j < k → xs[j]? = ys[j]?) ∧ wr = w.drewN q) (fun i _ => n - (intOf i).toNat)
    case atStart => exact ⟨0, 0, Nat.zero_le _, rfl, Lib.hid (fun j hj => absurd hj (by omega)), rfl⟩
    case round =>
      obtain ⟨k, q, hk, rfl, hall, rfl⟩ := hrel
      by_cases hlt : k < n
      · obtain ⟨b, off, x, rfl, hbk, hx, hx64, hc⟩ := hr.out.at_ hlt
        obtain ⟨b2, off2, y, rfl, hbk2, hy, hy64, hc2⟩ := hs.out.at_ hlt
        have hk0 : (0 : Int) ≤ (k : Int) := by omega
        have hkn : (k : Int) < (n : Int) := by omega
        by_cases hxy : x = y
        · subst hxy
          have hall' : Hid (∀ j, j < k + 1 → xs[j]? = ys[j]?) := Lib.hid (fun j hj => by
            rcases Nat.lt_succ_iff_lt_or_eq.1 hj with h | h
            · exact hall.out j h
            · rw [h, hx, hy])
          have hne' : ((x : Int) != (x : Int)) = false := by simp
          clear hx hy
          go_wp2
          go_quiet (fail)
          go_wp2
          go_roundw
          case rel => exact ⟨k + 1, _, by omega, by go_num, hall', rfl⟩
          case measure => simp [intOf]; omega
        · have hno := Lib.hid (sameR_no xs ys k x y hx hy hxy)
          have hne' : ((x : Int) != (y : Int)) = true := by rw [bne_iff_ne]; omega
          clear hx hy
          go_wp2
          go_quiet (fail)
          go_wp2
          go_ret
          rw [hno.out]; exact ⟨rfl, _, by rw [World.drewN_drewN]⟩
      · have hyes := Lib.hid (sameR_yes xs ys (by rw [hl.out, hl2.out]) (fun j hj => hall.out j (by rw [hl.out] at hj; omega)))
        go_wp2
        go_ret
        rw [hyes.out]; exact ⟨rfl, _, rfl⟩
  · have hno := Lib.hid (sameR_no_len xs ys (by rw [hl.out, hl2.out]; exact hnm))
    have hne : ((n : Int) != (m : Int)) = true := by rw [bne_iff_ne]; omega
    go_enter Try.func28, Try.ntmps28
    go_wp2
    go_ret
    rw [hno.out]; exact ⟨rfl, 0, rfl⟩


set_option maxHeartbeats 1000000 in
theorem ref2_ListO (A : Option Addr) (n c : Nat) (xs : List Nat) (w : World) (hr : Row w A n xs) (hn : n ≤ 1073741824) :
    Calls Try.prog 58 #[.slice A n c] w (RetIntsO 3 (listR xs) w) := by
  have hl := Lib.hid hr.len
  obtain ⟨i0, hi, hz0, hz1, hz2⟩ := info_parts info_int
  replace hi := Lib.hid hi
  replace hz0 := Lib.hid hz0
  replace hz1 := Lib.hid hz1
  replace hz2 := Lib.hid hz2
  replace hr := Lib.hid hr
  go_enter Try.func58, Try.ntmps58
  go_wp2
  go_loopw [3, 4] (fun l i wr => ∃ p : Nat, p ≤ 64 * n ∧ i = .int .i64 p ∧ wr.ownsRow w.heap.size 3 1 l (listP xs p).length ((listP xs p).map natv) ∧ Below w.heap.size w wr) (fun _ i _ => 64 * n - (intOf i).toNat)
  case atStart => exact ⟨0, Nat.zero_le _, rfl, World.ownsRow_nil _ _ _ _, Below.refl _ _⟩
  case round =>
    obtain ⟨p, hp, rfl, hown, hb⟩ := hrel
    by_cases hlt : p < 64 * n
    · have hH := Lib.hid (ref2_Has A n c xs p wr (hr.out.below hb) hn (by omega) (by omega))
      have hlen := listP_len xs p
      rcases Bool.eq_false_or_eq_true (hasR xs (p : Int)) with ht | ht
      · have hy := Lib.hid (listP_yes xs p ht)
        rw [ht] at hH
        clear ht
        go_wp2_with fail
        refine hH.out.mono ?_; rintro e w' ⟨rfl, rfl⟩
        go_wp2_with (at_builtin; refine wpList_append_lies _ rfl (.tmp 15) (.tmp 17) _ rfl w.heap.size 3 i0 _ 1 8 Try.underlying27 hi.out hz0.out hz1.out hz2.out rfl (by omega) _ _ _ (by rfl) (hown.alloc _) ⟨wr.heap.size, 0, none⟩ 1 1 [.int .i64 (p : Int)] rfl rfl (cell_one_new _ _ _) (by simp [Value.oneCell']) (by omega) (by unfold maxLen; omega) (by omega) (by have := hb.size; simp; omega) _ rfl ?_; intro g cap w1 hown1 hgrow hat hlt1; have hb1 := (hb.alloc hb.size _).grown hgrow (by have := hb.size; simp; omega) (own_lt_block hown); clear hgrow hat hlt1)
        go_roundw
        case rel =>
          refine ⟨p + 1, by omega, by go_num, ?_, hb1⟩
          rw [hy.out, List.length_append, List.map_append]
          exact hown1
        case measure => simp [intOf]; omega
      · have hy := Lib.hid (listP_no xs p ht)
        rw [ht] at hH
        clear ht
        go_wp2_with fail
        refine hH.out.mono ?_; rintro e w' ⟨rfl, rfl⟩
        go_wp2
        go_roundw
        case rel => exact ⟨p + 1, by omega, by go_num, by rw [hy.out]; exact hown, hb⟩
        case measure => simp [intOf]; omega
    · obtain rfl : p = 64 * n := by omega
      have he : listP xs (64 * n) = listN xs := by rw [← hl.out]; rfl
      rw [he] at hown
      have hb64 : ∀ i ∈ listN xs, i < 9223372036854775808 := fun i hi' => by
        have := ((listN_mem xs i).1 hi').1
        rw [hl.out] at this; omega
      obtain ⟨A', c', rfl, hI⟩ := own_ints hown hb64
      have hO := hown
      rw [natv_ints] at hO
      clear he hb64 hown
      go_wp2
      go_ret
      exact ⟨_, _, _, rfl, hO, hI.2, hb⟩
theorem ref2_List (A : Option Addr) (n c : Nat) (xs : List Nat) (w : World) (hr : Row w A n xs) (hn : n ≤ 1073741824) :
    Calls Try.prog 58 #[.slice A n c] w (RetInts (listR xs) w) := (ref2_ListO A n c xs w hr hn).mono fun _ _ h => h.ints


end Go.Proofs.Ytmgockkjoogcaaa

namespace Go.Proofs.Ytmgockkjoogcaaa
open Go.RowKit
set_option linter.unusedVariables false

theorem all_no (b : List Nat) (l : List Nat) (k i : Nat) (h : l[k]? = some i) (hh : hasR b (i : Int) = false) : (l.all fun i : Nat => hasR b (i : Int)) = false := by
  rw [List.all_eq_false]; exact ⟨i, List.mem_of_getElem? h, by rw [hh]; simp⟩
theorem all_yes (b : List Nat) (l : List Nat) (h : ∀ k i : Nat, l[k]? = some i → hasR b (i : Int) = true) : (l.all fun i : Nat => hasR b (i : Int)) = true := by
  rw [List.all_eq_true]; intro i hi
  obtain ⟨k, hk⟩ := List.getElem?_of_mem hi
  exact h k i hk
set_option maxHeartbeats 400000 in
theorem ref2_Sub (A B : Option Addr) (n m c d : Nat) (xs ys : List Nat) (w : World) (hr : Row w A n xs) (hs : Row w B m ys) (hn : n ≤ 1073741824) (hm : m ≤ 1073741824) :
    Calls Try.prog 37 #[.slice A n c, .slice B m d] w fun e w' => e = .returned (.bool (subR xs ys)) ∧ Below w.heap.size w w' := by
  have hcl := Lib.hid (ref2_List A n c xs w hr hn)
  have hsub := Lib.hid (subR_list xs ys hr.2)
  have hlen := (listR_len xs)
  have hcle : countR xs ≤ 64 * n := by have := countR_le xs; rw [hr.len] at this; exact this
  replace hlen := Lib.hid hlen
  clear hr
  replace hs := Lib.hid hs
  go_enter Try.func37, Try.ntmps37
  go_wp2_with fail
  refine hcl.out.mono ?_; rintro e w1 ⟨A1, n1, c1, rfl, hI, hb⟩
  have hn1 : n1 ≤ 64 * n := by have := hI.len; rw [hlen.out] at this; omega
  have hs1 := Lib.hid (hs.out.below hb)
  replace hI := Lib.hid hI
  replace hb := Lib.hid hb
  go_wp2
  go_loop [6] (fun i => ∃ k : Nat, k ≤ n1 ∧ i = .int .i64 k ∧ Hid (∀ j i : Nat, j < k → (listN xs)[j]? = some i → hasR ys (i : Int) = true)) (fun i => n1 - (intOf i).toNat)
  case atStart => exact ⟨0, Nat.zero_le _, rfl, Lib.hid (fun j i hj => absurd hj (by omega))⟩
  case round =>
    obtain ⟨k, hk, rfl, hall⟩ := hrel
    by_cases hlt : k < n1
    · obtain ⟨b, off, z, rfl, hbk, hz, hz64, hc⟩ := hI.out.at_ hlt
      obtain ⟨i, hi, rfl⟩ : ∃ i, (listN xs)[k]? = some i ∧ z = Int.ofNat i := by
        unfold listR at hz
        rw [List.getElem?_map] at hz
        cases hx : (listN xs)[k]? with
        | none => rw [hx] at hz; cases hz
        | some i => rw [hx] at hz; exact ⟨i, rfl, by simpa using hz.symm⟩
      have hc' : w1.cell? ⟨b, off + k, none⟩ = some (.int .i64 (i : Int)) := hc
      have hH := Lib.hid (ref2_Has B m d ys (i : Int) w1 hs1.out hm hz64.1 hz64.2)
      clear hc hz hz64
      rcases Bool.eq_false_or_eq_true (hasR ys (i : Int)) with ht | ht
      · have hall' : Hid (∀ j i : Nat, j < k + 1 → (listN xs)[j]? = some i → hasR ys (i : Int) = true) := Lib.hid (fun j i' hj hi' => by
          rcases Nat.lt_succ_iff_lt_or_eq.1 hj with h | h
          · exact hall.out j i' h hi'
          · rw [h, hi] at hi'; injection hi' with hi'; rw [← hi']; exact ht)
        rw [ht] at hH
        clear ht hi
        go_wp2_with fail
        refine hH.out.mono ?_; rintro e w' ⟨rfl, rfl⟩
        go_wp2
        go_round
        case rel => exact ⟨k + 1, by omega, by go_num, hall'⟩
        case measure => simp [intOf]; omega
      · have hno := Lib.hid (all_no ys (listN xs) k i hi ht)
        rw [ht] at hH
        clear ht hi
        go_wp2_with fail
        refine hH.out.mono ?_; rintro e w' ⟨rfl, rfl⟩
        go_wp2
        go_ret
        rw [hsub.out, hno.out]; exact ⟨rfl, hb.out⟩
    · have hyes := Lib.hid (all_yes ys (listN xs) (fun j i hi => hall.out j i (by
        have h1 := hI.out.len
        have h2 : (listR xs).length = (listN xs).length := List.length_map _
        have := (List.getElem?_eq_some_iff.1 hi).1
        omega) hi))
      go_wp2
      go_ret
      rw [hsub.out, hyes.out]; exact ⟨rfl, hb.out⟩

theorem orP_lt (N k : Nat) (a b : List Nat) (ha : ∀ x ∈ a, x < 18446744073709551616) (hb : ∀ x ∈ b, x < 18446744073709551616) : ∀ x ∈ orP N k a b, x < 18446744073709551616 := by
  have hd : ∀ (l : List Nat), (∀ x ∈ l, x < 18446744073709551616) → ∀ j, l.getD j 0 < 18446744073709551616 := fun l hl j => by
    rw [List.getD_eq_getElem?_getD]
    cases hx : l[j]? with
    | none => simp
    | some x => simpa using hl x (List.mem_of_getElem? hx)
  intro x hx
  unfold orP at hx
  obtain ⟨j, _, rfl⟩ := List.mem_map.1 hx
  split
  · exact Nat.or_lt_two_pow (n := 64) (hd a ha j) (hd b hb j)
  · decide
theorem orP_len (N k : Nat) (a b : List Nat) : (orP N k a b).length = N := by simp [orP]
set_option maxHeartbeats 1000000 in
theorem ref2_Or_lt (A B : Option Addr) (n m c d : Nat) (xs ys : List Nat) (w : World) (hr : Row w A n xs) (hs : Row w B m ys) (hn : n ≤ 1073741824) (hm : m ≤ 1073741824) (h : n < m) :
    Calls Try.prog 53 #[.slice A n c, .slice B m d] w (RetRowO 77 (orR xs ys) w) := by
  have hl := Lib.hid hr.len
  have hl2 := Lib.hid hs.len
  have hmk := mk_u64 .i64 .i64 m m (Nat.le_refl _) (by omega)
  have hall := Lib.hid (orP_all m xs ys (by rw [hl.out, hl2.out]; omega))
  have hlt := Lib.hid (orP_lt m m xs ys hr.2 hs.2)
  have hown0 := own_zeros w m (.int .u64 0) 77 (by unfold maxLen; omega)
  have hz0 : List.replicate m (Value.int .u64 0) = (orP m 0 xs ys).map u64v := by rw [orP_zero, replicate_zero_u64]
  rw [hz0] at hown0
  replace hown0 := Lib.hid hown0
  clear hz0
  replace hr := Lib.hid hr
  replace hs := Lib.hid hs
  go_enter Try.func53, Try.ntmps53
  go_wp2
  go_loopw [6] (fun i wr => ∃ k : Nat, k ≤ m ∧ i = .int .i64 k ∧ wr.ownsRow w.heap.size 77 1 (.slice (some ⟨w.heap.size, 0, none⟩) m m) m ((orP m k xs ys).map u64v) ∧ Below w.heap.size w wr) (fun i _ => m - (intOf i).toNat)
  case atStart => exact ⟨0, Nat.zero_le _, rfl, hown0.out, (Below.refl _ _).alloc (Nat.le_refl _) _⟩
  case round =>
    obtain ⟨k, hk, rfl, hown, hb⟩ := hrel
    clear hown0 hmk
    by_cases hlt' : k < m
    · obtain ⟨z, hcg⟩ : ∃ z : Int, wr.cell? ⟨w.heap.size, k, none⟩ = some (.int .u64 z) := by
        have h0 := hown.cellAt k (by omega)
        rw [List.getElem?_map, List.getElem?_eq_getElem (by rw [orP_len]; exact hlt')] at h0
        exact ⟨_, h0⟩
      have hf := hown.frozenAt k
      have hst := orP_set m k xs ys
      by_cases h1 : k < n
      · obtain ⟨b, off, x, rfl, hbk, hx, hx64, hc⟩ := (hr.out.below hb).at_ h1
        rw [Row.get hx] at hst
        clear hx
        have hown1 := (hown.stored k (u64v x)).1
        have hb1 := hb.setCell (p := ⟨w.heap.size, k, none⟩) (Nat.le_refl _) (u64v x)
        by_cases h2 : k < m
        · obtain ⟨b2, off2, y, rfl, hbk2, hy, hy64, hc2⟩ := (hs.out.below hb1).at_ h2
          rw [Row.get hy] at hst
          clear hy
          have hE := Lib.hid (orv x y hx64 hy64)
          have hst' := Lib.hid hst
          have hcg1 := hown1.cellAt k (by omega)
          rw [List.getElem?_set_self (by rw [List.length_map, orP_len]; exact hlt')] at hcg1
          have hf1 := hown1.frozenAt k
          clear hst
          go_wp2
          refine still_tail 12 (by kernel_rfl) (by kernel_rfl) (fun W hW => ?_)
          have hcW : W.cell? ⟨w.heap.size, k, none⟩ = some (.int .u64 (x : Int)) := by rw [hW.out]; exact hcg1
          have hfW : W.frozen? ⟨w.heap.size, k, none⟩ = false := by rw [hW.out]; exact hf1
          have hcW2 : W.cell? ⟨b2, off2 + k, none⟩ = some (.int .u64 (y : Int)) := by rw [hW.out]; exact hc2
          have hownW := hown1.drew
          have hbW := hb1.drew
          rw [show ((wr.setCell ⟨w.heap.size, k, none⟩ (u64v x)).drew) = W from hW.out.symm] at hownW hbW
          clear hcg hf hcg1 hf1 hc hc2 hown1 hb1 hown hb
          simp only [List.take_succ_cons, List.take_zero, List.drop_succ_cons, List.drop_zero]
          have hk0 : (0 : Int) ≤ (k : Int) := by omega
          have hkN : (k : Int) < (m : Int) := by omega
          have hkm : (k : Int) < (m : Int) := by omega
          repeat
            refine @wpStill_step _ _ _ _ _ _ _ ?_
            intro K hK
            go_simp
            refine hK _ ?_
            clear hK K
          refine wpStill_nil ?_
          go_wp2
          go_roundw
          case rel =>
            refine ⟨k + 1, by omega, by go_num, ?_, hbW.setCell (Nat.le_refl _) _⟩
            rw [hE.out, ← hst'.out, List.map_set]
            have := (hownW.stored k (u64v (x ||| y))).1
            rwa [List.set_set] at this
          case measure => simp [intOf]; omega
        · omega
      · have h2 : k < m := by omega
        obtain ⟨b2, off2, y, rfl, hbk2, hy, hy64, hc2⟩ := (hs.out.below hb).at_ h2
        have hz : z = 0 := by
          have hz := hown.cellAt k (by omega)
          rw [hcg, List.getElem?_map] at hz
          unfold orP at hz
          rw [List.getElem?_map, List.getElem?_range hlt'] at hz
          simpa [u64v] using hz
        subst hz
        rw [Row.get hy, getD_out xs k (by rw [hl.out]; omega)] at hst
        clear hy
        have hE := Lib.hid (orv 0 y (by omega) hy64)
        have hst' := Lib.hid hst
        clear hst
        go_wp2
        refine still_tail 12 (by kernel_rfl) (by kernel_rfl) (fun W hW => ?_)
        have hcW : W.cell? ⟨w.heap.size, k, none⟩ = some (.int .u64 0) := by rw [hW.out]; exact hcg
        have hfW : W.frozen? ⟨w.heap.size, k, none⟩ = false := by rw [hW.out]; exact hf
        have hcW2 : W.cell? ⟨b2, off2 + k, none⟩ = some (.int .u64 (y : Int)) := by rw [hW.out]; exact hc2
        have hownW := hown.drew
        have hbW := hb.drew
        rw [← hW.out] at hownW hbW
        clear hcg hf hc2 hown hb
        simp only [List.take_succ_cons, List.take_zero, List.drop_succ_cons, List.drop_zero]
        have hk0 : (0 : Int) ≤ (k : Int) := by omega
        have hkN : (k : Int) < (m : Int) := by omega
        have hkm : (k : Int) < (m : Int) := by omega
        repeat
          refine @wpStill_step _ _ _ _ _ _ _ ?_
          intro K hK
          go_simp
          refine hK _ ?_
          clear hK K
        refine wpStill_nil ?_
        go_wp2
        go_roundw
        case rel =>
          refine ⟨k + 1, by omega, by go_num, ?_, hbW.setCell (Nat.le_refl _) _⟩
          rw [show (0 : Int) = ((0 : Nat) : Int) from rfl, hE.out, ← hst'.out, List.map_set]
          exact (hownW.stored k (u64v (0 ||| y))).1
        case measure => simp [intOf]; omega
    · obtain rfl : k = m := by omega
      go_wp2
      go_ret
      rw [← hall.out]
      exact own_ret hown hlt.out (hb)
set_option maxHeartbeats 1000000 in
theorem ref2_Or_ge (A B : Option Addr) (n m c d : Nat) (xs ys : List Nat) (w : World) (hr : Row w A n xs) (hs : Row w B m ys) (hn : n ≤ 1073741824) (hm : m ≤ 1073741824) (h : ¬ n < m) :
    Calls Try.prog 53 #[.slice A n c, .slice B m d] w (RetRowO 77 (orR xs ys) w) := by
  have hl := Lib.hid hr.len
  have hl2 := Lib.hid hs.len
  have hmk := mk_u64 .i64 .i64 n n (Nat.le_refl _) (by omega)
  have hall := Lib.hid (orP_all n xs ys (by rw [hl.out, hl2.out]; omega))
  have hlt := Lib.hid (orP_lt n n xs ys hr.2 hs.2)
  have hown0 := own_zeros w n (.int .u64 0) 77 (by unfold maxLen; omega)
  have hz0 : List.replicate n (Value.int .u64 0) = (orP n 0 xs ys).map u64v := by rw [orP_zero, replicate_zero_u64]
  rw [hz0] at hown0
  replace hown0 := Lib.hid hown0
  clear hz0
  replace hr := Lib.hid hr
  replace hs := Lib.hid hs
  go_enter Try.func53, Try.ntmps53
  go_wp2
  go_loopw [6] (fun i wr => ∃ k : Nat, k ≤ n ∧ i = .int .i64 k ∧ wr.ownsRow w.heap.size 77 1 (.slice (some ⟨w.heap.size, 0, none⟩) n n) n ((orP n k xs ys).map u64v) ∧ Below w.heap.size w wr) (fun i _ => n - (intOf i).toNat)
  case atStart => exact ⟨0, Nat.zero_le _, rfl, hown0.out, (Below.refl _ _).alloc (Nat.le_refl _) _⟩
  case round =>
    obtain ⟨k, hk, rfl, hown, hb⟩ := hrel
    clear hown0 hmk
    by_cases hlt' : k < n
    · obtain ⟨z, hcg⟩ : ∃ z : Int, wr.cell? ⟨w.heap.size, k, none⟩ = some (.int .u64 z) := by
        have h0 := hown.cellAt k (by omega)
        rw [List.getElem?_map, List.getElem?_eq_getElem (by rw [orP_len]; exact hlt')] at h0
        exact ⟨_, h0⟩
      have hf := hown.frozenAt k
      have hst := orP_set n k xs ys
      by_cases h1 : k < n
      · obtain ⟨b, off, x, rfl, hbk, hx, hx64, hc⟩ := (hr.out.below hb).at_ h1
        rw [Row.get hx] at hst
        clear hx
        have hown1 := (hown.stored k (u64v x)).1
        have hb1 := hb.setCell (p := ⟨w.heap.size, k, none⟩) (Nat.le_refl _) (u64v x)
        by_cases h2 : k < m
        · obtain ⟨b2, off2, y, rfl, hbk2, hy, hy64, hc2⟩ := (hs.out.below hb1).at_ h2
          rw [Row.get hy] at hst
          clear hy
          have hE := Lib.hid (orv x y hx64 hy64)
          have hst' := Lib.hid hst
          have hcg1 := hown1.cellAt k (by omega)
          rw [List.getElem?_set_self (by rw [List.length_map, orP_len]; exact hlt')] at hcg1
          have hf1 := hown1.frozenAt k
          clear hst
          go_wp2
          refine still_tail 12 (by kernel_rfl) (by kernel_rfl) (fun W hW => ?_)
          have hcW : W.cell? ⟨w.heap.size, k, none⟩ = some (.int .u64 (x : Int)) := by rw [hW.out]; exact hcg1
          have hfW : W.frozen? ⟨w.heap.size, k, none⟩ = false := by rw [hW.out]; exact hf1
          have hcW2 : W.cell? ⟨b2, off2 + k, none⟩ = some (.int .u64 (y : Int)) := by rw [hW.out]; exact hc2
          have hownW := hown1.drew
          have hbW := hb1.drew
          rw [show ((wr.setCell ⟨w.heap.size, k, none⟩ (u64v x)).drew) = W from hW.out.symm] at hownW hbW
          clear hcg hf hcg1 hf1 hc hc2 hown1 hb1 hown hb
          simp only [List.take_succ_cons, List.take_zero, List.drop_succ_cons, List.drop_zero]
          have hk0 : (0 : Int) ≤ (k : Int) := by omega
          have hkN : (k : Int) < (n : Int) := by omega
          have hkm : (k : Int) < (m : Int) := by omega
          repeat
            refine @wpStill_step _ _ _ _ _ _ _ ?_
            intro K hK
            go_simp
            refine hK _ ?_
            clear hK K
          refine wpStill_nil ?_
          go_wp2
          go_roundw
          case rel =>
            refine ⟨k + 1, by omega, by go_num, ?_, hbW.setCell (Nat.le_refl _) _⟩
            rw [hE.out, ← hst'.out, List.map_set]
            have := (hownW.stored k (u64v (x ||| y))).1
            rwa [List.set_set] at this
          case measure => simp [intOf]; omega
        · rw [getD_out ys k (by rw [hl2.out]; omega), Nat.or_zero] at hst
          replace hst := Lib.hid hst
          clear hown hb
          go_wp2
          go_roundw
          case rel =>
            refine ⟨k + 1, by omega, by go_num, ?_, hb1⟩
            rw [← hst.out, List.map_set]; exact hown1
          case measure => simp [intOf]; omega
      · omega
    · obtain rfl : k = n := by omega
      go_wp2
      go_ret
      rw [← hall.out]
      exact own_ret hown hlt.out (hb)
theorem ref2_OrO (A B : Option Addr) (n m c d : Nat) (xs ys : List Nat) (w : World) (hr : Row w A n xs) (hs : Row w B m ys) (hn : n ≤ 1073741824) (hm : m ≤ 1073741824) :
    Calls Try.prog 53 #[.slice A n c, .slice B m d] w (RetRowO 77 (orR xs ys) w) := by
  by_cases h : n < m
  · exact ref2_Or_lt A B n m c d xs ys w hr hs hn hm h
  · exact ref2_Or_ge A B n m c d xs ys w hr hs hn hm h
theorem ref2_Or (A B : Option Addr) (n m c d : Nat) (xs ys : List Nat) (w : World) (hr : Row w A n xs) (hs : Row w B m ys) (hn : n ≤ 1073741824) (hm : m ≤ 1073741824) :
    Calls Try.prog 53 #[.slice A n c, .slice B m d] w (RetRow (orR xs ys) w) := (ref2_OrO A B n m c d xs ys w hr hs hn hm).mono fun _ _ h => h.row

end Go.Proofs.Ytmgockkjoogcaaa

namespace Go.Proofs.Ytmgockkjoogcaaa
open Go.RowKit
set_option linter.unusedVariables false

theorem ref_BitN (r : Nat) (hr : r < 64) (w : World) : Calls Try.prog 59 #[.int .i64 (r : Int)] w fun e w' => e = .returned (.int .u64 (p2 r : Nat)) ∧ w = w' := by
  have h := ref_Bit (r : Int) (by omega) (by omega) w
  rwa [bitZ_p2 (r : Int) (by omega) (by omega), Int.toNat_natCast] at h
set_option maxRecDepth 100000 in
set_option maxHeartbeats 1000000 in
theorem ref2_SetO (A : Option Addr) (n c : Nat) (xs : List Nat) (i : Int) (w : World) (hr : Row w A n xs) (hn : n ≤ 1073741824) (h1 : -9223372036854775808 ≤ i) (h2 : i < 9223372036854775808) :
    Calls Try.prog 40 #[.slice A n c, .int .i64 i] w (RetRowO 77 (setR xs i) w) := by
  obtain ⟨i0, hi, hz0, hz1, hz2⟩ := info_parts info_u64
  replace hi := Lib.hid hi
  replace hz0 := Lib.hid hz0
  replace hz1 := Lib.hid hz1
  replace hz2 := Lib.hid hz2
  have hl := hr.len
  have hlt := Lib.hid hr.2
  have hlit : (w.alloc (.cells #[] 77)).ownsRow w.heap.size 77 1 (.slice (some ⟨w.heap.size, 0, none⟩) 0 0) 0 [] := by
    have h := World.ownsRow_lit (size := 1) (base := w.heap.size) (e := 77) w #[] 0 (Nat.le_refl _) (by omega) (by simp)
    simpa using h
  have hb0 : Below w.heap.size w (w.alloc (.cells #[] 77)) := (Below.refl _ _).alloc (Nat.le_refl _) _
  have hrd : Rd (w.alloc (.cells #[] 77)) A n (xs.map u64v) := hr.1.below hb0
  have hH := ref2_Has A n c xs i
  have hr0 := Lib.hid hr
  by_cases hin : 0 ≤ i ∧ i < 64 * (n : Int)
  · obtain ⟨m, rfl⟩ := Int.eq_ofNat_of_zero_le hin.1
    obtain ⟨hi1, hi2⟩ := hin
    have hm : m < 64 * n := by omega
    obtain ⟨x, hx⟩ : ∃ x, xs[m / 64]? = some x := ⟨_, List.getElem?_eq_getElem (by omega)⟩
    have hx64 : x < 18446744073709551616 := hlt.out x (List.mem_of_getElem? hx)
    have hS := setR_in (m := m) (by omega) hx
    have hHin := hasR_in xs m x hx
    rw [hasB_nat] at hHin
    obtain ⟨r, hre⟩ : ∃ r, r = m % 64 := ⟨_, rfl⟩
    have hr64 : r < 64 := by omega
    rw [← hre] at hS hHin
    rcases Bool.eq_false_or_eq_true (x.testBit r) with ht | ht
    · rw [or_same x r ht] at hS
      have hset : xs.set (m / 64) x = xs := by
        apply List.ext_getElem?; intro j
        rw [List.getElem?_set]
        by_cases hj : m / 64 = j
        · subst hj; rw [if_pos rfl, if_pos (by omega), hx]
        · rw [if_neg hj]
      rw [hset] at hS
      rw [ht] at hHin
      replace hS := Lib.hid hS
      replace hHin := Lib.hid hHin
      have hl' := Lib.hid hl
      replace hH := Lib.hid hH
      clear hl hre ht hset hx hr
      go_enter Try.func40, Try.ntmps40
      go_wp2_with (first
        | (at_builtin; refine wpList_append_rd rfl (.tmp 6) (.tmp 7) _ rfl w.heap.size 77 i0 _ 8 Try.underlying60 hi.out hz0.out hz1.out hz2.out rfl _ 0 _ (by rfl) hlit A n c _ rfl hrd (by simp [u64v, Value.oneCell']) (by unfold maxLen; omega) (by omega) hb0.size ?_; intro v1 w1 hown1 hbb hform; simp only [Nat.zero_add, List.nil_append] at hown1 hform; obtain ⟨g, cap, rfl⟩ := hform (by omega); have hb1 := hb0.trans hbb; have hrr := Lib.hid (hr0.out.below hb1); clear hbb hlit hb0 hrd)
        | (go_at_call 36; refine (hH.out _ hrr.out hn h1 h2).mono ?_; rintro e w' ⟨rfl, rfl⟩; rw [hHin.out]))
      go_ret
      rw [hS.out]
      exact own_ret hown1 hlt.out (hb1)
    · rw [← add_or x r ht] at hS
      rw [ht] at hHin
      have hE := add_or x r ht
      have hO := or_p2_lt hx64 hr64
      rw [← hE] at hO
      replace hO := Lib.hid hO
      replace hS := Lib.hid hS
      replace hHin := Lib.hid hHin
      replace hx := Lib.hid hx
      have hl' := Lib.hid hl
      replace hH := Lib.hid hH
      have hrem : (m : Int) % 64 = (r : Int) := by omega
      have hp2 := p2_lt r hr64
      have hp20 := p2_pos r
      clear hl hre ht hE hr
      go_enter Try.func40, Try.ntmps40
      go_wp2_with (first
        | (at_builtin; refine wpList_append_rd rfl (.tmp 6) (.tmp 7) _ rfl w.heap.size 77 i0 _ 8 Try.underlying60 hi.out hz0.out hz1.out hz2.out rfl _ 0 _ (by rfl) hlit A n c _ rfl hrd (by simp [u64v, Value.oneCell']) (by unfold maxLen; omega) (by omega) hb0.size ?_; intro v1 w1 hown1 hbb hform; simp only [Nat.zero_add, List.nil_append] at hown1 hform; obtain ⟨g, cap, rfl⟩ := hform (by omega); have hb1 := hb0.trans hbb; have hrr := Lib.hid (hr0.out.below hb1); clear hbb hlit hb0 hrd)
        | (go_at_call 36; refine (hH.out _ hrr.out hn h1 h2).mono ?_; rintro e w' ⟨rfl, rfl⟩; rw [hHin.out]))
      have hc : w1.cell? ⟨g, m / 64, none⟩ = some (.int .u64 (x : Int)) := by
        rw [hown1.cellAt _ (by omega), List.getElem?_map, hx.out]; rfl
      have hf := hown1.frozenAt (m / 64)
      have hg := (hown1.lt g rfl).1
      have hA1 : (0 : Int) ≤ (m : Int) / 64 := by omega
      have hA2 : (m : Int) / 64 < (n : Int) := by omega
      have hA3 : ((m : Int) / 64).toNat = m / 64 := by omega
      refine still_tail 13 (by kernel_rfl) (by kernel_rfl) (fun W hW => ?_)
      have hc' : W.cell? ⟨g, m / 64, none⟩ = some (.int .u64 (x : Int)) := by rw [hW.out]; exact hc
      have hf' : W.frozen? ⟨g, m / 64, none⟩ = false := by rw [hW.out]; exact hf
      have hown' : W.ownsRow w.heap.size 77 1 (.slice (some ⟨g, 0, none⟩) n cap) n (xs.map u64v) := by rw [hW.out]; exact hown1.drew
      have hb' : Below w.heap.size w W := by rw [hW.out]; exact hb1.drew
      clear hc hf hb1 hown1
      simp only [List.take_succ_cons, List.take_zero, List.drop_succ_cons, List.drop_zero]
      have htd : (m : Int).tdiv 64 = (m : Int) / 64 := Int.tdiv_eq_ediv_of_nonneg hi1
      have htm : (m : Int).tmod 64 = (r : Int) := by rw [Int.tmod_eq_emod_of_nonneg hi1]; exact hrem
      have hsum : IntKind.u64.wrap ((x : Int) + (p2 r : Nat)) = ((x + p2 r : Nat) : Int) := by
        have := hO.out
        rw [IntKind.wrap_u64]; omega
      have hw1 : IntKind.i64.wrap ((m : Int) / 64) = (m : Int) / 64 := by rw [IntKind.wrap_i64]; omega
      have hw2 : IntKind.i64.wrap (r : Int) = (r : Int) := by rw [IntKind.wrap_i64]; omega
      clear hrem
      repeat
        refine @wpStill_step _ _ _ _ _ _ _ ?_
        intro K hK
        go_simp
        refine hK _ ?_
        clear hK K
      refine wpStill_step (fun K hK => ?_)
      go_simp
      refine ⟨_, still_call (ref_BitN r hr64 _), hK _ ?_⟩
      clear hK K
      repeat
        refine @wpStill_step _ _ _ _ _ _ _ ?_
        intro K hK
        go_simp
        refine hK _ ?_
        clear hK K
      refine wpStill_nil ?_
      clear htd htm hw1 hw2 hsum
      go_wp2
      go_ret
      rw [hS.out, show (x : Int) + (p2 r : Nat) = ((x + p2 r : Nat) : Int) from by omega]
      refine own_ret (c := cap) ?_ (mem_set_lt hlt.out hO.out) (hb'.setCell hg _)
      rw [List.map_set]
      exact (hown'.stored _ _).1
  · have hS := Lib.hid (setR_out (xs := xs) (i := i) (by omega))
    clear hl hr hH
    have hdec : (0 ≤ i ∧ ¬ i < 64 * (n : Int)) ∨ ¬ 0 ≤ i := by omega
    clear hin
    rcases hdec with ⟨d1, d2⟩ | d1
    all_goals
      go_enter Try.func40, Try.ntmps40
      go_wp2_with (at_builtin; refine wpList_append_rd rfl (.tmp 6) (.tmp 7) _ rfl w.heap.size 77 i0 _ 8 Try.underlying60 hi.out hz0.out hz1.out hz2.out rfl _ 0 _ (by rfl) hlit A n c _ rfl hrd (by simp [u64v, Value.oneCell']) (by unfold maxLen; omega) (by omega) hb0.size ?_; intro v1 w1 hown1 hbb hform; simp only [Nat.zero_add, List.nil_append] at hown1 hform; have hb1 := hb0.trans hbb; clear hbb hlit hb0 hrd hform)
      obtain ⟨A2, c2, rfl, hrd2⟩ := Rd.of_own hown1
      go_ret
      rw [hS.out]
      exact own_ret hown1 hlt.out hb1
theorem ref2_Set (A : Option Addr) (n c : Nat) (xs : List Nat) (i : Int) (w : World) (hr : Row w A n xs) (hn : n ≤ 1073741824) (h1 : -9223372036854775808 ≤ i) (h2 : i < 9223372036854775808) :
    Calls Try.prog 40 #[.slice A n c, .int .i64 i] w (RetRow (setR xs i) w) := (ref2_SetO A n c xs i w hr hn h1 h2).mono fun _ _ h => h.row

end Go.Proofs.Ytmgockkjoogcaaa

namespace Go.Proofs.Ytmgockkjoogcaaa
open Go.RowKit
set_option linter.unusedVariables false

def W64 (xs : List Nat) : Prop := ∀ x ∈ xs, x < 18446744073709551616
theorem getD_w64 {xs : List Nat} (h : W64 xs) (j : Nat) : xs.getD j 0 < 18446744073709551616 := by
  rw [List.getD_eq_getElem?_getD]
  cases hx : xs[j]? with
  | none => simp
  | some x => simpa using h x (List.mem_of_getElem? hx)
theorem bit_out {x r : Nat} (hx : x < 18446744073709551616) (hr : 64 ≤ r) : x.testBit r = false :=
  Nat.testBit_lt_two_pow (Nat.lt_of_lt_of_le hx (by rw [show (18446744073709551616 : Nat) = 2 ^ 64 from rfl]; exact Nat.pow_le_pow_right (by omega) hr))
theorem hasR_w (xs : List Nat) (k r : Nat) (hr : r < 64) : hasR xs ((64 * k + r : Nat) : Int) = (xs.getD k 0).testBit r := by
  rw [hasR_nat, show (64 * k + r) / 64 = k from by omega, show (64 * k + r) % 64 = r from by omega]
/-- rows of one length with the same bits are the same -/
theorem row_ext {a b : List Nat} (ha : W64 a) (hb : W64 b) (hl : a.length = b.length) (h : ∀ i : Nat, i < 64 * a.length → hasR a (i : Int) = hasR b (i : Int)) : a = b := by
  apply List.ext_getElem hl
  intro k h1 h2
  apply Nat.eq_of_testBit_eq; intro r
  have ea : a[k] = a.getD k 0 := by rw [List.getD_eq_getElem?_getD, List.getElem?_eq_getElem h1]; rfl
  have eb : b[k] = b.getD k 0 := by rw [List.getD_eq_getElem?_getD, List.getElem?_eq_getElem h2]; rfl
  rw [ea, eb]
  by_cases hr : r < 64
  · rw [← hasR_w a k r hr, ← hasR_w b k r hr]; exact h _ (by omega)
  · rw [bit_out (getD_w64 ha k) (by omega), bit_out (getD_w64 hb k) (by omega)]
theorem setR_len (xs : List Nat) (i : Int) : (setR xs i).length = xs.length := by
  unfold setR; split <;> simp
theorem setR_w64 {xs : List Nat} (h : W64 xs) (m : Nat) : W64 (setR xs (m : Int)) := by
  by_cases hm : m < 64 * xs.length
  · have hx : xs[m / 64]? = some xs[m / 64] := List.getElem?_eq_getElem (by omega)
    rw [setR_in hm hx]
    exact mem_set_lt h (or_p2_lt (h _ (List.mem_of_getElem? hx)) (by omega))
  · rw [setR_out (.inr (by omega))]; exact h
theorem hasR_setR (xs : List Nat) (m j : Nat) (hm : m < 64 * xs.length) : hasR (setR xs (m : Int)) (j : Int) = (hasR xs (j : Int) || decide (j = m)) := by
  have hx : xs[m / 64]? = some xs[m / 64] := List.getElem?_eq_getElem (by omega)
  rw [setR_in hm hx, hasR_nat, hasR_nat, List.getD_eq_getElem?_getD, List.getD_eq_getElem?_getD, List.getElem?_set]
  by_cases h1 : m / 64 = j / 64
  · rw [if_pos h1, if_pos (by omega), ← h1, hx]
    simp only [Option.getD_some]
    rw [Nat.testBit_or]; unfold p2; rw [Nat.testBit_two_pow]
    by_cases h2 : j = m
    · subst h2; simp
    · rw [decide_eq_false h2, decide_eq_false (by omega)]
  · rw [if_neg h1, decide_eq_false (by rintro rfl; exact h1 rfl), Bool.or_false]
theorem setR_has {xs : List Nat} (h : W64 xs) (m : Nat) (hh : hasR xs (m : Int) = true) : setR xs (m : Int) = xs := by
  by_cases hm : m < 64 * xs.length
  · refine row_ext (setR_w64 h m) h (setR_len xs m) fun i _ => ?_
    rw [hasR_setR xs m i hm]
    by_cases hi : i = m
    · subst hi; rw [hh]; rfl
    · rw [decide_eq_false hi, Bool.or_false]
  · exact setR_out (.inr (by omega))
theorem setR_twice {xs : List Nat} (h : W64 xs) (m : Nat) : setR (setR xs (m : Int)) (m : Int) = setR xs (m : Int) := by
  by_cases hm : m < 64 * xs.length
  · exact setR_has (setR_w64 h m) m (by rw [hasR_setR xs m m hm]; simp)
  · rw [setR_out (.inr (by rw [setR_len]; omega))]
theorem subR_setR {xs : List Nat} (h : W64 xs) (m : Nat) : subR xs (setR xs (m : Int)) = true := by
  rw [subR_iff xs _ h]; intro i hi
  by_cases hm : m < 64 * xs.length
  · rw [hasR_setR xs m i hm, hi]; rfl
  · rw [setR_out (.inr (by omega))]; exact hi
theorem count_add (N m : Nat) (p q : Nat → Bool) (hm : m < N) (hp : p m = false) (hq : ∀ j, q j = (p j || decide (j = m))) : ((List.range N).filter q).length = ((List.range N).filter p).length + 1 := by
  induction N with
  | zero => omega
  | succ N ih =>
    rw [List.range_succ, List.filter_append, List.filter_append, List.length_append, List.length_append]
    by_cases h : m < N
    · rw [ih h]
      have : q N = p N := by rw [hq, decide_eq_false (by omega), Bool.or_false]
      simp [List.filter_cons, this]; split <;> simp <;> omega
    · obtain rfl : m = N := by omega
      have h1 : (List.range m).filter q = (List.range m).filter p := List.filter_congr fun j hj => by
        have := List.mem_range.1 hj
        rw [hq, decide_eq_false (by omega), Bool.or_false]
      rw [h1]; simp [hq, hp]
theorem countR_setR (xs : List Nat) (m : Nat) (hm : m < 64 * xs.length) (hh : hasR xs (m : Int) = false) : countR (setR xs (m : Int)) = countR xs + 1 := by
  rw [countR_list, countR_list]; unfold listN; rw [setR_len]
  exact count_add _ m _ _ hm hh (fun j => hasR_setR xs m j hm)

/-! ### both together -/
theorem orR_len (a b : List Nat) : (orR a b).length = max a.length b.length := by simp [orR]
theorem orR_getD (a b : List Nat) (k : Nat) : (orR a b).getD k 0 = a.getD k 0 ||| b.getD k 0 := by
  unfold orR
  rw [List.getD_eq_getElem?_getD, List.getElem?_map]
  by_cases h : k < max a.length b.length
  · rw [List.getElem?_range h]; rfl
  · rw [List.getElem?_eq_none (by simpa using h), getD_out a k (by omega), getD_out b k (by omega)]; rfl
theorem hasR_orR (a b : List Nat) (i : Nat) : hasR (orR a b) (i : Int) = (hasR a (i : Int) || hasR b (i : Int)) := by
  rw [hasR_nat, hasR_nat, hasR_nat, orR_getD, Nat.testBit_or]
theorem orR_w64 {a b : List Nat} (ha : W64 a) (hb : W64 b) : W64 (orR a b) := by
  intro x hx
  unfold orR at hx
  obtain ⟨j, _, rfl⟩ := List.mem_map.1 hx
  exact Nat.or_lt_two_pow (n := 64) (getD_w64 ha j) (getD_w64 hb j)
theorem subR_orl {a b : List Nat} (ha : W64 a) : subR a (orR a b) = true := by
  rw [subR_iff a _ ha]; intro i hi; rw [hasR_orR, hi]; rfl
theorem subR_orr {a b : List Nat} (hb : W64 b) : subR b (orR a b) = true := by
  rw [subR_iff b _ hb]; intro i hi; rw [hasR_orR, hi, Bool.or_true]
theorem sameR_refl (a : List Nat) : sameR a a = true := by unfold sameR; exact beq_self_eq_true a
theorem sameI_refl (a : List Int) : sameI a a = true := by unfold sameI; exact beq_self_eq_true a
/-- how many, counted up to any number that is far enough -/
theorem count_far (xs : List Nat) (N : Nat) (hN : 64 * xs.length ≤ N) : ((List.range N).filter fun i : Nat => hasR xs (i : Int)).length = countR xs := by
  obtain ⟨d, rfl⟩ : ∃ d, N = 64 * xs.length + d := ⟨N - 64 * xs.length, by omega⟩
  rw [List.range_add, List.filter_append, List.length_append, List.filter_map, countR_list]
  have : (List.range d).filter ((fun i : Nat => hasR xs (i : Int)) ∘ (64 * xs.length + ·)) = [] := by
    rw [List.filter_eq_nil_iff]; intro j _
    show ¬ hasR xs ((64 * xs.length + j : Nat) : Int) = true
    rw [hasR_out xs _ (.inr (by omega))]; simp
  rw [this]; rfl
theorem count_mono (N : Nat) (p q : Nat → Bool) (h : ∀ j, j < N → p j = true → q j = true) : ((List.range N).filter p).length ≤ ((List.range N).filter q).length ∧ (∀ m, m < N → p m = false → q m = true → ((List.range N).filter p).length < ((List.range N).filter q).length) := by
  induction N with
  | zero => simp
  | succ N ih =>
    obtain ⟨i1, i2⟩ := ih (fun j hj => h j (by omega))
    simp only [List.range_succ, List.filter_append, List.length_append]
    have h1 : ([N].filter p).length ≤ ([N].filter q).length := by
      cases hp : p N with
      | false => simp [hp]
      | true => simp [hp, h N (by omega) hp]
    refine ⟨by omega, fun m hm hp hq => ?_⟩
    by_cases hmN : m < N
    · have := i2 m hmN hp hq; omega
    · obtain rfl : m = N := by omega
      have h2 : ([m].filter p).length < ([m].filter q).length := by simp [hp, hq]
      omega
theorem subR_count {a b : List Nat} (ha : W64 a) : subR a b = decide (countR (orR a b) = countR b) := by
  have e1 : countR (orR a b) = ((List.range (64 * (orR a b).length)).filter fun i : Nat => hasR (orR a b) (i : Int)).length := (count_far _ _ (Nat.le_refl _)).symm
  have e2 : countR b = ((List.range (64 * (orR a b).length)).filter fun i : Nat => hasR b (i : Int)).length := (count_far b _ (by rw [orR_len]; omega)).symm
  rw [e1, e2]
  obtain ⟨hle, hlt⟩ := count_mono (64 * (orR a b).length) (fun i : Nat => hasR b (i : Int)) (fun i : Nat => hasR (orR a b) (i : Int)) (fun j _ hj => by rw [hasR_orR, hj, Bool.or_true])
  rw [Bool.eq_iff_iff, subR_iff a b ha, decide_eq_true_iff]
  constructor
  · intro h
    congr 1
    refine List.filter_congr fun j _ => ?_
    rw [hasR_orR]
    cases h1 : hasR a (j : Int) with
    | false => rfl
    | true => rw [h j h1]; rfl
  · intro h i hi
    cases hb : hasR b (i : Int) with
    | true => rfl
    | false =>
      exfalso
      have hi64 : i < 64 * (orR a b).length := by
        rcases Nat.lt_or_ge i (64 * (orR a b).length) with h' | h'
        · exact h'
        · rw [hasR_out a i (.inr (by rw [orR_len] at h'; omega))] at hi; cases hi
      have := hlt i hi64 hb (by rw [hasR_orR, hi]; rfl)
      omega

/-! ### a row of its list -/
theorem listN_rises (xs : List Nat) (k i j : Nat) (hi : (listN xs)[k]? = some i) (hj : (listN xs)[k + 1]? = some j) : i < j := by
  have hp : (listN xs).Pairwise (· < ·) := List.pairwise_lt_range.filter _
  obtain ⟨h1, e1⟩ := List.getElem?_eq_some_iff.1 hi
  obtain ⟨h2, e2⟩ := List.getElem?_eq_some_iff.1 hj
  rw [← e1, ← e2]
  exact List.pairwise_iff_getElem.1 hp k (k + 1) h1 h2 (by omega)
def setN (r : List Nat) (i : Nat) : List Nat := setR r (i : Int)
/-- the bits of l, set one by one in a row of n words -/
def setAll (n : Nat) (l : List Nat) : List Nat := l.foldl setN (List.replicate n 0)
theorem setAll_snoc (n : Nat) (l : List Nat) (i : Nat) : setAll n (l ++ [i]) = setR (setAll n l) (i : Int) := by
  unfold setAll; rw [List.foldl_append]; rfl
theorem hasR_zeros (n i : Nat) : hasR (List.replicate n 0) (i : Int) = false := by
  rw [hasR_nat, List.getD_eq_getElem?_getD, List.getElem?_replicate]
  split <;> simp
theorem setAll_facts (n : Nat) (l : List Nat) (h : ∀ i ∈ l, i < 64 * n) : (setAll n l).length = n ∧ W64 (setAll n l) ∧ ∀ j : Nat, hasR (setAll n l) (j : Int) = decide (j ∈ l) := by
  have : ∀ (r : List Nat), (∀ i ∈ l, i < 64 * r.length) → W64 r → (l.foldl setN r).length = r.length ∧ W64 (l.foldl setN r) ∧ ∀ j : Nat, hasR (l.foldl setN r) (j : Int) = (hasR r (j : Int) || decide (j ∈ l)) := by
    clear h
    induction l with
    | nil => intro r _ hw; exact ⟨rfl, hw, fun j => by simp⟩
    | cons i l ih =>
      intro r hl hw
      have hi := hl i (by simp)
      obtain ⟨h1, h2, h3⟩ := ih (setR r (i : Int)) (fun j hj => by rw [setR_len]; exact hl j (by simp [hj])) (setR_w64 hw i)
      refine ⟨h1.trans (setR_len r i), h2, fun j => ?_⟩
      show hasR (l.foldl _ (setR r (i : Int))) (j : Int) = _
      rw [h3 j, hasR_setR r i j hi, Bool.or_assoc]
      congr 1
      simp
  obtain ⟨h1, h2, h3⟩ := this (List.replicate n 0) (by simpa using h) (fun x hx => by have := (List.mem_replicate.1 hx).2; omega)
  refine ⟨h1.trans List.length_replicate, h2, fun j => ?_⟩
  have := h3 j
  rw [hasR_zeros, Bool.false_or] at this
  exact this
theorem setAll_back {xs : List Nat} (h : W64 xs) : setAll xs.length (listN xs) = xs := by
  obtain ⟨h1, h2, h3⟩ := setAll_facts xs.length (listN xs) (fun i hi => ((listN_mem xs i).1 hi).1)
  refine row_ext h2 h h1 fun i hi => ?_
  rw [h1] at hi
  rw [h3, Bool.eq_iff_iff, decide_eq_true_iff, listN_mem]
  exact ⟨fun h => h.2, fun h => ⟨hi, h⟩⟩

/-- what the statement's frame tells of an argument -/
theorem row_of_is {w : World} {A : Option Addr} {n c : Nat} {zs : List Int}
    (h : (A = none ∧ n = 0 ∧ c = 0 ∧ zs = []) ∨ ∃ x, A = some x ∧ n ≤ c ∧ c ≤ maxLen ∧ zs.length = c ∧ (∀ i, i < zs.length → w.cell? (x.add i) = some (.int .u64 (zs.getD i 0))) ∧ ∀ n ∈ zs, (Lit.int .u64 n).wf = true) : ∃ xs, Row w A n xs ∧ n ≤ 9223372036854775807 := by
  have hle : n ≤ 9223372036854775807 := by
    rcases h with ⟨_, h0, _⟩ | ⟨_, _, h1, h2, _⟩
    · omega
    · unfold maxLen at h2; omega
  suffices h' : ∃ xs, Row w A n xs from h'.imp fun xs hx => ⟨hx, hle⟩
  rcases h with ⟨rfl, rfl, rfl, rfl⟩ | ⟨⟨b, off, spot⟩, rfl, hl, hm, hz, hcell, hwz⟩
  · exact ⟨[], Row.nil _ _⟩
  · by_cases h0 : n = 0
    · subst h0; exact ⟨[], Row.nil _ _⟩
    · have hc := hcell 0 (by omega)
      have hspot : spot = none := by simpa [Addr.add] using World.cell?_spot hc
      subst hspot
      have hadd : ∀ j, (⟨b, off, none⟩ : Addr).add j = ⟨b, off + j, none⟩ := fun j => by unfold Addr.add; split <;> simp_all
      have hval : ∀ z ∈ zs, 0 ≤ z ∧ z < 18446744073709551616 := fun z hz' => by have := bounds_u64 (hwz z hz'); omega
      refine ⟨(zs.take n).map Int.toNat, ⟨by simp; omega, fun _ => ⟨b, off, rfl, ?_, fun j u hu => ?_⟩⟩, fun x hx => ?_⟩
      · have := World.block_lt_of_cell? w _ hc
        rwa [hadd] at this
      · rw [List.map_map, List.getElem?_map] at hu
        cases hx : (zs.take n)[j]? with
        | none => rw [hx] at hu; cases hu
        | some z =>
          rw [hx] at hu
          have hj : j < n := by have := (List.getElem?_eq_some_iff.1 hx).1; rw [List.length_take] at this; omega
          rw [List.getElem?_take_of_lt hj] at hx
          have h1 := hcell j (by omega)
          have h2 : zs.getD j 0 = z := by rw [List.getD_eq_getElem?_getD, hx]; rfl
          have h3 := hval z (List.mem_of_getElem? hx)
          rw [hadd, h2] at h1
          rw [h1]
          have : u64v z.toNat = u := by simpa using hu
          rw [← this]; unfold u64v; rw [Int.toNat_of_nonneg h3.1]
      · obtain ⟨z, hz1, rfl⟩ := List.mem_map.1 hx
        have := hval z (List.mem_of_mem_take hz1); omega

end Go.Proofs.Ytmgockkjoogcaaa

namespace Go.Proofs.Ytmgockkjoogcaaa

def smallM (xss : List (List Nat)) (most : Int) : Bool := decide ((xss.length : Int) ≤ most) && xss.all fun r => decide (r.length ≤ 4)
/-- may r be a row of a matrix of n? -/
def fitsR (r : List Nat) (n : Int) : Bool := decide ((r.length : Int) = wordsZ n) && (List.range (64 * r.length)).all fun j : Nat => decide ((j : Int) < n) || !hasR r (j : Int)
/-- may a matrix be? -/
def rightM (N : Int) (xss : List (List Nat)) : Bool := decide (0 ≤ N) && decide (N ≤ 4096) && decide ((xss.length : Int) = N) && xss.all fun r => fitsR r N
def inM (N i j : Int) : Bool := decide (0 ≤ i) && decide (i < N) && decide (0 ≤ j) && decide (j < N)
def hasM (xss : List (List Nat)) (i j : Int) : Bool := decide (0 ≤ i) && hasR (xss.getD i.toNat []) j
def setM (xss : List (List Nat)) (i j : Int) : List (List Nat) := xss.set i.toNat (setR (xss.getD i.toNat []) j)
def newM (n : Nat) : List (List Nat) := List.replicate n (List.replicate (wordsZ n).toNat 0)
def orM (a b : List (List Nat)) : List (List Nat) := (List.range a.length).map fun i => orR (a.getD i []) (b.getD i [])
def subM (a b : List (List Nat)) : Bool := (List.range a.length).all fun i => subR (a.getD i []) (b.getD i [])
def sameM (a b : List (List Nat)) : Bool := a == b

def belowZ (i n : Int) : Bool := decide (0 ≤ i) && decide (i < n)
theorem belowZ_yes {i n : Int} (h0 : 0 ≤ i) (h1 : i < n) : belowZ i n = true := by unfold belowZ; simp [h0, h1]
theorem belowZ_no {i n : Int} (h : i < 0 ∨ n ≤ i) : belowZ i n = false := by
  unfold belowZ
  rcases h with h | h
  · rw [decide_eq_false (by omega)]; rfl
  · rw [decide_eq_false (p := i < n) (by omega), Bool.and_false]
theorem hasM_out {xss : List (List Nat)} {i j : Int} (h : i < 0 ∨ (xss.length : Int) ≤ i) : hasM xss i j = false := by
  unfold hasM
  by_cases h0 : 0 ≤ i
  · have : xss.getD i.toNat [] = [] := by
      rw [List.getD_eq_getElem?_getD, List.getElem?_eq_none (by omega)]; rfl
    rw [this, hasR_out [] j (by simp; omega), Bool.and_false]
  · rw [decide_eq_false h0]; rfl
theorem getD_at {α : Type} {xss : List α} {k : Nat} {xs d : α} (h : xss[k]? = some xs) : xss.getD k d = xs := by rw [List.getD_eq_getElem?_getD, h]; rfl
theorem hasM_in {xss : List (List Nat)} {k : Nat} {xs : List Nat} {j : Int} (h : xss[k]? = some xs) : hasM xss (k : Int) j = hasR xs j := by
  unfold hasM
  rw [decide_eq_true (by omega), Int.toNat_natCast, getD_at h]; rfl

theorem setM_nat {xss : List (List Nat)} {k : Nat} {xs : List Nat} {j : Int} (h : xss[k]? = some xs) : setM xss (k : Int) j = xss.set k (setR xs j) := by
  unfold setM
  rw [Int.toNat_natCast, getD_at h]
theorem smallM_len {xss : List (List Nat)} {most : Int} (h : smallM xss most = true) : (xss.length : Int) ≤ most ∧ ∀ r ∈ xss, r.length ≤ 4 := by
  unfold smallM at h
  rw [Bool.and_eq_true, decide_eq_true_eq, List.all_eq_true] at h
  exact ⟨h.1, fun r hr => of_decide_eq_true (h.2 r hr)⟩

/-! ### matrices of pairs -/
def okP (n : Int) (p : Int × Int) : Bool := inM n p.1 p.2
def setP (m : List (List Nat)) (p : Int × Int) : List (List Nat) := setM m p.1 p.2
def foldP (n : Nat) (ps : List (Int × Int)) : List (List Nat) := ps.foldl setP (newM n)
theorem foldP_nil (n : Nat) : foldP n [] = newM n := rfl
theorem foldP_snoc (n : Nat) (ps : List (Int × Int)) (k : Nat) (p : Int × Int) (h : ps[k]? = some p) : foldP n (ps.take (k + 1)) = setM (foldP n (ps.take k)) p.1 p.2 := by
  unfold foldP
  have hk : k < ps.length := (List.getElem?_eq_some_iff.1 h).1
  rw [List.take_succ_eq_append_getElem hk, List.foldl_append, (List.getElem?_eq_some_iff.1 h).2]; rfl
/-- as many rows as n, each of as many words as n bits take -/
def DimM (n : Nat) (xss : List (List Nat)) : Prop := xss.length = n ∧ ∀ (i : Nat) (r : List Nat), xss[i]? = some r → r.length = (wordsZ (n : Int)).toNat
theorem DimM.new (n : Nat) : DimM n (newM n) := ⟨by simp [newM], fun i r h => by
  unfold newM at h
  rw [List.getElem?_replicate] at h
  split at h
  · injection h with h; subst h; simp
  · cases h⟩
theorem DimM.set {n : Nat} {xss : List (List Nat)} (h : DimM n xss) (i j : Int) : DimM n (setM xss i j) := by
  unfold setM
  refine ⟨by rw [List.length_set]; exact h.1, fun k r hk => ?_⟩
  rw [List.getElem?_set] at hk
  split at hk
  · rename_i e
    split at hk
    · rename_i hl
      injection hk with hk
      subst hk
      rw [setR_len, getD_at (List.getElem?_eq_getElem hl)]
      exact h.2 _ _ (List.getElem?_eq_getElem hl)
    · cases hk
  · exact h.2 _ _ hk
theorem DimM.fold (n : Nat) (ps : List (Int × Int)) : DimM n (foldP n ps) := by
  unfold foldP
  have : ∀ (ps : List (Int × Int)) (m : List (List Nat)), DimM n m → DimM n (ps.foldl setP m) := by
    intro ps
    induction ps with
    | nil => intro m h; exact h
    | cons p ps ih => intro m h; exact ih _ (h.set _ _)
  exact this ps _ (DimM.new n)
theorem words_pos {n : Nat} (h : 0 < n) : 0 < (wordsZ (n : Int)).toNat ∧ n ≤ 64 * (wordsZ (n : Int)).toNat := by
  unfold wordsZ; rw [if_neg (by omega)]; omega
theorem words_le {n : Nat} (h : n ≤ 4096) : (wordsZ (n : Int)).toNat ≤ 64 := by
  unfold wordsZ; rw [if_neg (by omega)]; omega

end Go.Proofs.Ytmgockkjoogcaaa

namespace Go.Proofs.Ytmgockkjoogcaaa
set_option linter.unusedVariables false

/-- does one item stand ahead of another one? -/
def aheadF (is : List It) (i j : Int) : Bool :=
  decide (0 ≤ i) && (decide (0 ≤ j) && (match is[i.toNat]?, is[j.toNat]? with | some x, some y => decide (x.se = y.se) && decide (x.pl < y.pl) | _, _ => false))
theorem aheadF_at {is : List It} {i j : Int} {x y : It} (hi : 0 ≤ i) (hj : 0 ≤ j) (hx : is[i.toNat]? = some x) (hy : is[j.toNat]? = some y) : aheadF is i j = (decide (x.se = y.se) && decide (x.pl < y.pl)) := by
  unfold aheadF; rw [decide_eq_true hi, decide_eq_true hj, hx, hy]; rfl
theorem aheadF_out {is : List It} {i j : Int} (h : i < 0 ∨ j < 0 ∨ (is.length : Int) ≤ i ∨ (is.length : Int) ≤ j) : aheadF is i j = false := by
  unfold aheadF
  rcases h with h | h | h | h
  · rw [decide_eq_false (by omega : ¬ 0 ≤ i)]; rfl
  · rw [decide_eq_false (by omega : ¬ 0 ≤ j)]; simp
  · rw [List.getElem?_eq_none (by omega : is.length ≤ i.toNat)]; simp
  · rw [List.getElem?_eq_none (by omega : is.length ≤ j.toNat)]
    cases is[i.toNat]? <;> simp
theorem aheadF_in {is : List It} {i j : Int} (h : aheadF is i j = true) : 0 ≤ i ∧ 0 ≤ j ∧ i < (is.length : Int) ∧ j < (is.length : Int) := by
  rcases Classical.em (0 ≤ i ∧ 0 ≤ j ∧ i < (is.length : Int) ∧ j < (is.length : Int)) with h1 | h1
  · exact h1
  · rw [aheadF_out (by omega)] at h; cases h
/-- one, and those ahead of it -/
def pastN (is : List It) (o : Int) (n : Nat) : List Nat := (List.range n).filter fun i => decide ((i : Int) = o) || aheadF is i o
def pastF (is : List It) (o : Int) (n : Nat) : List Int := (pastN is o n).map fun (i : Nat) => (i : Int)
theorem pastF_succ (is : List It) (o : Int) (n : Nat) : pastF is o (n + 1) = if (decide ((n : Int) = o) || aheadF is n o) = true then pastF is o n ++ [(n : Int)] else pastF is o n := by
  unfold pastF pastN
  rw [List.range_succ, List.filter_append]
  split
  · rename_i h; rw [List.filter_cons_of_pos (by exact h)]; simp
  · rename_i h; rw [List.filter_cons_of_neg (by exact h)]; simp
theorem pastF_len (is : List It) (o : Int) (n : Nat) : (pastF is o n).length ≤ n := by
  unfold pastF pastN
  rw [List.length_map]
  exact Nat.le_trans (List.length_filter_le _ _) (by simp)
theorem pastF_ok (is : List It) (o : Int) (n : Nat) : ∀ z ∈ pastF is o n, 0 ≤ z ∧ z < (n : Int) := fun z hz => by
  unfold pastF at hz
  obtain ⟨i, hi, rfl⟩ := List.mem_map.1 hz
  unfold pastN at hi
  have := List.mem_range.1 (List.mem_filter.1 hi).1
  omega
/-- the pairs of one item, up to number j; of those up to item i -/
def rowPo (is : List It) (i j : Nat) : List (Int × Int) := ((List.range j).filter fun (k : Nat) => aheadF is i k).map fun (k : Nat) => ((i : Int), (k : Int))
def uptoPo (is : List It) (n i : Nat) : List (Int × Int) := (List.range i).flatMap fun i => rowPo is i n
def poM (is : List It) : List (List Nat) := foldP is.length (uptoPo is is.length is.length)
theorem rowPo_succ (is : List It) (i j : Nat) : rowPo is i (j + 1) = if aheadF is i j = true then rowPo is i j ++ [((i : Int), (j : Int))] else rowPo is i j := by
  unfold rowPo
  rw [List.range_succ, List.filter_append]
  split
  · rename_i h; rw [List.filter_cons_of_pos (by exact h)]; simp
  · rename_i h; rw [List.filter_cons_of_neg (by exact h)]; simp
theorem uptoPo_succ (is : List It) (n i : Nat) : uptoPo is n (i + 1) = uptoPo is n i ++ rowPo is i n := by
  unfold uptoPo; rw [List.range_succ, List.flatMap_append]; simp
theorem foldP_last (n : Nat) (ps : List (Int × Int)) (p : Int × Int) : foldP n (ps ++ [p]) = setM (foldP n ps) p.1 p.2 := by
  unfold foldP; rw [List.foldl_append]; rfl
end Go.Proofs.Ytmgockkjoogcaaa

namespace Go.Proofs.Ytmgockkjoogcaaa
open Go.RowKit
set_option linter.unusedVariables false

/-- facts f, told by the slices v, lie in the variable g; of what was there in w nothing has turned -/
structure FBox (w : World) (g : Nat) (v : FV) (f : Fac) (wr : World) : Prop where
  f : FactsAt wr v f
  k : Blk wr g 29 [.slice v.A v.n v.c, .slice v.B v.m v.d, .slice v.C v.k v.e]
  o : Below w.heap.size w wr
section
variable {w wr w' : World} {g : Nat} {v : FV} {f : Fac}
theorem FBox.later (h : FBox w g v f wr) (hb : Below wr.heap.size wr w') : FBox w g v f w' := ⟨h.f.below hb, h.k.below hb h.k.lt, below_trans2 h.o hb⟩
theorem FBox.new (h : FactsAt w v f) : FBox w w.heap.size v f (w.alloc (.cells #[.slice v.A v.n v.c, .slice v.B v.m v.d, .slice v.C v.k v.e] 29)) :=
  ⟨h.below ((Below.refl _ _).alloc (Nat.le_refl _) _), Blk.new w _ _, (Below.refl _ _).alloc (Nat.le_refl _) _⟩
theorem FBox.c0 (h : FBox w g v f wr) : wr.cell? ⟨g, 0, none⟩ = some (.slice v.A v.n v.c) := h.k.cell 0
theorem FBox.c1 (h : FBox w g v f wr) : wr.cell? ⟨g, 1, none⟩ = some (.slice v.B v.m v.d) := h.k.cell 1
theorem FBox.c2 (h : FBox w g v f wr) : wr.cell? ⟨g, 2, none⟩ = some (.slice v.C v.k v.e) := h.k.cell 2
theorem FBox.drewN (h : FBox w g v f wr) (q : Nat) : FBox w g v f (wr.drewN q) := h.later (below_drewN (Below.refl _ _) q)
/-- .. and all that was told from an earlier world on -/
theorem FBox.from_ {w0 : World} (h : FBox w g v f wr) (hb : Below w0.heap.size w0 w) : FBox w0 g v f wr := ⟨h.f, h.k, below_trans2 hb h.o⟩
end

/-! ### facts stored into a variable of facts -/
def zF : List Value := [.slice none 0 0, .slice none 0 0, .slice none 0 0]
def FV.vals (v : FV) : List Value := [.slice v.A v.n v.c, .slice v.B v.m v.d, .slice v.C v.k v.e]
def putF (w : World) (g : Nat) (v : FV) : World := ((w.setCell ⟨g, 0, none⟩ (.slice v.A v.n v.c)).setCell ⟨g, 1, none⟩ (.slice v.B v.m v.d)).setCell ⟨g, 2, none⟩ (.slice v.C v.k v.e)
section
variable {w w0 : World} {g k : Nat} {t : TypeId} {cs : List Value} {v u : FV} {f : Fac}
theorem putF_facts (h : FactsAt w u f) (hk : Blk w g t zF) (v : FV) : FactsAt (putF w g v) u f := by
  unfold putF
  refine ((h.setBlk hk (fun x hx => ?_) _).setBlk (hk.set_ 0 _) (fun x hx => ?_) _).setBlk ((hk.set_ 0 _).set_ 1 _) (fun x hx => ?_) _
  · simp only [zF, List.mem_cons, List.not_mem_nil, or_false] at hx; rcases hx with rfl | rfl | rfl <;> exact ⟨_, _, _, rfl⟩
  · simp only [zF, List.set_cons_zero, List.mem_cons, List.not_mem_nil, or_false] at hx; rcases hx with rfl | rfl | rfl <;> exact ⟨_, _, _, rfl⟩
  · simp only [zF, List.set_cons_zero, List.set_cons_succ, List.mem_cons, List.not_mem_nil, or_false] at hx; rcases hx with rfl | rfl | rfl <;> exact ⟨_, _, _, rfl⟩
theorem putF_blk (h : Blk w g t zF) (v : FV) : Blk (putF w g v) g t v.vals := Blk.set_ (Blk.set_ (Blk.set_ h 0 _) 1 _) 2 _
theorem putF_far (h : Blk w k t cs) (hne : k ≠ g) (v : FV) : Blk (putF w g v) k t cs :=
  Blk.far (Blk.far (Blk.far h (p := ⟨g, 0, none⟩) hne _) (p := ⟨g, 1, none⟩) hne _) (p := ⟨g, 2, none⟩) hne _
theorem putF_below (h : Below w0.heap.size w0 w) (hg : w0.heap.size ≤ g) (v : FV) : Below w0.heap.size w0 (putF w g v) :=
  ((h.setCell (p := ⟨g, 0, none⟩) hg _).setCell (p := ⟨g, 1, none⟩) hg _).setCell (p := ⟨g, 2, none⟩) hg _
end
/-- facts in a variable -/
def InVar (w : World) (g : Nat) (v : FV) (f : Fac) : Prop := FactsAt w v f ∧ Blk w g 29 v.vals
theorem InVar.below {w w' : World} {g : Nat} {v : FV} {f : Fac} (h : InVar w g v f) (hb : Below w.heap.size w w') : InVar w' g v f := ⟨h.1.below hb, h.2.below hb h.2.lt⟩
theorem InVar.c0 {w : World} {g : Nat} {v : FV} {f : Fac} (h : InVar w g v f) : w.cell? ⟨g, 0, none⟩ = some (.slice v.A v.n v.c) := h.2.cell 0
theorem InVar.c1 {w : World} {g : Nat} {v : FV} {f : Fac} (h : InVar w g v f) : w.cell? ⟨g, 1, none⟩ = some (.slice v.B v.m v.d) := h.2.cell 1
theorem InVar.c2 {w : World} {g : Nat} {v : FV} {f : Fac} (h : InVar w g v f) : w.cell? ⟨g, 2, none⟩ = some (.slice v.C v.k v.e) := h.2.cell 2

/-! ### an item in a variable -/
def It.cells (i : It) : List Value := [.int .i64 i.se, .int .i64 i.pl, .bool i.wr, .int .i64 i.va, .int .i64 i.vl]
def itZ : It := ⟨0, 0, false, 0, 0⟩
/-- an item stored into a variable -/
def putIt (w : World) (g : Nat) (i : It) : World := ((((w.setCell ⟨g, 0, none⟩ (.int .i64 i.se)).setCell ⟨g, 1, none⟩ (.int .i64 i.pl)).setCell ⟨g, 2, none⟩ (.bool i.wr)).setCell ⟨g, 3, none⟩ (.int .i64 i.va)).setCell ⟨g, 4, none⟩ (.int .i64 i.vl)
theorem putIt_blk {w : World} {g : Nat} {t : TypeId} {j : It} (h : Blk w g t j.cells) (i : It) : Blk (putIt w g i) g t i.cells :=
  Blk.set_ (Blk.set_ (Blk.set_ (Blk.set_ (Blk.set_ h 0 _) 1 _) 2 _) 3 _) 4 _
theorem putIt_far {w : World} {g k : Nat} {t : TypeId} {cs : List Value} (h : Blk w k t cs) (hne : k ≠ g) (i : It) : Blk (putIt w g i) k t cs :=
  Blk.far (Blk.far (Blk.far (Blk.far (Blk.far h (p := ⟨g, 0, none⟩) hne _) (p := ⟨g, 1, none⟩) hne _) (p := ⟨g, 2, none⟩) hne _) (p := ⟨g, 3, none⟩) hne _) (p := ⟨g, 4, none⟩) hne _
theorem putIt_below {w0 w : World} {g : Nat} (h : Below w0.heap.size w0 w) (hg : w0.heap.size ≤ g) (i : It) : Below w0.heap.size w0 (putIt w g i) :=
  ((((h.setCell (p := ⟨g, 0, none⟩) hg _).setCell (p := ⟨g, 1, none⟩) hg _).setCell (p := ⟨g, 2, none⟩) hg _).setCell (p := ⟨g, 3, none⟩) hg _).setCell (p := ⟨g, 4, none⟩) hg _
end Go.Proofs.Ytmgockkjoogcaaa

namespace Go.Proofs.Ytmgockkjoogcaaa
set_option linter.unusedVariables false

/-- is it a write of this value to this variable? -/
def hitW (v val : Int) (x : It) : Bool := x.wr && (decide (x.va = v) && decide (x.vl = val))
/-- the first write of a value to a variable -/
def writeF (is : List It) (v val : Int) : Option Nat := is.findIdx? (hitW v val)
theorem writeF_at {is : List It} {v val : Int} {k : Nat} {x : It} (hx : is[k]? = some x) (h : hitW v val x = true) (hn : ∀ j, j < k → ∀ y, is[j]? = some y → hitW v val y = false) : writeF is v val = some k := by
  obtain ⟨hk, he⟩ := List.getElem?_eq_some_iff.1 hx
  unfold writeF
  rw [List.findIdx?_eq_some_iff_getElem]
  exact ⟨hk, by rw [he]; exact h, fun j hj => by rw [hn j hj _ (List.getElem?_eq_getElem (by omega))]; simp⟩
theorem writeF_none {is : List It} {v val : Int} (hn : ∀ (j : Nat) (y : It), is[j]? = some y → hitW v val y = false) : writeF is v val = none := by
  unfold writeF
  rw [List.findIdx?_eq_none_iff]
  intro x hx
  obtain ⟨j, hj, e⟩ := List.mem_iff_getElem.1 hx
  exact hn j x (by rw [← e]; exact List.getElem?_eq_getElem hj)
theorem writeF_some {is : List It} {v val : Int} {k : Nat} (h : writeF is v val = some k) : ∃ x, is[k]? = some x ∧ hitW v val x = true ∧ ∀ (j : Nat) (y : It), j < k → is[j]? = some y → hitW v val y = false := by
  unfold writeF at h
  rw [List.findIdx?_eq_some_iff_getElem] at h
  obtain ⟨hk, h1, h2⟩ := h
  refine ⟨is[k], List.getElem?_eq_getElem hk, h1, fun j y hj hy => ?_⟩
  obtain ⟨hjl, e⟩ := List.getElem?_eq_some_iff.1 hy
  have := h2 j hj
  rw [e] at this
  simpa using this
theorem writeF_own {is : List It} {j : Nat} {x : It} (hx : is[j]? = some x) (hw : x.wr = true) : ∃ i, writeF is x.va x.vl = some i ∧ i ≤ j := by
  cases h : writeF is x.va x.vl with
  | none =>
    unfold writeF at h
    rw [List.findIdx?_eq_none_iff] at h
    have := h x (List.mem_of_getElem? hx)
    simp [hitW, hw] at this
  | some i =>
    refine ⟨i, rfl, ?_⟩
    obtain ⟨_, _, _, h3⟩ := writeF_some h
    rcases Nat.lt_or_ge j i with h4 | h4
    · have := h3 j x h4 hx
      simp [hitW, hw] at this
    · exact h4
theorem writeF_append {is l : List It} {v val : Int} {k : Nat} (h : writeF is v val = some k) : writeF (is ++ l) v val = some k := by
  obtain ⟨x, h1, h2, h3⟩ := writeF_some h
  have hk := (List.getElem?_eq_some_iff.1 h1).1
  exact writeF_at (by rw [List.getElem?_append_left hk]; exact h1) h2 (fun j hj y hy => h3 j y hj (by rw [List.getElem?_append_left (by omega)] at hy; exact hy))
/-- what item j says of it -/
def stepC (is : List It) (j : Nat) : Option (Int × Int × Int) :=
  match is[j]? with
  | none => none
  | some x => if x.wr = false then none else if x.vl = 0 then some (j, j, 5) else if (writeF is x.va x.vl).getD 0 < j then some (((writeF is x.va x.vl).getD 0 : Nat), j, 4) else none
/-- is a history differentiated? -/
def checkF (is : List It) : Int × Int × Int := ((List.range is.length).findSome? (stepC is)).getD (0, 0, 0)
theorem range_first {n j : Nat} {α : Type} {f : Nat → Option α} {a : α} (hj : j < n) (h : f j = some a) (hn : ∀ i, i < j → f i = none) : (List.range n).findSome? f = some a := by
  rw [List.findSome?_eq_some_iff]
  refine ⟨List.range j, j, List.range' (j + 1) (n - j - 1), ?_, h, fun x hx => hn x (by simpa using hx)⟩
  rw [List.range_eq_range', List.range_eq_range', show n = j + (n - j) by omega, ← List.range'_append_1, show j + (n - j) - j - 1 = n - j - 1 by omega]
  congr 1
  rw [show n - j = (n - j - 1) + 1 by omega, List.range'_succ]
  simp
theorem checkF_at {is : List It} {j : Nat} {r : Int × Int × Int} (h : stepC is j = some r) (hn : ∀ i, i < j → stepC is i = none) : checkF is = r := by
  have hj : j < is.length := by
    rcases Nat.lt_or_ge j is.length with h1 | h1
    · exact h1
    · unfold stepC at h; rw [List.getElem?_eq_none h1] at h; cases h
  unfold checkF
  rw [range_first hj h hn]; rfl
theorem checkF_none {is : List It} (hn : ∀ i, i < is.length → stepC is i = none) : checkF is = (0, 0, 0) := by
  unfold checkF
  have : (List.range is.length).findSome? (stepC is) = none := by
    rw [List.findSome?_eq_none_iff]
    exact fun x hx => hn x (by simpa using hx)
  rw [this]; rfl
theorem least_none {α : Type} (f : Nat → Option α) (j : Nat) (h : f j ≠ none) : ∃ j, f j ≠ none ∧ ∀ i, i < j → f i = none := by
  induction j using Nat.strongRecOn with
  | ind j ih =>
    rcases Classical.em (∃ i, i < j ∧ f i ≠ none) with ⟨i, h1, h2⟩ | hn
    · exact ih i h1 h2
    · exact ⟨j, h, fun i hi => Classical.byContradiction fun h' => hn ⟨i, hi, h'⟩⟩
theorem checkF_cases (is : List It) : ((∀ i, stepC is i = none) ∧ checkF is = (0, 0, 0)) ∨ ∃ j r, stepC is j = some r ∧ (∀ i, i < j → stepC is i = none) ∧ checkF is = r := by
  rcases Classical.em (∃ j, stepC is j ≠ none) with h | h
  · obtain ⟨j, hj⟩ := h
    have : ∃ j, stepC is j ≠ none ∧ ∀ i, i < j → stepC is i = none := least_none (stepC is) j hj
    obtain ⟨j, hj, hn⟩ := this
    cases hs : stepC is j with
    | none => exact absurd hs hj
    | some r => exact .inr ⟨j, r, hs, hn, checkF_at hs hn⟩
  · have h' : ∀ i, stepC is i = none := fun i => Classical.byContradiction fun hi => h ⟨i, hi⟩
    exact .inl ⟨h', checkF_none fun i _ => h' i⟩
/-- what is told of facts that aren't differentiated -/
theorem stepC_some {is : List It} {j : Nat} {r : Int × Int × Int} (h : stepC is j = some r) : ∃ (i : Nat) (a b : It), is[i]? = some a ∧ is[j]? = some b ∧ r.1 = (i : Int) ∧ r.2.1 = (j : Int) ∧ a.wr = true ∧ b.wr = true ∧ a.va = b.va ∧ a.vl = b.vl ∧
    ((r.2.2 = 5 ∧ i = j ∧ a.vl = 0) ∨ (r.2.2 = 4 ∧ i < j ∧ a.vl ≠ 0)) := by
  unfold stepC at h
  split at h
  · cases h
  · rename_i x hx
    split at h
    · cases h
    · rename_i hw
      have hw' : x.wr = true := by cases hx : x.wr with | true => rfl | false => exact absurd hx hw
      split at h
      · rename_i h0
        injection h with h
        subst h
        exact ⟨j, x, x, hx, hx, rfl, rfl, hw', hw', rfl, rfl, .inl ⟨rfl, rfl, h0⟩⟩
      · rename_i h0
        split at h
        · rename_i hlt
          injection h with h
          subst h
          obtain ⟨i, hi, hij⟩ := writeF_own hx hw'
          rw [hi] at hlt
          obtain ⟨a, h1, h2, _⟩ := writeF_some hi
          simp only [hitW, Bool.and_eq_true, decide_eq_true_eq] at h2
          rw [hi]
          exact ⟨i, a, x, h1, hx, rfl, rfl, h2.1, hw', h2.2.1, h2.2.2, .inr ⟨rfl, hlt, by rw [h2.2.2]; exact h0⟩⟩
        · cases h
/-- of differentiated ones each write is the first of its value, and no write of 0 -/
theorem stepC_none {is : List It} {j : Nat} {x : It} (h : stepC is j = none) (hx : is[j]? = some x) (hw : x.wr = true) : writeF is x.va x.vl = some j ∧ x.vl ≠ 0 := by
  unfold stepC at h
  rw [hx] at h
  simp only at h
  rw [if_neg (by rw [hw]; simp)] at h
  split at h
  · cases h
  · rename_i h0
    split at h
    · cases h
    · rename_i hlt
      obtain ⟨i, hi, hij⟩ := writeF_own hx hw
      rw [hi] at hlt
      have : i = j := by simp at hlt; omega
      rw [hi, this]
      exact ⟨rfl, h0⟩
theorem stepC_append {is l : List It} {j : Nat} (hj : j < is.length) : stepC (is ++ l) j = stepC is j := by
  unfold stepC
  rw [List.getElem?_append_left hj]
  cases hx : is[j]? with
  | none => rfl
  | some x =>
    simp only
    cases hw : x.wr with
    | false => rfl
    | true =>
      obtain ⟨i, hi, _⟩ := writeF_own hx hw
      rw [hi, writeF_append hi]
/-- what isn't differentiated stays so with more behind; what is is so up to there -/
theorem checkF_append (is l : List It) : ((checkF is).2.2 = 0 ∧ ((checkF (is ++ l)).2.2 = 0 ∨ (is.length : Int) ≤ (checkF (is ++ l)).2.1)) ∨ ((checkF is).2.2 ≠ 0 ∧ checkF (is ++ l) = checkF is) := by
  rcases checkF_cases is with ⟨h, e⟩ | ⟨j, r, hs, hn, e⟩
  · left
    rw [e]
    refine ⟨rfl, ?_⟩
    rcases checkF_cases (is ++ l) with ⟨h2, e2⟩ | ⟨j, r, hs, hn, e2⟩
    · rw [e2]; exact .inl rfl
    · right
      rw [e2]
      obtain ⟨i, a, b, _, _, _, hj, _⟩ := stepC_some hs
      rw [hj]
      rcases Nat.lt_or_ge j is.length with h1 | h1
      · rw [stepC_append h1, h j] at hs; cases hs
      · omega
  · right
    have hj : j < is.length := by
      rcases Nat.lt_or_ge j is.length with h1 | h1
      · exact h1
      · unfold stepC at hs; rw [List.getElem?_eq_none h1] at hs; cases hs
    rw [e]
    obtain ⟨i, a, b, _, _, _, _, _, _, _, _, h5⟩ := stepC_some hs
    refine ⟨by rcases h5 with h | h <;> (rw [h.1]; decide), ?_⟩
    exact checkF_at (by rw [stepC_append hj]; exact hs) (fun i hi => by rw [stepC_append (by omega)]; exact hn i hi)
/-- a history's items are those of its beginning, and more -/
theorem hisF_append (xs ys : List (List OpT)) : ∃ l, (hisF (xs ++ ys)).2 = (hisF xs).2 ++ l := by
  induction ys using snoc_ind with
  | h0 => exact ⟨[], by simp⟩
  | h1 ys os ih =>
    obtain ⟨l, h⟩ := ih
    rw [← List.append_assoc, hisF_snoc]
    obtain ⟨l', h', _⟩ := sesF_items (xs ++ ys).length os (hisF (xs ++ ys))
    exact ⟨l ++ l', by rw [h', h, List.append_assoc]⟩
end Go.Proofs.Ytmgockkjoogcaaa

namespace Go.Proofs.Ytmgockkjoogcaaa
set_option linter.unusedVariables false

/-- what an item reads from -/
def fromOne (is : List It) (x : It) : Int := if x.wr = true then -3 else if x.vl = 0 then -1 else match writeF is x.va x.vl with | some w => (w : Int) | none => -2
def fromF (is : List It) : List Int := is.map (fromOne is)
def fillF (f : Fac) : Fac := ⟨f.vars, f.items, fromF f.items⟩
/-- the reads of a write -/
def readN (frm : List Int) (w : Int) (n : Nat) : List Nat := (List.range n).filter fun i => decide (0 ≤ w) && decide (frm.getD i 0 = w)
def readF (frm : List Int) (w : Int) (n : Nat) : List Int := (readN frm w n).map fun (i : Nat) => (i : Int)
theorem fromF_len (is : List It) : (fromF is).length = is.length := List.length_map _
theorem fromF_at {is : List It} {k : Nat} {x : It} (h : is[k]? = some x) : (fromF is)[k]? = some (fromOne is x) := by unfold fromF; rw [List.getElem?_map, h]; rfl
theorem fromF_take {is : List It} {k : Nat} {x : It} (h : is[k]? = some x) : (fromF is).take (k + 1) = (fromF is).take k ++ [fromOne is x] := by
  rw [List.take_add_one, fromF_at h]; rfl
theorem fromOne_range (is : List It) (x : It) : -3 ≤ fromOne is x ∧ fromOne is x < (is.length : Int) := by
  unfold fromOne
  split
  · omega
  · split
    · omega
    · cases h : writeF is x.va x.vl with
      | none => simp only; omega
      | some w =>
        obtain ⟨y, hy, _⟩ := writeF_some h
        have := (List.getElem?_eq_some_iff.1 hy).1
        simp only; omega
theorem readN_succ (frm : List Int) (w : Int) (n : Nat) : readN frm w (n + 1) = if (decide (0 ≤ w) && decide (frm.getD n 0 = w)) = true then readN frm w n ++ [n] else readN frm w n := by
  unfold readN
  rw [List.range_succ, List.filter_append]
  split
  · rename_i h; rw [List.filter_cons_of_pos (by exact h)]; rfl
  · rename_i h; rw [List.filter_cons_of_neg (by exact h)]; simp
theorem readF_succ (frm : List Int) (w : Int) (n : Nat) : readF frm w (n + 1) = if (decide (0 ≤ w) && decide (frm.getD n 0 = w)) = true then readF frm w n ++ [(n : Int)] else readF frm w n := by
  unfold readF
  rw [readN_succ]
  split
  · simp
  · rfl
theorem readF_len (frm : List Int) (w : Int) (n : Nat) : (readF frm w n).length ≤ n := by
  unfold readF readN
  rw [List.length_map]
  exact Nat.le_trans (List.length_filter_le _ _) (by simp)
theorem readF_ok (frm : List Int) (w : Int) (n : Nat) : ∀ z ∈ readF frm w n, 0 ≤ z ∧ z < (n : Int) := fun z hz => by
  unfold readF at hz
  obtain ⟨i, hi, rfl⟩ := List.mem_map.1 hz
  unfold readN at hi
  have := List.mem_range.1 (List.mem_filter.1 hi).1
  omega

/-! ### how many reads read from a write -/
def cntF (frm : List Int) (w : Int) (n : Nat) : Nat := ((List.range n).filter fun i => decide (0 ≤ frm.getD i 0) && decide (frm.getD i 0 < w)).length
def posF (frm : List Int) (n : Nat) : Nat := ((List.range n).filter fun i => decide (0 ≤ frm.getD i 0)).length
theorem filter_range_succ (p : Nat → Bool) (n : Nat) : ((List.range (n + 1)).filter p).length = ((List.range n).filter p).length + if p n = true then 1 else 0 := by
  rw [List.range_succ, List.filter_append, List.length_append]
  split
  · rename_i h; rw [List.filter_cons_of_pos h]; rfl
  · rename_i h; rw [List.filter_cons_of_neg h]; rfl
theorem posF_succ (frm : List Int) (n : Nat) : posF frm (n + 1) = posF frm n + if 0 ≤ frm.getD n 0 then 1 else 0 := by
  unfold posF; rw [filter_range_succ]; simp
theorem cntF_next (frm : List Int) (w : Int) (n : Nat) : cntF frm (w + 1) n = cntF frm w n + (readF frm w n).length := by
  unfold cntF readF readN
  rw [List.length_map]
  induction n with
  | zero => rfl
  | succ n ih =>
    rw [filter_range_succ, filter_range_succ, filter_range_succ, ih]
    have e : ∀ z : Int, (if (decide (0 ≤ z) && decide (z < w + 1)) = true then 1 else 0) = (if (decide (0 ≤ z) && decide (z < w)) = true then 1 else 0) + (if (decide (0 ≤ w) && decide (z = w)) = true then (1 : Nat) else 0) := fun z => by
      by_cases h0 : 0 ≤ z
      · rcases Int.lt_trichotomy z w with h | h | h
        · have h1 : z < w + 1 := by omega
          have h2 : ¬ z = w := by omega
          simp [h0, h, h1, h2]
        · subst h; simp [h0]; omega
        · have h1 : ¬ z < w + 1 := by omega
          have h2 : ¬ z = w := by omega
          have h3 : ¬ z < w := by omega
          simp [h1, h2, h3]
      · by_cases h2 : z = w
        · subst h2; simp [h0]
        · simp [h0, h2]
    have := e (frm.getD n 0)
    omega
theorem cntF_start (frm : List Int) {w : Int} (hw : w ≤ 0) (n : Nat) : cntF frm w n = 0 := by
  unfold cntF
  rw [List.filter_eq_nil_iff.2 (fun a _ => by simp; omega)]; rfl
theorem cntF_all {frm : List Int} {w : Int} {n : Nat} (h : ∀ i, i < n → frm.getD i 0 < w) : cntF frm w n = posF frm n := by
  unfold cntF posF
  congr 1
  refine List.filter_congr (fun i hi => ?_)
  rw [decide_eq_true (h i (List.mem_range.1 hi)), Bool.and_true]
theorem posF_le (frm : List Int) (n : Nat) : posF frm n ≤ n := by
  unfold posF; exact Nat.le_trans (List.length_filter_le _ _) (by simp)
theorem cntF_le (frm : List Int) (w : Int) (n : Nat) : cntF frm w n ≤ n := by
  unfold cntF; exact Nat.le_trans (List.length_filter_le _ _) (by simp)
theorem posF_mono (frm : List Int) {i n : Nat} (h : i ≤ n) : posF frm i ≤ posF frm n := by
  induction n with
  | zero => rw [Nat.le_zero.1 h]; exact Nat.le_refl _
  | succ n ih =>
    rcases Nat.lt_or_ge i (n + 1) with h1 | h1
    · rw [posF_succ]; have := ih (by omega); omega
    · rw [show i = n + 1 by omega]; exact Nat.le_refl _
theorem readF_at {frm : List Int} {w : Int} {n q : Nat} {z : Int} (h : (readF frm w n)[q]? = some z) : 0 ≤ w ∧ 0 ≤ z ∧ z < (n : Int) ∧ frm.getD z.toNat 0 = w := by
  unfold readF at h
  rw [List.getElem?_map] at h
  cases ha : (readN frm w n)[q]? with
  | none => rw [ha] at h; cases h
  | some a =>
    rw [ha] at h
    have h : some (a : Int) = some z := h
    injection h with h
    have hm := List.mem_of_getElem? ha
    unfold readN at hm
    obtain ⟨h1, h2⟩ := List.mem_filter.1 hm
    rw [Bool.and_eq_true, decide_eq_true_eq, decide_eq_true_eq] at h2
    have := List.mem_range.1 h1
    subst h
    exact ⟨h2.1, by omega, by omega, by rw [Int.toNat_natCast]; exact h2.2⟩
theorem readF_lt {frm : List Int} {w : Int} {n q : Nat} {y z : Int} (h1 : (readF frm w n)[q]? = some y) (h2 : (readF frm w n)[q + 1]? = some z) : y < z := by
  have hp : (readN frm w n).Pairwise (· < ·) := by unfold readN; exact List.pairwise_lt_range.filter _
  unfold readF at h1 h2
  rw [List.getElem?_map] at h1 h2
  cases ha : (readN frm w n)[q]? with
  | none => rw [ha] at h1; cases h1
  | some a =>
    cases hb : (readN frm w n)[q + 1]? with
    | none => rw [hb] at h2; cases h2
    | some b =>
      rw [ha] at h1
      rw [hb] at h2
      have h1 : some (a : Int) = some y := h1
      have h2 : some (b : Int) = some z := h2
      injection h1 with h1
      injection h2 with h2
      obtain ⟨la, ea⟩ := List.getElem?_eq_some_iff.1 ha
      obtain ⟨lb, eb⟩ := List.getElem?_eq_some_iff.1 hb
      have := List.pairwise_iff_getElem.1 hp q (q + 1) la lb (by omega)
      rw [ea, eb] at this
      omega
end Go.Proofs.Ytmgockkjoogcaaa

namespace Go.Proofs.Ytmgockkjoogcaaa
open Go.RowKit
set_option linter.unusedVariables false
def RetWrite (o : Option Nat) (w : World) (e : Ending) (w' : World) : Prop := e = .returned (.tuple #[.int .i64 ((o.getD 0 : Nat) : Int), .bool o.isSome]) ∧ Below w.heap.size w w'
def RetCheck (r : Int × Int × Int) (w : World) (e : Ending) (w' : World) : Prop := e = .returned (.tuple #[.int .i64 r.1, .int .i64 r.2.1, .int .i64 r.2.2]) ∧ Below w.heap.size w w'
set_option maxRecDepth 100000 in
set_option maxHeartbeats 1000000 in
theorem ref10_Write (v : FV) (f : Fac) (va vl : Int) (w : World) (hF : FactsAt w v f) :
    Calls Try.prog 44 #[.agg #[.slice v.A v.n v.c, .slice v.B v.m v.d, .slice v.C v.k v.e], .int .i64 va, .int .i64 vl] w (RetWrite (writeF f.items va vl) w) := by
  have hil := hF.is.len
  have him : v.m ≤ 9223372036854775807 := by have := hF.ic; have := hF.im; omega
  -- a call with facts v: they are boxed at g, the world is W0 then
  have hB0 := Lib.hid (FBox.new hF)
  obtain ⟨g, hg⟩ : ∃ g, g = w.heap.size := ⟨_, rfl⟩
  obtain ⟨W0, hW0⟩ : ∃ W, W = w.alloc (.cells #[.slice v.A v.n v.c, .slice v.B v.m v.d, .slice v.C v.k v.e] 29) := ⟨_, rfl⟩
  rw [← hW0, ← hg] at hB0
  clear hF
  have p0 := hB0.out.c0
  have p1 := hB0.out.c1
  have p2 := hB0.out.c2
  go_enter Try.func44, Try.ntmps44
  go_wp2_with (rw [← hW0, ← hg]; clear hW0 hg)
  go_loopw [8] (fun t wr => ∃ k : Nat, k ≤ v.m ∧ t = .int .i64 k ∧ wr = W0 ∧ Hid (∀ j, j < k → ∀ y, f.items[j]? = some y → hitW va vl y = false)) (fun t _ => v.m - (intOf t).toNat)
  case atStart => exact ⟨0, Nat.zero_le _, rfl, rfl, Lib.hid (fun j hj => absurd hj (by omega))⟩
  case round =>
    obtain ⟨k, hk, rfl, rfl, hall⟩ := hrel
    by_cases hlt : k < v.m
    · have hlt' : (k : Int) < (v.m : Int) := by omega
      obtain ⟨ib, io, x, hxB, hib, hx, hxo, i0, i1, i2, i3, i4⟩ := hB0.out.f.is.item hlt
      rw [hxB] at p1
      have hno := fun (h : hitW va vl x = false) => Lib.hid (show ∀ j, j < k + 1 → ∀ y, f.items[j]? = some y → hitW va vl y = false from fun j hj y hy => by
        rcases Nat.lt_succ_iff_lt_or_eq.1 hj with h1 | h1
        · exact hall.out j h1 y hy
        · subst h1; rw [hx] at hy; injection hy with hy; subst hy; exact h)
      have hyes := fun (h : hitW va vl x = true) => writeF_at hx h hall.out
      obtain ⟨xs, xp, xw, xa, xl⟩ := x
      simp only at i0 i1 i2 i3 i4
      have hh : hitW va vl ⟨xs, xp, xw, xa, xl⟩ = (xw && (decide (xa = va) && decide (xl = vl))) := rfl
      rw [hh] at hno hyes
      clear hh hxo hx hall hlt hxB
      have hkw : (k : Int) + 1 < 9223372036854775808 := by omega
      cases xw with
      | false =>
        have hn := hno rfl
        clear hno hyes
        go_wp2_with fail
        go_round
        case rel => exact ⟨k + 1, by omega, by go_num, trivial, hn⟩
        case measure => simp [intOf]; omega
      | true =>
        by_cases ha : xa = va
        · by_cases hl : xl = vl
          · have hy := hyes (by simp [ha, hl])
            clear hno hyes
            have e1 : (xa == va) = true := by simp [ha]
            have e2 : (xl == vl) = true := by simp [hl]
            replace ha := Lib.hid ha
            replace hl := Lib.hid hl
            replace hy := Lib.hid hy
            go_wp2_with fail
            exact bodyPost_ret (v := .tuple #[.int .i64 (k : Int), .bool true]) (by simp [results, go_sem]) rfl ⟨by rw [hy.out]; rfl, hB0.out.o⟩
          · have hn := hno (by simp [hl])
            clear hno hyes
            have e1 : (xa == va) = true := by simp [ha]
            have e2 : (xl == vl) = false := by simp [hl]
            replace ha := Lib.hid ha
            replace hl := Lib.hid hl
            go_wp2_with fail
            go_round
            case rel => exact ⟨k + 1, by omega, by go_num, trivial, hn⟩
            case measure => simp [intOf]; omega
        · have hn := hno (by simp [ha])
          clear hno hyes
          have e1 : (xa == va) = false := by simp [ha]
          replace ha := Lib.hid ha
          go_wp2_with fail
          go_round
          case rel => exact ⟨k + 1, by omega, by go_num, trivial, hn⟩
          case measure => simp [intOf]; omega
    · have hlt' : ¬ (k : Int) < (v.m : Int) := by omega
      have hn := Lib.hid (writeF_none (is := f.items) (v := va) (val := vl) (fun j y hy => hall.out j (by have := (List.getElem?_eq_some_iff.1 hy).1; omega) y hy))
      clear hall hlt
      go_wp2_with fail
      exact bodyPost_ret (v := .tuple #[.int .i64 0, .bool false]) (by simp [results, go_sem]) rfl ⟨by rw [hn.out]; rfl, hB0.out.o⟩
set_option maxRecDepth 100000 in
set_option maxHeartbeats 1000000 in
theorem ref10_Check (v : FV) (f : Fac) (w : World) (hF : FactsAt w v f) :
    Calls Try.prog 26 #[.agg #[.slice v.A v.n v.c, .slice v.B v.m v.d, .slice v.C v.k v.e]] w (RetCheck (checkF f.items) w) := by
  have hil := hF.is.len
  have him : v.m ≤ 9223372036854775807 := by have := hF.ic; have := hF.im; omega
  -- a call with facts v: they are boxed at g, the world is W0 then
  have hB0 := Lib.hid (FBox.new hF)
  obtain ⟨g, hg⟩ : ∃ g, g = w.heap.size := ⟨_, rfl⟩
  obtain ⟨W0, hW0⟩ : ∃ W, W = w.alloc (.cells #[.slice v.A v.n v.c, .slice v.B v.m v.d, .slice v.C v.k v.e] 29) := ⟨_, rfl⟩
  rw [← hW0, ← hg] at hB0
  clear hF
  have p0 := hB0.out.c0
  have p1 := hB0.out.c1
  have p2 := hB0.out.c2
  go_enter Try.func26, Try.ntmps26
  go_wp2_with (rw [← hW0, ← hg]; clear hW0 hg)
  clear p0 p1 p2
  go_loopw [5] (fun t wr => ∃ k : Nat, k ≤ v.m ∧ t = .int .i64 k ∧ Hid (FBox w g v f wr) ∧ Hid (∀ j, j < k → stepC f.items j = none)) (fun t _ => v.m - (intOf t).toNat)
  case atStart => exact ⟨0, Nat.zero_le _, rfl, hB0, Lib.hid (fun j hj => absurd hj (by omega))⟩
  case round =>
    clear hB0
    obtain ⟨k, hk, rfl, hB, hall⟩ := hrel
    have p0 := hB.out.c0
    have p1 := hB.out.c1
    have p2 := hB.out.c2
    by_cases hlt : k < v.m
    · have hlt' : (k : Int) < (v.m : Int) := by omega
      obtain ⟨ib, io, x, hxB, hib, hx, hxo, i0, i1, i2, i3, i4⟩ := hB.out.f.is.item hlt
      rw [hxB] at p1
      have hkw : (k : Int) + 1 < 9223372036854775808 := by omega
      have hno := fun (h : stepC f.items k = none) => Lib.hid (show ∀ j, j < k + 1 → stepC f.items j = none from fun j hj => by
        rcases Nat.lt_succ_iff_lt_or_eq.1 hj with h1 | h1
        · exact hall.out j h1
        · subst h1; exact h)
      have hyes := fun r (h : stepC f.items k = some r) => checkF_at h hall.out
      have hst : stepC f.items k = if x.wr = false then none else if x.vl = 0 then some ((k : Int), (k : Int), 5) else if (writeF f.items x.va x.vl).getD 0 < k then some (((writeF f.items x.va x.vl).getD 0 : Nat), (k : Int), 4) else none := by
        unfold stepC; rw [hx]
      obtain ⟨xs, xp, xw, xa, xl⟩ := x
      simp only at i0 i1 i2 i3 i4 hst
      obtain ⟨V, hV⟩ : ∃ W, W = wr.alloc (.cells #[.int .i64 xs, .int .i64 xp, .bool xw, .int .i64 xa, .int .i64 xl] 73) := ⟨_, rfl⟩
      obtain ⟨gx, hgx⟩ : ∃ g, g = wr.heap.size := ⟨_, rfl⟩
      have bV : Below wr.heap.size wr V := by rw [hV]; exact (Below.refl _ _).alloc (Nat.le_refl _) _
      have kIt : Blk V gx 73 [.int .i64 xs, .int .i64 xp, .bool xw, .int .i64 xa, .int .i64 xl] := by rw [hV, hgx]; exact Blk.new wr _ _
      have hBV := Lib.hid (hB.out.later bV)
      have j2 := kIt.cell 2
      have j3 := kIt.cell 3
      have j4 := kIt.cell 4
      simp only [List.getElem?_cons_zero, List.getElem?_cons_succ] at j2 j3 j4
      have w0 := hBV.out.c0
      have w1 := hBV.out.c1
      have w2 := hBV.out.c2
      clear bV kIt hx hxo hxB hlt
      cases xw with
      | false =>
        have hn := hno (by rw [hst]; rfl)
        clear hno hyes hst hall
        go_wp2_with (rw [← hV, ← hgx]; clear hV hgx)
        go_round
        case rel => exact ⟨k + 1, by omega, by go_num, hBV, hn⟩
        case measure => simp [intOf]; omega
      | true =>
        by_cases h0 : xl = 0
        · have hy := Lib.hid (hyes _ (by rw [hst, if_neg (by simp), if_pos h0]))
          have e0 : (xl == 0) = true := by simp [h0]
          clear hno hyes hst hall
          replace h0 := Lib.hid h0
          go_wp2_with (rw [← hV, ← hgx]; clear hV hgx)
          exact bodyPost_ret (v := .tuple #[.int .i64 (k : Int), .int .i64 (k : Int), .int .i64 5]) (by simp [results, go_sem]) rfl ⟨by rw [hy.out], hBV.out.o⟩
        · have e0 : (xl == 0) = false := by simp [h0]
          have cW := ref10_Write v f xa xl V hBV.out.f
          obtain ⟨o, ho⟩ : ∃ o, o = writeF f.items xa xl := ⟨_, rfl⟩
          rw [← ho] at cW hst
          rw [if_neg (by simp), if_neg h0] at hst
          unfold RetWrite at cW
          obtain ⟨i, hi⟩ : ∃ i, i = o.getD 0 := ⟨_, rfl⟩
          rw [← hi] at cW hst
          obtain ⟨ii, hii⟩ : ∃ ii : Int, ii = (i : Int) := ⟨_, rfl⟩
          rw [← hii] at cW
          replace cW := Lib.hid cW
          replace h0 := Lib.hid h0
          replace ho := Lib.hid ho
          replace hi := Lib.hid hi
          by_cases hik : i < k
          · have hy := Lib.hid (hyes _ (by rw [hst, if_pos hik]))
            have hik' : ii < (k : Int) := by omega
            replace hii := Lib.hid hii
            clear hno hyes hst hall hik
            go_wp2_with (rw [← hV, ← hgx]; clear hV hgx)
            refine cW.out.mono ?_; rintro e w3 ⟨rfl, b3⟩
            go_wp2_with fail
            exact bodyPost_ret (v := .tuple #[.int .i64 ii, .int .i64 (k : Int), .int .i64 4]) (by simp [results, go_sem]) rfl ⟨by rw [hy.out, hii.out], below_trans2 hBV.out.o b3⟩
          · have hn := hno (by rw [hst, if_neg hik])
            have dk : decide (ii < (k : Int)) = false := decide_eq_false (by omega)
            replace hii := Lib.hid hii
            clear hno hyes hst hall hik
            go_wp2_with (rw [← hV, ← hgx]; clear hV hgx)
            refine cW.out.mono ?_; rintro e w3 ⟨rfl, b3⟩
            have hB3 := Lib.hid (hBV.out.later b3)
            clear w0 w1 w2 j2 j3 j4 p0 p1 p2 i0 i1 i2 i3 i4 b3 e0
            go_wp2_with fail
            go_round
            case rel => exact ⟨k + 1, by omega, by go_num, hB3, hn⟩
            case measure => simp [intOf]; omega
    · have hlt' : ¬ (k : Int) < (v.m : Int) := by omega
      have hn := Lib.hid (checkF_none (is := f.items) (fun j hj => hall.out j (by omega)))
      clear hall hlt
      go_wp2_with fail
      exact bodyPost_ret (v := .tuple #[.int .i64 0, .int .i64 0, .int .i64 0]) (by simp [results, go_sem]) rfl ⟨by rw [hn.out], hB.out.o⟩
end Go.Proofs.Ytmgockkjoogcaaa

namespace Go.Proofs.Ytmgockkjoogcaaa
open Go.RowKit
set_option linter.unusedVariables false

theorem info_op : (Try.prog.info? 50).map (fun i => (i.zero, i.size, i.bytes)) = some (some (.agg #[.bool false, .string .empty, .int .i64 0]), 3, 32) := by kernel_rfl
set_option maxRecDepth 100000 in
set_option maxHeartbeats 2000000 in
theorem ref6_Flat (A : Option Addr) (n c : Nat) (hs : List (List OpT)) (w : World) (hH : HistAt w A n hs) (hn : n ≤ 9223372036854775807) (hF : (allO hs).length ≤ 4398046511104) :
    Calls Try.prog 24 #[.slice A n c] w (RetOps 50 (allO hs) w) := by
  obtain ⟨i0, hi, hz0, hz1, hz2⟩ := info_parts info_op
  replace hH := Lib.hid hH
  go_enter Try.func24, Try.ntmps24
  go_wp2_with fail
  go_loopw [3, 4] (fun v i wr => ∃ k : Nat, k ≤ n ∧ i = .int .i64 k ∧ Hid (wr.ownsRow w.heap.size 50 3 v (allO (hs.take k)).length (cellsO (allO (hs.take k))) ∧ OkO (allO (hs.take k)) ∧ Below w.heap.size w wr)) (fun _ i _ => n - (intOf i).toNat)
  case atStart => exact ⟨0, Nat.zero_le _, rfl, Lib.hid ⟨World.ownsRow_nil _ _ _ _, fun o h => by simp [allO] at h, Below.refl _ _⟩⟩
  case round =>
    obtain ⟨k, hk, rfl, hI⟩ := hrel
    by_cases hlt : k < n
    · obtain ⟨b, off, B, m, cc, os, rfl, hb, hos, hcell, hmc, hm63, hO⟩ := (hH.out.below hI.out.2.2).at_ hlt
      have hlen := allO_take_succ hos
      have hle := allO_take_le hs (k + 1)
      rw [hlen, List.length_append, hO.len] at hle
      have hlt' : (k : Int) < (n : Int) := by omega
      replace hO := Lib.hid hO
      replace hlen := Lib.hid hlen
      replace hos := Lib.hid hos
      replace hmc := Lib.hid hmc
      clear hlt
      go_wp2_with (at_builtin; refine wpList_append_ops rfl (.tmp 11) (.tmp 15) _ rfl w.heap.size 50 i0 _ Try.underlying47 hi hz0 hz1 hz2 rfl _ _ _ (by rfl) hI.out.1 _ _ _ _ rfl hO.out (by omega) hI.out.2.2.size ?_; intro v' w' hown' hb')
      refine ⟨⟨k + 1, by omega, by go_num, Lib.hid ⟨by rw [hlen.out, List.length_append, hO.out.len]; exact hown', by rw [hlen.out]; exact okO_append hI.out.2.1 hO.out.2.1, hI.out.2.2.trans hb'⟩⟩, by simp [intOf]; omega⟩
    · have hkn : k = n := by omega
      have hall : hs.take k = hs := by rw [hkn, ← hH.out.len]; exact List.take_length
      rw [hall] at hI
      have hkn' : ¬ (k : Int) < (n : Int) := by omega
      clear hlt hkn hall
      obtain ⟨A', cap, hv, hO⟩ := OpsAt.of_own hI.out.1 hI.out.2.1 rfl
      subst hv
      go_wp2_with fail
      go_ret
      exact ⟨A', _, cap, rfl, hI.out.1, rfl, hI.out.2.1, hO, OwnsRow.cap_le hI.out.1, hI.out.2.2⟩

theorem ref6_Count (A : Option Addr) (n c : Nat) (hs : List (List OpT)) (w : World) (hH : HistAt w A n hs) (hn : n ≤ 9223372036854775807) (hF : (allO hs).length ≤ 4398046511104) :
    Calls Try.prog 23 #[.slice A n c] w fun e w' => e = .returned (.int .i64 ((allO hs).length : Nat)) ∧ Below w.heap.size w w' := by
  have cF := Lib.hid (ref6_Flat A n c hs w hH hn hF)
  clear hH
  go_enter Try.func23, Try.ntmps23
  go_wp2_with fail
  refine cF.out.mono ?_; rintro e w1 ⟨A1, n1, c1, rfl, -, h1, -, -, -, b⟩
  go_wp2_with fail
  go_ret
  exact ⟨by rw [← h1]; rfl, b⟩
theorem name_size (s : ByteArray) : s.data.toList.length = s.size := by cases s; rfl
theorem name_byte (s : ByteArray) (k : Nat) (h : k < s.size) : s.data.toList[k]? = some (s[k]'h) := by
  obtain ⟨⟨l⟩⟩ := s
  exact List.getElem?_eq_getElem h
theorem nameL_no {l : List UInt8} {k : Nat} {c : UInt8} (h : l[k]? = some c) (hc : ¬ (97 ≤ c.toNat ∧ c.toNat ≤ 122)) : nameL l = false := by
  unfold nameL
  have : l.all (fun c => decide (97 ≤ c.toNat) && decide (c.toNat ≤ 122)) = false := by
    rw [List.all_eq_false]
    exact ⟨c, List.mem_of_getElem? h, by simpa using fun h1 => by omega⟩
  rw [this]; rfl
theorem nameL_len {l : List UInt8} (h : ∀ j, j < l.length → ∃ c, l[j]? = some c ∧ 97 ≤ c.toNat ∧ c.toNat ≤ 122) : nameL l = (decide (1 ≤ l.length) && decide (l.length ≤ 8)) := by
  unfold nameL
  have : l.all (fun c => decide (97 ≤ c.toNat) && decide (c.toNat ≤ 122)) = true := by
    rw [List.all_eq_true]
    intro c hc
    obtain ⟨j, hj⟩ := List.getElem?_of_mem hc
    obtain ⟨d, hd, h1, h2⟩ := h j (List.getElem?_eq_some_iff.1 hj).1
    rw [hj] at hd; injection hd with hd; subst hd
    simp [h1, h2]
  rw [this, Bool.true_and]
set_option maxRecDepth 100000 in
set_option maxHeartbeats 2000000 in
theorem ref6_Name (s : ByteArray) (w : World) (hs : s.size ≤ 9223372036854775807) :
    Calls Try.prog 60 #[.string s] w fun e w' => e = .returned (.bool (nameL s.data.toList)) ∧ w' = w := by
  go_enter Try.func60, Try.ntmps60
  go_wp2_with fail
  go_loop [3] (fun t => ∃ q : Nat, t = .int .i64 q ∧ q ≤ s.size ∧ Hid (∀ j, j < q → ∃ c, s.data.toList[j]? = some c ∧ 97 ≤ c.toNat ∧ c.toNat ≤ 122)) (fun t => s.size - (intOf t).toNat)
  case atStart => exact ⟨0, rfl, by omega, Lib.hid (fun j hj => absurd hj (by omega))⟩
  case round =>
    obtain ⟨q, rfl, hq, hall⟩ := hrel
    by_cases hlt : (q : Int) < (s.size : Int)
    · have h : 0 ≤ (q : Int) ∧ (q : Int) < (s.size : Int) := ⟨by omega, hlt⟩
      have hlt' : q < s.size := by omega
      obtain ⟨c, hc⟩ : ∃ c : UInt8, s[q]'hlt' = c := ⟨_, rfl⟩
      have hcl : Hid (s.data.toList[q]? = some c) := Lib.hid (by rw [name_byte s q hlt', hc])
      by_cases h97 : 97 ≤ c.toNat
      · by_cases h122 : c.toNat ≤ 122
        · have e1 : ¬ (c.toNat : Int) < 97 := by omega
          have e2 : ¬ (122 : Int) < (c.toNat : Int) := by omega
          have hall' : Hid (∀ j, j < q + 1 → ∃ c, s.data.toList[j]? = some c ∧ 97 ≤ c.toNat ∧ c.toNat ≤ 122) := Lib.hid (fun j hj => by
            rcases Nat.lt_succ_iff_lt_or_eq.1 hj with h1 | h1
            · exact hall.out j h1
            · subst h1
              exact ⟨c, hcl.out, h97, h122⟩)
          clear hall h97 h122
          go_wp2_with fail
          go_round
          case rel => exact ⟨q + 1, by go_num, by omega, hall'⟩
          case measure => simp [intOf]; omega
        · have e1 : ¬ (c.toNat : Int) < 97 := by omega
          have e2 : (122 : Int) < (c.toNat : Int) := by omega
          have hres := Lib.hid (nameL_no hcl.out (by omega))
          clear hall h97 h122
          go_wp2_with fail
          go_ret
          exact ⟨by rw [hres.out]; rfl, rfl⟩
      · have e1 : (c.toNat : Int) < 97 := by omega
        have hres := Lib.hid (nameL_no hcl.out (by omega))
        clear hall h97
        go_wp2_with fail
        go_ret
        exact ⟨by rw [hres.out]; rfl, rfl⟩
    · have hqs : q = s.data.toList.length := by rw [name_size]; omega
      have hres := Lib.hid (nameL_len (l := s.data.toList) (by rw [← hqs]; exact hall.out))
      rw [name_size] at hres
      clear hall hqs
      by_cases h1 : 1 ≤ s.size
      · have h1' : (1 : Int) ≤ (s.size : Int) := by omega
        by_cases h8 : s.size ≤ 8
        · have h8' : (s.size : Int) ≤ 8 := by omega
          rw [decide_eq_true h1, decide_eq_true h8] at hres
          clear h1 h8
          go_wp2_with fail
          go_ret
          exact ⟨by rw [hres.out]; rfl, rfl⟩
        · have h8' : ¬ (s.size : Int) ≤ 8 := by omega
          rw [decide_eq_true h1, decide_eq_false h8] at hres
          clear h1 h8
          go_wp2_with fail
          go_ret
          exact ⟨by rw [hres.out]; rfl, rfl⟩
      · have h1' : ¬ (1 : Int) ≤ (s.size : Int) := by omega
        rw [decide_eq_false h1] at hres
        clear h1
        go_wp2_with fail
        go_ret
        exact ⟨by rw [hres.out]; rfl, rfl⟩

theorem rightL_no {hs : List (List OpT)} {k : Nat} {o : OpT} (h : (allO hs)[k]? = some o) (hc : nameL o.2.1.data.toList = false) : rightL hs = false := by
  unfold rightL
  have : (allO hs).all (fun o => nameL o.2.1.data.toList) = false := by
    rw [List.all_eq_false]
    exact ⟨o, List.mem_of_getElem? h, by rw [hc]; simp⟩
  rw [this]; rfl
theorem rightL_len {hs : List (List OpT)} (h : ∀ j, j < (allO hs).length → ∃ o, (allO hs)[j]? = some o ∧ nameL o.2.1.data.toList = true) : rightL hs = decide ((allO hs).length ≤ 4096) := by
  unfold rightL
  have : (allO hs).all (fun o => nameL o.2.1.data.toList) = true := by
    rw [List.all_eq_true]
    intro o ho
    obtain ⟨j, hj⟩ := List.getElem?_of_mem ho
    obtain ⟨d, hd, h1⟩ := h j (List.getElem?_eq_some_iff.1 hj).1
    rw [hj] at hd; injection hd with hd; subst hd
    exact h1
  rw [this, Bool.true_and]
set_option maxRecDepth 100000 in
set_option maxHeartbeats 2000000 in
theorem ref6_Right (A : Option Addr) (n c : Nat) (hs : List (List OpT)) (w : World) (hH : HistAt w A n hs) (hn : n ≤ 9223372036854775807) (hF : (allO hs).length ≤ 4398046511104) :
    Calls Try.prog 42 #[.slice A n c] w fun e w' => e = .returned (.bool (rightL hs)) ∧ Below w.heap.size w w' := by
  have cF := Lib.hid (ref6_Flat A n c hs w hH hn hF)
  clear hH
  go_enter Try.func42, Try.ntmps42
  go_wp2_with fail
  refine cF.out.mono ?_; rintro e w1 ⟨A1, n1, c1, rfl, -, h1, -, hO, hmc, b⟩
  replace hO := Lib.hid hO
  replace h1 := Lib.hid h1
  replace hmc := Lib.hid hmc
  replace b := Lib.hid b
  have hF' : n1 ≤ 4398046511104 := by rw [h1.out]; exact hF
  clear hF
  go_wp2_with fail
  go_loop [4] (fun t => ∃ q : Nat, t = .int .i64 q ∧ q ≤ n1 ∧ Hid (∀ j, j < q → ∃ o, (allO hs)[j]? = some o ∧ nameL o.2.1.data.toList = true)) (fun t => n1 - (intOf t).toNat)
  case atStart => exact ⟨0, rfl, by omega, Lib.hid (fun j hj => absurd hj (by omega))⟩
  case round =>
    obtain ⟨q, rfl, hq, hall⟩ := hrel
    by_cases hlt : q < n1
    · obtain ⟨bb, off, o, rfl, hb, ho, hok, c0, c1', c2⟩ := hO.out.at_ hlt
      have hlt' : (q : Int) < (n1 : Int) := by omega
      have cN := Lib.hid (ref6_Name o.2.1 w1 hok.2)
      cases hnm : nameL o.2.1.data.toList with
      | true =>
        rw [hnm] at cN
        have hall' : Hid (∀ j, j < q + 1 → ∃ o, (allO hs)[j]? = some o ∧ nameL o.2.1.data.toList = true) := Lib.hid (fun j hj => by
          rcases Nat.lt_succ_iff_lt_or_eq.1 hj with h1 | h1
          · exact hall.out j h1
          · subst h1; exact ⟨o, ho, hnm⟩)
        replace ho := Lib.hid ho
        clear hall hlt hnm hok
        go_wp2_with fail
        refine cN.out.mono ?_; rintro e w' ⟨rfl, rfl⟩
        go_wp2_with fail
        go_round
        case rel => exact ⟨q + 1, by go_num, by omega, hall'⟩
        case measure => simp [intOf]; omega
      | false =>
        rw [hnm] at cN
        have hres := Lib.hid (rightL_no ho hnm)
        replace ho := Lib.hid ho
        clear hall hlt hnm hok
        go_wp2_with fail
        refine cN.out.mono ?_; rintro e w' ⟨rfl, rfl⟩
        go_wp2_with fail
        go_ret
        exact ⟨by rw [hres.out]; rfl, b.out⟩
    · have hqn : q = n1 := by omega
      have hres := Lib.hid (rightL_len (hs := hs) (by rw [← h1.out, ← hqn]; exact hall.out))
      rw [← h1.out] at hres
      have hlt' : ¬ (q : Int) < (n1 : Int) := by omega
      clear hall hqn hlt
      by_cases h8 : n1 ≤ 4096
      · have h8' : (n1 : Int) ≤ 4096 := by omega
        rw [decide_eq_true h8] at hres
        clear h8
        go_wp2_with fail
        go_ret
        exact ⟨by rw [hres.out]; rfl, b.out⟩
      · have h8' : ¬ (n1 : Int) ≤ 4096 := by omega
        rw [decide_eq_false h8] at hres
        clear h8
        go_wp2_with fail
        go_ret
        exact ⟨by rw [hres.out]; rfl, b.out⟩
theorem smallL_no1 {hs : List (List OpT)} {most : Int} (h : most < (hs.length : Int)) : smallL hs most = false := by
  unfold smallL; rw [decide_eq_false (by omega : ¬ (hs.length : Int) ≤ most)]; rfl
theorem smallL_no2 {hs : List (List OpT)} {most : Int} (h : most < ((allO hs).length : Int)) : smallL hs most = false := by
  unfold smallL; rw [decide_eq_false (by omega : ¬ ((allO hs).length : Int) ≤ most), Bool.and_false]; rfl
theorem smallL_no3 {hs : List (List OpT)} {most : Int} {k : Nat} {o : OpT} (h : (allO hs)[k]? = some o) (hc : ¬ o.2.1.size ≤ 20) : smallL hs most = false := by
  unfold smallL
  have : (allO hs).all (fun o => decide (o.2.1.size ≤ 20)) = false := by
    rw [List.all_eq_false]
    exact ⟨o, List.mem_of_getElem? h, by rw [decide_eq_false hc]; simp⟩
  rw [this, Bool.and_false]
theorem smallL_yes {hs : List (List OpT)} {most : Int} (h1 : (hs.length : Int) ≤ most) (h2 : ((allO hs).length : Int) ≤ most) (h : ∀ j, j < (allO hs).length → ∃ o, (allO hs)[j]? = some o ∧ o.2.1.size ≤ 20) : smallL hs most = true := by
  unfold smallL
  have : (allO hs).all (fun o => decide (o.2.1.size ≤ 20)) = true := by
    rw [List.all_eq_true]
    intro o ho
    obtain ⟨j, hj⟩ := List.getElem?_of_mem ho
    obtain ⟨d, hd, h1⟩ := h j (List.getElem?_eq_some_iff.1 hj).1
    rw [hj] at hd; injection hd with hd; subst hd
    exact decide_eq_true h1
  rw [this, decide_eq_true h1, decide_eq_true h2]; rfl
set_option maxRecDepth 100000 in
set_option maxHeartbeats 2000000 in
theorem ref6_Small (A : Option Addr) (n c : Nat) (most : Int) (hs : List (List OpT)) (w : World) (hH : HistAt w A n hs) (hn : n ≤ 9223372036854775807) (hF : (allO hs).length ≤ 4398046511104) :
    Calls Try.prog 6 #[.slice A n c, .int .i64 most] w fun e w' => e = .returned (.bool (smallL hs most)) ∧ Below w.heap.size w w' := by
  have hlen := hH.len
  by_cases h1 : (n : Int) ≤ most
  · have cC := Lib.hid (ref6_Count A n c hs w hH hn hF)
    obtain ⟨N, hN⟩ : ∃ N, N = (allO hs).length := ⟨_, rfl⟩
    rw [← hN] at cC
    by_cases h2 : (N : Int) ≤ most
    · have hyes := Lib.hid (fun h => smallL_yes (hs := hs) (most := most) (by rw [hlen]; exact h1) (by rw [← hN]; exact h2) h)
      replace hlen := Lib.hid hlen
      replace hH := Lib.hid hH
      replace hN := Lib.hid hN
      go_enter Try.func6, Try.ntmps6
      go_wp2_with fail
      refine cC.out.mono ?_; rintro e w1 ⟨rfl, b1⟩
      have cF := Lib.hid (ref6_Flat A n c hs w1 (hH.out.below b1) hn hF)
      replace b1 := Lib.hid b1
      replace hF := Lib.hid hF
      go_wp2_with fail
      refine cF.out.mono ?_; rintro e w2 ⟨A1, n1, c1, rfl, -, h1', -, hO, hmc, b⟩
      replace b := Lib.hid (below_trans2 b1.out b)
      replace hO := Lib.hid hO
      replace hmc := Lib.hid hmc
      have hF' : n1 ≤ 4398046511104 := by rw [h1']; exact hF.out
      rw [← h1'] at hyes
      replace h1' := Lib.hid h1'
      go_wp2_with fail
      go_loop [6] (fun t => ∃ q : Nat, t = .int .i64 q ∧ q ≤ n1 ∧ Hid (∀ j, j < q → ∃ o, (allO hs)[j]? = some o ∧ o.2.1.size ≤ 20)) (fun t => n1 - (intOf t).toNat)
      case atStart => exact ⟨0, rfl, by omega, Lib.hid (fun j hj => absurd hj (by omega))⟩
      case round =>
        obtain ⟨q, rfl, hq, hall⟩ := hrel
        by_cases hlt : q < n1
        · obtain ⟨bb, off, o, rfl, hb, ho, hok, c0, c1', c2⟩ := hO.out.at_ hlt
          have hlt' : (q : Int) < (n1 : Int) := by omega
          by_cases h20 : o.2.1.size ≤ 20
          · have hall' : Hid (∀ j, j < q + 1 → ∃ o, (allO hs)[j]? = some o ∧ o.2.1.size ≤ 20) := Lib.hid (fun j hj => by
              rcases Nat.lt_succ_iff_lt_or_eq.1 hj with h1 | h1
              · exact hall.out j h1
              · subst h1; exact ⟨o, ho, h20⟩)
            have h20' : (o.2.1.size : Int) ≤ 20 := by omega
            replace ho := Lib.hid ho
            replace hyes := Lib.hid hyes
            clear hall hlt hok h20
            go_wp2_with fail
            go_round
            case rel => exact ⟨q + 1, by go_num, by omega, hall'⟩
            case measure => simp [intOf]; omega
          · have hres := Lib.hid (smallL_no3 (most := most) ho h20)
            have h20' : (20 : Int) < (o.2.1.size : Int) := by omega
            replace ho := Lib.hid ho
            clear hall hlt hok h20
            go_wp2_with fail
            go_ret
            exact ⟨by rw [hres.out]; rfl, b.out⟩
        · have hqn : q = n1 := by omega
          have hres := Lib.hid (hyes.out (by rw [← hqn]; exact hall.out))
          have hlt' : ¬ (q : Int) < (n1 : Int) := by omega
          clear hall hqn hlt
          go_wp2_with fail
          go_ret
          exact ⟨by rw [hres.out]; rfl, b.out⟩
    · have hres := Lib.hid (smallL_no2 (hs := hs) (most := most) (by omega))
      have h2' : most < (N : Int) := by omega
      clear hH h2
      replace hN := Lib.hid hN
      replace hlen := Lib.hid hlen
      go_enter Try.func6, Try.ntmps6
      go_wp2_with fail
      refine cC.out.mono ?_; rintro e w1 ⟨rfl, b1⟩
      go_wp2_with fail
      go_ret
      exact ⟨by rw [hres.out]; rfl, b1⟩
  · have hres := Lib.hid (smallL_no1 (hs := hs) (most := most) (by omega))
    have h1' : most < (n : Int) := by omega
    clear hH h1
    replace hlen := Lib.hid hlen
    go_enter Try.func6, Try.ntmps6
    go_wp2_with fail
    go_ret
    exact ⟨by rw [hres.out]; rfl, Below.refl _ _⟩

end Go.Proofs.Ytmgockkjoogcaaa

namespace Go.Proofs.Ytmgockkjoogcaaa
open Go.RowKit

section
variable {P : Program} {ops : Array Oper} {md : Region.Mode} {Q : Exit → Act → World → Prop}

/-- Whatever order is picked from here on, till the first n operations are done; each leaves what was there. -/
def wpAnyR (P : Program) (md : Region.Mode) (ops : Array Oper) (Q : Exit → Act → World → Prop) (n : Nat) (F : Array Bool → Act → World → Prop) : Nat → Array Bool → Act → World → Prop
  | 0, listed, a, w => F listed a w
  | f + 1, listed, a, w => Region.ready md ops listed ≠ [] ∧ ∀ i ∈ Region.ready md ops listed, i < n ∧ wpOp P ops Q i (fun a' w' => Below w.heap.size w w' ∧ wpAnyR P md ops Q n F f (listed.setIfInBounds i true) a' w') a w

theorem wpAny_of_R {n g : Nat} {F : Array Bool → Act → World → Prop} (hF : ∀ listed a w, F listed a w → wpAny P md ops Q g listed a w) :
    ∀ (f : Nat) (listed : Array Bool) (a : Act) (w : World), wpAnyR P md ops Q n F f listed a w → wpAny P md ops Q (f + g) listed a w
  | 0, _, _, _, h => by rw [Nat.zero_add]; exact hF _ _ _ h
  | f + 1, listed, a, w, h => by
    rw [show f + 1 + g = (f + g) + 1 by omega]
    exact ⟨fun h0 => absurd h0 h.1, fun i hi => wpOp_mono (fun a' w' h' => wpAny_of_R hF f _ a' w' h'.2) (h.2 i hi).2⟩

theorem below_of {w w' w'' : World} (h : Below w.heap.size w w') (h' : Below w'.heap.size w' w'') : Below w.heap.size w w'' := h.trans (h'.mono h.size)
theorem yields_later {w w' : World} {o : Oper} {v : Value} {a : Act} (hb : Below w.heap.size w w') (h : YieldsIf P ops (fun x => Below w.heap.size w x) o v a) : YieldsIf P ops (fun x => Below w'.heap.size w' x) o v a :=
  h.imp (fun ⟨h1, h2⟩ => ⟨h1, fun x hx => h2 x (below_of hb hx)⟩) id

theorem wpAnyR_first {n i : Nat} {oi : Oper} {v : Value} {F : Array Bool → Act → World → Prop} (hi : ops[i]? = some oi) (hsel : ∀ (j : Nat) (o : Oper) cs b, ops[j]? = some o → o.op ≠ .select cs b)
    (hQ : ∀ c a w, Q (.panic c) (a.put oi.dst v) w → Q (.panic c) a w)
    (hlate : ∀ listed, HeadInv md ops n listed → listed.getD i true = false → ∀ t, n ≤ t → t ∉ Region.ready md ops listed) (hin : i < n)
    (hdone : ∀ listed a w, F listed a w → ∀ j ∈ Region.ready md ops listed, n ≤ j) :
    ∀ (f : Nat) (listed : Array Bool) (a : Act) (w : World), HeadInv md ops n listed →
      (∀ j oj, ops[j]? = some oj → j ≠ i → listed.getD j true = false → (∀ e ∈ oj.after, Region.binds md e = true → e.on ≠ i) → oi.apart ops oj = true) →
      i ∈ Region.ready md ops listed → YieldsIf P ops (fun x => Below w.heap.size w x) oi v a →
      wpAnyR P md ops Q n F f (listed.setIfInBounds i true) (a.put oi.dst v) w → wpAnyR P md ops Q n F (f + 1) listed a w := by
  intro f
  induction f with
  | zero =>
    intro listed a w inv _ hr hy H
    have hun := (mem_ready.1 hr).1
    refine ⟨fun h => (by rw [h] at hr; cases hr), fun j hj => ?_⟩
    have hjn : j < n := by
      rcases Nat.lt_or_ge j n with h | h
      · exact h
      · exact absurd hj (hlate listed inv hun j h)
    refine ⟨hjn, ?_⟩
    by_cases hji : j = i
    · subst hji; exact hy.wpOp hi (Below.refl _ _) ⟨Below.refl _ _, H⟩
    · have := hdone _ _ _ H j (ready_mono hj hji)
      omega
  | succ f ih =>
    intro listed a w inv hfree hr hy H
    have hun := (mem_ready.1 hr).1
    refine ⟨fun h => (by rw [h] at hr; cases hr), fun j hj => ?_⟩
    have hjn : j < n := by
      rcases Nat.lt_or_ge j n with h | h
      · exact h
      · exact absurd hj (hlate listed inv hun j h)
    refine ⟨hjn, ?_⟩
    by_cases hji : j = i
    · subst hji; exact hy.wpOp hi (Below.refl _ _) ⟨Below.refl _ _, H⟩
    · have h1 := (H.2 j (ready_mono hj hji)).2
      obtain ⟨hjun, oj, hoj, hall⟩ := mem_ready.1 hj
      have hnot : ∀ e ∈ oj.after, Region.binds md e = true → e.on ≠ i := fun e he hb heq => by
        have h1 := hall e he hb
        rw [heq, getD_both hun] at h1
        cases h1
      have h2 := wpOp_putIf hoj (hfree j oj hoj hji hjun hnot) (fun cs b => hsel i oi cs b hi) (fun cs b => hsel j oj cs b hoj) hQ hy h1
      have hfree' : ∀ k ok, ops[k]? = some ok → k ≠ i → (listed.setIfInBounds j true).getD k true = false →
          (∀ e ∈ ok.after, Region.binds md e = true → e.on ≠ i) → oi.apart ops ok = true := fun k ok hk hki hun hno => by
        refine hfree k ok hk hki ?_ hno
        by_cases hjk : j = k
        · subst hjk; exact hjun
        · rw [getD_set_ne true hjk] at hun; exact hun
      refine wpOp_mono (fun a' w' h3 => ⟨h3.2.1, ih (listed.setIfInBounds j true) a' w' (inv.set hj hjn) hfree' (ready_mono hr (Ne.symm hji)) (yields_later h3.2.1 h3.1) ?_⟩) h2
      rw [Array.setIfInBounds_comm _ _ hji]
      exact h3.2.2

/-- the plan's check: b: it may come up, and no other that may come up looks at its slot; not b: it alone may come up -/
def planB (md : Region.Mode) (ops : Array Oper) (n : Nat) : List (Bool × Nat) → Array Bool → Bool
  | [], listed => Region.seqB md ops (ops.size - n) n listed
  | (b, i) :: rest, listed => decide (i < n) && (if b then (Region.ready md ops listed).contains i && Region.free md ops listed i else decide (Region.ready md ops listed = [i])) && planB md ops n rest (listed.setIfInBounds i true)
def planAll (md : Region.Mode) (ops : Array Oper) (n : Nat) (pl : List (Bool × Nat)) : Bool :=
  Region.noSelect ops && decide (pl.length = n) && decide (n ≤ ops.size) && (decide (n = ops.size) || (Region.sinkB md ops n && Region.chainB md ops n)) && planB md ops n pl (Array.replicate ops.size false)

/-- the walk of the plan -/
def wpPlan (P : Program) (ops : Array Oper) (Q : Exit → Act → World → Prop) (tail : List Oper) : List (Bool × Nat) → Act → World → Prop
  | [], a, w => wpList P ops Q tail a w
  | (true, i) :: rest, a, w => ∃ o v, ops[i]? = some o ∧ YieldsIf P ops (fun x => Below w.heap.size w x) o v a ∧ wpPlan P ops Q tail rest (a.put o.dst v) w
  | (false, i) :: rest, a, w => wpOp P ops Q i (fun a' w' => Below w.heap.size w w' ∧ wpPlan P ops Q tail rest a' w') a w

theorem wpAnyR_plan {n : Nat} {tail : List Oper} (hsel : Region.noSelect ops = true) (hQ : ∀ c a d v w, Q (.panic c) (a.put d v) w → Q (.panic c) a w)
    (hlate : ∀ listed, HeadInv md ops n listed → ∀ i, i < n → listed.getD i true = false → ∀ t, n ≤ t → t ∉ Region.ready md ops listed) :
    ∀ (pl : List (Bool × Nat)) (listed : Array Bool) (a : Act) (w : World), HeadInv md ops n listed → planB md ops n pl listed = true → wpPlan P ops Q tail pl a w →
    wpAnyR P md ops Q n (fun listed' a' w' => Region.seqB md ops (ops.size - n) n listed' = true ∧ wpList P ops Q tail a' w') pl.length listed a w
  | [], listed, a, w, _, hB, h => ⟨hB, h⟩
  | (true, i) :: rest, listed, a, w, inv, hB, h => by
    simp only [planB, if_true, Bool.and_eq_true, decide_eq_true_eq] at hB
    obtain ⟨⟨hin, hr, hf⟩, hB'⟩ := hB
    obtain ⟨o, v, ho, hy, h'⟩ := h
    have hr' : i ∈ Region.ready md ops listed := by simpa using hr
    exact wpAnyR_first ho (Region.noSelect_spec hsel) (fun c a w => hQ c a o.dst v w) (fun l hl hu => hlate l hl i hin hu) hin (fun listed' a' w' hL => seqB_ready hL.1) rest.length listed a w inv (Region.free_spec ho hf) hr' hy
      (wpAnyR_plan hsel hQ hlate rest _ _ _ (inv.set hr' hin) hB' h')
  | (false, i) :: rest, listed, a, w, inv, hB, h => by
    simp only [planB, Bool.false_eq_true, if_false, Bool.and_eq_true, decide_eq_true_eq] at hB
    obtain ⟨⟨hin, hr⟩, hB'⟩ := hB
    have hr' : i ∈ Region.ready md ops listed := by rw [hr]; simp
    refine ⟨by rw [hr]; simp, fun j hj => ?_⟩
    rw [hr] at hj
    have hji : j = i := by simpa using hj
    subst hji
    exact ⟨hin, wpOp_mono (fun a' w' h3 => ⟨h3.1, wpAnyR_plan hsel hQ hlate rest _ a' w' (inv.set hr' hin) hB' h3.2⟩) h⟩

theorem wpAny_plan {a : Act} {w : World} {l : List Oper} (n : Nat) (pl : List (Bool × Nat)) (hB : planAll .any l.toArray n pl = true)
    (h : ∀ W : World, Hid (W = w.drew) → wpPlan P l.toArray (NoPanic Q) (l.drop n) pl a W) : wpAny P .any l.toArray (NoPanic Q) l.toArray.size (Array.replicate l.toArray.size false) a { w with drawn := w.drawn + 1 } := by
  have hQ : ∀ c a d v w, NoPanic Q (.panic c) (a.put d v) w → NoPanic Q (.panic c) a w := fun _ _ _ _ _ h => h
  simp only [planAll, Bool.and_eq_true, decide_eq_true_eq] at hB
  obtain ⟨⟨⟨⟨hsel, hlen⟩, hn⟩, hsc⟩, hpl⟩ := hB
  have hn' : n ≤ l.length := by simpa using hn
  have hdl : (l.drop n).length = l.toArray.size - n := by simp
  have inv0 : HeadInv .any l.toArray n (Array.replicate l.toArray.size false) :=
    ⟨by simp, fun j oj _ hl => (by rw [getD_replicate_false] at hl; cases hl), fun t _ ht => getD_in (by simpa using ht) (getD_replicate_false _ _)⟩
  have hlate : ∀ listed, HeadInv .any l.toArray n listed → ∀ i, i < n → listed.getD i true = false → ∀ t, n ≤ t → t ∉ Region.ready .any l.toArray listed := by
    intro listed inv i hin hun t ht hr
    rw [Bool.or_eq_true, decide_eq_true_eq, Bool.and_eq_true] at hsc
    obtain ⟨_, ot, hot, _⟩ := mem_ready.1 hr
    have htl := (Array.getElem?_eq_some_iff.1 hot).1
    rcases hsc with h0 | ⟨hs, hc⟩
    · omega
    · exact tail_waits hs hc (by omega) inv _ i rfl hin hun t ht hr
  have H := wpAnyR_plan (md := .any) hsel hQ hlate pl _ a w.drew inv0 hpl (h w.drew (Lib.hid rfl))
  have := wpAny_of_R (Q := NoPanic Q) (g := l.toArray.size - n) (fun listed a' w' hL => by
    have := wpAny_of_seq (md := .any) (Q' := NoPanic Q) (l.drop n) n listed a' w' (fun j => by simp [List.getElem?_drop]) (by rw [hdl]; exact hL.1) hL.2
    rwa [hdl] at this) _ _ _ _ H
  rw [hlen, show n + (l.toArray.size - n) = l.toArray.size by omega] at this
  exact this
theorem wp_region_plan {id : Nat} {a : Act} {w : World} {l : List Oper} (n : Nat) (pl : List (Bool × Nat)) (hm : P.follows .mixedOrders = true) (hB : planAll .any l.toArray n pl = true)
    (h : ∀ W : World, Hid (W = w.drew) → wpPlan P l.toArray (NoPanic Q) (l.drop n) pl a W) : (Code.region id l.toArray true).wp P Q a w :=
  wp_region_noPanic (wp_region_any hm (wpAny_plan n pl hB h))

/-! ### the steps -/
section
variable {tail : List Oper} {rest : List (Bool × Nat)} {a : Act} {w : World} {i : Nat} {o : Oper}
/-- what only reads: its value, in every world whose cells are those of w, where w has any -/
theorem wpPlan_float {v : Value} (hi : ops[i]? = some o) (hw : Region.wanted o (yielded ops a.tmps) = true)
    (hy : ∀ w' : World, (∀ p, (w.cell? p).isSome = true → w'.cell? p = w.cell? p) → (execOp a.eval o).run P w' = .ok (.value v) w') (h : ∀ K : Act → Prop, (∀ a', wpPlan P ops Q tail rest a' w → K a') → K (a.put o.dst v)) : wpPlan P ops Q tail ((true, i) :: rest) a w :=
  ⟨o, v, hi, .inl ⟨hw, fun w' hb => hy w' (fun p hp => by
    have hlt : p.block < w.heap.size := by
      cases hc : w.cell? p with
      | none => rw [hc] at hp; cases hp
      | some u => exact block_lt_of_cell hc
    exact hb.cell hlt)⟩, h _ (fun _ h => h)⟩
theorem wpPlan_skip (hi : ops[i]? = some o) (hw : Region.wanted o (yielded ops a.tmps) = false) (h : ∀ K : Act → Prop, (∀ a', wpPlan P ops Q tail rest a' w → K a') → K (a.put o.dst undef)) : wpPlan P ops Q tail ((true, i) :: rest) a w :=
  ⟨o, undef, hi, .inr ⟨hw, rfl⟩, h _ (fun _ h => h)⟩
theorem wpPlan_skip' (hi : ops[i]? = some o) (hw : Region.wanted o (yielded ops a.tmps) = false) (h : ∀ K : Act → Prop, (∀ a', wpPlan P ops Q tail rest a' w → K a') → K (a.put o.dst undef)) : wpPlan P ops Q tail ((false, i) :: rest) a w := by
  show wpOp P ops Q i _ a w
  unfold wpOp
  simp only [hi, hw, Bool.false_eq_true, if_false]
  exact ⟨Below.refl _ _, h _ (fun _ h => h)⟩
/-- what comes up alone: a call -/
theorem wpPlan_only (hi : ops[i]? = some o) (hw : Region.wanted o (yielded ops a.tmps) = true)
    (h : ∀ K : Act → World → Prop, (∀ a' w', Below w.heap.size w w' → wpPlan P ops Q tail rest a' w' → K a' w') → o.wp P a w K Q) : wpPlan P ops Q tail ((false, i) :: rest) a w := by
  show wpOp P ops Q i _ a w
  unfold wpOp
  simp only [hi, hw, if_true]
  exact .inl (h _ (fun a' w' hb hp => ⟨hb, hp⟩))
theorem wpPlan_nil (h : wpList P ops Q tail a w) : wpPlan P ops Q tail [] a w := h
end
end
end Go.Proofs.Ytmgockkjoogcaaa

namespace Go.Proofs.Ytmgockkjoogcaaa
open Go.RowKit
set_option linter.unusedVariables false

/-- a variable of two numbers -/
def TwoI (w : World) (g : Nat) (t : TypeId) (x y : Int) : Prop := Blk w g t [.int .i64 x, .int .i64 y]
section
variable {w w' : World} {g : Nat} {t : TypeId} {x y : Int}
theorem TwoI.c0 (h : TwoI w g t x y) : w.cell? ⟨g, 0, none⟩ = some (.int .i64 x) := Blk.cell h 0
theorem TwoI.c1 (h : TwoI w g t x y) : w.cell? ⟨g, 1, none⟩ = some (.int .i64 y) := Blk.cell h 1
theorem TwoI.new (w : World) (t : TypeId) (x y : Int) : TwoI (w.alloc (.cells #[.int .i64 x, .int .i64 y] t)) w.heap.size t x y := Blk.new w t _
theorem TwoI.put (h : TwoI w g t x y) (x' y' : Int) : TwoI ((w.setCell ⟨g, 0, none⟩ (.int .i64 x')).setCell ⟨g, 1, none⟩ (.int .i64 y')) g t x' y' :=
  Blk.set_ (Blk.set_ h 0 (.int .i64 x')) 1 (.int .i64 y')
theorem TwoI.below (h : TwoI w g t x y) (hb : Below w.heap.size w w') : TwoI w' g t x y := Blk.below h hb h.lt
end

def spotS : Option (Nat × Nat) → Int | none => 0 | some x => x.1
def spotP : Option (Nat × Nat) → Int | none => 0 | some x => x.2
def spotB : Option (Nat × Nat) → Bool | none => false | some _ => true
def RetSpot (o : Option (Nat × Nat)) (w : World) (e : Ending) (w' : World) : Prop := e = .returned (.tuple #[.agg #[.int .i64 (spotS o), .int .i64 (spotP o)], .bool (spotB o)]) ∧ Below w.heap.size w w'
def numV : Option Nat → Int | none => 0 | some x => x
def numB : Option Nat → Bool | none => false | some _ => true
def RetNum (o : Option Nat) (w : World) (e : Ending) (w' : World) : Prop := e = .returned (.tuple #[.int .i64 (numV o), .bool (numB o)]) ∧ Below w.heap.size w w'


theorem toList_inj {a b : ByteArray} (h : a.toList = b.toList) : a = b := by
  rw [ByteArray.toList_eq, ByteArray.toList_eq] at h
  obtain ⟨⟨x⟩⟩ := a
  obtain ⟨⟨y⟩⟩ := b
  have h' : x = y := h
  rw [h']
theorem sameH_no_len {a b : List (List OpT)} (h : a.length ≠ b.length) : decide (a = b) = false := decide_eq_false (fun e => h (by rw [e]))
theorem sameH_no_sess {a b : List (List OpT)} {i : Nat} {s t : List OpT} (ha : a[i]? = some s) (hb : b[i]? = some t) (h : s.length ≠ t.length) : decide (a = b) = false :=
  decide_eq_false (fun e => by subst e; rw [ha] at hb; injection hb with hb; exact h (by rw [hb]))
theorem sameH_no_op {a b : List (List OpT)} {i k : Nat} {s t : List OpT} {x y : OpT} (ha : a[i]? = some s) (hb : b[i]? = some t) (hx : s[k]? = some x) (hy : t[k]? = some y) (h : x ≠ y) : decide (a = b) = false :=
  decide_eq_false (fun e => by subst e; rw [ha] at hb; injection hb with hb; subst hb; rw [hx] at hy; injection hy with hy; exact h hy)
theorem sess_eq {s t : List OpT} (hl : s.length = t.length) (h : ∀ k, k < s.length → s[k]? = t[k]?) : s = t :=
  List.ext_getElem? (fun k => by
    by_cases hk : k < s.length
    · exact h k hk
    · rw [List.getElem?_eq_none (by omega), List.getElem?_eq_none (by omega)])
theorem sameH_yes {a b : List (List OpT)} (hl : a.length = b.length) (h : ∀ i, i < a.length → a[i]? = b[i]?) : decide (a = b) = true :=
  decide_eq_true (List.ext_getElem? (fun k => by
    by_cases hk : k < a.length
    · exact h k hk
    · rw [List.getElem?_eq_none (by omega), List.getElem?_eq_none (by omega)]))

end Go.Proofs.Ytmgockkjoogcaaa
