/- Contracts of package row: clone, Set. Contracts of package row: Or, Sub, Same, Count. Contracts of package row: List. Contracts of the document's own answers for rows (package eyewitnessref02). Contracts of the document's own answers for rows: Sub, Set, Or. Contracts of the document's own answers for rows: Set. Plain facts of rows: what the statements of layer 2 say of them. Plain mathematics of square matrices of bits. Nothing of the program is imported. Plain mathematics of layer 12: what stands ahead within a session. Nothing of the program is named. Words for memory: slices of rows (matrices), pairs. No function of the program is named here. Contracts of package mat: below, fits, Has; and of the document's own answers: in, Has, Small. Contracts of package mat: Set (with slices.Clone of rows). Contracts of package mat: Set (refused). Contracts of package mat: New. Contracts of package mat: New (refused), put. Contracts of package mat: Of. Words for memory: rows that lie apart from a span of blocks; mathematics of 'or'. A region that draws its order: walked in an order of one's own ('plan'): what only reads (copies, addresses, arithmetic, loads) is taken as soon as it may come up; a call comes up alone; behind the plan a tail, one operation behind the other. What a call makes of memory may be anything that leaves the blocks that were there as they were ('Below'). No function of the program is named here. Contracts of package mat: join, Or. Contracts of package mat: fits, Right. Contracts of package mat: Sub, Same (by slices.EqualFunc). Contracts of package mat: Pairs. Plain facts of matrices that may be: a pair that is set. Plain mathematics of a block of 64 words whose bits are turned about, size by size. Nothing of the program is imported. Contracts of package mat: flip. A whole array of words, loaded and stored: at a plain region's list. No function of the program is named here. Contracts of package mat: take, lay, Turn. Contracts of package mat: lay. Contracts of package mat: Turn. Plain facts of matrices that may be: made of pairs, turned about. -/
import Derived.Test.YtkaohfgpibbkiaaPastDeepPk1
import Derived.Deep.RegionWith
import Derived.Deep.RegionHeld3
import Derived.BigRegion
import Derived.Deep.DrawnRows
import Derived.Laws.AppendOwnNone
import Derived.OpenShut
import Derived.OrdersHeld
import Derived.StillTail
import Derived.Below
import Derived.WalkKit
import Derived.Lib.Hide
import Derived.Deep.MidRow
namespace Go.Proofs.Ytkaohfgpibbkiaa
open Go.RowKit
set_option linter.unusedVariables false

theorem splice_all (cur cs : List Value) (h : cs.length = cur.length) : splice cur 0 cs = cs := by
  unfold splice; simp [h]
theorem own_of_heap {w : World} {base g n : Nat} {t : TypeId} {cs : List Value} (hb : base ≤ g) (hn : cs.length = n) (hm : n ≤ maxLen) (h : w.heap[g]? = some (.cells cs.toArray t (0, 0))) :
    w.ownsRow base t 1 (.slice (some ⟨g, 0, none⟩) n n) n cs :=
  ⟨by simpa using hn, .inr ⟨g, n, cs.toArray, rfl, hb, h, Nat.le_refl _, hm, by simpa using hn, by rw [List.take_of_length_le (by simp; omega)]⟩⟩

/-- what a call that answers a new row of its own ends in -/
def RetOwn (n : Nat) (xs : List Nat) (w : World) (e : Ending) (w' : World) : Prop :=
  ∃ g, e = .returned (.slice (some ⟨g, 0, none⟩) n n) ∧ w'.ownsRow w.heap.size 94 1 (.slice (some ⟨g, 0, none⟩) n n) n (xs.map u64v) ∧ Below w.heap.size w w'

set_option maxHeartbeats 400000 in
theorem row_clone (A : Option Addr) (n c : Nat) (xs : List Nat) (w : World) (hr : Row w A n xs) (hn : n ≤ 17592186044416) :
    Calls Try.prog 70 #[.slice A n c] w (RetOwn n xs w) := by
  have hl := Lib.hid hr.len
  have hmk := mk_u64 .i64 .i64 n n (Nat.le_refl _) (by omega)
  obtain ⟨i0, hi, hz0, hz1, hz2⟩ := info_parts info_u64
  have hsz : (Try.prog.info? 94).map (·.size) = some 1 := by rw [hi]; simp [hz1]
  replace hsz := Lib.hid hsz
  replace hi := Lib.hid hi
  replace hz0 := Lib.hid hz0
  replace hz1 := Lib.hid hz1
  replace hz2 := Lib.hid hz2
  have hsrc : 0 < (xs.map u64v).length → some (⟨w.heap.size, 0, none⟩ : Addr) = some ⟨w.heap.size, 0, none⟩ ∧ ∃ ad, A = some ad ∧ ∀ j v, (xs.map u64v)[j]? = some v → (w.alloc (.cells (zeros n (.int .u64 0)) 94)).cell? (ad.add j) = some v := by
    intro hp
    obtain ⟨b, off, e, hb, hc⟩ := hr.1.2 (by have := hr.len; simp at hp; omega)
    refine ⟨rfl, _, e, fun j v hv => ?_⟩
    have h := hc j v hv
    have he : (⟨b, off, none⟩ : Addr).add j = ⟨b, off + j, none⟩ := by unfold Addr.add; split <;> simp_all
    rw [he, World.cell?_alloc_lt w _ _ hb]; exact h
  replace hsrc := Lib.hid hsrc
  clear hr
  go_enter Try.func70, Try.ntmps70
  go_wp2_with (with_reducible refine wpList_copy_splice rfl _ _ _ _ rfl 94 Try.underlying70 hsz.out (some ⟨w.heap.size, 0, none⟩) A n n n c rfl rfl w.heap.size 0 (List.replicate n (.int .u64 0)) 94 (heap_alloc_new _ _) (xs.map u64v) (by simp [hl.out]) hsrc.out (by simp [hl.out]) (by simp [u64v, Value.oneCell']) w.heap.size w ((Below.refl _ _).alloc (Nat.le_refl _) _) (Nat.le_refl _) ?_; intro w1 hg1 hb1)
  go_ret
  refine ⟨_, rfl, own_of_heap (Nat.le_refl _) (by simp [hl.out]) (by unfold maxLen; omega) ?_, hb1⟩
  rw [hg1.out, splice_all _ _ (by simp [hl.out])]

theorem word_BitN (r : Nat) (hr : r < 64) (w : World) : Calls Try.prog 67 #[.int .i64 (r : Int)] w fun e w' => e = .returned (.int .u64 (p2 r : Nat)) ∧ w = w' := by
  have h := word_Bit (r : Int) (by omega) (by omega) w
  rwa [bitZ_p2 (r : Int) (by omega) (by omega), Int.toNat_natCast] at h
theorem setR_in {xs : List Nat} {m x : Nat} (hm : m < 64 * xs.length) (hx : xs[m / 64]? = some x) : setR xs (m : Int) = xs.set (m / 64) (x ||| p2 (m % 64)) := by
  unfold setR p2
  rw [Int.toNat_natCast, if_pos (inR_in _ _ hm), Row.get hx]
theorem setR_out {xs : List Nat} {i : Int} (h : i < 0 ∨ 64 * (xs.length : Int) ≤ i) : setR xs i = xs := by
  unfold setR; rw [inR_out _ _ h]; rfl
theorem or_p2_lt {x r : Nat} (hx : x < 18446744073709551616) (hr : r < 64) : x ||| p2 r < 18446744073709551616 := by
  have := p2_lt r hr
  exact Nat.or_lt_two_pow (n := 64) hx (by omega)
theorem mem_set_lt {xs : List Nat} {k y B : Nat} (h : ∀ x ∈ xs, x < B) (hy : y < B) : ∀ x ∈ xs.set k y, x < B := fun x hx => by
  rcases List.mem_or_eq_of_mem_set hx with h1 | h1
  · exact h x h1
  · rw [h1]; exact hy

set_option maxHeartbeats 400000 in
theorem row_SetO (A : Option Addr) (n c : Nat) (xs : List Nat) (i : Int) (w : World) (hr : Row w A n xs) (hn : n ≤ 17592186044416) (h1 : -9223372036854775808 ≤ i) (h2 : i < 9223372036854775808) :
    Calls Try.prog 49 #[.slice A n c, .int .i64 i] w (RetRowO 94 (setR xs i) w) := by
  have hcl := Lib.hid (row_clone A n c xs w hr hn)
  have hlt := Lib.hid hr.2
  have hl := hr.len
  by_cases h : 0 ≤ i ∧ i < 64 * (n : Int)
  · obtain ⟨m, rfl⟩ := Int.eq_ofNat_of_zero_le h.1
    have hm : m < 64 * n := by omega
    have hI := Lib.hid (inR_in n m hm)
    obtain ⟨x, hx⟩ : ∃ x, xs[m / 64]? = some x := ⟨_, List.getElem?_eq_getElem (by omega)⟩
    have hx64 : x < 18446744073709551616 := hlt.out x (List.mem_of_getElem? hx)
    have hS := setR_in (m := m) (by omega) hx
    obtain ⟨r, hre⟩ : ∃ r, r = m % 64 := ⟨_, rfl⟩
    have hr64 : r < 64 := by omega
    have hA := i64_and_63 m (by omega)
    rw [← hre] at hS hA
    have hE := u64_or_nat x (p2 r) hx64 (by have := p2_lt r hr64; omega)
    have hO := or_p2_lt hx64 hr64
    replace hO := Lib.hid hO
    replace hE := Lib.hid hE
    replace hS := Lib.hid hS
    replace hA := Lib.hid hA
    replace hx := Lib.hid hx
    have hl' := Lib.hid hl
    clear h hl hr hre
    go_enter Try.func49, Try.ntmps49
    go_wp2_with fail
    refine hcl.out.mono ?_; rintro e w1 ⟨g, rfl, hown, hb⟩
    have hc : w1.cell? ⟨g, m / 64, none⟩ = some (.int .u64 (x : Int)) := by
      rw [hown.cellAt _ (by omega), List.getElem?_map, hx.out]; rfl
    have hf := hown.frozenAt (m / 64)
    have hg := (hown.lt g rfl).1
    go_wp2_with fail
    refine (row_within _ n _ m (by omega) (by omega) (by omega) _).mono ?_; rintro e w' ⟨rfl, rfl⟩
    rw [hI.out]
    go_wp2_with fail
    have hA1 : (0 : Int) ≤ (m : Int) / 64 := by omega
    have hA2 : (m : Int) / 64 < (n : Int) := by omega
    have hA3 : ((m : Int) / 64).toNat = m / 64 := by omega
    refine still_tail 10 (by kernel_rfl) (by kernel_rfl) (fun W hW => ?_)
    have hc' : W.cell? ⟨g, m / 64, none⟩ = some (.int .u64 (x : Int)) := by rw [hW.out]; exact hc
    have hf' : W.frozen? ⟨g, m / 64, none⟩ = false := by rw [hW.out]; exact hf
    have hown' : W.ownsRow w.heap.size 94 1 (.slice (some ⟨g, 0, none⟩) n n) n (xs.map u64v) := by rw [hW.out]; exact hown.drew
    have hb' : Below w.heap.size w W := by rw [hW.out]; exact hb.drew
    clear hc hf hb hown
    simp only [List.take_succ_cons, List.take_zero, List.drop_succ_cons, List.drop_zero]
    repeat
      refine @wpStill_step _ _ _ _ _ _ _ ?_
      intro K hK
      go_simp
      refine hK _ ?_
      clear hK K
    refine wpStill_step (fun K hK => ?_)
    go_simp
    rw [hA.out]
    refine ⟨_, still_call (word_BitN _ hr64 _), hK _ ?_⟩
    clear hK K
    repeat
      refine @wpStill_step _ _ _ _ _ _ _ ?_
      intro K hK
      go_simp
      refine hK _ ?_
      clear hK K
    refine wpStill_nil ?_
    go_wp2
    go_ret
    rw [hE.out, hS.out]
    refine own_ret (c := n) ?_ (mem_set_lt hlt.out hO.out) (hb'.setCell hg _)
    rw [List.map_set]
    exact (hown'.stored _ _).1
  · have hI := Lib.hid (inR_out n i (by omega))
    have hS := Lib.hid (setR_out (xs := xs) (i := i) (by omega))
    clear h hl hr
    go_enter Try.func49, Try.ntmps49
    go_wp2_with fail
    refine hcl.out.mono ?_; rintro e w1 ⟨g, rfl, hown, hb⟩
    go_wp2_with fail
    refine (row_within _ n _ i (by omega) (by omega) (by omega) _).mono ?_; rintro e w' ⟨rfl, rfl⟩
    rw [hI.out]
    go_wp2
    go_ret
    rw [hS.out]
    exact own_ret hown hlt.out (hb)
theorem row_Set (A : Option Addr) (n c : Nat) (xs : List Nat) (i : Int) (w : World) (hr : Row w A n xs) (hn : n ≤ 17592186044416) (h1 : -9223372036854775808 ≤ i) (h2 : i < 9223372036854775808) :
    Calls Try.prog 49 #[.slice A n c, .int .i64 i] w (RetRow (setR xs i) w) := (row_SetO A n c xs i w hr hn h1 h2).mono fun _ _ h => h.row

end Go.Proofs.Ytkaohfgpibbkiaa

namespace Go.Proofs.Ytkaohfgpibbkiaa
open Go.RowKit
set_option linter.unusedVariables false

set_option maxHeartbeats 400000 in
theorem row_Count (A : Option Addr) (n c : Nat) (xs : List Nat) (w : World) (hr : Row w A n xs) (hn : n ≤ 17592186044416) :
    Calls Try.prog 65 #[.slice A n c] w fun e w' => e = .returned (.int .i64 (countR xs : Nat)) ∧ w = w' := by
  have hl := Lib.hid hr.len
  replace hr := Lib.hid hr
  go_enter Try.func65, Try.ntmps65
  go_wp2
  go_loop [3, 8] (fun s i => ∃ k : Nat, k ≤ n ∧ i = .int .i64 k ∧ s = .int .i64 (countR (xs.take k) : Nat)) (fun _ i => n - (intOf i).toNat)
  case atStart => exact ⟨0, Nat.zero_le _, rfl, rfl⟩
  case round =>
    obtain ⟨k, hk, rfl, rfl⟩ := hrel
    by_cases hlt : k < n
    · obtain ⟨b, off, x, rfl, hbk, hx, hx64, hc⟩ := hr.out.at_ hlt
      have hst := Lib.hid (countR_take xs k x hx)
      have hle : countR (xs.take k) ≤ 64 * k := Nat.le_trans (countR_le _) (by rw [List.length_take]; omega)
      have hp := pop_le x
      clear hx
      go_wp2_with fail
      refine (word_Count x hx64 _).mono ?_; rintro e w' ⟨rfl, rfl⟩
      go_wp2
      go_round
      case rel => exact ⟨k + 1, by omega, by go_num, by rw [hst.out]; go_num⟩
      case measure => simp [intOf]; omega
    · have he : xs.take k = xs := List.take_of_length_le (by rw [hl.out]; omega)
      rw [he]
      clear he
      go_wp2
      go_ret
      exact ⟨rfl, rfl⟩

end Go.Proofs.Ytkaohfgpibbkiaa

namespace Go.Proofs.Ytkaohfgpibbkiaa
open Go.RowKit
set_option linter.unusedVariables false

/-- the numbers without a sign, as cells -/
def natv (i : Nat) : Value := .int .i64 (i : Int)
theorem natv_ints (l : List Nat) : l.map natv = (l.map Int.ofNat).map i64v := by
  rw [List.map_map]; rfl
theorem own_ints {w : World} {base n : Nat} {e : TypeId} {v : Value} {zs : List Nat} (h : w.ownsRow base e 1 v n (zs.map natv)) (hx : ∀ x ∈ zs, x < 9223372036854775808) : ∃ A c, v = .slice A n c ∧ Ints w A n (zs.map Int.ofNat) := by
  obtain ⟨A, c, hv, hr⟩ := Rd.of_own h
  refine ⟨A, c, hv, by rw [← natv_ints]; exact hr, fun x hx' => ?_⟩
  obtain ⟨i, hi, rfl⟩ := List.mem_map.1 hx'
  have := hx i hi
  show -9223372036854775808 ≤ (i : Int) ∧ (i : Int) < 9223372036854775808
  omega
theorem off_eq (x i : Nat) (hx : x < 18446744073709551616) (hi : i < 64) : bits BinOp.andNot IntKind.u64 (x : Int) (p2 i : Nat) = (offN x i : Nat) := by
  have := p2_lt i hi
  exact u64_andNot_nat x (p2 i) hx (by omega)

set_option maxHeartbeats 1000000 in
theorem row_ListO (A : Option Addr) (n c : Nat) (xs : List Nat) (w : World) (hr : Row w A n xs) (hn : n ≤ 1073741824) :
    Calls Try.prog 47 #[.slice A n c] w (RetIntsO 3 (listR xs) w) := by
  have hcn := Lib.hid (row_Count A n c xs w hr (by omega))
  have hl := Lib.hid hr.len
  have hcle : countR xs ≤ 64 * n := by have := countR_le xs; rw [hr.len] at this; exact this
  have hmk := mk_int .i64 .i64 0 (countR xs) (by omega) (by omega)
  rw [show ((0 : Nat) : Int) = 0 from rfl] at hmk
  obtain ⟨i0, hi, hz0, hz1, hz2⟩ := info_parts info_int
  replace hi := Lib.hid hi
  replace hz0 := Lib.hid hz0
  replace hz1 := Lib.hid hz1
  replace hz2 := Lib.hid hz2
  replace hr := Lib.hid hr
  go_enter Try.func47, Try.ntmps47
  go_wp2_with fail
  refine hcn.out.mono ?_; rintro e w' ⟨rfl, rfl⟩
  have hown0 := World.ownsRow_made (base := w.heap.size) (e := 3) (size := 1) w (zeros (countR xs) (.int .i64 0)) (countR xs) (Nat.le_refl _) (by unfold maxLen; omega) (by simp [zeros])
  have hb0 : Below w.heap.size w (w.alloc (.cells (zeros (countR xs) (.int .i64 0)) 3)) := (Below.refl _ _).alloc (Nat.le_refl _) _
  go_wp2
  go_loopw [3, 12] (fun l i wr => ∃ k : Nat, k ≤ n ∧ i = .int .i64 k ∧ wr.ownsRow w.heap.size 3 1 l (listK xs k).length ((listK xs k).map natv) ∧ Below w.heap.size w wr) (fun _ i _ => n - (intOf i).toNat)
  case atStart => exact ⟨0, Nat.zero_le _, rfl, hown0, hb0⟩
  case round =>
    obtain ⟨k, hk, rfl, hown, hb⟩ := hrel
    clear hown0 hb0 hmk
    by_cases hlt : k < n
    · obtain ⟨b, off, x, rfl, hbk, hx, hx64, hc⟩ := (hr.out.below hb).at_ hlt
      have hst := Lib.hid (listK_succ xs k x hx)
      clear hx
      go_wp2
      go_loopw [3, 5] (fun l v wi => ∃ (D : List Nat) (r : Nat), r < 18446744073709551616 ∧ v = .int .u64 r ∧ Hid (D ++ (bitsOf r).map (64 * k + ·) = listK xs (k + 1)) ∧ wi.ownsRow w.heap.size 3 1 l D.length (D.map natv) ∧ Below w.heap.size w wi) (fun _ v _ => (bitsOf (intOf v).toNat).length)
      case atStart => exact ⟨_, x, hx64, rfl, Lib.hid hst.out.symm, hown, hb⟩
      case round =>
        obtain ⟨D, r, hr64, rfl, hD, hownD, hbD⟩ := hrel
        clear hown hb hc
        by_cases h0 : r = 0
        · subst h0
          have hD' := hD.out
          rw [bitsOf_zero, List.map_nil, List.append_nil] at hD'
          rw [hD'] at hownD
          clear hD hD' hst
          go_wp2
          go_roundw
          case rel => exact ⟨k + 1, by omega, by go_num, hownD, hbD⟩
          case measure => simp [intOf]; omega
        · have hbs := bitsOf_step r hr64 h0
          have hl64 := low0_lt r hr64 h0
          obtain ⟨i, hie⟩ : ∃ i, i = low0 r := ⟨_, rfl⟩
          have hne : ((r : Int) != 0) = true := by rw [bne_iff_ne]; omega
          have hoff := off_eq r i hr64 (by omega)
          have hof64 := offN_lt r i hr64
          have hfirst := word_First r hr64
          rw [← hie] at hbs hl64 hfirst
          have hDl : D.length ≤ 64 * (k + 1) := by
            have := listK_len xs (k + 1)
            rw [← hD.out, List.length_append] at this; omega
          have hD2 : Hid ((D ++ [64 * k + i]) ++ (bitsOf (offN r i)).map (64 * k + ·) = listK xs (k + 1)) := Lib.hid (by
            rw [← hD.out, hbs]; simp)
          have hlen : (bitsOf r).length = (bitsOf (offN r i)).length + 1 := by rw [hbs]; rfl
          replace hlen := Lib.hid hlen
          replace hoff := Lib.hid hoff
          replace hfirst := Lib.hid hfirst
          clear hbs hie hD hst h0
          go_wp2_with fail
          refine (hfirst.out _).mono ?_; rintro e w' ⟨rfl, rfl⟩
          go_wp2_with (first
            | (at_builtin; refine wpList_append_lies _ rfl (.tmp 21) (.tmp 26) _ rfl w.heap.size 3 i0 _ 1 8 Try.underlying23 hi.out hz0.out hz1.out hz2.out rfl (by omega) _ _ _ (by rfl) (hownD.alloc _) ⟨wr.heap.size, 0, none⟩ 1 1 [.int .i64 ((k : Int) * 64 + i)] rfl rfl (cell_one_new _ _ _) (by simp [Value.oneCell']) (by omega) (by unfold maxLen; omega) (by omega) (by have := hbD.size; simp; omega) _ rfl ?_; intro g cap w1 hown1 hgrow hat hlt1; have hb1 := (hbD.alloc hbD.size _).grown hgrow (by have := hbD.size; simp; omega) (own_lt_block hownD); clear hgrow hat hlt1)
            | (go_at_call 67; refine (word_BitN i hl64 _).mono ?_; rintro e w' ⟨rfl, rfl⟩))
          go_roundw
          case rel =>
            refine ⟨D ++ [64 * k + i], offN r i, hof64, by rw [hoff.out], hD2, ?_, hb1⟩
            rw [List.length_append, List.map_append]
            have e : natv (64 * k + i) = .int .i64 ((k : Int) * 64 + i) := by unfold natv; rw [show ((64 * k + i : Nat) : Int) = (k : Int) * 64 + i from by omega]
            rw [List.map_cons, List.map_nil, e]
            exact hown1
          case measure =>
            rw [hoff.out]; simp only [intOf, Int.toNat_natCast]; rw [hlen.out]; omega
    · obtain rfl : k = n := by omega
      have he : listK xs k = listN xs := by rw [← hl.out]; exact listK_all xs
      rw [he] at hown
      have hb64 : ∀ i ∈ listN xs, i < 9223372036854775808 := fun i hi' => by
        have := listK_lt xs xs.length i hi'
        rw [hl.out] at this; omega
      obtain ⟨A', c', rfl, hI⟩ := own_ints hown hb64
      have hO := hown
      rw [natv_ints] at hO
      clear he hb64 hown
      go_wp2
      go_ret
      exact ⟨_, _, _, rfl, hO, hI.2, hb⟩

end Go.Proofs.Ytkaohfgpibbkiaa

namespace Go.Proofs.Ytkaohfgpibbkiaa
open Go.RowKit
set_option maxRecDepth 100000
set_option linter.unusedVariables false

set_option maxHeartbeats 400000 in
theorem ref2_Words (n : Int) (h1 : -9223372036854775808 ≤ n) (h2 : n ≤ 1099511627776) (w : World) :
    Calls Try.prog 42 #[.int .i64 n] w fun e w' => e = .returned (.int .i64 (wordsZ n)) ∧ w = w' := by
  by_cases h : n < 0
  · have H := Lib.hid (show wordsZ n = 0 from if_pos h)
    go_enter Try.func42, Try.ntmps42
    go_wp2
    go_ret
    rw [H.out]; exact ⟨rfl, rfl⟩
  · have H := Lib.hid (wordsZ_nat n (by omega))
    go_enter Try.func42, Try.ntmps42
    go_wp2
    go_ret
    rw [H.out]; exact ⟨rfl, rfl⟩

set_option maxHeartbeats 400000 in
theorem ref2_NewO (n : Int) (h1 : -9223372036854775808 ≤ n) (h2 : n ≤ 1099511627776) (w : World) :
    Calls Try.prog 75 #[.int .i64 n] w (RetRowO 94 (List.replicate (wordsN n) 0) w) := by
  have hw := Lib.hid (wordsZ_N n)
  have hle := wordsN_le n h2
  have hmk := mk_u64 .i64 .i64 (wordsN n) (wordsN n) (Nat.le_refl _) (by omega)
  go_enter Try.func75, Try.ntmps75
  go_wp2_with fail
  refine (ref2_Words _ (by omega) (by omega) _).mono ?_; rintro e w' ⟨rfl, rfl⟩
  rw [hw.out]
  go_wp2
  go_ret
  refine own_ret (by simpa [u64v] using own_zeros w (wordsN n) (.int .u64 0) 94 (by unfold maxLen; omega)) (by simp) ((Below.refl _ _).alloc (Nat.le_refl _) _)

set_option maxHeartbeats 400000 in
theorem ref2_Has (A : Option Addr) (n c : Nat) (xs : List Nat) (i : Int) (w : World) (hr : Row w A n xs) (hn : n ≤ 1073741824) (h1 : -9223372036854775808 ≤ i) (h2 : i < 9223372036854775808) :
    Calls Try.prog 43 #[.slice A n c, .int .i64 i] w fun e w' => e = .returned (.bool (hasR xs i)) ∧ w = w' := by
  have hl := hr.len
  by_cases h0 : 0 ≤ i
  · by_cases h3 : i < 64 * (n : Int)
    · obtain ⟨m, rfl⟩ := Int.eq_ofNat_of_zero_le h0
      have hm : m < 64 * n := by omega
      obtain ⟨b, off, x, rfl, hb, hx, hx64, hc⟩ := hr.at_ (k := m / 64) (by omega)
      have H := hasR_in xs m x hx
      rw [show ((m % 64 : Nat) : Int) = (m : Int) % 64 from by omega] at H
      replace H := Lib.hid H
      clear hx hr hl
      go_enter Try.func43, Try.ntmps43
      go_wp2_with fail
      refine (ref_Has x hx64 _ (by omega) (by omega) _).mono ?_; rintro e w' ⟨rfl, rfl⟩
      go_wp2
      go_ret
      rw [H.out]; exact ⟨rfl, rfl⟩
    · have H := Lib.hid (hasR_out xs i (by omega))
      clear hl hr
      go_enter Try.func43, Try.ntmps43
      go_wp2
      go_ret
      rw [H.out]; exact ⟨rfl, rfl⟩
  · have H := Lib.hid (hasR_out xs i (by omega))
    clear hl hr
    go_enter Try.func43, Try.ntmps43
    go_wp2
    go_ret
    rw [H.out]; exact ⟨rfl, rfl⟩

end Go.Proofs.Ytkaohfgpibbkiaa

namespace Go.Proofs.Ytkaohfgpibbkiaa
open Go.RowKit
set_option linter.unusedVariables false

end Go.Proofs.Ytkaohfgpibbkiaa

namespace Go.Proofs.Ytkaohfgpibbkiaa
open Go.RowKit
set_option linter.unusedVariables false

theorem ref_BitN (r : Nat) (hr : r < 64) (w : World) : Calls Try.prog 77 #[.int .i64 (r : Int)] w fun e w' => e = .returned (.int .u64 (p2 r : Nat)) ∧ w = w' := by
  have h := ref_Bit (r : Int) (by omega) (by omega) w
  rwa [bitZ_p2 (r : Int) (by omega) (by omega), Int.toNat_natCast] at h
set_option maxRecDepth 100000 in
set_option maxHeartbeats 1000000 in
theorem ref2_SetO (A : Option Addr) (n c : Nat) (xs : List Nat) (i : Int) (w : World) (hr : Row w A n xs) (hn : n ≤ 1073741824) (h1 : -9223372036854775808 ≤ i) (h2 : i < 9223372036854775808) :
    Calls Try.prog 76 #[.slice A n c, .int .i64 i] w (RetRowO 94 (setR xs i) w) := by
  obtain ⟨i0, hi, hz0, hz1, hz2⟩ := info_parts info_u64
  replace hi := Lib.hid hi
  replace hz0 := Lib.hid hz0
  replace hz1 := Lib.hid hz1
  replace hz2 := Lib.hid hz2
  have hl := hr.len
  have hlt := Lib.hid hr.2
  have hlit : (w.alloc (.cells #[] 94)).ownsRow w.heap.size 94 1 (.slice (some ⟨w.heap.size, 0, none⟩) 0 0) 0 [] := by
    have h := World.ownsRow_lit (size := 1) (base := w.heap.size) (e := 94) w #[] 0 (Nat.le_refl _) (by omega) (by simp)
    simpa using h
  have hb0 : Below w.heap.size w (w.alloc (.cells #[] 94)) := (Below.refl _ _).alloc (Nat.le_refl _) _
  have hrd : Rd (w.alloc (.cells #[] 94)) A n (xs.map u64v) := hr.1.below hb0
  have hH := ref2_Has A n c xs i
  have hr0 := Lib.hid hr
  by_cases hin : 0 ≤ i ∧ i < 64 * (n : Int)
  · obtain ⟨m, rfl⟩ := Int.eq_ofNat_of_zero_le hin.1
    obtain ⟨hi1, hi2⟩ := hin
    have hm : m < 64 * n := by omega
    obtain ⟨x, hx⟩ : ∃ x, xs[m / 64]? = some x := ⟨_, List.getElem?_eq_getElem (by omega)⟩
    have hx64 : x < 18446744073709551616 := hlt.out x (List.mem_of_getElem? hx)
    have hS := setR_in (m := m) (by omega) hx
    have hHin := hasR_in xs m x hx
    rw [hasB_nat] at hHin
    obtain ⟨r, hre⟩ : ∃ r, r = m % 64 := ⟨_, rfl⟩
    have hr64 : r < 64 := by omega
    rw [← hre] at hS hHin
    rcases Bool.eq_false_or_eq_true (x.testBit r) with ht | ht
    · rw [or_same x r ht] at hS
      have hset : xs.set (m / 64) x = xs := by
        apply List.ext_getElem?; intro j
        rw [List.getElem?_set]
        by_cases hj : m / 64 = j
        · subst hj; rw [if_pos rfl, if_pos (by omega), hx]
        · rw [if_neg hj]
      rw [hset] at hS
      rw [ht] at hHin
      replace hS := Lib.hid hS
      replace hHin := Lib.hid hHin
      have hl' := Lib.hid hl
      replace hH := Lib.hid hH
      clear hl hre ht hset hx hr
      go_enter Try.func76, Try.ntmps76
      go_wp2_with (first
        | (at_builtin; refine wpList_append_rd rfl (.tmp 6) (.tmp 7) _ rfl w.heap.size 94 i0 _ 8 Try.underlying70 hi.out hz0.out hz1.out hz2.out rfl _ 0 _ (by rfl) hlit A n c _ rfl hrd (by simp [u64v, Value.oneCell']) (by unfold maxLen; omega) (by omega) hb0.size ?_; intro v1 w1 hown1 hbb hform; simp only [Nat.zero_add, List.nil_append] at hown1 hform; obtain ⟨g, cap, rfl⟩ := hform (by omega); have hb1 := hb0.trans hbb; have hrr := Lib.hid (hr0.out.below hb1); clear hbb hlit hb0 hrd)
        | (go_at_call 43; refine (hH.out _ hrr.out hn h1 h2).mono ?_; rintro e w' ⟨rfl, rfl⟩; rw [hHin.out]))
      go_ret
      rw [hS.out]
      exact own_ret hown1 hlt.out (hb1)
    · rw [← add_or x r ht] at hS
      rw [ht] at hHin
      have hE := add_or x r ht
      have hO := or_p2_lt hx64 hr64
      rw [← hE] at hO
      replace hO := Lib.hid hO
      replace hS := Lib.hid hS
      replace hHin := Lib.hid hHin
      replace hx := Lib.hid hx
      have hl' := Lib.hid hl
      replace hH := Lib.hid hH
      have hrem : (m : Int) % 64 = (r : Int) := by omega
      have hp2 := p2_lt r hr64
      have hp20 := p2_pos r
      clear hl hre ht hE hr
      go_enter Try.func76, Try.ntmps76
      go_wp2_with (first
        | (at_builtin; refine wpList_append_rd rfl (.tmp 6) (.tmp 7) _ rfl w.heap.size 94 i0 _ 8 Try.underlying70 hi.out hz0.out hz1.out hz2.out rfl _ 0 _ (by rfl) hlit A n c _ rfl hrd (by simp [u64v, Value.oneCell']) (by unfold maxLen; omega) (by omega) hb0.size ?_; intro v1 w1 hown1 hbb hform; simp only [Nat.zero_add, List.nil_append] at hown1 hform; obtain ⟨g, cap, rfl⟩ := hform (by omega); have hb1 := hb0.trans hbb; have hrr := Lib.hid (hr0.out.below hb1); clear hbb hlit hb0 hrd)
        | (go_at_call 43; refine (hH.out _ hrr.out hn h1 h2).mono ?_; rintro e w' ⟨rfl, rfl⟩; rw [hHin.out]))
      have hc : w1.cell? ⟨g, m / 64, none⟩ = some (.int .u64 (x : Int)) := by
        rw [hown1.cellAt _ (by omega), List.getElem?_map, hx.out]; rfl
      have hf := hown1.frozenAt (m / 64)
      have hg := (hown1.lt g rfl).1
      have hA1 : (0 : Int) ≤ (m : Int) / 64 := by omega
      have hA2 : (m : Int) / 64 < (n : Int) := by omega
      have hA3 : ((m : Int) / 64).toNat = m / 64 := by omega
      refine still_tail 13 (by kernel_rfl) (by kernel_rfl) (fun W hW => ?_)
      have hc' : W.cell? ⟨g, m / 64, none⟩ = some (.int .u64 (x : Int)) := by rw [hW.out]; exact hc
      have hf' : W.frozen? ⟨g, m / 64, none⟩ = false := by rw [hW.out]; exact hf
      have hown' : W.ownsRow w.heap.size 94 1 (.slice (some ⟨g, 0, none⟩) n cap) n (xs.map u64v) := by rw [hW.out]; exact hown1.drew
      have hb' : Below w.heap.size w W := by rw [hW.out]; exact hb1.drew
      clear hc hf hb1 hown1
      simp only [List.take_succ_cons, List.take_zero, List.drop_succ_cons, List.drop_zero]
      have htd : (m : Int).tdiv 64 = (m : Int) / 64 := Int.tdiv_eq_ediv_of_nonneg hi1
      have htm : (m : Int).tmod 64 = (r : Int) := by rw [Int.tmod_eq_emod_of_nonneg hi1]; exact hrem
      have hsum : IntKind.u64.wrap ((x : Int) + (p2 r : Nat)) = ((x + p2 r : Nat) : Int) := by
        have := hO.out
        rw [IntKind.wrap_u64]; omega
      have hw1 : IntKind.i64.wrap ((m : Int) / 64) = (m : Int) / 64 := by rw [IntKind.wrap_i64]; omega
      have hw2 : IntKind.i64.wrap (r : Int) = (r : Int) := by rw [IntKind.wrap_i64]; omega
      clear hrem
      repeat
        refine @wpStill_step _ _ _ _ _ _ _ ?_
        intro K hK
        go_simp
        refine hK _ ?_
        clear hK K
      refine wpStill_step (fun K hK => ?_)
      go_simp
      refine ⟨_, still_call (ref_BitN r hr64 _), hK _ ?_⟩
      clear hK K
      repeat
        refine @wpStill_step _ _ _ _ _ _ _ ?_
        intro K hK
        go_simp
        refine hK _ ?_
        clear hK K
      refine wpStill_nil ?_
      clear htd htm hw1 hw2 hsum
      go_wp2
      go_ret
      rw [hS.out, show (x : Int) + (p2 r : Nat) = ((x + p2 r : Nat) : Int) from by omega]
      refine own_ret (c := cap) ?_ (mem_set_lt hlt.out hO.out) (hb'.setCell hg _)
      rw [List.map_set]
      exact (hown'.stored _ _).1
  · have hS := Lib.hid (setR_out (xs := xs) (i := i) (by omega))
    clear hl hr hH
    have hdec : (0 ≤ i ∧ ¬ i < 64 * (n : Int)) ∨ ¬ 0 ≤ i := by omega
    clear hin
    rcases hdec with ⟨d1, d2⟩ | d1
    all_goals
      go_enter Try.func76, Try.ntmps76
      go_wp2_with (at_builtin; refine wpList_append_rd rfl (.tmp 6) (.tmp 7) _ rfl w.heap.size 94 i0 _ 8 Try.underlying70 hi.out hz0.out hz1.out hz2.out rfl _ 0 _ (by rfl) hlit A n c _ rfl hrd (by simp [u64v, Value.oneCell']) (by unfold maxLen; omega) (by omega) hb0.size ?_; intro v1 w1 hown1 hbb hform; simp only [Nat.zero_add, List.nil_append] at hown1 hform; have hb1 := hb0.trans hbb; clear hbb hlit hb0 hrd hform)
      obtain ⟨A2, c2, rfl, hrd2⟩ := Rd.of_own hown1
      go_ret
      rw [hS.out]
      exact own_ret hown1 hlt.out hb1

end Go.Proofs.Ytkaohfgpibbkiaa

namespace Go.Proofs.Ytkaohfgpibbkiaa
open Go.RowKit
set_option linter.unusedVariables false

def W64 (xs : List Nat) : Prop := ∀ x ∈ xs, x < 18446744073709551616
theorem getD_w64 {xs : List Nat} (h : W64 xs) (j : Nat) : xs.getD j 0 < 18446744073709551616 := by
  rw [List.getD_eq_getElem?_getD]
  cases hx : xs[j]? with
  | none => simp
  | some x => simpa using h x (List.mem_of_getElem? hx)
theorem bit_out {x r : Nat} (hx : x < 18446744073709551616) (hr : 64 ≤ r) : x.testBit r = false :=
  Nat.testBit_lt_two_pow (Nat.lt_of_lt_of_le hx (by rw [show (18446744073709551616 : Nat) = 2 ^ 64 from rfl]; exact Nat.pow_le_pow_right (by omega) hr))
theorem hasR_w (xs : List Nat) (k r : Nat) (hr : r < 64) : hasR xs ((64 * k + r : Nat) : Int) = (xs.getD k 0).testBit r := by
  rw [hasR_nat, show (64 * k + r) / 64 = k from by omega, show (64 * k + r) % 64 = r from by omega]
/-- rows of one length with the same bits are the same -/
theorem row_ext {a b : List Nat} (ha : W64 a) (hb : W64 b) (hl : a.length = b.length) (h : ∀ i : Nat, i < 64 * a.length → hasR a (i : Int) = hasR b (i : Int)) : a = b := by
  apply List.ext_getElem hl
  intro k h1 h2
  apply Nat.eq_of_testBit_eq; intro r
  have ea : a[k] = a.getD k 0 := by rw [List.getD_eq_getElem?_getD, List.getElem?_eq_getElem h1]; rfl
  have eb : b[k] = b.getD k 0 := by rw [List.getD_eq_getElem?_getD, List.getElem?_eq_getElem h2]; rfl
  rw [ea, eb]
  by_cases hr : r < 64
  · rw [← hasR_w a k r hr, ← hasR_w b k r hr]; exact h _ (by omega)
  · rw [bit_out (getD_w64 ha k) (by omega), bit_out (getD_w64 hb k) (by omega)]
theorem setR_len (xs : List Nat) (i : Int) : (setR xs i).length = xs.length := by
  unfold setR; split <;> simp
theorem setR_w64 {xs : List Nat} (h : W64 xs) (m : Nat) : W64 (setR xs (m : Int)) := by
  by_cases hm : m < 64 * xs.length
  · have hx : xs[m / 64]? = some xs[m / 64] := List.getElem?_eq_getElem (by omega)
    rw [setR_in hm hx]
    exact mem_set_lt h (or_p2_lt (h _ (List.mem_of_getElem? hx)) (by omega))
  · rw [setR_out (.inr (by omega))]; exact h
theorem hasR_setR (xs : List Nat) (m j : Nat) (hm : m < 64 * xs.length) : hasR (setR xs (m : Int)) (j : Int) = (hasR xs (j : Int) || decide (j = m)) := by
  have hx : xs[m / 64]? = some xs[m / 64] := List.getElem?_eq_getElem (by omega)
  rw [setR_in hm hx, hasR_nat, hasR_nat, List.getD_eq_getElem?_getD, List.getD_eq_getElem?_getD, List.getElem?_set]
  by_cases h1 : m / 64 = j / 64
  · rw [if_pos h1, if_pos (by omega), ← h1, hx]
    simp only [Option.getD_some]
    rw [Nat.testBit_or]; unfold p2; rw [Nat.testBit_two_pow]
    by_cases h2 : j = m
    · subst h2; simp
    · rw [decide_eq_false h2, decide_eq_false (by omega)]
  · rw [if_neg h1, decide_eq_false (by rintro rfl; exact h1 rfl), Bool.or_false]

/-! ### both together -/
theorem orR_len (a b : List Nat) : (orR a b).length = max a.length b.length := by simp [orR]
theorem orR_getD (a b : List Nat) (k : Nat) : (orR a b).getD k 0 = a.getD k 0 ||| b.getD k 0 := by
  unfold orR
  rw [List.getD_eq_getElem?_getD, List.getElem?_map]
  by_cases h : k < max a.length b.length
  · rw [List.getElem?_range h]; rfl
  · rw [List.getElem?_eq_none (by simpa using h), getD_out a k (by omega), getD_out b k (by omega)]; rfl
theorem hasR_orR (a b : List Nat) (i : Nat) : hasR (orR a b) (i : Int) = (hasR a (i : Int) || hasR b (i : Int)) := by
  rw [hasR_nat, hasR_nat, hasR_nat, orR_getD, Nat.testBit_or]
theorem orR_w64 {a b : List Nat} (ha : W64 a) (hb : W64 b) : W64 (orR a b) := by
  intro x hx
  unfold orR at hx
  obtain ⟨j, _, rfl⟩ := List.mem_map.1 hx
  exact Nat.or_lt_two_pow (n := 64) (getD_w64 ha j) (getD_w64 hb j)

/-! ### a row of its list -/
def setN (r : List Nat) (i : Nat) : List Nat := setR r (i : Int)
/-- the bits of l, set one by one in a row of n words -/
def setAll (n : Nat) (l : List Nat) : List Nat := l.foldl setN (List.replicate n 0)
theorem setAll_snoc (n : Nat) (l : List Nat) (i : Nat) : setAll n (l ++ [i]) = setR (setAll n l) (i : Int) := by
  unfold setAll; rw [List.foldl_append]; rfl
theorem hasR_zeros (n i : Nat) : hasR (List.replicate n 0) (i : Int) = false := by
  rw [hasR_nat, List.getD_eq_getElem?_getD, List.getElem?_replicate]
  split <;> simp
theorem setAll_facts (n : Nat) (l : List Nat) (h : ∀ i ∈ l, i < 64 * n) : (setAll n l).length = n ∧ W64 (setAll n l) ∧ ∀ j : Nat, hasR (setAll n l) (j : Int) = decide (j ∈ l) := by
  have : ∀ (r : List Nat), (∀ i ∈ l, i < 64 * r.length) → W64 r → (l.foldl setN r).length = r.length ∧ W64 (l.foldl setN r) ∧ ∀ j : Nat, hasR (l.foldl setN r) (j : Int) = (hasR r (j : Int) || decide (j ∈ l)) := by
    clear h
    induction l with
    | nil => intro r _ hw; exact ⟨rfl, hw, fun j => by simp⟩
    | cons i l ih =>
      intro r hl hw
      have hi := hl i (by simp)
      obtain ⟨h1, h2, h3⟩ := ih (setR r (i : Int)) (fun j hj => by rw [setR_len]; exact hl j (by simp [hj])) (setR_w64 hw i)
      refine ⟨h1.trans (setR_len r i), h2, fun j => ?_⟩
      show hasR (l.foldl _ (setR r (i : Int))) (j : Int) = _
      rw [h3 j, hasR_setR r i j hi, Bool.or_assoc]
      congr 1
      simp
  obtain ⟨h1, h2, h3⟩ := this (List.replicate n 0) (by simpa using h) (fun x hx => by have := (List.mem_replicate.1 hx).2; omega)
  refine ⟨h1.trans List.length_replicate, h2, fun j => ?_⟩
  have := h3 j
  rw [hasR_zeros, Bool.false_or] at this
  exact this

/-- what the statement's frame tells of an argument -/
theorem row_of_is {w : World} {A : Option Addr} {n c : Nat} {zs : List Int}
    (h : (A = none ∧ n = 0 ∧ c = 0 ∧ zs = []) ∨ ∃ x, A = some x ∧ n ≤ c ∧ c ≤ maxLen ∧ zs.length = c ∧ (∀ i, i < zs.length → w.cell? (x.add i) = some (.int .u64 (zs.getD i 0))) ∧ ∀ n ∈ zs, (Lit.int .u64 n).wf = true) : ∃ xs, Row w A n xs ∧ n ≤ 9223372036854775807 := by
  have hle : n ≤ 9223372036854775807 := by
    rcases h with ⟨_, h0, _⟩ | ⟨_, _, h1, h2, _⟩
    · omega
    · unfold maxLen at h2; omega
  suffices h' : ∃ xs, Row w A n xs from h'.imp fun xs hx => ⟨hx, hle⟩
  rcases h with ⟨rfl, rfl, rfl, rfl⟩ | ⟨⟨b, off, spot⟩, rfl, hl, hm, hz, hcell, hwz⟩
  · exact ⟨[], Row.nil _ _⟩
  · by_cases h0 : n = 0
    · subst h0; exact ⟨[], Row.nil _ _⟩
    · have hc := hcell 0 (by omega)
      have hspot : spot = none := by simpa [Addr.add] using World.cell?_spot hc
      subst hspot
      have hadd : ∀ j, (⟨b, off, none⟩ : Addr).add j = ⟨b, off + j, none⟩ := fun j => by unfold Addr.add; split <;> simp_all
      have hval : ∀ z ∈ zs, 0 ≤ z ∧ z < 18446744073709551616 := fun z hz' => by have := bounds_u64 (hwz z hz'); omega
      refine ⟨(zs.take n).map Int.toNat, ⟨by simp; omega, fun _ => ⟨b, off, rfl, ?_, fun j u hu => ?_⟩⟩, fun x hx => ?_⟩
      · have := World.block_lt_of_cell? w _ hc
        rwa [hadd] at this
      · rw [List.map_map, List.getElem?_map] at hu
        cases hx : (zs.take n)[j]? with
        | none => rw [hx] at hu; cases hu
        | some z =>
          rw [hx] at hu
          have hj : j < n := by have := (List.getElem?_eq_some_iff.1 hx).1; rw [List.length_take] at this; omega
          rw [List.getElem?_take_of_lt hj] at hx
          have h1 := hcell j (by omega)
          have h2 : zs.getD j 0 = z := by rw [List.getD_eq_getElem?_getD, hx]; rfl
          have h3 := hval z (List.mem_of_getElem? hx)
          rw [hadd, h2] at h1
          rw [h1]
          have : u64v z.toNat = u := by simpa using hu
          rw [← this]; unfold u64v; rw [Int.toNat_of_nonneg h3.1]
      · obtain ⟨z, hz1, rfl⟩ := List.mem_map.1 hx
        have := hval z (List.mem_of_mem_take hz1); omega

end Go.Proofs.Ytkaohfgpibbkiaa

namespace Go.Proofs.Ytkaohfgpibbkiaa

def smallM (xss : List (List Nat)) (most : Int) : Bool := decide ((xss.length : Int) ≤ most) && xss.all fun r => decide (r.length ≤ 4)
/-- may r be a row of a matrix of n? -/
def fitsR (r : List Nat) (n : Int) : Bool := decide ((r.length : Int) = wordsZ n) && (List.range (64 * r.length)).all fun j : Nat => decide ((j : Int) < n) || !hasR r (j : Int)
/-- may a matrix be? -/
def rightM (N : Int) (xss : List (List Nat)) : Bool := decide (0 ≤ N) && decide (N ≤ 4096) && decide ((xss.length : Int) = N) && xss.all fun r => fitsR r N
def inM (N i j : Int) : Bool := decide (0 ≤ i) && decide (i < N) && decide (0 ≤ j) && decide (j < N)
def hasM (xss : List (List Nat)) (i j : Int) : Bool := decide (0 ≤ i) && hasR (xss.getD i.toNat []) j
def setM (xss : List (List Nat)) (i j : Int) : List (List Nat) := xss.set i.toNat (setR (xss.getD i.toNat []) j)
def newM (n : Nat) : List (List Nat) := List.replicate n (List.replicate (wordsZ n).toNat 0)

def belowZ (i n : Int) : Bool := decide (0 ≤ i) && decide (i < n)
theorem belowZ_yes {i n : Int} (h0 : 0 ≤ i) (h1 : i < n) : belowZ i n = true := by unfold belowZ; simp [h0, h1]
theorem belowZ_no {i n : Int} (h : i < 0 ∨ n ≤ i) : belowZ i n = false := by
  unfold belowZ
  rcases h with h | h
  · rw [decide_eq_false (by omega)]; rfl
  · rw [decide_eq_false (p := i < n) (by omega), Bool.and_false]
theorem hasM_out {xss : List (List Nat)} {i j : Int} (h : i < 0 ∨ (xss.length : Int) ≤ i) : hasM xss i j = false := by
  unfold hasM
  by_cases h0 : 0 ≤ i
  · have : xss.getD i.toNat [] = [] := by
      rw [List.getD_eq_getElem?_getD, List.getElem?_eq_none (by omega)]; rfl
    rw [this, hasR_out [] j (by simp; omega), Bool.and_false]
  · rw [decide_eq_false h0]; rfl
theorem getD_at {α : Type} {xss : List α} {k : Nat} {xs d : α} (h : xss[k]? = some xs) : xss.getD k d = xs := by rw [List.getD_eq_getElem?_getD, h]; rfl
theorem hasM_in {xss : List (List Nat)} {k : Nat} {xs : List Nat} {j : Int} (h : xss[k]? = some xs) : hasM xss (k : Int) j = hasR xs j := by
  unfold hasM
  rw [decide_eq_true (by omega), Int.toNat_natCast, getD_at h]; rfl

theorem setM_nat {xss : List (List Nat)} {k : Nat} {xs : List Nat} {j : Int} (h : xss[k]? = some xs) : setM xss (k : Int) j = xss.set k (setR xs j) := by
  unfold setM
  rw [Int.toNat_natCast, getD_at h]
theorem smallM_len {xss : List (List Nat)} {most : Int} (h : smallM xss most = true) : (xss.length : Int) ≤ most ∧ ∀ r ∈ xss, r.length ≤ 4 := by
  unfold smallM at h
  rw [Bool.and_eq_true, decide_eq_true_eq, List.all_eq_true] at h
  exact ⟨h.1, fun r hr => of_decide_eq_true (h.2 r hr)⟩

/-! ### matrices of pairs -/
def okP (n : Int) (p : Int × Int) : Bool := inM n p.1 p.2
def setP (m : List (List Nat)) (p : Int × Int) : List (List Nat) := setM m p.1 p.2
def foldP (n : Nat) (ps : List (Int × Int)) : List (List Nat) := ps.foldl setP (newM n)
theorem foldP_nil (n : Nat) : foldP n [] = newM n := rfl
theorem foldP_snoc (n : Nat) (ps : List (Int × Int)) (k : Nat) (p : Int × Int) (h : ps[k]? = some p) : foldP n (ps.take (k + 1)) = setM (foldP n (ps.take k)) p.1 p.2 := by
  unfold foldP
  have hk : k < ps.length := (List.getElem?_eq_some_iff.1 h).1
  rw [List.take_succ_eq_append_getElem hk, List.foldl_append, (List.getElem?_eq_some_iff.1 h).2]; rfl
/-- as many rows as n, each of as many words as n bits take -/
def DimM (n : Nat) (xss : List (List Nat)) : Prop := xss.length = n ∧ ∀ (i : Nat) (r : List Nat), xss[i]? = some r → r.length = (wordsZ (n : Int)).toNat
theorem DimM.new (n : Nat) : DimM n (newM n) := ⟨by simp [newM], fun i r h => by
  unfold newM at h
  rw [List.getElem?_replicate] at h
  split at h
  · injection h with h; subst h; simp
  · cases h⟩
theorem DimM.set {n : Nat} {xss : List (List Nat)} (h : DimM n xss) (i j : Int) : DimM n (setM xss i j) := by
  unfold setM
  refine ⟨by rw [List.length_set]; exact h.1, fun k r hk => ?_⟩
  rw [List.getElem?_set] at hk
  split at hk
  · rename_i e
    split at hk
    · rename_i hl
      injection hk with hk
      subst hk
      rw [setR_len, getD_at (List.getElem?_eq_getElem hl)]
      exact h.2 _ _ (List.getElem?_eq_getElem hl)
    · cases hk
  · exact h.2 _ _ hk
theorem DimM.fold (n : Nat) (ps : List (Int × Int)) : DimM n (foldP n ps) := by
  unfold foldP
  have : ∀ (ps : List (Int × Int)) (m : List (List Nat)), DimM n m → DimM n (ps.foldl setP m) := by
    intro ps
    induction ps with
    | nil => intro m h; exact h
    | cons p ps ih => intro m h; exact ih _ (h.set _ _)
  exact this ps _ (DimM.new n)
theorem words_pos {n : Nat} (h : 0 < n) : 0 < (wordsZ (n : Int)).toNat ∧ n ≤ 64 * (wordsZ (n : Int)).toNat := by
  unfold wordsZ; rw [if_neg (by omega)]; omega
theorem words_le {n : Nat} (h : n ≤ 4096) : (wordsZ (n : Int)).toNat ≤ 64 := by
  unfold wordsZ; rw [if_neg (by omega)]; omega

end Go.Proofs.Ytkaohfgpibbkiaa

namespace Go.Proofs.Ytkaohfgpibbkiaa
set_option linter.unusedVariables false

end Go.Proofs.Ytkaohfgpibbkiaa

namespace Go.Proofs.Ytkaohfgpibbkiaa
open Go.RowKit

/-- a value that is a slice that reads as the words xs -/
def RowV (w : World) (v : Value) (xs : List Nat) : Prop := ∃ A n c, v = .slice A n c ∧ Row w A n xs
/-- cells that read as rows -/
def RowsC (w : World) (vs : List Value) (xss : List (List Nat)) : Prop := vs.length = xss.length ∧ ∀ (i : Nat) (v : Value) (xs : List Nat), vs[i]? = some v → xss[i]? = some xs → RowV w v xs
/-- the slice '.slice A n c' of rows reads as xss -/
def RowsAt (w : World) (A : Option Addr) (n : Nat) (xss : List (List Nat)) : Prop := ∃ vs, Rd w A n vs ∧ RowsC w vs xss
section
variable {w w' : World} {A : Option Addr} {n : Nat} {vs : List Value} {xss : List (List Nat)} {v : Value} {xs : List Nat}
theorem RowV.below (h : RowV w v xs) (hb : Below w.heap.size w w') : RowV w' v xs := by
  obtain ⟨A, n, c, e, hr⟩ := h; exact ⟨A, n, c, e, hr.below hb⟩
theorem RowsC.below (h : RowsC w vs xss) (hb : Below w.heap.size w w') : RowsC w' vs xss := ⟨h.1, fun i v xs h1 h2 => (h.2 i v xs h1 h2).below hb⟩
theorem RowsC.nil (w : World) : RowsC w [] [] := ⟨rfl, fun i v xs h => by simp at h⟩
theorem RowsC.snoc (h : RowsC w vs xss) (hv : RowV w v xs) : RowsC w (vs ++ [v]) (xss ++ [xs]) := by
  refine ⟨by simp [h.1], fun i u ys h1 h2 => ?_⟩
  rcases Nat.lt_or_ge i vs.length with hi | hi
  · rw [List.getElem?_append_left hi] at h1
    rw [List.getElem?_append_left (by rw [← h.1]; exact hi)] at h2
    exact h.2 i u ys h1 h2
  · rw [List.getElem?_append_right hi] at h1
    rw [List.getElem?_append_right (by rw [← h.1]; exact hi)] at h2
    rw [← h.1] at h2
    rcases Nat.eq_zero_or_pos (i - vs.length) with h0 | h0
    · rw [h0] at h1 h2
      simp at h1 h2
      subst h1 h2
      exact hv
    · rw [List.getElem?_eq_none (by simp; omega)] at h1; cases h1
theorem RowsC.set (h : RowsC w vs xss) (hv : RowV w v xs) (k : Nat) : RowsC w (vs.set k v) (xss.set k xs) := by
  refine ⟨by simp [h.1], fun i u ys h1 h2 => ?_⟩
  rw [List.getElem?_set] at h1 h2
  by_cases hk : k = i
  · rw [if_pos hk] at h1 h2
    by_cases hl : k < vs.length
    · rw [if_pos hl] at h1
      rw [if_pos (by rw [← h.1]; exact hl)] at h2
      injection h1 with h1
      injection h2 with h2
      subst h1 h2
      exact hv
    · rw [if_neg hl] at h1; cases h1
  · rw [if_neg hk] at h1 h2
    exact h.2 i u ys h1 h2
theorem RowsAt.len (h : RowsAt w A n xss) : xss.length = n := by
  obtain ⟨vs, h1, h2⟩ := h; rw [← h2.1, h1.1]
theorem RowsAt.below (h : RowsAt w A n xss) (hb : Below w.heap.size w w') : RowsAt w' A n xss := by
  obtain ⟨vs, h1, h2⟩ := h; exact ⟨vs, h1.below hb, h2.below hb⟩
theorem RowsAt.nil (w : World) (A : Option Addr) : RowsAt w A 0 [] := ⟨[], Rd.nil _ _, RowsC.nil _⟩
theorem RowsAt.at_ {k : Nat} (h : RowsAt w A n xss) (hk : k < n) : ∃ b off B m c xs, A = some ⟨b, off, none⟩ ∧ b < w.heap.size ∧ xss[k]? = some xs ∧ w.cell? ⟨b, off + k, none⟩ = some (.slice B m c) ∧ Row w B m xs := by
  obtain ⟨vs, h1, h2⟩ := h
  obtain ⟨b, off, u, hA, hb, hu, hc⟩ := h1.at_ hk
  have hl : k < xss.length := by rw [← h2.1, h1.1]; exact hk
  obtain ⟨B, m, c, e, hr⟩ := h2.2 k u xss[k] hu (List.getElem?_eq_getElem hl)
  subst e
  exact ⟨b, off, B, m, c, xss[k], hA, hb, List.getElem?_eq_getElem hl, hc, hr⟩
theorem RowsAt.w64 (h : RowsAt w A n xss) : ∀ xs ∈ xss, W64 xs := by
  intro xs hx
  obtain ⟨k, hk⟩ := List.getElem?_of_mem hx
  have hl : k < xss.length := (List.getElem?_eq_some_iff.1 hk).1
  obtain ⟨b, off, B, m, c, xs', _, _, hx', _, hr⟩ := h.at_ (k := k) (by rw [← h.len]; exact hl)
  rw [hk] at hx'
  injection hx' with hx'
  subst hx'
  exact hr.2
end

section
variable {w w' : World} {A : Option Addr} {n : Nat} {vs : List Value} {xs : List Nat} {p : Addr}
theorem Rd.setCell (h : Rd w A n vs) (hne : ∀ ad, A = some ad → ad.block ≠ p.block) (u : Value) : Rd (w.setCell p u) A n vs :=
  ⟨h.1, fun hn => by
    obtain ⟨b, off, e, hb, hc⟩ := h.2 hn
    have hbp := hne _ e
    refine ⟨b, off, e, by simpa using hb, fun j x hx => ?_⟩
    rw [World.cell?_setCell_other w p ⟨b, off + j, none⟩ u (fun e => hbp (by rw [e]))]
    exact hc j x hx⟩
theorem Row.setCell (h : Row w A n xs) (hne : ∀ ad, A = some ad → ad.block ≠ p.block) (u : Value) : Row (w.setCell p u) A n xs := ⟨h.1.setCell hne u, h.2⟩
theorem own_far {base : Nat} {e : TypeId} {size : Nat} {v : Value} (h : w.ownsRow base e size v n vs) (hne : v.ownBlock ≠ some p.block) (u : Value) : (w.setCell p u).ownsRow base e size v n vs := by
  refine ⟨h.1, ?_⟩
  rcases h.2 with ⟨h1, h2⟩ | ⟨g, cap, cur, rfl, hbg, hg, r⟩
  · exact .inl ⟨h1, h2⟩
  · refine .inr ⟨g, cap, cur, rfl, hbg, ?_, r⟩
    rw [Below.heap_setCell w p u g (fun e => hne (by rw [← e]; rfl))]; exact hg
end

theorem own_base {w : World} {base base' : Nat} {e : TypeId} {size n : Nat} {v : Value} {vs : List Value} (h : w.ownsRow base e size v n vs) (hb : base' ≤ base) : w.ownsRow base' e size v n vs :=
  ⟨h.1, h.2.imp id fun ⟨g, cap, cur, hv, hg, r⟩ => ⟨g, cap, cur, hv, Nat.le_trans hb hg, r⟩⟩

theorem own_cap {w : World} {base : Nat} {e : TypeId} {size n c : Nat} {A : Option Addr} {vs : List Value} (h : w.ownsRow base e size (.slice A n c) n vs) : n ≤ c := by
  rcases h.2 with ⟨h1, h2⟩ | ⟨g, cap, cur, hv, _, _, hnc, _⟩
  · omega
  · injection hv with _ _ h3
    omega
/-- rows of the call's own, no two in one block -/
def OwnRows (t : TypeId) (w : World) (base : Nat) (vs : List Value) (xss : List (List Nat)) : Prop :=
  vs.length = xss.length ∧
  (∀ (i : Nat) (v : Value) (xs : List Nat), vs[i]? = some v → xss[i]? = some xs → ∃ A m c, v = .slice A m c ∧ w.ownsRow base t 1 (.slice A m c) m (xs.map u64v) ∧ W64 xs) ∧
  (∀ (i j : Nat) (v v' : Value) (g : Nat), i ≠ j → vs[i]? = some v → vs[j]? = some v' → v.ownBlock = some g → v'.ownBlock ≠ some g)
section
variable {t : TypeId} {w w' : World} {base : Nat} {vs : List Value} {xss : List (List Nat)}
theorem OwnRows.nil (t : TypeId) (w : World) (base : Nat) : OwnRows t w base [] [] := ⟨rfl, fun i v xs h => by simp at h, fun i j v v' g _ h => by simp at h⟩
theorem OwnRows.below (h : OwnRows t w base vs xss) (hb : Below w.heap.size w w') : OwnRows t w' base vs xss :=
  ⟨h.1, fun i v xs h1 h2 => by
    obtain ⟨A, m, c, e, ho, hx⟩ := h.2.1 i v xs h1 h2
    exact ⟨A, m, c, e, own_below ho hb, hx⟩, h.2.2⟩
theorem OwnRows.rows (h : OwnRows t w base vs xss) : RowsC w vs xss :=
  ⟨h.1, fun i v xs h1 h2 => by
    obtain ⟨A, m, c, e, ho, hx⟩ := h.2.1 i v xs h1 h2
    exact ⟨A, m, c, e, Row.of_own ho hx⟩⟩
theorem OwnRows.lt (h : OwnRows t w base vs xss) : ∀ v ∈ vs, ∀ g, v.ownBlock = some g → base ≤ g ∧ g < w.heap.size := by
  intro v hv g hg
  obtain ⟨k, hk⟩ := List.getElem?_of_mem hv
  have hl : k < xss.length := by rw [← h.1]; exact (List.getElem?_eq_some_iff.1 hk).1
  obtain ⟨A, m, c, rfl, ho, _⟩ := h.2.1 k v xss[k] hk (List.getElem?_eq_getElem hl)
  exact ho.lt g hg
theorem OwnRows.far (h : OwnRows t w base vs xss) {p : Addr} (hp : p.block < base) (u : Value) : OwnRows t (w.setCell p u) base vs xss :=
  ⟨h.1, fun i v xs h1 h2 => by
    obtain ⟨A, m, c, e, ho, hx⟩ := h.2.1 i v xs h1 h2
    exact ⟨A, m, c, e, own_far ho (fun hh => by have := own_lt_block ho _ hh; omega) u, hx⟩, h.2.2⟩
theorem own_block_lt {e : TypeId} {size n : Nat} {v : Value} (h : w.ownsRow base e size v n vs) : ∀ g, v.ownBlock = some g → g < w.heap.size := fun g hg => (h.lt g hg).2
theorem OwnRows.snoc (h : OwnRows t w base vs xss) (hb : Below w.heap.size w w') {A : Option Addr} {m c : Nat} {xs : List Nat} (ho : w'.ownsRow w.heap.size t 1 (.slice A m c) m (xs.map u64v)) (hx : W64 xs) (hbase : base ≤ w.heap.size) :
    OwnRows t w' base (vs ++ [.slice A m c]) (xss ++ [xs]) := by
  have h' := h.below hb
  refine ⟨by simp [h.1], fun i v ys h1 h2 => ?_, fun i j v v' g hij h1 h2 h3 h4 => ?_⟩
  · rcases Nat.lt_or_ge i vs.length with hi | hi
    · rw [List.getElem?_append_left hi] at h1
      rw [List.getElem?_append_left (by rw [← h.1]; exact hi)] at h2
      exact h'.2.1 i v ys h1 h2
    · rw [List.getElem?_append_right hi] at h1
      rw [List.getElem?_append_right (by rw [← h.1]; exact hi)] at h2
      rw [← h.1] at h2
      rcases Nat.eq_zero_or_pos (i - vs.length) with h0 | h0
      · rw [h0] at h1 h2
        simp at h1 h2
        subst h1 h2
        exact ⟨A, m, c, rfl, own_base ho hbase, hx⟩
      · rw [List.getElem?_eq_none (by simp; omega)] at h1; cases h1
  · have old : ∀ k u g, k < vs.length → vs[k]? = some u → u.ownBlock = some g → g < w.heap.size := fun k u g hk hu hg => by
      obtain ⟨A', m', c', rfl, ho', _⟩ := h.2.1 k u (xss[k]'(by rw [← h.1]; exact hk)) hu (List.getElem?_eq_getElem (by rw [← h.1]; exact hk))
      exact own_block_lt ho' g hg
    have new : ∀ k u g, vs.length ≤ k → (vs ++ [Value.slice A m c])[k]? = some u → u.ownBlock = some g → k = vs.length ∧ w.heap.size ≤ g := fun k u g hk hu hg => by
      rw [List.getElem?_append_right hk] at hu
      rcases Nat.eq_zero_or_pos (k - vs.length) with h0 | h0
      · rw [h0] at hu
        simp at hu
        subst hu
        exact ⟨by omega, own_lt_block ho g hg⟩
      · rw [List.getElem?_eq_none (by simp; omega)] at hu; cases hu
    rcases Nat.lt_or_ge i vs.length with hi | hi <;> rcases Nat.lt_or_ge j vs.length with hj | hj
    · rw [List.getElem?_append_left hi] at h1
      rw [List.getElem?_append_left hj] at h2
      exact h.2.2 i j v v' g hij h1 h2 h3 h4
    · rw [List.getElem?_append_left hi] at h1
      have a := old i v g hi h1 h3
      have b := (new j v' g hj h2 h4).2
      omega
    · rw [List.getElem?_append_left hj] at h2
      have a := old j v' g hj h2 h4
      have b := (new i v g hi h1 h3).2
      omega
    · have a := (new i v g hi h1 h3).1
      have b := (new j v' g hj h2 h4).1
      omega
end

/-- the slice '.slice A n c' of pairs of numbers reads as ps -/
def PairsAt (w : World) (A : Option Addr) (n : Nat) (ps : List (Int × Int)) : Prop :=
  ps.length = n ∧ (∀ p ∈ ps, (-9223372036854775808 ≤ p.1 ∧ p.1 < 9223372036854775808) ∧ (-9223372036854775808 ≤ p.2 ∧ p.2 < 9223372036854775808)) ∧
  (0 < n → ∃ b off, A = some ⟨b, off, none⟩ ∧ b < w.heap.size ∧ ∀ (j : Nat) (p : Int × Int), ps[j]? = some p → w.cell? ⟨b, off + j * 2, none⟩ = some (.int .i64 p.1) ∧ w.cell? ⟨b, off + j * 2 + 1, none⟩ = some (.int .i64 p.2))
section
variable {w w' : World} {A : Option Addr} {n : Nat} {ps : List (Int × Int)}
theorem PairsAt.below (h : PairsAt w A n ps) (hb : Below w.heap.size w w') : PairsAt w' A n ps :=
  ⟨h.1, h.2.1, fun hn => by
    obtain ⟨b, off, e, hbl, hc⟩ := h.2.2 hn
    exact ⟨b, off, e, Nat.lt_of_lt_of_le hbl hb.size, fun j p hp => by
      obtain ⟨h1, h2⟩ := hc j p hp
      exact ⟨(hb.cell (p := ⟨b, off + j * 2, none⟩) hbl).trans h1, (hb.cell (p := ⟨b, off + j * 2 + 1, none⟩) hbl).trans h2⟩⟩⟩
theorem PairsAt.at_ {k : Nat} (h : PairsAt w A n ps) (hk : k < n) : ∃ b off p, A = some ⟨b, off, none⟩ ∧ b < w.heap.size ∧ ps[k]? = some p ∧ ((-9223372036854775808 ≤ p.1 ∧ p.1 < 9223372036854775808) ∧ (-9223372036854775808 ≤ p.2 ∧ p.2 < 9223372036854775808)) ∧
    w.cell? ⟨b, off + k * 2, none⟩ = some (.int .i64 p.1) ∧ w.cell? ⟨b, off + k * 2 + 1, none⟩ = some (.int .i64 p.2) := by
  obtain ⟨b, off, e, hb, hc⟩ := h.2.2 (by omega)
  have hl : k < ps.length := by rw [h.1]; exact hk
  exact ⟨b, off, ps[k], e, hb, List.getElem?_eq_getElem hl, h.2.1 _ (List.getElem_mem hl), (hc k _ (List.getElem?_eq_getElem hl)).1, (hc k _ (List.getElem?_eq_getElem hl)).2⟩
end

/-- block g is the matrix that a variable holds -/
def MatB (w : World) (g : Nat) (t : TypeId) (N : Int) (A : Option Addr) (n c : Nat) : Prop := Blk w g t [.int .i64 N, .slice A n c]
section
variable {w w' : World} {g : Nat} {t : TypeId} {N : Int} {A : Option Addr} {n c : Nat}
theorem MatB.c0 (h : MatB w g t N A n c) : w.cell? ⟨g, 0, none⟩ = some (.int .i64 N) := Blk.cell h 0
theorem MatB.c1 (h : MatB w g t N A n c) : w.cell? ⟨g, 1, none⟩ = some (.slice A n c) := Blk.cell h 1
theorem MatB.new (w : World) (t : TypeId) : MatB (w.alloc (.cells #[.int .i64 N, .slice A n c] t)) w.heap.size t N A n c := Blk.new w t _
theorem MatB.new1 (w : World) (o : Obj) (t : TypeId) : MatB ((w.alloc o).alloc (.cells #[.int .i64 N, .slice A n c] t)) (w.heap.size + 1) t N A n c := by
  have h := MatB.new (N := N) (A := A) (n := n) (c := c) (w.alloc o) t
  rwa [show (w.alloc o).heap.size = w.heap.size + 1 from by simp] at h
theorem MatB.two (h : MatB w g t N A n c) (x y : Value) : ((w.setCell ⟨g, 0, none⟩ x).setCell ⟨g, 1, none⟩ y).cell? ⟨g, 0, none⟩ = some x ∧ ((w.setCell ⟨g, 0, none⟩ x).setCell ⟨g, 1, none⟩ y).cell? ⟨g, 1, none⟩ = some y := by
  have h2 := (Blk.set_ (Blk.set_ h 0 x) 1 y)
  exact ⟨by rw [h2.cell 0]; rfl, by rw [h2.cell 1]; rfl⟩
theorem MatB.put (h : MatB w g t N A n c) (N' : Int) (A' : Option Addr) (n' c' : Nat) : MatB ((w.setCell ⟨g, 0, none⟩ (.int .i64 N')).setCell ⟨g, 1, none⟩ (.slice A' n' c')) g t N' A' n' c' :=
  Blk.set_ (Blk.set_ h 0 (.int .i64 N')) 1 (.slice A' n' c')
theorem MatB.below_ (h : MatB w g t N A n c) (hb : Below w.heap.size w w') : MatB w' g t N A n c := Blk.below h hb h.lt
end

/-- what a call that answers a matrix and an error ends in -/
def RetMat (N : Int) (xss : List (List Nat)) (er : Int) (w : World) (e : Ending) (w' : World) : Prop :=
  ∃ A n c, e = .returned (.tuple #[.agg #[.int .i64 N, .slice A n c], .int .i64 er]) ∧ RowsAt w' A n xss ∧ n ≤ c ∧ Below w.heap.size w w'
/-- what a call that answers a matrix ends in -/
def RetMat1 (N : Int) (xss : List (List Nat)) (w : World) (e : Ending) (w' : World) : Prop :=
  ∃ A n c, e = .returned (.agg #[.int .i64 N, .slice A n c]) ∧ RowsAt w' A n xss ∧ n ≤ c ∧ Below w.heap.size w w'
/-- a call that answers a bool, and leaves what was there -/
def RetB (b : Bool) (w : World) (e : Ending) (w' : World) : Prop := e = .returned (.bool b) ∧ Below w.heap.size w w'

end Go.Proofs.Ytkaohfgpibbkiaa

namespace Go.Proofs.Ytkaohfgpibbkiaa
open Go.RowKit
set_option linter.unusedVariables false

set_option maxHeartbeats 400000 in
theorem mat_below (i n : Int) (w : World) :
    Calls Try.prog 80 #[.int .i64 i, .int .i64 n] w fun e w' => e = .returned (.bool (belowZ i n)) ∧ w = w' := by
  by_cases h0 : 0 ≤ i
  · by_cases h1 : i < n
    · have H := Lib.hid (belowZ_yes h0 h1)
      go_enter Try.func80, Try.ntmps80
      go_wp2
      go_ret
      rw [H.out]; exact ⟨rfl, rfl⟩
    · have H := Lib.hid (belowZ_no (i := i) (n := n) (by omega))
      go_enter Try.func80, Try.ntmps80
      go_wp2
      go_ret
      rw [H.out]; exact ⟨rfl, rfl⟩
  · have H := Lib.hid (belowZ_no (i := i) (n := n) (by omega))
    go_enter Try.func80, Try.ntmps80
    go_wp2
    go_ret
    rw [H.out]; exact ⟨rfl, rfl⟩

set_option maxHeartbeats 400000 in
theorem mat_Has (N : Int) (A : Option Addr) (n c : Nat) (xss : List (List Nat)) (i j : Int) (w : World) (hr : RowsAt w A n xss) (hn : n ≤ 1073741824) (hl : ∀ xs ∈ xss, xs.length ≤ 1073741824)
    (h1 : -9223372036854775808 ≤ i) (h2 : i < 9223372036854775808) (h3 : -9223372036854775808 ≤ j) (h4 : j < 9223372036854775808) :
    Calls Try.prog 69 #[.agg #[.int .i64 N, .slice A n c], .int .i64 i, .int .i64 j] w (RetB (hasM xss i j) w) := by
  have hlen := hr.len
  by_cases h : 0 ≤ i ∧ i < (n : Int)
  · obtain ⟨k, rfl⟩ := Int.eq_ofNat_of_zero_le h.1
    have hk : k < n := by omega
    have hb := Lib.hid (belowZ_yes (i := (k : Int)) (n := (n : Int)) (by omega) (by omega))
    have ha : Below w.heap.size w (w.alloc (.cells #[.int .i64 N, .slice A n c] 39)) := (Below.refl _ _).alloc (Nat.le_refl _) _
    obtain ⟨b, off, B, m, d, xs, rfl, hbl, hx, hc, hxr⟩ := (hr.below ha).at_ hk
    have hm : m ≤ 1073741824 := by have := hxr.len; have := hl xs (List.mem_of_getElem? hx); omega
    have H := Lib.hid (hasM_in (j := j) hx)
    have hR := Lib.hid (fun W (hW : Row W B m xs) => row_Has B m d xs j W hW (by omega) h3 h4)
    replace hxr := Lib.hid hxr
    have hk0 : (0 : Int) ≤ (k : Int) := by omega
    have hkn : (k : Int) < (n : Int) := by omega
    clear h hx hr hlen hl
    replace ha := Lib.hid ha
    go_enter Try.func69, Try.ntmps69
    go_wp2_with fail
    refine (mat_below _ _ _).mono ?_; rintro e w' ⟨rfl, rfl⟩
    rw [hb.out]
    go_wp2_with fail
    refine (hR.out _ hxr.out).mono ?_; rintro e w' ⟨rfl, rfl⟩
    go_wp2
    go_ret
    rw [H.out]; exact ⟨rfl, ha.out⟩
  · have hb := Lib.hid (belowZ_no (i := i) (n := (n : Int)) (by omega))
    have H := Lib.hid (hasM_out (xss := xss) (i := i) (j := j) (by omega))
    have ha : Below w.heap.size w (w.alloc (.cells #[.int .i64 N, .slice A n c] 39)) := (Below.refl _ _).alloc (Nat.le_refl _) _
    clear h hlen hr hl
    replace ha := Lib.hid ha
    go_enter Try.func69, Try.ntmps69
    go_wp2_with fail
    refine (mat_below _ _ _).mono ?_; rintro e w' ⟨rfl, rfl⟩
    rw [hb.out]
    go_wp2
    go_ret
    rw [H.out]; exact ⟨rfl, ha.out⟩

end Go.Proofs.Ytkaohfgpibbkiaa

namespace Go.Proofs.Ytkaohfgpibbkiaa
open Go.RowKit
set_option linter.unusedVariables false

theorem info_row : (Try.prog.info? 70).map (fun i => (i.zero, i.size, i.bytes)) = some (some (.slice none 0 0), 1, 24) := by kernel_rfl
theorem one_rows {w : World} {vs : List Value} {xss : List (List Nat)} (h : RowsC w vs xss) : ∀ u ∈ vs, u.oneCell' = true := by
  intro u hu
  obtain ⟨k, hk⟩ := List.getElem?_of_mem hu
  have hl : k < vs.length := (List.getElem?_eq_some_iff.1 hk).1
  have hl2 : k < xss.length := by rw [← h.1]; exact hl
  obtain ⟨A, n, c, rfl, _⟩ := h.2 k u xss[k] hk (List.getElem?_eq_getElem hl2)
  rfl

end Go.Proofs.Ytkaohfgpibbkiaa

namespace Go.Proofs.Ytkaohfgpibbkiaa
open Go.RowKit
set_option linter.unusedVariables false

end Go.Proofs.Ytkaohfgpibbkiaa

namespace Go.Proofs.Ytkaohfgpibbkiaa
open Go.RowKit
set_option linter.unusedVariables false

end Go.Proofs.Ytkaohfgpibbkiaa

namespace Go.Proofs.Ytkaohfgpibbkiaa
open Go.RowKit
set_option linter.unusedVariables false

end Go.Proofs.Ytkaohfgpibbkiaa

namespace Go.Proofs.Ytkaohfgpibbkiaa
open Go.RowKit
set_option linter.unusedVariables false

def ofOk (n : Int) (ps : List (Int × Int)) : Bool := belowZ n 4097 && ps.all (okP n)
def ofN (n : Int) (ps : List (Int × Int)) : Int := if ofOk n ps = true then n else 0
def ofM (n : Int) (ps : List (Int × Int)) : List (List Nat) := if ofOk n ps = true then foldP n.toNat ps else []
def ofE (n : Int) (ps : List (Int × Int)) : Int := if ofOk n ps = true then 0 else 1

end Go.Proofs.Ytkaohfgpibbkiaa

namespace Go.Proofs.Ytkaohfgpibbkiaa
open Go.RowKit

section
variable {w w' : World} {lo hi : Nat} {A : Option Addr} {n c : Nat} {vs : List Value} {xss : List (List Nat)} {v : Value} {xs : List Nat}
end

end Go.Proofs.Ytkaohfgpibbkiaa

namespace Go.Proofs.Ytkaohfgpibbkiaa
open Go.RowKit

section
variable {P : Program} {ops : Array Oper} {md : Region.Mode} {Q : Exit → Act → World → Prop}

/-- Whatever order is picked from here on, till the first n operations are done; each leaves what was there. -/
def wpAnyR (P : Program) (md : Region.Mode) (ops : Array Oper) (Q : Exit → Act → World → Prop) (n : Nat) (F : Array Bool → Act → World → Prop) : Nat → Array Bool → Act → World → Prop
  | 0, listed, a, w => F listed a w
  | f + 1, listed, a, w => Region.ready md ops listed ≠ [] ∧ ∀ i ∈ Region.ready md ops listed, i < n ∧ wpOp P ops Q i (fun a' w' => Below w.heap.size w w' ∧ wpAnyR P md ops Q n F f (listed.setIfInBounds i true) a' w') a w

theorem wpAny_of_R {n g : Nat} {F : Array Bool → Act → World → Prop} (hF : ∀ listed a w, F listed a w → wpAny P md ops Q g listed a w) :
    ∀ (f : Nat) (listed : Array Bool) (a : Act) (w : World), wpAnyR P md ops Q n F f listed a w → wpAny P md ops Q (f + g) listed a w
  | 0, _, _, _, h => by rw [Nat.zero_add]; exact hF _ _ _ h
  | f + 1, listed, a, w, h => by
    rw [show f + 1 + g = (f + g) + 1 by omega]
    exact ⟨fun h0 => absurd h0 h.1, fun i hi => wpOp_mono (fun a' w' h' => wpAny_of_R hF f _ a' w' h'.2) (h.2 i hi).2⟩

theorem below_of {w w' w'' : World} (h : Below w.heap.size w w') (h' : Below w'.heap.size w' w'') : Below w.heap.size w w'' := h.trans (h'.mono h.size)
theorem yields_later {w w' : World} {o : Oper} {v : Value} {a : Act} (hb : Below w.heap.size w w') (h : YieldsIf P ops (fun x => Below w.heap.size w x) o v a) : YieldsIf P ops (fun x => Below w'.heap.size w' x) o v a :=
  h.imp (fun ⟨h1, h2⟩ => ⟨h1, fun x hx => h2 x (below_of hb hx)⟩) id

theorem wpAnyR_first {n i : Nat} {oi : Oper} {v : Value} {F : Array Bool → Act → World → Prop} (hi : ops[i]? = some oi) (hsel : ∀ (j : Nat) (o : Oper) cs b, ops[j]? = some o → o.op ≠ .select cs b)
    (hQ : ∀ c a w, Q (.panic c) (a.put oi.dst v) w → Q (.panic c) a w)
    (hlate : ∀ listed, HeadInv md ops n listed → listed.getD i true = false → ∀ t, n ≤ t → t ∉ Region.ready md ops listed) (hin : i < n)
    (hdone : ∀ listed a w, F listed a w → ∀ j ∈ Region.ready md ops listed, n ≤ j) :
    ∀ (f : Nat) (listed : Array Bool) (a : Act) (w : World), HeadInv md ops n listed →
      (∀ j oj, ops[j]? = some oj → j ≠ i → listed.getD j true = false → (∀ e ∈ oj.after, Region.binds md e = true → e.on ≠ i) → oi.apart ops oj = true) →
      i ∈ Region.ready md ops listed → YieldsIf P ops (fun x => Below w.heap.size w x) oi v a →
      wpAnyR P md ops Q n F f (listed.setIfInBounds i true) (a.put oi.dst v) w → wpAnyR P md ops Q n F (f + 1) listed a w := by
  intro f
  induction f with
  | zero =>
    intro listed a w inv _ hr hy H
    have hun := (mem_ready.1 hr).1
    refine ⟨fun h => (by rw [h] at hr; cases hr), fun j hj => ?_⟩
    have hjn : j < n := by
      rcases Nat.lt_or_ge j n with h | h
      · exact h
      · exact absurd hj (hlate listed inv hun j h)
    refine ⟨hjn, ?_⟩
    by_cases hji : j = i
    · subst hji; exact hy.wpOp hi (Below.refl _ _) ⟨Below.refl _ _, H⟩
    · have := hdone _ _ _ H j (ready_mono hj hji)
      omega
  | succ f ih =>
    intro listed a w inv hfree hr hy H
    have hun := (mem_ready.1 hr).1
    refine ⟨fun h => (by rw [h] at hr; cases hr), fun j hj => ?_⟩
    have hjn : j < n := by
      rcases Nat.lt_or_ge j n with h | h
      · exact h
      · exact absurd hj (hlate listed inv hun j h)
    refine ⟨hjn, ?_⟩
    by_cases hji : j = i
    · subst hji; exact hy.wpOp hi (Below.refl _ _) ⟨Below.refl _ _, H⟩
    · have h1 := (H.2 j (ready_mono hj hji)).2
      obtain ⟨hjun, oj, hoj, hall⟩ := mem_ready.1 hj
      have hnot : ∀ e ∈ oj.after, Region.binds md e = true → e.on ≠ i := fun e he hb heq => by
        have h1 := hall e he hb
        rw [heq, getD_both hun] at h1
        cases h1
      have h2 := wpOp_putIf hoj (hfree j oj hoj hji hjun hnot) (fun cs b => hsel i oi cs b hi) (fun cs b => hsel j oj cs b hoj) hQ hy h1
      have hfree' : ∀ k ok, ops[k]? = some ok → k ≠ i → (listed.setIfInBounds j true).getD k true = false →
          (∀ e ∈ ok.after, Region.binds md e = true → e.on ≠ i) → oi.apart ops ok = true := fun k ok hk hki hun hno => by
        refine hfree k ok hk hki ?_ hno
        by_cases hjk : j = k
        · subst hjk; exact hjun
        · rw [getD_set_ne true hjk] at hun; exact hun
      refine wpOp_mono (fun a' w' h3 => ⟨h3.2.1, ih (listed.setIfInBounds j true) a' w' (inv.set hj hjn) hfree' (ready_mono hr (Ne.symm hji)) (yields_later h3.2.1 h3.1) ?_⟩) h2
      rw [Array.setIfInBounds_comm _ _ hji]
      exact h3.2.2

/-- the plan's check: b: it may come up, and no other that may come up looks at its slot; not b: it alone may come up -/
def planB (md : Region.Mode) (ops : Array Oper) (n : Nat) : List (Bool × Nat) → Array Bool → Bool
  | [], listed => Region.seqB md ops (ops.size - n) n listed
  | (b, i) :: rest, listed => decide (i < n) && (if b then (Region.ready md ops listed).contains i && Region.free md ops listed i else decide (Region.ready md ops listed = [i])) && planB md ops n rest (listed.setIfInBounds i true)
def planAll (md : Region.Mode) (ops : Array Oper) (n : Nat) (pl : List (Bool × Nat)) : Bool :=
  Region.noSelect ops && decide (pl.length = n) && decide (n ≤ ops.size) && (decide (n = ops.size) || (Region.sinkB md ops n && Region.chainB md ops n)) && planB md ops n pl (Array.replicate ops.size false)

/-- the walk of the plan -/
def wpPlan (P : Program) (ops : Array Oper) (Q : Exit → Act → World → Prop) (tail : List Oper) : List (Bool × Nat) → Act → World → Prop
  | [], a, w => wpList P ops Q tail a w
  | (true, i) :: rest, a, w => ∃ o v, ops[i]? = some o ∧ YieldsIf P ops (fun x => Below w.heap.size w x) o v a ∧ wpPlan P ops Q tail rest (a.put o.dst v) w
  | (false, i) :: rest, a, w => wpOp P ops Q i (fun a' w' => Below w.heap.size w w' ∧ wpPlan P ops Q tail rest a' w') a w

theorem wpAnyR_plan {n : Nat} {tail : List Oper} (hsel : Region.noSelect ops = true) (hQ : ∀ c a d v w, Q (.panic c) (a.put d v) w → Q (.panic c) a w)
    (hlate : ∀ listed, HeadInv md ops n listed → ∀ i, i < n → listed.getD i true = false → ∀ t, n ≤ t → t ∉ Region.ready md ops listed) :
    ∀ (pl : List (Bool × Nat)) (listed : Array Bool) (a : Act) (w : World), HeadInv md ops n listed → planB md ops n pl listed = true → wpPlan P ops Q tail pl a w →
    wpAnyR P md ops Q n (fun listed' a' w' => Region.seqB md ops (ops.size - n) n listed' = true ∧ wpList P ops Q tail a' w') pl.length listed a w
  | [], listed, a, w, _, hB, h => ⟨hB, h⟩
  | (true, i) :: rest, listed, a, w, inv, hB, h => by
    simp only [planB, if_true, Bool.and_eq_true, decide_eq_true_eq] at hB
    obtain ⟨⟨hin, hr, hf⟩, hB'⟩ := hB
    obtain ⟨o, v, ho, hy, h'⟩ := h
    have hr' : i ∈ Region.ready md ops listed := by simpa using hr
    exact wpAnyR_first ho (Region.noSelect_spec hsel) (fun c a w => hQ c a o.dst v w) (fun l hl hu => hlate l hl i hin hu) hin (fun listed' a' w' hL => seqB_ready hL.1) rest.length listed a w inv (Region.free_spec ho hf) hr' hy
      (wpAnyR_plan hsel hQ hlate rest _ _ _ (inv.set hr' hin) hB' h')
  | (false, i) :: rest, listed, a, w, inv, hB, h => by
    simp only [planB, Bool.false_eq_true, if_false, Bool.and_eq_true, decide_eq_true_eq] at hB
    obtain ⟨⟨hin, hr⟩, hB'⟩ := hB
    have hr' : i ∈ Region.ready md ops listed := by rw [hr]; simp
    refine ⟨by rw [hr]; simp, fun j hj => ?_⟩
    rw [hr] at hj
    have hji : j = i := by simpa using hj
    subst hji
    exact ⟨hin, wpOp_mono (fun a' w' h3 => ⟨h3.1, wpAnyR_plan hsel hQ hlate rest _ a' w' (inv.set hr' hin) hB' h3.2⟩) h⟩

theorem wpAny_plan {a : Act} {w : World} {l : List Oper} (n : Nat) (pl : List (Bool × Nat)) (hB : planAll .any l.toArray n pl = true)
    (h : ∀ W : World, Hid (W = w.drew) → wpPlan P l.toArray (NoPanic Q) (l.drop n) pl a W) : wpAny P .any l.toArray (NoPanic Q) l.toArray.size (Array.replicate l.toArray.size false) a { w with drawn := w.drawn + 1 } := by
  have hQ : ∀ c a d v w, NoPanic Q (.panic c) (a.put d v) w → NoPanic Q (.panic c) a w := fun _ _ _ _ _ h => h
  simp only [planAll, Bool.and_eq_true, decide_eq_true_eq] at hB
  obtain ⟨⟨⟨⟨hsel, hlen⟩, hn⟩, hsc⟩, hpl⟩ := hB
  have hn' : n ≤ l.length := by simpa using hn
  have hdl : (l.drop n).length = l.toArray.size - n := by simp
  have inv0 : HeadInv .any l.toArray n (Array.replicate l.toArray.size false) :=
    ⟨by simp, fun j oj _ hl => (by rw [getD_replicate_false] at hl; cases hl), fun t _ ht => getD_in (by simpa using ht) (getD_replicate_false _ _)⟩
  have hlate : ∀ listed, HeadInv .any l.toArray n listed → ∀ i, i < n → listed.getD i true = false → ∀ t, n ≤ t → t ∉ Region.ready .any l.toArray listed := by
    intro listed inv i hin hun t ht hr
    rw [Bool.or_eq_true, decide_eq_true_eq, Bool.and_eq_true] at hsc
    obtain ⟨_, ot, hot, _⟩ := mem_ready.1 hr
    have htl := (Array.getElem?_eq_some_iff.1 hot).1
    rcases hsc with h0 | ⟨hs, hc⟩
    · omega
    · exact tail_waits hs hc (by omega) inv _ i rfl hin hun t ht hr
  have H := wpAnyR_plan (md := .any) hsel hQ hlate pl _ a w.drew inv0 hpl (h w.drew (Lib.hid rfl))
  have := wpAny_of_R (Q := NoPanic Q) (g := l.toArray.size - n) (fun listed a' w' hL => by
    have := wpAny_of_seq (md := .any) (Q' := NoPanic Q) (l.drop n) n listed a' w' (fun j => by simp [List.getElem?_drop]) (by rw [hdl]; exact hL.1) hL.2
    rwa [hdl] at this) _ _ _ _ H
  rw [hlen, show n + (l.toArray.size - n) = l.toArray.size by omega] at this
  exact this
theorem wp_region_plan {id : Nat} {a : Act} {w : World} {l : List Oper} (n : Nat) (pl : List (Bool × Nat)) (hm : P.follows .mixedOrders = true) (hB : planAll .any l.toArray n pl = true)
    (h : ∀ W : World, Hid (W = w.drew) → wpPlan P l.toArray (NoPanic Q) (l.drop n) pl a W) : (Code.region id l.toArray true).wp P Q a w :=
  wp_region_noPanic (wp_region_any hm (wpAny_plan n pl hB h))

/-! ### the steps -/
section
variable {tail : List Oper} {rest : List (Bool × Nat)} {a : Act} {w : World} {i : Nat} {o : Oper}
/-- what only reads: its value, in every world whose cells are those of w, where w has any -/
theorem wpPlan_float {v : Value} (hi : ops[i]? = some o) (hw : Region.wanted o (yielded ops a.tmps) = true)
    (hy : ∀ w' : World, (∀ p, (w.cell? p).isSome = true → w'.cell? p = w.cell? p) → (execOp a.eval o).run P w' = .ok (.value v) w') (h : ∀ K : Act → Prop, (∀ a', wpPlan P ops Q tail rest a' w → K a') → K (a.put o.dst v)) : wpPlan P ops Q tail ((true, i) :: rest) a w :=
  ⟨o, v, hi, .inl ⟨hw, fun w' hb => hy w' (fun p hp => by
    have hlt : p.block < w.heap.size := by
      cases hc : w.cell? p with
      | none => rw [hc] at hp; cases hp
      | some u => exact block_lt_of_cell hc
    exact hb.cell hlt)⟩, h _ (fun _ h => h)⟩
/-- what comes up alone: a call -/
theorem wpPlan_only (hi : ops[i]? = some o) (hw : Region.wanted o (yielded ops a.tmps) = true)
    (h : ∀ K : Act → World → Prop, (∀ a' w', Below w.heap.size w w' → wpPlan P ops Q tail rest a' w' → K a' w') → o.wp P a w K Q) : wpPlan P ops Q tail ((false, i) :: rest) a w := by
  show wpOp P ops Q i _ a w
  unfold wpOp
  simp only [hi, hw, if_true]
  exact .inl (h _ (fun a' w' hb hp => ⟨hb, hp⟩))
theorem wpPlan_nil (h : wpList P ops Q tail a w) : wpPlan P ops Q tail [] a w := h
end
end
end Go.Proofs.Ytkaohfgpibbkiaa

namespace Go.Proofs.Ytkaohfgpibbkiaa
open Go.RowKit
set_option linter.unusedVariables false

end Go.Proofs.Ytkaohfgpibbkiaa

namespace Go.Proofs.Ytkaohfgpibbkiaa
open Go.RowKit
set_option linter.unusedVariables false

theorem fitsR_len {r : List Nat} {n : Int} (h : ((r.length : Int) = wordsZ n) → False) : fitsR r n = false := by
  unfold fitsR; rw [decide_eq_false h]; rfl

theorem rightM_out {N : Int} {xss : List (List Nat)} (h : N < 0 ∨ 4097 ≤ N) : rightM N xss = false := by
  unfold rightM
  rcases h with h | h
  · rw [decide_eq_false (p := 0 ≤ N) (by omega)]; rfl
  · rw [decide_eq_false (p := N ≤ 4096) (by omega)]; simp
theorem rightM_len {N : Int} {xss : List (List Nat)} (h : (xss.length : Int) ≠ N) : rightM N xss = false := by
  unfold rightM; rw [decide_eq_false h]; simp
theorem rightM_row {N : Int} {xss : List (List Nat)} {k : Nat} {xs : List Nat} (hx : xss[k]? = some xs) (h : fitsR xs N = false) : rightM N xss = false := by
  unfold rightM
  rw [List.all_eq_false.2 ⟨xs, List.mem_of_getElem? hx, by rw [h]; simp⟩, Bool.and_false]
theorem rightM_yes {n : Nat} {xss : List (List Nat)} (h1 : n ≤ 4096) (h2 : xss.length = n) (h : ∀ (k : Nat) (xs : List Nat), xss[k]? = some xs → fitsR xs (n : Int) = true) : rightM (n : Int) xss = true := by
  unfold rightM
  rw [decide_eq_true (p := (0 : Int) ≤ n) (by omega), decide_eq_true (p := (n : Int) ≤ 4096) (by omega), decide_eq_true (p := (xss.length : Int) = n) (by omega)]
  simp only [Bool.true_and, List.all_eq_true]
  intro xs hxs
  obtain ⟨k, hk⟩ := List.getElem?_of_mem hxs
  exact h k xs hk

end Go.Proofs.Ytkaohfgpibbkiaa

namespace Go.Proofs.Ytkaohfgpibbkiaa
open Go.RowKit
set_option linter.unusedVariables false

end Go.Proofs.Ytkaohfgpibbkiaa

namespace Go.Proofs.Ytkaohfgpibbkiaa
open Go.RowKit
set_option linter.unusedVariables false

/-! ### the pairs of a matrix -/

end Go.Proofs.Ytkaohfgpibbkiaa

namespace Go.Proofs.Ytkaohfgpibbkiaa
open Go.RowKit
set_option linter.unusedVariables false

theorem right_parts {N : Int} {xss : List (List Nat)} (h : rightM N xss = true) : 0 ≤ N ∧ N ≤ 4096 ∧ (xss.length : Int) = N ∧ ∀ r ∈ xss, fitsR r N = true := by
  unfold rightM at h
  simp only [Bool.and_eq_true, decide_eq_true_eq, List.all_eq_true] at h
  exact ⟨h.1.1.1, h.1.1.2, h.1.2, h.2⟩
theorem fits_parts {r : List Nat} {N : Int} (h : fitsR r N = true) : (r.length : Int) = wordsZ N ∧ ∀ j : Nat, j < 64 * r.length → N ≤ (j : Int) → hasR r (j : Int) = false := by
  unfold fitsR at h
  simp only [Bool.and_eq_true, decide_eq_true_eq, List.all_eq_true, List.mem_range, Bool.or_eq_true, Bool.not_eq_true'] at h
  exact ⟨h.1, fun j hj hN => (h.2 j hj).resolve_left (by omega)⟩
/-- the rows of a matrix that may be: each of as many words as the number wants, and no bit behind it -/
structure Good (n : Nat) (xss : List (List Nat)) : Prop where
  le : n ≤ 4096
  len : xss.length = n
  row : ∀ r ∈ xss, W64 r ∧ n ≤ 64 * r.length ∧ r.length = (wordsZ (n : Int)).toNat ∧ ∀ j : Nat, n ≤ j → hasR r (j : Int) = false
theorem Good.of {N : Int} {xss : List (List Nat)} (h : rightM N xss = true) (hw : ∀ r ∈ xss, W64 r) : ∃ n : Nat, N = (n : Int) ∧ Good n xss := by
  obtain ⟨h0, h1, h2, h3⟩ := right_parts h
  obtain ⟨n, rfl⟩ := Int.eq_ofNat_of_zero_le h0
  refine ⟨n, rfl, by omega, by omega, fun r hr => ?_⟩
  obtain ⟨f1, f2⟩ := fits_parts (h3 r hr)
  have hp : 0 < n := by
    rcases Nat.eq_zero_or_pos n with rfl | hp
    · have : xss = [] := List.eq_nil_of_length_eq_zero (by omega)
      rw [this] at hr; cases hr
    · exact hp
  have hwp := (words_pos hp).2
  refine ⟨hw r hr, by omega, by omega, fun j hj => ?_⟩
  by_cases hj2 : j < 64 * r.length
  · exact f2 j hj2 (by omega)
  · exact hasR_out _ _ (.inr (by omega))
theorem Good.at_ {n : Nat} {xss : List (List Nat)} (h : Good n xss) {a : Nat} (ha : a < n) : ∃ r, xss[a]? = some r ∧ W64 r ∧ n ≤ 64 * r.length := by
  have hl : a < xss.length := by rw [h.len]; exact ha
  exact ⟨xss[a], List.getElem?_eq_getElem hl, (h.row _ (List.getElem_mem hl)).1, (h.row _ (List.getElem_mem hl)).2.1⟩
theorem Good.small {n : Nat} {xss : List (List Nat)} (h : Good n xss) : ∀ r ∈ xss, r.length ≤ 64 := fun r hr => by
  have := (h.row r hr).2.2.1
  have := words_le h.le
  omega
theorem Good.set {n : Nat} {xss : List (List Nat)} (h : Good n xss) {a b : Nat} (ha : a < n) (hb : b < n) : Good n (setM xss (a : Int) (b : Int)) := by
  obtain ⟨r, hr, hw, hl⟩ := h.at_ ha
  rw [setM_nat hr]
  have hrow := h.row r (List.mem_of_getElem? hr)
  refine ⟨h.le, by rw [List.length_set]; exact h.len, fun r' hr' => ?_⟩
  rcases List.mem_or_eq_of_mem_set hr' with h1 | rfl
  · exact h.row r' h1
  · refine ⟨setR_w64 hw b, by rw [setR_len]; exact hl, by rw [setR_len]; exact hrow.2.2.1, fun j hj => ?_⟩
    rw [hasR_setR r b j (by omega), hrow.2.2.2 j hj, decide_eq_false (by omega)]; rfl

theorem set_at {α : Type} {xss : List α} {a : Nat} {r r' : α} (h : xss[a]? = some r) : (xss.set a r')[a]? = some r' := by
  rw [List.getElem?_set, if_pos rfl, if_pos (List.getElem?_eq_some_iff.1 h).1]
theorem sum_set : ∀ (l : List Nat) (i x y : Nat), l[i]? = some y → (l.set i x).sum + y = l.sum + x
  | [], i, x, y, h => by simp at h
  | z :: l, 0, x, y, h => by
    simp at h; subst h
    simp only [List.set_cons_zero, List.sum_cons]; omega
  | z :: l, i + 1, x, y, h => by
    have := sum_set l i x y (by simpa using h)
    simp only [List.set_cons_succ, List.sum_cons]; omega

end Go.Proofs.Ytkaohfgpibbkiaa

namespace Go.Proofs.Ytkaohfgpibbkiaa

/-! ### one size: the rows, one by one -/

/-! ### the bits -/

end Go.Proofs.Ytkaohfgpibbkiaa

namespace Go.Proofs.Ytkaohfgpibbkiaa
open Go.RowKit
set_option linter.unusedVariables false

end Go.Proofs.Ytkaohfgpibbkiaa

namespace Go.Proofs.Ytkaohfgpibbkiaa
open Go.RowKit

section
variable {P : Program} {ops : Array Oper} {rest : List Oper} {op : Oper} {a : Act} {w : World} {Q : Exit → Act → World → Prop}
end

end Go.Proofs.Ytkaohfgpibbkiaa

namespace Go.Proofs.Ytkaohfgpibbkiaa
open Go.RowKit
set_option linter.unusedVariables false

end Go.Proofs.Ytkaohfgpibbkiaa

namespace Go.Proofs.Ytkaohfgpibbkiaa
open Go.RowKit
set_option linter.unusedVariables false

end Go.Proofs.Ytkaohfgpibbkiaa

namespace Go.Proofs.Ytkaohfgpibbkiaa
open Go.RowKit
set_option linter.unusedVariables false

end Go.Proofs.Ytkaohfgpibbkiaa

namespace Go.Proofs.Ytkaohfgpibbkiaa
open Go.RowKit
set_option linter.unusedVariables false

theorem hasM_setM {n : Nat} {xss : List (List Nat)} (h : Good n xss) {a b : Nat} (ha : a < n) (hb : b < n) (i j : Nat) : hasM (setM xss (a : Int) (b : Int)) (i : Int) (j : Int) = (hasM xss (i : Int) (j : Int) || decide (i = a ∧ j = b)) := by
  obtain ⟨r, hr, hw, hl⟩ := h.at_ ha
  rw [setM_nat hr]
  by_cases hia : i = a
  · subst hia
    rw [hasM_in (set_at hr), hasM_in hr, hasR_setR r b j (by omega)]
    congr 1
    simp
  · rw [decide_eq_false (by omega), Bool.or_false]
    by_cases hi : i < xss.length
    · have hx : xss[i]? = some xss[i] := List.getElem?_eq_getElem hi
      rw [hasM_in hx, hasM_in (xs := xss[i]) (by rw [List.getElem?_set, if_neg (Ne.symm hia)]; exact hx)]
    · rw [hasM_out (xss := xss) (.inr (by omega)), hasM_out (xss := xss.set a (setR r (b : Int))) (.inr (by rw [List.length_set]; omega))]
theorem Good.new {n : Nat} (hn : n ≤ 4096) : Good n (newM n) := by
  refine ⟨hn, by simp [newM], fun r hr => ?_⟩
  have hp : 0 < n := by
    rcases Nat.eq_zero_or_pos n with rfl | hp
    · simp [newM] at hr
    · exact hp
  have he : r = List.replicate (wordsZ (n : Int)).toNat 0 := by unfold newM at hr; exact (List.mem_replicate.1 hr).2
  subst he
  refine ⟨fun x hx => by rw [(List.mem_replicate.1 hx).2]; omega, by rw [List.length_replicate]; exact (words_pos hp).2, by rw [List.length_replicate], fun j _ => hasR_zeros _ _⟩
theorem newM_has (n i j : Nat) : hasM (newM n) (i : Int) (j : Int) = false := by
  by_cases hi : i < n
  · rw [hasM_in (xs := List.replicate (wordsZ (n : Int)).toNat 0) (by unfold newM; rw [List.getElem?_replicate, if_pos hi])]; exact hasR_zeros _ _
  · exact hasM_out (.inr (by simp [newM]; omega))
theorem good_ext {n : Nat} {a b : List (List Nat)} (ha : Good n a) (hb : Good n b) (h : ∀ i j : Nat, i < n → j < n → hasM a (i : Int) (j : Int) = hasM b (i : Int) (j : Int)) : a = b := by
  apply List.ext_getElem?
  intro i
  by_cases hi : i < n
  · obtain ⟨r, hr, hw, hl⟩ := ha.at_ hi
    obtain ⟨s, hs, hw2, hl2⟩ := hb.at_ hi
    rw [hr, hs]
    have h1 := ha.row r (List.mem_of_getElem? hr)
    have h2 := hb.row s (List.mem_of_getElem? hs)
    congr 1
    refine row_ext hw hw2 (by rw [h1.2.2.1, h2.2.2.1]) (fun j _ => ?_)
    by_cases hj : j < n
    · have := h i j hi hj
      rw [hasM_in hr, hasM_in hs] at this; exact this
    · rw [h1.2.2.2 j (by omega), h2.2.2.2 j (by omega)]
  · rw [List.getElem?_eq_none (by rw [ha.len]; omega), List.getElem?_eq_none (by rw [hb.len]; omega)]
theorem Good.has_lt {n : Nat} {xss : List (List Nat)} (h : Good n xss) {i j : Nat} (hh : hasM xss (i : Int) (j : Int) = true) : i < n ∧ j < n := by
  by_cases hi : i < n
  · obtain ⟨r, hr, hw, hl⟩ := h.at_ hi
    refine ⟨hi, ?_⟩
    by_cases hj : j < n
    · exact hj
    · rw [hasM_in hr, (h.row r (List.mem_of_getElem? hr)).2.2.2 j (by omega)] at hh; cases hh
  · rw [hasM_out (.inr (by rw [h.len]; omega))] at hh; cases hh

theorem words_one {n : Nat} (h0 : 0 < n) (h : n < 64) : (wordsZ (n : Int)).toNat = 1 := by
  unfold wordsZ; rw [if_neg (by omega)]; omega
theorem Good.one {n : Nat} {xss : List (List Nat)} (h : Good n xss) (hn : n < 64) : ∀ r ∈ xss, r.length = 1 := fun r hr => by
  have hp : 0 < n := by
    rcases Nat.eq_zero_or_pos n with rfl | hp
    · have : xss = [] := List.eq_nil_of_length_eq_zero h.len
      rw [this] at hr; cases hr
    · exact hp
  rw [(h.row r hr).2.2.1, words_one hp hn]

end Go.Proofs.Ytkaohfgpibbkiaa
