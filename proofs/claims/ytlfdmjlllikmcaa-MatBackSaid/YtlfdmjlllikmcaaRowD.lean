/- Contracts of package row: List. -/
import Derived.Test.YtlfdmjlllikmcaaRowC
namespace Go.Proofs.Ytlfdmjlllikmcaa
open Go.RowKit
set_option linter.unusedVariables false

/-- the numbers without a sign, as cells -/
def natv (i : Nat) : Value := .int .i64 (i : Int)
theorem natv_ints (l : List Nat) : l.map natv = (l.map Int.ofNat).map i64v := by
  rw [List.map_map]; rfl
theorem own_ints {w : World} {base n : Nat} {e : TypeId} {v : Value} {zs : List Nat} (h : w.ownsRow base e 1 v n (zs.map natv)) (hx : ∀ x ∈ zs, x < 9223372036854775808) : ∃ A c, v = .slice A n c ∧ Ints w A n (zs.map Int.ofNat) := by
  obtain ⟨A, c, hv, hr⟩ := Rd.of_own h
  refine ⟨A, c, hv, by rw [← natv_ints]; exact hr, fun x hx' => ?_⟩
  obtain ⟨i, hi, rfl⟩ := List.mem_map.1 hx'
  have := hx i hi
  show -9223372036854775808 ≤ (i : Int) ∧ (i : Int) < 9223372036854775808
  omega
theorem off_eq (x i : Nat) (hx : x < 18446744073709551616) (hi : i < 64) : bits BinOp.andNot IntKind.u64 (x : Int) (p2 i : Nat) = (offN x i : Nat) := by
  have := p2_lt i hi
  exact u64_andNot_nat x (p2 i) hx (by omega)

set_option maxHeartbeats 1000000 in
theorem row_ListO (A : Option Addr) (n c : Nat) (xs : List Nat) (w : World) (hr : Row w A n xs) (hn : n ≤ 1073741824) :
    Calls Try.prog 44 #[.slice A n c] w (RetIntsO 3 (listR xs) w) := by
  have hcn := Lib.hid (row_Count A n c xs w hr (by omega))
  have hl := Lib.hid hr.len
  have hcle : countR xs ≤ 64 * n := by have := countR_le xs; rw [hr.len] at this; exact this
  have hmk := mk_int .i64 .i64 0 (countR xs) (by omega) (by omega)
  rw [show ((0 : Nat) : Int) = 0 from rfl] at hmk
  obtain ⟨i0, hi, hz0, hz1, hz2⟩ := info_parts info_int
  replace hi := Lib.hid hi
  replace hz0 := Lib.hid hz0
  replace hz1 := Lib.hid hz1
  replace hz2 := Lib.hid hz2
  replace hr := Lib.hid hr
  go_enter Try.func44, Try.ntmps44
  go_wp2_with fail
  refine hcn.out.mono ?_; rintro e w' ⟨rfl, rfl⟩
  have hown0 := World.ownsRow_made (base := w.heap.size) (e := 3) (size := 1) w (zeros (countR xs) (.int .i64 0)) (countR xs) (Nat.le_refl _) (by unfold maxLen; omega) (by simp [zeros])
  have hb0 : Below w.heap.size w (w.alloc (.cells (zeros (countR xs) (.int .i64 0)) 3)) := (Below.refl _ _).alloc (Nat.le_refl _) _
  go_wp2
  go_loopw [3, 12] (fun l i wr => ∃ k : Nat, k ≤ n ∧ i = .int .i64 k ∧ wr.ownsRow w.heap.size 3 1 l (listK xs k).length ((listK xs k).map natv) ∧ Below w.heap.size w wr) (fun _ i _ => n - (intOf i).toNat)
  case atStart => exact ⟨0, Nat.zero_le _, rfl, hown0, hb0⟩
  case round =>
    obtain ⟨k, hk, rfl, hown, hb⟩ := hrel
    clear hown0 hb0 hmk
    by_cases hlt : k < n
    · obtain ⟨b, off, x, rfl, hbk, hx, hx64, hc⟩ := (hr.out.below hb).at_ hlt
      have hst := Lib.hid (listK_succ xs k x hx)
      clear hx
      go_wp2
      go_loopw [3, 5] (fun l v wi => ∃ (D : List Nat) (r : Nat), r < 18446744073709551616 ∧ v = .int .u64 r ∧ Hid (D ++ (bitsOf r).map (64 * k + ·) = listK xs (k + 1)) ∧ wi.ownsRow w.heap.size 3 1 l D.length (D.map natv) ∧ Below w.heap.size w wi) (fun _ v _ => (bitsOf (intOf v).toNat).length)
      case atStart => exact ⟨_, x, hx64, rfl, Lib.hid hst.out.symm, hown, hb⟩
      case round =>
        obtain ⟨D, r, hr64, rfl, hD, hownD, hbD⟩ := hrel
        clear hown hb hc
        by_cases h0 : r = 0
        · subst h0
          have hD' := hD.out
          rw [bitsOf_zero, List.map_nil, List.append_nil] at hD'
          rw [hD'] at hownD
          clear hD hD' hst
          go_wp2
          go_roundw
          case rel => exact ⟨k + 1, by omega, by go_num, hownD, hbD⟩
          case measure => simp [intOf]; omega
        · have hbs := bitsOf_step r hr64 h0
          have hl64 := low0_lt r hr64 h0
          obtain ⟨i, hie⟩ : ∃ i, i = low0 r := ⟨_, rfl⟩
          have hne : ((r : Int) != 0) = true := by rw [bne_iff_ne]; omega
          have hoff := off_eq r i hr64 (by omega)
          have hof64 := offN_lt r i hr64
          have hfirst := word_First r hr64
          rw [← hie] at hbs hl64 hfirst
          have hDl : D.length ≤ 64 * (k + 1) := by
            have := listK_len xs (k + 1)
            rw [← hD.out, List.length_append] at this; omega
          have hD2 : Hid ((D ++ [64 * k + i]) ++ (bitsOf (offN r i)).map (64 * k + ·) = listK xs (k + 1)) := Lib.hid (by
            rw [← hD.out, hbs]; simp)
          have hlen : (bitsOf r).length = (bitsOf (offN r i)).length + 1 := by rw [hbs]; rfl
          replace hlen := Lib.hid hlen
          replace hoff := Lib.hid hoff
          replace hfirst := Lib.hid hfirst
          clear hbs hie hD hst h0
          go_wp2_with fail
          refine (hfirst.out _).mono ?_; rintro e w' ⟨rfl, rfl⟩
          go_wp2_with (first
            | (at_builtin; refine wpList_append_lies _ rfl (.tmp 21) (.tmp 26) _ rfl w.heap.size 3 i0 _ 1 8 Try.underlying56 hi.out hz0.out hz1.out hz2.out rfl (by omega) _ _ _ (by rfl) (hownD.alloc _) ⟨wr.heap.size, 0, none⟩ 1 1 [.int .i64 ((k : Int) * 64 + i)] rfl rfl (cell_one_new _ _ _) (by simp [Value.oneCell']) (by omega) (by unfold maxLen; omega) (by omega) (by have := hbD.size; simp; omega) _ rfl ?_; intro g cap w1 hown1 hgrow hat hlt1; have hb1 := (hbD.alloc hbD.size _).grown hgrow (by have := hbD.size; simp; omega) (own_lt_block hownD); clear hgrow hat hlt1)
            | (go_at_call 61; refine (word_BitN i hl64 _).mono ?_; rintro e w' ⟨rfl, rfl⟩))
          go_roundw
          case rel =>
            refine ⟨D ++ [64 * k + i], offN r i, hof64, by rw [hoff.out], hD2, ?_, hb1⟩
            rw [List.length_append, List.map_append]
            have e : natv (64 * k + i) = .int .i64 ((k : Int) * 64 + i) := by unfold natv; rw [show ((64 * k + i : Nat) : Int) = (k : Int) * 64 + i from by omega]
            rw [List.map_cons, List.map_nil, e]
            exact hown1
          case measure =>
            rw [hoff.out]; simp only [intOf, Int.toNat_natCast]; rw [hlen.out]; omega
    · obtain rfl : k = n := by omega
      have he : listK xs k = listN xs := by rw [← hl.out]; exact listK_all xs
      rw [he] at hown
      have hb64 : ∀ i ∈ listN xs, i < 9223372036854775808 := fun i hi' => by
        have := listK_lt xs xs.length i hi'
        rw [hl.out] at this; omega
      obtain ⟨A', c', rfl, hI⟩ := own_ints hown hb64
      have hO := hown
      rw [natv_ints] at hO
      clear he hb64 hown
      go_wp2
      go_ret
      exact ⟨_, _, _, rfl, hO, hI.2, hb⟩
theorem row_List (A : Option Addr) (n c : Nat) (xs : List Nat) (w : World) (hr : Row w A n xs) (hn : n ≤ 1073741824) :
    Calls Try.prog 44 #[.slice A n c] w (RetInts (listR xs) w) := (row_ListO A n c xs w hr hn).mono fun _ _ h => h.ints

end Go.Proofs.Ytlfdmjlllikmcaa
