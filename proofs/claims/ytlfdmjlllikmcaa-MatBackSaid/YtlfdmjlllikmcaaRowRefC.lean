/- Contracts of the document's own answers for rows: Set. -/
import Derived.Test.YtlfdmjlllikmcaaRowRefB
namespace Go.Proofs.Ytlfdmjlllikmcaa
open Go.RowKit
set_option linter.unusedVariables false

theorem ref_BitN (r : Nat) (hr : r < 64) (w : World) : Calls Try.prog 62 #[.int .i64 (r : Int)] w fun e w' => e = .returned (.int .u64 (p2 r : Nat)) ∧ w = w' := by
  have h := ref_Bit (r : Int) (by omega) (by omega) w
  rwa [bitZ_p2 (r : Int) (by omega) (by omega), Int.toNat_natCast] at h
set_option maxRecDepth 100000 in
set_option maxHeartbeats 1000000 in
theorem ref2_SetO (A : Option Addr) (n c : Nat) (xs : List Nat) (i : Int) (w : World) (hr : Row w A n xs) (hn : n ≤ 1073741824) (h1 : -9223372036854775808 ≤ i) (h2 : i < 9223372036854775808) :
    Calls Try.prog 38 #[.slice A n c, .int .i64 i] w (RetRowO 47 (setR xs i) w) := by
  obtain ⟨i0, hi, hz0, hz1, hz2⟩ := info_parts info_u64
  replace hi := Lib.hid hi
  replace hz0 := Lib.hid hz0
  replace hz1 := Lib.hid hz1
  replace hz2 := Lib.hid hz2
  have hl := hr.len
  have hlt := Lib.hid hr.2
  have hlit : (w.alloc (.cells #[] 47)).ownsRow w.heap.size 47 1 (.slice (some ⟨w.heap.size, 0, none⟩) 0 0) 0 [] := by
    have h := World.ownsRow_lit (size := 1) (base := w.heap.size) (e := 47) w #[] 0 (Nat.le_refl _) (by omega) (by simp)
    simpa using h
  have hb0 : Below w.heap.size w (w.alloc (.cells #[] 47)) := (Below.refl _ _).alloc (Nat.le_refl _) _
  have hrd : Rd (w.alloc (.cells #[] 47)) A n (xs.map u64v) := hr.1.below hb0
  have hH := ref2_Has A n c xs i
  have hr0 := Lib.hid hr
  by_cases hin : 0 ≤ i ∧ i < 64 * (n : Int)
  · obtain ⟨m, rfl⟩ := Int.eq_ofNat_of_zero_le hin.1
    obtain ⟨hi1, hi2⟩ := hin
    have hm : m < 64 * n := by omega
    obtain ⟨x, hx⟩ : ∃ x, xs[m / 64]? = some x := ⟨_, List.getElem?_eq_getElem (by omega)⟩
    have hx64 : x < 18446744073709551616 := hlt.out x (List.mem_of_getElem? hx)
    have hS := setR_in (m := m) (by omega) hx
    have hHin := hasR_in xs m x hx
    rw [hasB_nat] at hHin
    obtain ⟨r, hre⟩ : ∃ r, r = m % 64 := ⟨_, rfl⟩
    have hr64 : r < 64 := by omega
    rw [← hre] at hS hHin
    rcases Bool.eq_false_or_eq_true (x.testBit r) with ht | ht
    · rw [or_same x r ht] at hS
      have hset : xs.set (m / 64) x = xs := by
        apply List.ext_getElem?; intro j
        rw [List.getElem?_set]
        by_cases hj : m / 64 = j
        · subst hj; rw [if_pos rfl, if_pos (by omega), hx]
        · rw [if_neg hj]
      rw [hset] at hS
      rw [ht] at hHin
      replace hS := Lib.hid hS
      replace hHin := Lib.hid hHin
      have hl' := Lib.hid hl
      replace hH := Lib.hid hH
      clear hl hre ht hset hx hr
      go_enter Try.func38, Try.ntmps38
      go_wp2_with (first
        | (at_builtin; refine wpList_append_rd rfl (.tmp 6) (.tmp 7) _ rfl w.heap.size 47 i0 _ 8 Try.underlying45 hi.out hz0.out hz1.out hz2.out rfl _ 0 _ (by rfl) hlit A n c _ rfl hrd (by simp [u64v, Value.oneCell']) (by unfold maxLen; omega) (by omega) hb0.size ?_; intro v1 w1 hown1 hbb hform; simp only [Nat.zero_add, List.nil_append] at hown1 hform; obtain ⟨g, cap, rfl⟩ := hform (by omega); have hb1 := hb0.trans hbb; have hrr := Lib.hid (hr0.out.below hb1); clear hbb hlit hb0 hrd)
        | (go_at_call 34; refine (hH.out _ hrr.out hn h1 h2).mono ?_; rintro e w' ⟨rfl, rfl⟩; rw [hHin.out]))
      go_ret
      rw [hS.out]
      exact own_ret hown1 hlt.out (hb1)
    · rw [← add_or x r ht] at hS
      rw [ht] at hHin
      have hE := add_or x r ht
      have hO := or_p2_lt hx64 hr64
      rw [← hE] at hO
      replace hO := Lib.hid hO
      replace hS := Lib.hid hS
      replace hHin := Lib.hid hHin
      replace hx := Lib.hid hx
      have hl' := Lib.hid hl
      replace hH := Lib.hid hH
      have hrem : (m : Int) % 64 = (r : Int) := by omega
      have hp2 := p2_lt r hr64
      have hp20 := p2_pos r
      clear hl hre ht hE hr
      go_enter Try.func38, Try.ntmps38
      go_wp2_with (first
        | (at_builtin; refine wpList_append_rd rfl (.tmp 6) (.tmp 7) _ rfl w.heap.size 47 i0 _ 8 Try.underlying45 hi.out hz0.out hz1.out hz2.out rfl _ 0 _ (by rfl) hlit A n c _ rfl hrd (by simp [u64v, Value.oneCell']) (by unfold maxLen; omega) (by omega) hb0.size ?_; intro v1 w1 hown1 hbb hform; simp only [Nat.zero_add, List.nil_append] at hown1 hform; obtain ⟨g, cap, rfl⟩ := hform (by omega); have hb1 := hb0.trans hbb; have hrr := Lib.hid (hr0.out.below hb1); clear hbb hlit hb0 hrd)
        | (go_at_call 34; refine (hH.out _ hrr.out hn h1 h2).mono ?_; rintro e w' ⟨rfl, rfl⟩; rw [hHin.out]))
      have hc : w1.cell? ⟨g, m / 64, none⟩ = some (.int .u64 (x : Int)) := by
        rw [hown1.cellAt _ (by omega), List.getElem?_map, hx.out]; rfl
      have hf := hown1.frozenAt (m / 64)
      have hg := (hown1.lt g rfl).1
      have hA1 : (0 : Int) ≤ (m : Int) / 64 := by omega
      have hA2 : (m : Int) / 64 < (n : Int) := by omega
      have hA3 : ((m : Int) / 64).toNat = m / 64 := by omega
      refine still_tail 13 (by kernel_rfl) (by kernel_rfl) (fun W hW => ?_)
      have hc' : W.cell? ⟨g, m / 64, none⟩ = some (.int .u64 (x : Int)) := by rw [hW.out]; exact hc
      have hf' : W.frozen? ⟨g, m / 64, none⟩ = false := by rw [hW.out]; exact hf
      have hown' : W.ownsRow w.heap.size 47 1 (.slice (some ⟨g, 0, none⟩) n cap) n (xs.map u64v) := by rw [hW.out]; exact hown1.drew
      have hb' : Below w.heap.size w W := by rw [hW.out]; exact hb1.drew
      clear hc hf hb1 hown1
      simp only [List.take_succ_cons, List.take_zero, List.drop_succ_cons, List.drop_zero]
      have htd : (m : Int).tdiv 64 = (m : Int) / 64 := Int.tdiv_eq_ediv_of_nonneg hi1
      have htm : (m : Int).tmod 64 = (r : Int) := by rw [Int.tmod_eq_emod_of_nonneg hi1]; exact hrem
      have hsum : IntKind.u64.wrap ((x : Int) + (p2 r : Nat)) = ((x + p2 r : Nat) : Int) := by
        have := hO.out
        rw [IntKind.wrap_u64]; omega
      have hw1 : IntKind.i64.wrap ((m : Int) / 64) = (m : Int) / 64 := by rw [IntKind.wrap_i64]; omega
      have hw2 : IntKind.i64.wrap (r : Int) = (r : Int) := by rw [IntKind.wrap_i64]; omega
      clear hrem
      repeat still_step
      refine wpStill_step (fun K hK => ?_)
      go_simp
      refine ⟨_, still_call (ref_BitN r hr64 _), hK _ ?_⟩
      clear hK K
      repeat still_step
      refine wpStill_nil ?_
      clear htd htm hw1 hw2 hsum
      go_wp2
      go_ret
      rw [hS.out, show (x : Int) + (p2 r : Nat) = ((x + p2 r : Nat) : Int) from by omega]
      refine own_ret (c := cap) ?_ (mem_set_lt hlt.out hO.out) (hb'.setCell hg _)
      rw [List.map_set]
      exact (hown'.stored _ _).1
  · have hS := Lib.hid (setR_out (xs := xs) (i := i) (by omega))
    clear hl hr hH
    have hdec : (0 ≤ i ∧ ¬ i < 64 * (n : Int)) ∨ ¬ 0 ≤ i := by omega
    clear hin
    rcases hdec with ⟨d1, d2⟩ | d1
    all_goals
      go_enter Try.func38, Try.ntmps38
      go_wp2_with (at_builtin; refine wpList_append_rd rfl (.tmp 6) (.tmp 7) _ rfl w.heap.size 47 i0 _ 8 Try.underlying45 hi.out hz0.out hz1.out hz2.out rfl _ 0 _ (by rfl) hlit A n c _ rfl hrd (by simp [u64v, Value.oneCell']) (by unfold maxLen; omega) (by omega) hb0.size ?_; intro v1 w1 hown1 hbb hform; simp only [Nat.zero_add, List.nil_append] at hown1 hform; have hb1 := hb0.trans hbb; clear hbb hlit hb0 hrd hform)
      obtain ⟨A2, c2, rfl, hrd2⟩ := Rd.of_own hown1
      go_ret
      rw [hS.out]
      exact own_ret hown1 hlt.out hb1
theorem ref2_Set (A : Option Addr) (n c : Nat) (xs : List Nat) (i : Int) (w : World) (hr : Row w A n xs) (hn : n ≤ 1073741824) (h1 : -9223372036854775808 ≤ i) (h2 : i < 9223372036854775808) :
    Calls Try.prog 38 #[.slice A n c, .int .i64 i] w (RetRow (setR xs i) w) := (ref2_SetO A n c xs i w hr hn h1 h2).mono fun _ _ h => h.row

end Go.Proofs.Ytlfdmjlllikmcaa
