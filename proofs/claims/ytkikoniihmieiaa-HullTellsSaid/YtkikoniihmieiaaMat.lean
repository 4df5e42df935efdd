/- Contracts of package mat: below, fits, Has; and of the document's own answers: in, Has, Small. -/
import Derived.Test.YtkikoniihmieiaaRowRef
import Derived.Test.YtkikoniihmieiaaMatMem
import Derived.Test.YtkikoniihmieiaaMatMath
import Derived.Deep.RegionHeld3
import Derived.Deep.DrawnRows
namespace Go.Proofs.Ytkikoniihmieiaa
open Go.RowKit
set_option linter.unusedVariables false

theorem bcell {W w1 : World} (hb : Below W.heap.size W w1) : (∀ b o, b < W.heap.size → w1.cell? ⟨b, o, none⟩ = W.cell? ⟨b, o, none⟩) ∧ (∀ b o, b < W.heap.size → w1.frozen? ⟨b, o, none⟩ = W.frozen? ⟨b, o, none⟩) :=
  ⟨fun b o h => hb.cell (p := ⟨b, o, none⟩) h, fun b o h => hb.frozen (p := ⟨b, o, none⟩) h⟩

set_option maxHeartbeats 400000 in
theorem mat_below (i n : Int) (w : World) :
    Calls Try.prog 42 #[.int .i64 i, .int .i64 n] w fun e w' => e = .returned (.bool (belowZ i n)) ∧ w = w' := by
  by_cases h0 : 0 ≤ i
  · by_cases h1 : i < n
    · have H := Lib.hid (belowZ_yes h0 h1)
      go_enter Try.func42, Try.ntmps42
      go_wp2
      go_ret
      rw [H.out]; exact ⟨rfl, rfl⟩
    · have H := Lib.hid (belowZ_no (i := i) (n := n) (by omega))
      go_enter Try.func42, Try.ntmps42
      go_wp2
      go_ret
      rw [H.out]; exact ⟨rfl, rfl⟩
  · have H := Lib.hid (belowZ_no (i := i) (n := n) (by omega))
    go_enter Try.func42, Try.ntmps42
    go_wp2
    go_ret
    rw [H.out]; exact ⟨rfl, rfl⟩

set_option maxHeartbeats 400000 in
theorem mat_Has (N : Int) (A : Option Addr) (n c : Nat) (xss : List (List Nat)) (i j : Int) (w : World) (hr : RowsAt w A n xss) (hn : n ≤ 1073741824) (hl : ∀ xs ∈ xss, xs.length ≤ 1073741824)
    (h1 : -9223372036854775808 ≤ i) (h2 : i < 9223372036854775808) (h3 : -9223372036854775808 ≤ j) (h4 : j < 9223372036854775808) :
    Calls Try.prog 16 #[.agg #[.int .i64 N, .slice A n c], .int .i64 i, .int .i64 j] w (RetB (hasM xss i j) w) := by
  have hlen := hr.len
  by_cases h : 0 ≤ i ∧ i < (n : Int)
  · obtain ⟨k, rfl⟩ := Int.eq_ofNat_of_zero_le h.1
    have hk : k < n := by omega
    have hb := Lib.hid (belowZ_yes (i := (k : Int)) (n := (n : Int)) (by omega) (by omega))
    have ha : Below w.heap.size w (w.alloc (.cells #[.int .i64 N, .slice A n c] 24)) := (Below.refl _ _).alloc (Nat.le_refl _) _
    obtain ⟨b, off, B, m, d, xs, rfl, hbl, hx, hc, hxr⟩ := (hr.below ha).at_ hk
    have hm : m ≤ 1073741824 := by have := hxr.len; have := hl xs (List.mem_of_getElem? hx); omega
    have H := Lib.hid (hasM_in (j := j) hx)
    have hR := Lib.hid (fun W (hW : Row W B m xs) => row_Has B m d xs j W hW (by omega) h3 h4)
    replace hxr := Lib.hid hxr
    have hk0 : (0 : Int) ≤ (k : Int) := by omega
    have hkn : (k : Int) < (n : Int) := by omega
    clear h hx hr hlen hl
    replace ha := Lib.hid ha
    go_enter Try.func16, Try.ntmps16
    go_wp2_with fail
    refine (mat_below _ _ _).mono ?_; rintro e w' ⟨rfl, rfl⟩
    rw [hb.out]
    go_wp2_with fail
    refine (hR.out _ hxr.out).mono ?_; rintro e w' ⟨rfl, rfl⟩
    go_wp2
    go_ret
    rw [H.out]; exact ⟨rfl, ha.out⟩
  · have hb := Lib.hid (belowZ_no (i := i) (n := (n : Int)) (by omega))
    have H := Lib.hid (hasM_out (xss := xss) (i := i) (j := j) (by omega))
    have ha : Below w.heap.size w (w.alloc (.cells #[.int .i64 N, .slice A n c] 24)) := (Below.refl _ _).alloc (Nat.le_refl _) _
    clear h hlen hr hl
    replace ha := Lib.hid ha
    go_enter Try.func16, Try.ntmps16
    go_wp2_with fail
    refine (mat_below _ _ _).mono ?_; rintro e w' ⟨rfl, rfl⟩
    rw [hb.out]
    go_wp2
    go_ret
    rw [H.out]; exact ⟨rfl, ha.out⟩

end Go.Proofs.Ytkikoniihmieiaa
