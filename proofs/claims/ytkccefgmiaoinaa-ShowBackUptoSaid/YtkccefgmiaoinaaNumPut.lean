/- The contract of the document's own answer of layer 5: Put. -/
import Derived.Test.YtkccefgmiaoinaaProg
import Derived.Test.YtkccefgmiaoinaaNumMath
import Derived.Laws.IdiomStrings
import Derived.Below
import Derived.Lib.Hide
namespace Go.Proofs.Ytkccefgmiaoinaa
open Go.RowKit
set_option linter.unusedVariables false

theorem tdiv10 (z : Int) : (z.tdiv 10).natAbs = z.natAbs / 10 := by rw [Int.natAbs_tdiv]; rfl
theorem tmod10 (z : Int) : (z.tmod 10).natAbs = z.natAbs % 10 := by rw [Int.natAbs_tmod]; rfl

theorem conv_one {P : Program} (w : World) (src dst e : TypeId) (g : Nat) (c : UInt8) (hc : c.toNat = 48 + g) (hs : P.underlying src = some (.slice e)) (he : P.underlying e = some (.int .u8)) (hd : P.underlying dst = some .string) :
    (convert src dst (.slice (some ⟨w.heap.size, 0, none⟩) 1 1)).run P (w.alloc (.cells #[.int .u8 (48 + (g : Int))] e)) = .ok (.string ⟨#[c]⟩) (w.alloc (.cells #[.int .u8 (48 + (g : Int))] e)) := by
  refine run_convert_bytes_back _ src dst e ⟨w.heap.size, 0, none⟩ 1 [c] hs he hd (fun j hj => ?_)
  obtain rfl : j = 0 := by simp at hj; exact hj
  have e1 : (⟨w.heap.size, 0, none⟩ : Addr).add 0 = ⟨w.heap.size, 0, none⟩ := rfl
  rw [e1, World.cell?_alloc_mark]
  simp; omega
theorem one_append (c : UInt8) (l : List UInt8) : (⟨#[c]⟩ ++ ⟨l.toArray⟩ : ByteArray) = ⟨(c :: l).toArray⟩ := ByteArray.mk_append_mk [c] l

theorem below_alloc2 {a w : World} (h : Below a.heap.size a w) (o : Obj) : Below a.heap.size a (w.alloc o) := h.alloc h.size o
set_option maxRecDepth 100000 in
set_option maxHeartbeats 4000000 in
theorem ref5_Put (n : Int) (w : World) (n0 : -9223372036854775808 ≤ n) (n1 : n < 9223372036854775808) :
    Calls Try.prog 21 #[.int .i64 n] w fun e w' => e = .returned (.string ⟨(putL n).toArray⟩) ∧ Below w.heap.size w w' := by
  go_enter Try.func21, Try.ntmps21
  go_wp2_with fail
  go_loopw [3, 4] (fun s k W => ∃ (z : Int) (l : List UInt8), k = .int .i64 z ∧ s = .string ⟨l.toArray⟩ ∧ -9223372036854775808 ≤ z ∧ z < 9223372036854775808 ∧ decL n.natAbs = decL z.natAbs ++ l ∧ Below w.heap.size w W) (fun _ k _ => (intOf k).natAbs)
  case atStart => exact ⟨n, [], rfl, rfl, n0, n1, by simp, Below.refl _ _⟩
  case round =>
    obtain ⟨z, l, rfl, rfl, z0, z1, hdec, bb⟩ := hrel
    replace bb := Lib.hid bb
    have hll : l.length ≤ 20 := by
      have h := decL_length 19 n.natAbs (by omega)
      rw [hdec, List.length_append] at h
      omega
    obtain ⟨y, hy⟩ : ∃ y, z.tdiv 10 = y := ⟨_, rfl⟩
    obtain ⟨r, hr⟩ : ∃ r, z.tmod 10 = r := ⟨_, rfl⟩
    obtain ⟨g, hg⟩ : ∃ g : Nat, g = z.natAbs % 10 := ⟨_, rfl⟩
    have hg9 : g ≤ 9 := by omega
    have hyq := tdiv10 z
    have hrg := tmod10 z
    rw [hy] at hyq
    rw [hr, ← hg] at hrg
    have y0 : -9223372036854775808 ≤ y := by omega
    have y1 : y < 9223372036854775808 := by omega
    obtain ⟨c, hc⟩ : ∃ c : UInt8, c = UInt8.ofNat (48 + g) := ⟨_, rfl⟩
    have hcn : c.toNat = 48 + g := by rw [hc, UInt8.toNat_ofNat']; omega
    have hfin : Hid (y = 0 → decL n.natAbs = c :: l) := Lib.hid (fun h => by
      rw [hdec, decL_small (by omega), hc, show z.natAbs = g from by omega]; rfl)
    have hstep : Hid (y ≠ 0 → decL n.natAbs = decL y.natAbs ++ (c :: l) ∧ y.natAbs < z.natAbs) := Lib.hid (fun h => by
      refine ⟨?_, by omega⟩
      rw [hdec, decL_step (by omega), ← hyq, ← hg, ← hc, List.append_assoc]; rfl)
    have hcv := conv_one (P := Try.prog) wr 41 9 5 g c hcn (by kernel_rfl) (by kernel_rfl) (by kernel_rfl)
    clear hcn
    replace hdec := Lib.hid hdec
    replace hg := Lib.hid hg
    replace hc := Lib.hid hc
    by_cases hr0 : r < 0
    · obtain rfl : r = -(g : Int) := by omega
      have hg0 : (0 : Int) < (g : Int) := by omega
      clear hr0 hyq hrg
      go_wp2_with fail
      · have hn : n < 0 := by assumption
        have hy0 : (y == 0) = true := by assumption
        have hf := hfin.out (by simpa using hy0)
        refine bodyPost_ret (v := .string ⟨(45 :: c :: l).toArray⟩) (by simp [results, go_sem, one_append]) rfl ⟨?_, ?_⟩
        · unfold putL; rw [if_pos hn, hf]; rfl
        · exact below_alloc2 bb.out _
      · have hn : 0 ≤ n := by assumption
        have hy0 : (y == 0) = true := by assumption
        have hf := hfin.out (by simpa using hy0)
        refine bodyPost_ret (v := .string ⟨(c :: l).toArray⟩) (by simp [results, go_sem, one_append]) rfl ⟨?_, ?_⟩
        · unfold putL; rw [if_neg (by omega), hf]; rfl
        · exact below_alloc2 bb.out _
      · have hy0 : (y == 0) = false := by assumption
        have hs := hstep.out (by simpa using hy0)
        exact ⟨⟨y, c :: l, rfl, by rw [one_append], y0, y1, hs.1, below_alloc2 bb.out _⟩, by simp [intOf]; exact hs.2⟩
    · obtain rfl : r = (g : Int) := by omega
      clear hr0 hyq hrg
      go_wp2_with fail
      · have hn : n < 0 := by assumption
        have hy0 : (y == 0) = true := by assumption
        have hf := hfin.out (by simpa using hy0)
        refine bodyPost_ret (v := .string ⟨(45 :: c :: l).toArray⟩) (by simp [results, go_sem, one_append]) rfl ⟨?_, ?_⟩
        · unfold putL; rw [if_pos hn, hf]; rfl
        · exact below_alloc2 bb.out _
      · have hn : 0 ≤ n := by assumption
        have hy0 : (y == 0) = true := by assumption
        have hf := hfin.out (by simpa using hy0)
        refine bodyPost_ret (v := .string ⟨(c :: l).toArray⟩) (by simp [results, go_sem, one_append]) rfl ⟨?_, ?_⟩
        · unfold putL; rw [if_neg (by omega), hf]; rfl
        · exact below_alloc2 bb.out _
      · have hy0 : (y == 0) = false := by assumption
        have hs := hstep.out (by simpa using hy0)
        exact ⟨⟨y, c :: l, rfl, by rw [one_append], y0, y1, hs.1, below_alloc2 bb.out _⟩, by simp [intOf]; exact hs.2⟩

end Go.Proofs.Ytkccefgmiaoinaa
