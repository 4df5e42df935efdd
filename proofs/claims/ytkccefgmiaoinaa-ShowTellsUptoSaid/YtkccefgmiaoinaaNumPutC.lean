/- The code's own contract of layer 5 at db37a9ac: Put, over an array of twenty signs. -/
import Derived.Test.YtkccefgmiaoinaaNum
import Derived.Test.YtkccefgmiaoinaaMem
namespace Go.Proofs.Ytkccefgmiaoinaa
open Go.RowKit
set_option linter.unusedVariables false

def u8v (c : UInt8) : Value := .int .u8 (c.toNat : Int)
def noughts (k : Nat) : List Value := List.replicate k (.int .u8 0)
/-- the array of signs: k that are not written yet, and the digits l -/
def signsL (k : Nat) (l : List UInt8) : List Value := noughts k ++ l.map u8v
theorem signsL_set (k : Nat) (l : List UInt8) (c : UInt8) : (signsL (k + 1) l).set k (u8v c) = signsL k (c :: l) := by
  unfold signsL noughts
  rw [List.set_append_left _ _ (by simp), List.map_cons]
  rw [List.replicate_succ', List.set_append_right _ _ (by simp)]
  simp
theorem signsL_get (k : Nat) (l : List UInt8) (j : Nat) : (signsL k l)[k + j]? = (l[j]?).map u8v := by
  unfold signsL noughts
  rw [List.getElem?_append_right (by simp)]; simp
theorem signsL_at (k : Nat) (l : List UInt8) : (signsL (k + 1) l)[k]? = some (.int .u8 0) := by
  unfold signsL noughts
  rw [List.getElem?_append_left (by simp)]
  simp
theorem decL_length_pos : ∀ m : Nat, 1 ≤ (decL m).length := by
  intro m
  by_cases h : m < 10
  · rw [decL_small h]; simp
  · rw [decL_step h]; simp
theorem decL_length_two (m : Nat) (h : 10 ≤ m) : 2 ≤ (decL m).length := by
  rw [decL_step (by omega), List.length_append]
  have := decL_length_pos (m / 10)
  simp; omega
theorem u64_neg {n : Int} (h0 : -9223372036854775808 ≤ n) (h1 : n < 0) : IntKind.u64.wrap (-IntKind.u64.wrap n) = (n.natAbs : Int) := by
  simp [IntKind.wrap, IntKind.bits, IntKind.signed]
  omega
theorem u64_pos {n : Int} (h0 : 0 ≤ n) (h1 : n < 9223372036854775808) : IntKind.u64.wrap n = (n.natAbs : Int) := by
  simp [IntKind.wrap, IntKind.bits, IntKind.signed]
  omega
theorem slice_signs (W : World) (g k : Nat) (z : Int) (hz : z = k) (hk : k ≤ 19) :
    (Instr.sliceAt 68 (.pointer (some ⟨g, 0, none⟩)) (some (.int .i64 z)) none none).run Try.prog W = .ok (.slice (some ⟨g, k, none⟩) (20 - k) (20 - k)) W := by
  subst hz
  have hal : Try.prog.arrayLen 68 = 20 := by kernel_rfl
  have hel : Try.prog.elem 68 = 5 := by kernel_rfl
  have hu : Try.prog.underlying 68 = some (.array (Try.prog.arrayLen 68) (Try.prog.elem 68)) := by kernel_rfl
  rw [run_sliceAt_array_l W 68 ⟨g, 0, none⟩ hu .i64 (k : Int) (by omega) (by rw [hal]; omega), hal, hel]
  have hs : (sizeOf 5).run Try.prog W = .ok 1 W := by go_simp
  rw [hs]
  show Result.ok (slicedAt ⟨g, 0, none⟩ k 20 20 1) W = _
  unfold slicedAt
  rw [if_neg (by omega), Nat.mul_one]
  simp [Addr.add]
  omega
theorem conv_signs (W : World) (g k n : Nat) (l : List UInt8) (hB : Blk W g 68 (signsL k l)) (hn : l.length = n) :
    (convert 41 9 (.slice (some ⟨g, k, none⟩) n n)).run Try.prog W = .ok (.string ⟨l.toArray⟩) W := by
  subst hn
  refine run_convert_bytes_back W _ _ 5 ⟨g, k, none⟩ l.length l (by kernel_rfl) (by kernel_rfl) (by kernel_rfl) (fun j hj => ?_)
  have h := hB.cell (k + j)
  rw [signsL_get, List.getElem?_eq_getElem hj] at h
  have e : (⟨g, k, none⟩ : Addr).add j = ⟨g, k + j, none⟩ := by unfold Addr.add; split <;> simp_all
  rw [e]
  exact h
set_option maxRecDepth 100000 in
set_option maxHeartbeats 4000000 in
theorem num_Put (n : Int) (w : World) (n0 : -9223372036854775808 ≤ n) (n1 : n < 9223372036854775808) :
    Calls Try.prog 27 #[.int .i64 n] w (RetS (putL n) w) := by
  go_enter Try.func27, Try.ntmps27
  go_wp2_with fail
  · have hn : n < 0 := by assumption
    rw [u64_neg n0 hn]
    obtain ⟨g, hg⟩ : ∃ g, g = w.heap.size := ⟨_, rfl⟩
    obtain ⟨W, hW⟩ : ∃ W, W = w.alloc (.cells #[.int .u8 0, .int .u8 0, .int .u8 0, .int .u8 0, .int .u8 0, .int .u8 0, .int .u8 0, .int .u8 0, .int .u8 0, .int .u8 0, .int .u8 0, .int .u8 0, .int .u8 0, .int .u8 0, .int .u8 0, .int .u8 0, .int .u8 0, .int .u8 0, .int .u8 0, .int .u8 0] 68) := ⟨_, rfl⟩
    rw [← hW, ← hg]
    have hB := Lib.hid (show Blk W g 68 (signsL 20 []) from by rw [hW, hg]; exact Blk.new w _ _)
    have bW := Lib.hid (show Below w.heap.size w W from by rw [hW]; exact (Below.refl _ w).alloc (Nat.le_refl _) _)
    clear hW
    replace hg := Lib.hid hg
    go_loopw [4, 5] (fun s k wr => ∃ (z k' : Nat) (l : List UInt8), s = .int .u64 z ∧ k = .int .i64 k' ∧ k' + l.length = 19 ∧ z ≤ 9223372036854775808 ∧ Hid (decL n.natAbs = decL z ++ l) ∧ Hid (Blk wr g 68 (signsL (k' + 1) l)) ∧ Hid (Below w.heap.size w wr)) (fun s _ _ => (intOf s).toNat)
    case atStart => exact ⟨n.natAbs, 19, [], rfl, rfl, rfl, by omega, Lib.hid (by simp), hB, bW⟩
    case round =>
      obtain ⟨z, k, l, rfl, rfl, hkl, hz, hdec, hB, hb⟩ := hrel
      have hlen := decL_length 18 n.natAbs (by omega)
      rw [hdec.out, List.length_append] at hlen
      have hc := hB.out.cell k
      rw [signsL_at] at hc
      have hf := hB.out.frozen k
      by_cases h10 : z < 10
      · have hzl : (z : Int) < 10 := by omega
        have hz0 : (0 : Int) ≤ (z : Int) := by omega
        have hdz : (decL z).length = 1 := by rw [decL_small h10]; rfl
        have hk1 : (1 : Int) ≤ (k : Int) := by omega
        have hk19 : (k : Int) ≤ 19 := by omega
        clear hlen hdz h10
        obtain ⟨c, hcc⟩ : ∃ c : UInt8, c = UInt8.ofNat (48 + z) := ⟨_, rfl⟩
        have hcn : c.toNat = 48 + z := by rw [hcc, UInt8.toNat_ofNat']; omega
        have hdl : Hid (putL n = 45 :: c :: l) := Lib.hid (by unfold putL; rw [if_pos hn, hdec.out, decL_small (by omega), ← hcc]; rfl)
        have huv : (Value.int .u8 (48 + (z : Int))) = u8v c := by unfold u8v; rw [hcn]; rfl
        have hB1 : Blk (wr.setCell ⟨g, k, none⟩ (.int .u8 (48 + (z : Int)))) g 68 (signsL (k - 1 + 1) (c :: l)) := by
          rw [show k - 1 + 1 = k by omega, ← signsL_set, ← huv]
          exact hB.out.set_ k _
        have hB2 : Blk ((wr.setCell ⟨g, k, none⟩ (.int .u8 (48 + (z : Int)))).setCell ⟨g, k - 1, none⟩ (.int .u8 45)) g 68 (signsL (k - 1) (45 :: c :: l)) := by
          rw [← signsL_set]
          exact hB1.set_ (k - 1) _
        have hcv := conv_signs _ g (k - 1) (20 - (k - 1)) _ hB2 (by simp; omega)
        have hsl := fun W => slice_signs W g (k - 1) ((k : Int) - 1) (by omega) (by omega)
        have hc1 := hB1.cell (k - 1)
        rw [signsL_at] at hc1
        have hf1 := hB1.frozen (k - 1)
        have hc2 : wr.cell? ⟨g, k - 1, none⟩ = some (.int .u8 0) := by
          rw [hB.out.cell, show k + 1 = (k - 1) + 1 + 1 by omega]
          unfold signsL noughts
          rw [List.getElem?_append_left (by rw [List.length_replicate]; omega), List.getElem?_replicate, if_pos (by omega)]
        have hf2 := hB.out.frozen (k - 1)
        have hbb := Lib.hid ((hb.out.setCell (p := ⟨g, k, none⟩) (by rw [hg.out]; exact Nat.le_refl _) (.int .u8 (48 + (z : Int)))).setCell (p := ⟨g, k - 1, none⟩) (by rw [hg.out]; exact Nat.le_refl _) (.int .u8 45))
        clear hB1 hB2 hc1 hf1 hcn hcc
        replace huv := Lib.hid huv
        replace hkl := Lib.hid hkl
        go_wp2_with fail
        exact bodyPost_ret (v := .string ⟨(45 :: c :: l).toArray⟩) (by simp [results, go_sem]) rfl ⟨by rw [hdl.out], hbb.out⟩
      · have h2 := decL_length_two z (by omega)
        have hk2 : (2 : Int) ≤ (k : Int) := by omega
        have hk19 : (k : Int) ≤ 19 := by omega
        have hz10 : (10 : Int) ≤ (z : Int) := by omega
        obtain ⟨c, hcc⟩ : ∃ c : UInt8, c = UInt8.ofNat (48 + z % 10) := ⟨_, rfl⟩
        have hcn : c.toNat = 48 + z % 10 := by rw [hcc, UInt8.toNat_ofNat']; omega
        have hstep : decL z = decL (z / 10) ++ [c] := by rw [hcc]; exact decL_step h10
        have huv : (Value.int .u8 (48 + (z : Int) % 10)) = u8v c := by unfold u8v; rw [hcn]; rfl
        clear hlen h2 h10 hcc hcn
        replace hstep := Lib.hid hstep
        replace huv := Lib.hid huv
        go_wp2_with fail
        rw [huv.out]
        refine ⟨⟨z / 10, k - 1, c :: l, by simp, by go_num, by rw [List.length_cons]; omega, by omega, Lib.hid (by rw [hdec.out, hstep.out, List.append_assoc]; rfl), Lib.hid ?_, Lib.hid (hb.out.setCell (by rw [hg.out]; exact Nat.le_refl _) _)⟩, by simp [intOf]; omega⟩
        rw [show k - 1 + 1 = k by omega, ← signsL_set]
        exact hB.out.set_ k _
  · have hn : 0 ≤ n := by assumption
    rw [u64_pos hn n1]
    obtain ⟨g, hg⟩ : ∃ g, g = w.heap.size := ⟨_, rfl⟩
    obtain ⟨W, hW⟩ : ∃ W, W = w.alloc (.cells #[.int .u8 0, .int .u8 0, .int .u8 0, .int .u8 0, .int .u8 0, .int .u8 0, .int .u8 0, .int .u8 0, .int .u8 0, .int .u8 0, .int .u8 0, .int .u8 0, .int .u8 0, .int .u8 0, .int .u8 0, .int .u8 0, .int .u8 0, .int .u8 0, .int .u8 0, .int .u8 0] 68) := ⟨_, rfl⟩
    rw [← hW, ← hg]
    have hB := Lib.hid (show Blk W g 68 (signsL 20 []) from by rw [hW, hg]; exact Blk.new w _ _)
    have bW := Lib.hid (show Below w.heap.size w W from by rw [hW]; exact (Below.refl _ w).alloc (Nat.le_refl _) _)
    clear hW
    replace hg := Lib.hid hg
    go_loopw [4, 5] (fun s k wr => ∃ (z k' : Nat) (l : List UInt8), s = .int .u64 z ∧ k = .int .i64 k' ∧ k' + l.length = 19 ∧ z ≤ 9223372036854775808 ∧ Hid (decL n.natAbs = decL z ++ l) ∧ Hid (Blk wr g 68 (signsL (k' + 1) l)) ∧ Hid (Below w.heap.size w wr)) (fun s _ _ => (intOf s).toNat)
    case atStart => exact ⟨n.natAbs, 19, [], rfl, rfl, rfl, by omega, Lib.hid (by simp), hB, bW⟩
    case round =>
      obtain ⟨z, k, l, rfl, rfl, hkl, hz, hdec, hB, hb⟩ := hrel
      have hlen := decL_length 18 n.natAbs (by omega)
      rw [hdec.out, List.length_append] at hlen
      have hc := hB.out.cell k
      rw [signsL_at] at hc
      have hf := hB.out.frozen k
      by_cases h10 : z < 10
      · have hzl : (z : Int) < 10 := by omega
        have hz0 : (0 : Int) ≤ (z : Int) := by omega
        have hdz : (decL z).length = 1 := by rw [decL_small h10]; rfl
        have hk1 : (1 : Int) ≤ (k : Int) := by omega
        have hk19 : (k : Int) ≤ 19 := by omega
        clear hlen hdz h10
        obtain ⟨c, hcc⟩ : ∃ c : UInt8, c = UInt8.ofNat (48 + z) := ⟨_, rfl⟩
        have hcn : c.toNat = 48 + z := by rw [hcc, UInt8.toNat_ofNat']; omega
        have hdl : Hid (putL n = c :: l) := Lib.hid (by unfold putL; rw [if_neg (by omega), hdec.out, decL_small (by omega), ← hcc]; rfl)
        have huv : (Value.int .u8 (48 + (z : Int))) = u8v c := by unfold u8v; rw [hcn]; rfl
        have hB1 : Blk (wr.setCell ⟨g, k, none⟩ (.int .u8 (48 + (z : Int)))) g 68 (signsL k (c :: l)) := by
          rw [← signsL_set, ← huv]
          exact hB.out.set_ k _
        have hcv := conv_signs _ g k (20 - k) _ hB1 (by simp; omega)
        have hsl := fun W => slice_signs W g k (k : Int) rfl (by omega)
        have hbb := Lib.hid (hb.out.setCell (p := ⟨g, k, none⟩) (by rw [hg.out]; exact Nat.le_refl _) (.int .u8 (48 + (z : Int))))
        clear hB1 hcn hcc
        replace huv := Lib.hid huv
        replace hkl := Lib.hid hkl
        go_wp2_with fail
        exact bodyPost_ret (v := .string ⟨(c :: l).toArray⟩) (by simp [results, go_sem]) rfl ⟨by rw [hdl.out], hbb.out⟩
      · have h2 := decL_length_two z (by omega)
        have hk2 : (2 : Int) ≤ (k : Int) := by omega
        have hk19 : (k : Int) ≤ 19 := by omega
        have hz10 : (10 : Int) ≤ (z : Int) := by omega
        obtain ⟨c, hcc⟩ : ∃ c : UInt8, c = UInt8.ofNat (48 + z % 10) := ⟨_, rfl⟩
        have hcn : c.toNat = 48 + z % 10 := by rw [hcc, UInt8.toNat_ofNat']; omega
        have hstep : decL z = decL (z / 10) ++ [c] := by rw [hcc]; exact decL_step h10
        have huv : (Value.int .u8 (48 + (z : Int) % 10)) = u8v c := by unfold u8v; rw [hcn]; rfl
        clear hlen h2 h10 hcc hcn
        replace hstep := Lib.hid hstep
        replace huv := Lib.hid huv
        go_wp2_with fail
        rw [huv.out]
        refine ⟨⟨z / 10, k - 1, c :: l, by simp, by go_num, by rw [List.length_cons]; omega, by omega, Lib.hid (by rw [hdec.out, hstep.out, List.append_assoc]; rfl), Lib.hid ?_, Lib.hid (hb.out.setCell (by rw [hg.out]; exact Nat.le_refl _) _)⟩, by simp [intOf]; omega⟩
        rw [show k - 1 + 1 = k by omega, ← signsL_set]
        exact hB.out.set_ k _

end Go.Proofs.Ytkccefgmiaoinaa
