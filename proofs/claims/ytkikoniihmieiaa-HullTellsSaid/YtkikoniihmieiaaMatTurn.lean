/- Contracts of package mat: take, lay, Turn. -/
import Derived.Test.YtkikoniihmieiaaBlkMem
namespace Go.Proofs.Ytkikoniihmieiaa
open Go.RowKit
set_option linter.unusedVariables false

def padK (xss : List (List Nat)) (k : Nat) : List Nat := (List.range 64).map fun i => if i < k then (xss.getD i []).getD 0 0 else 0

theorem padK_len (xss : List (List Nat)) (k : Nat) : (padK xss k).length = 64 := by simp [padK]
theorem padK_zero (xss : List (List Nat)) : padK xss 0 = List.replicate 64 0 := by
  unfold padK
  rfl
theorem padK_succ (xss : List (List Nat)) {k : Nat} {xs : List Nat} {x : Nat} (hk : k < 64) (h : xss[k]? = some xs) (hx : xs[0]? = some x) : padK xss (k + 1) = (padK xss k).set k x := by
  apply List.ext_getElem?
  intro i
  rw [List.getElem?_set, padK_len]
  unfold padK
  rcases Nat.lt_or_ge i 64 with hi | hi
  · rw [List.getElem?_map, List.getElem?_map, List.getElem?_range hi]
    show some (if i < k + 1 then (xss.getD i []).getD 0 0 else 0) = (if k = i then (if k < 64 then some x else none) else some (if i < k then (xss.getD i []).getD 0 0 else 0))
    by_cases e : k = i
    · subst e
      rw [if_pos (by omega), if_pos rfl, if_pos hk, getD_at h, getD_at hx]
    · rw [if_neg e]
      by_cases h1 : i < k
      · rw [if_pos h1, if_pos (by omega)]
      · rw [if_neg h1, if_neg (by omega)]
  · rw [List.getElem?_eq_none (by simpa using hi)]
    by_cases e : k = i
    · omega
    · rw [if_neg e, List.getElem?_eq_none (by simpa using hi)]
theorem padK_get (xss : List (List Nat)) {k i : Nat} (hi : i < 64) : (padK xss k).getD i 0 = if i < k then (xss.getD i []).getD 0 0 else 0 := by
  unfold padK
  rw [List.getD_eq_getElem?_getD, List.getElem?_map, List.getElem?_range hi]; rfl
theorem padK_w64 {xss : List (List Nat)} (h : ∀ xs ∈ xss, W64 xs) (k : Nat) : W64 (padK xss k) := by
  intro x hx
  unfold padK at hx
  obtain ⟨i, _, rfl⟩ := List.mem_map.1 hx
  show (if i < k then (xss.getD i []).getD 0 0 else 0) < _
  split
  · rcases Nat.lt_or_ge i xss.length with hl | hl
    · have hg := List.getElem?_eq_getElem hl
      rw [getD_at hg]
      exact getD_w64 (h _ (List.mem_of_getElem? hg)) 0
    · rw [List.getD_eq_getElem?_getD (l := xss), List.getElem?_eq_none hl]; simp
  · omega

theorem info_block : (Try.prog.info? 67).map (·.size) = some 64 := by kernel_rfl
theorem zblk_eq : (#[.int .u64 0, .int .u64 0, .int .u64 0, .int .u64 0, .int .u64 0, .int .u64 0, .int .u64 0, .int .u64 0, .int .u64 0, .int .u64 0, .int .u64 0, .int .u64 0, .int .u64 0, .int .u64 0, .int .u64 0, .int .u64 0, .int .u64 0, .int .u64 0, .int .u64 0, .int .u64 0, .int .u64 0, .int .u64 0, .int .u64 0, .int .u64 0, .int .u64 0, .int .u64 0, .int .u64 0, .int .u64 0, .int .u64 0, .int .u64 0, .int .u64 0, .int .u64 0, .int .u64 0, .int .u64 0, .int .u64 0, .int .u64 0, .int .u64 0, .int .u64 0, .int .u64 0, .int .u64 0, .int .u64 0, .int .u64 0, .int .u64 0, .int .u64 0, .int .u64 0, .int .u64 0, .int .u64 0, .int .u64 0, .int .u64 0, .int .u64 0, .int .u64 0, .int .u64 0, .int .u64 0, .int .u64 0, .int .u64 0, .int .u64 0, .int .u64 0, .int .u64 0, .int .u64 0, .int .u64 0, .int .u64 0, .int .u64 0, .int .u64 0, .int .u64 0] : Array Value) = ((List.replicate 64 0).map u64v).toArray := rfl
set_option maxRecDepth 100000 in
set_option maxHeartbeats 2000000 in
theorem mat_take (A : Option Addr) (n c : Nat) (xss : List (List Nat)) (w : World) (hr : RowsAt w A n xss) (hn0 : 0 < n) (hn : n < 64) (hc : n ≤ c) (hl : ∀ (i : Nat) (xs : List Nat), xss[i]? = some xs → xs.length = 1) :
    Calls Try.prog 59 #[.slice A n c, .int .i64 0, .int .i64 0] w fun e w' => e = .returned (.agg ((padK xss n).map u64v).toArray) ∧ Below w.heap.size w w' := by
  obtain ⟨W0, hW0⟩ : ∃ W0, W0 = (w.alloc (.cells #[.int .u64 0, .int .u64 0, .int .u64 0, .int .u64 0, .int .u64 0, .int .u64 0, .int .u64 0, .int .u64 0, .int .u64 0, .int .u64 0, .int .u64 0, .int .u64 0, .int .u64 0, .int .u64 0, .int .u64 0, .int .u64 0, .int .u64 0, .int .u64 0, .int .u64 0, .int .u64 0, .int .u64 0, .int .u64 0, .int .u64 0, .int .u64 0, .int .u64 0, .int .u64 0, .int .u64 0, .int .u64 0, .int .u64 0, .int .u64 0, .int .u64 0, .int .u64 0, .int .u64 0, .int .u64 0, .int .u64 0, .int .u64 0, .int .u64 0, .int .u64 0, .int .u64 0, .int .u64 0, .int .u64 0, .int .u64 0, .int .u64 0, .int .u64 0, .int .u64 0, .int .u64 0, .int .u64 0, .int .u64 0, .int .u64 0, .int .u64 0, .int .u64 0, .int .u64 0, .int .u64 0, .int .u64 0, .int .u64 0, .int .u64 0, .int .u64 0, .int .u64 0, .int .u64 0, .int .u64 0, .int .u64 0, .int .u64 0, .int .u64 0, .int .u64 0] 67)).alloc (.cells #[.int .u64 0, .int .u64 0, .int .u64 0, .int .u64 0, .int .u64 0, .int .u64 0, .int .u64 0, .int .u64 0, .int .u64 0, .int .u64 0, .int .u64 0, .int .u64 0, .int .u64 0, .int .u64 0, .int .u64 0, .int .u64 0, .int .u64 0, .int .u64 0, .int .u64 0, .int .u64 0, .int .u64 0, .int .u64 0, .int .u64 0, .int .u64 0, .int .u64 0, .int .u64 0, .int .u64 0, .int .u64 0, .int .u64 0, .int .u64 0, .int .u64 0, .int .u64 0, .int .u64 0, .int .u64 0, .int .u64 0, .int .u64 0, .int .u64 0, .int .u64 0, .int .u64 0, .int .u64 0, .int .u64 0, .int .u64 0, .int .u64 0, .int .u64 0, .int .u64 0, .int .u64 0, .int .u64 0, .int .u64 0, .int .u64 0, .int .u64 0, .int .u64 0, .int .u64 0, .int .u64 0, .int .u64 0, .int .u64 0, .int .u64 0, .int .u64 0, .int .u64 0, .int .u64 0, .int .u64 0, .int .u64 0, .int .u64 0, .int .u64 0, .int .u64 0] 67) := ⟨_, rfl⟩
  have ha : Below w.heap.size w W0 := by rw [hW0]; exact ((Below.refl _ _).alloc (Nat.le_refl _) _).alloc (by simp) _
  have hB1 : Blk W0 w.heap.size 67 ((List.replicate 64 0).map u64v) := by
    rw [hW0]
    exact Blk.alloc (Blk.new w 67 ((List.replicate 64 0).map u64v)) _
  have hB2 : Blk W0 (w.heap.size + 1) 67 ((padK xss 0).map u64v) := by
    rw [hW0, padK_zero]
    have h := Blk.new (w.alloc (.cells #[.int .u64 0, .int .u64 0, .int .u64 0, .int .u64 0, .int .u64 0, .int .u64 0, .int .u64 0, .int .u64 0, .int .u64 0, .int .u64 0, .int .u64 0, .int .u64 0, .int .u64 0, .int .u64 0, .int .u64 0, .int .u64 0, .int .u64 0, .int .u64 0, .int .u64 0, .int .u64 0, .int .u64 0, .int .u64 0, .int .u64 0, .int .u64 0, .int .u64 0, .int .u64 0, .int .u64 0, .int .u64 0, .int .u64 0, .int .u64 0, .int .u64 0, .int .u64 0, .int .u64 0, .int .u64 0, .int .u64 0, .int .u64 0, .int .u64 0, .int .u64 0, .int .u64 0, .int .u64 0, .int .u64 0, .int .u64 0, .int .u64 0, .int .u64 0, .int .u64 0, .int .u64 0, .int .u64 0, .int .u64 0, .int .u64 0, .int .u64 0, .int .u64 0, .int .u64 0, .int .u64 0, .int .u64 0, .int .u64 0, .int .u64 0, .int .u64 0, .int .u64 0, .int .u64 0, .int .u64 0, .int .u64 0, .int .u64 0, .int .u64 0, .int .u64 0] 67)) 67 ((List.replicate 64 0).map u64v)
    rwa [show (w.alloc (.cells #[.int .u64 0, .int .u64 0, .int .u64 0, .int .u64 0, .int .u64 0, .int .u64 0, .int .u64 0, .int .u64 0, .int .u64 0, .int .u64 0, .int .u64 0, .int .u64 0, .int .u64 0, .int .u64 0, .int .u64 0, .int .u64 0, .int .u64 0, .int .u64 0, .int .u64 0, .int .u64 0, .int .u64 0, .int .u64 0, .int .u64 0, .int .u64 0, .int .u64 0, .int .u64 0, .int .u64 0, .int .u64 0, .int .u64 0, .int .u64 0, .int .u64 0, .int .u64 0, .int .u64 0, .int .u64 0, .int .u64 0, .int .u64 0, .int .u64 0, .int .u64 0, .int .u64 0, .int .u64 0, .int .u64 0, .int .u64 0, .int .u64 0, .int .u64 0, .int .u64 0, .int .u64 0, .int .u64 0, .int .u64 0, .int .u64 0, .int .u64 0, .int .u64 0, .int .u64 0, .int .u64 0, .int .u64 0, .int .u64 0, .int .u64 0, .int .u64 0, .int .u64 0, .int .u64 0, .int .u64 0, .int .u64 0, .int .u64 0, .int .u64 0, .int .u64 0] 67)).heap.size = w.heap.size + 1 from by simp] at h
  replace hB1 := Lib.hid hB1
  replace hB2 := Lib.hid hB2
  replace ha := Lib.hid ha
  replace hr := Lib.hid hr
  replace hl := Lib.hid hl
  go_enter Try.func59, Try.ntmps59
  go_wp2_with fail
  rw [← hW0]
  clear hW0
  go_loopw [22] (fun i wr => ∃ k : Nat, k ≤ n ∧ i = .int .i64 k ∧ Hid (Blk wr (w.heap.size + 1) 67 ((padK xss k).map u64v)) ∧ Hid (Blk wr w.heap.size 67 ((List.replicate 64 0).map u64v)) ∧ Hid (Below w.heap.size w wr)) (fun i _ => n - (intOf i).toNat)
  case atStart => exact ⟨0, Nat.zero_le _, rfl, hB2, hB1, ha⟩
  case round =>
    obtain ⟨k, hk, rfl, hB, hB', hb⟩ := hrel
    clear hB1 hB2 ha
    by_cases hlt : k < n
    · obtain ⟨b, off, B, m, d, xs, rfl, hbl, hx, hc1, hxr⟩ := (hr.out.below hb.out).at_ hlt
      have hm1 : m = 1 := by have := hxr.len; have := hl.out k xs hx; omega
      subst hm1
      obtain ⟨b2, off2, x, rfl, hbl2, hx0, hx64, hc2⟩ := hxr.at_ (k := 0) (by omega)
      have hst := Lib.hid (padK_succ xss (k := k) (by omega) hx hx0)
      have hcell : wr.cell? ⟨w.heap.size + 1, k, none⟩ = some (u64v ((padK xss k).getD k 0)) := by
        rw [hB.out.cell, List.getElem?_map, List.getD_eq_getElem?_getD, List.getElem?_eq_getElem (by rw [padK_len]; omega)]; rfl
      have hfr := hB.out.frozen k
      have hk0 : (0 : Int) ≤ (k : Int) := by omega
      have hkn : (k : Int) < (n : Int) := by omega
      have hk64 : (k : Int) < 64 := by omega
      have hz0 : (0 : Int) ≤ 0 := by omega
      replace hc2 : wr.cell? ⟨b2, off2, none⟩ = some (.int .u64 (x : Int)) := hc2
      clear hx hx0 hxr
      go_wp2_with fail
      go_roundw
      case rel =>
        refine ⟨k + 1, by omega, by go_num, ?_, ?_, Lib.hid (hb.out.setCell (by simp) _)⟩
        · refine Lib.hid ?_
          rw [hst.out, List.map_set]
          exact hB.out.set_ k (u64v x)
        · exact Lib.hid (hB'.out.far (by simp) _)
      case measure => simp [intOf]; omega
    · obtain rfl : k = n := by omega
      clear hlt
      have hpl := Lib.hid (padK_len xss k)
      have hrl := Lib.hid (List.length_replicate (n := 64) (a := 0))
      go_wp2_with (first
        | (with_reducible refine wpList_load_blk Try.underlying67 info_block rfl (.tmp 7) rfl (w.heap.size + 1) rfl _ (padK xss k) hpl.out hB.out ?_)
        | (with_reducible refine wpList_store_blk Try.underlying67 info_block rfl (.tmp 6) (.tmp 34) rfl w.heap.size rfl (padK xss k) hpl.out rfl _ (List.replicate 64 0) hrl.out hB'.out ?_; intro w2 hB2 ho2))
      have hres := run_loadVar_mid (P := Try.prog) w2 w.heap.size 0 67 ((padK xss k).map u64v) _ hB2.range Try.underlying67 rfl (by rw [List.length_map, hpl.out]; exact info_block)
      exact bodyPost_ret (v := .agg ((padK xss k).map u64v).toArray) (results_cell Try.results59 _ w.heap.size rfl hres) rfl ⟨rfl, hb.out.trans ho2.below⟩

end Go.Proofs.Ytkikoniihmieiaa
