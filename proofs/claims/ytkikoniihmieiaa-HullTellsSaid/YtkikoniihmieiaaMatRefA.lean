/- Contracts of the document's own answers for matrices (eyewitnessref03): in, Has, Small, Equal. Contracts of the document's own answers for matrices: Equal, Sub, Same. -/
import Derived.Test.YtkikoniihmieiaaMatTurnB
namespace Go.Proofs.Ytkikoniihmieiaa
open Go.RowKit
set_option linter.unusedVariables false

set_option maxHeartbeats 1000000 in
theorem ref3_in (N : Int) (A : Option Addr) (n c : Nat) (i j : Int) (w : World) :
    Calls Try.prog 48 #[.agg #[.int .i64 N, .slice A n c], .int .i64 i, .int .i64 j] w (RetB (inM N i j) w) := by
  have ha : Below w.heap.size w (w.alloc (.cells #[.int .i64 N, .slice A n c] 24)) := (Below.refl _ _).alloc (Nat.le_refl _) _
  replace ha := Lib.hid ha
  by_cases h1 : 0 ≤ i
  · by_cases h2 : i < N
    · by_cases h3 : 0 ≤ j
      · by_cases h4 : j < N
        · have H := Lib.hid (show inM N i j = true by unfold inM; simp [h1, h2, h3, h4])
          go_enter Try.func48, Try.ntmps48
          go_wp2
          go_ret
          rw [H.out]; exact ⟨rfl, ha.out⟩
        · have H := Lib.hid (show inM N i j = false by unfold inM; simp [h4])
          go_enter Try.func48, Try.ntmps48
          go_wp2
          go_ret
          rw [H.out]; exact ⟨rfl, ha.out⟩
      · have H := Lib.hid (show inM N i j = false by unfold inM; simp [h3])
        go_enter Try.func48, Try.ntmps48
        go_wp2
        go_ret
        rw [H.out]; exact ⟨rfl, ha.out⟩
    · have H := Lib.hid (show inM N i j = false by unfold inM; simp [h2])
      go_enter Try.func48, Try.ntmps48
      go_wp2
      go_ret
      rw [H.out]; exact ⟨rfl, ha.out⟩
  · have H := Lib.hid (show inM N i j = false by unfold inM; simp [h1])
    go_enter Try.func48, Try.ntmps48
    go_wp2
    go_ret
    rw [H.out]; exact ⟨rfl, ha.out⟩

theorem inM_yes {N i j : Int} (h : inM N i j = true) : 0 ≤ i ∧ i < N ∧ 0 ≤ j ∧ j < N := by
  unfold inM at h
  simp only [Bool.and_eq_true, decide_eq_true_eq] at h
  obtain ⟨⟨⟨a, b⟩, c⟩, d⟩ := h
  exact ⟨a, b, c, d⟩
set_option maxHeartbeats 400000 in
theorem ref3_Has (A : Option Addr) (n c : Nat) (xss : List (List Nat)) (i j : Int) (w : World) (hr : RowsAt w A n xss) (hn : n ≤ 4096) (hl : ∀ (k : Nat) (xs : List Nat), xss[k]? = some xs → xs.length ≤ 1024) :
    Calls Try.prog 17 #[.agg #[.int .i64 (n : Int), .slice A n c], .int .i64 i, .int .i64 j] w (RetB (inM (n : Int) i j && hasM xss i j) w) := by
  obtain ⟨W0, hW0⟩ : ∃ W0, W0 = w.alloc (.cells #[.int .i64 n, .slice A n c] 24) := ⟨_, rfl⟩
  have ha : Below w.heap.size w W0 := by rw [hW0]; exact (Below.refl _ _).alloc (Nat.le_refl _) _
  have hB : MatB W0 w.heap.size 24 n A n c := by rw [hW0]; exact MatB.new w _
  have hin := Lib.hid (ref3_in (n : Int) A n c i j W0)
  rcases Bool.eq_false_or_eq_true (inM (n : Int) i j) with h | h
  · obtain ⟨i0, i1, j0, j1⟩ := inM_yes h
    obtain ⟨k, rfl⟩ := Int.eq_ofNat_of_zero_le i0
    have hk : k < n := by omega
    obtain ⟨b, off, B, m, d, xs, rfl, hbl, hx, hc, hxr⟩ := hr.at_ hk
    have hm : m ≤ 1024 := by have := hxr.len; have := hl k xs hx; omega
    have H := Lib.hid (show (inM (n : Int) k j && hasM xss k j) = hasR xs j by rw [h, hasM_in hx, Bool.true_and])
    have hk0 : (0 : Int) ≤ (k : Int) := by omega
    have hkn : (k : Int) < (n : Int) := by omega
    replace h := Lib.hid h
    replace hB := Lib.hid hB
    replace hxr := Lib.hid hxr
    replace ha := Lib.hid ha
    clear hx hr
    go_enter Try.func17, Try.ntmps17
    go_wp2_with fail
    rw [← hW0]
    clear hW0
    refine hin.out.mono ?_; rintro e w1 ⟨rfl, hb1⟩
    rw [h.out]
    have l1 := (hB.out.below_ hb1).c1
    have hbb := below_trans2 ha.out hb1
    have hcr := (hbb.cell (p := ⟨b, off + k, none⟩) hbl).trans hc
    have hC := Lib.hid (ref2_Has B m d xs j w1 (hxr.out.below hbb) (by omega) (by omega) (by omega))
    replace hbb := Lib.hid hbb
    clear hb1 hc
    go_wp2_with fail
    refine hC.out.mono ?_; rintro e w' ⟨rfl, rfl⟩
    go_wp2
    go_ret
    rw [H.out]; exact ⟨rfl, hbb.out⟩
  · have H := Lib.hid (show (inM (n : Int) i j && hasM xss i j) = false by rw [h]; rfl)
    replace h := Lib.hid h
    replace ha := Lib.hid ha
    clear hB hr
    go_enter Try.func17, Try.ntmps17
    go_wp2_with fail
    rw [← hW0]
    clear hW0
    refine hin.out.mono ?_; rintro e w1 ⟨rfl, hb1⟩
    rw [h.out]
    have hbb := Lib.hid (below_trans2 ha.out hb1)
    clear hb1
    go_wp2
    go_ret
    rw [H.out]; exact ⟨rfl, hbb.out⟩

theorem small_row {xss : List (List Nat)} {most : Int} {k : Nat} {xs : List Nat} (hx : xss[k]? = some xs) (h : 4 < xs.length) : smallM xss most = false := by
  unfold smallM
  rw [List.all_eq_false.2 ⟨xs, List.mem_of_getElem? hx, by rw [decide_eq_false (by omega)]; simp⟩, Bool.and_false]
theorem small_yes {xss : List (List Nat)} {most : Int} (h0 : (xss.length : Int) ≤ most) (h : ∀ (k : Nat) (xs : List Nat), xss[k]? = some xs → xs.length ≤ 4) : smallM xss most = true := by
  unfold smallM
  rw [decide_eq_true h0, Bool.true_and, List.all_eq_true]
  intro xs hx
  obtain ⟨k, hk⟩ := List.getElem?_of_mem hx
  exact decide_eq_true (h k xs hk)
set_option maxRecDepth 100000 in
set_option maxHeartbeats 1000000 in
theorem ref3_Small (N : Int) (A : Option Addr) (n c : Nat) (xss : List (List Nat)) (most : Int) (w : World) (hr : RowsAt w A n xss) (hn : n ≤ 9223372036854775807) (hl : ∀ (k : Nat) (xs : List Nat), xss[k]? = some xs → xs.length ≤ 9223372036854775807) (hm : most ≤ 1000) :
    Calls Try.prog 8 #[.agg #[.int .i64 N, .slice A n c], .int .i64 most] w (RetB (smallM xss most) w) := by
  have hlen := hr.len
  obtain ⟨W0, hW0⟩ : ∃ W0, W0 = w.alloc (.cells #[.int .i64 N, .slice A n c] 24) := ⟨_, rfl⟩
  have ha : Below w.heap.size w W0 := by rw [hW0]; exact (Below.refl _ _).alloc (Nat.le_refl _) _
  have hB : MatB W0 w.heap.size 24 N A n c := by rw [hW0]; exact MatB.new w _
  have l1 := hB.c1
  have hrr := Lib.hid (hr.below ha)
  replace ha := Lib.hid ha
  by_cases h : most < (n : Int)
  · have H := Lib.hid (show smallM xss most = false by unfold smallM; rw [decide_eq_false (by omega)]; rfl)
    clear hr hB hlen hl
    go_enter Try.func8, Try.ntmps8
    go_wp2_with fail
    rw [← hW0]
    clear hW0
    go_wp2_with fail
    go_ret
    rw [H.out]; exact ⟨rfl, ha.out⟩
  · have hyes := Lib.hid (small_yes (xss := xss) (most := most) (by omega))
    have hno := Lib.hid (fun k xs h1 h2 => small_row (xss := xss) (most := most) (k := k) (xs := xs) h1 h2)
    have hn1 : n ≤ 1000 := by omega
    replace hl := Lib.hid hl
    replace hlen := Lib.hid hlen
    clear hr hB
    go_enter Try.func8, Try.ntmps8
    go_wp2_with fail
    rw [← hW0]
    clear hW0
    go_loop [5] (fun i => ∃ k : Nat, k ≤ n ∧ i = .int .i64 k ∧ Hid (∀ (j : Nat) (xs : List Nat), j < k → xss[j]? = some xs → xs.length ≤ 4)) (fun i => n - (intOf i).toNat)
    case atStart => exact ⟨0, Nat.zero_le _, rfl, Lib.hid (fun j xs hj => absurd hj (by omega))⟩
    case round =>
      obtain ⟨k, hk, rfl, hall⟩ := hrel
      by_cases hlt : k < n
      · obtain ⟨b, off, B, m, d, xs, rfl, hbl, hx, hc, hxr⟩ := hrr.out.at_ hlt
        have hml : xs.length = m := hxr.len
        have hm64 : m ≤ 9223372036854775807 := by have := hl.out k xs hx; omega
        have hk0 : (0 : Int) ≤ (k : Int) := by omega
        have hkn : (k : Int) < (n : Int) := by omega
        by_cases h4 : 4 < m
        · have H := Lib.hid (hno.out k xs hx (by omega))
          clear hx hxr hml
          go_wp2_with fail
          go_ret
          rw [H.out]; exact ⟨rfl, ha.out⟩
        · have hall' : Hid (∀ (j : Nat) (ys : List Nat), j < k + 1 → xss[j]? = some ys → ys.length ≤ 4) := Lib.hid (fun j ys hj hy => by
            rcases Nat.lt_succ_iff_lt_or_eq.1 hj with h | h
            · exact hall.out j ys h hy
            · rw [h, hx] at hy
              injection hy with hy
              rw [← hy]; omega)
          clear hx hxr hml
          go_wp2_with fail
          go_round
          case rel => exact ⟨k + 1, by omega, by go_num, hall'⟩
          case measure => simp [intOf]; omega
      · have H := Lib.hid (hyes.out (fun j xs hx => hall.out j xs (by have := (List.getElem?_eq_some_iff.1 hx).1; have := hlen.out; omega) hx))
        go_wp2_with fail
        go_ret
        rw [H.out]; exact ⟨rfl, ha.out⟩

end Go.Proofs.Ytkikoniihmieiaa

namespace Go.Proofs.Ytkikoniihmieiaa
open Go.RowKit
set_option linter.unusedVariables false

def equalM (N M : Int) (xss yss : List (List Nat)) : Bool := decide (N = M) && sameM xss yss
theorem equalM_N {N M : Int} {xss yss : List (List Nat)} (h : N ≠ M) : equalM N M xss yss = false := by unfold equalM; rw [decide_eq_false h]; rfl
theorem equalM_len {N : Int} {xss yss : List (List Nat)} (h : xss.length ≠ yss.length) : equalM N N xss yss = false := by
  unfold equalM sameM
  rw [decide_eq_true rfl, Bool.true_and, beq_eq_false_iff_ne]; intro e; exact h (by rw [e])
theorem equalM_row {N : Int} {xss yss : List (List Nat)} {k : Nat} {xs ys : List Nat} (hx : xss[k]? = some xs) (hy : yss[k]? = some ys) (h : sameR xs ys = false) : equalM N N xss yss = false := by
  unfold equalM sameM
  rw [decide_eq_true rfl, Bool.true_and, beq_eq_false_iff_ne]
  intro e
  rw [e, hy] at hx
  injection hx with hx
  unfold sameR at h
  rw [hx] at h
  simp at h
theorem equalM_yes {N : Int} {xss yss : List (List Nat)} (hl : xss.length = yss.length) (h : ∀ (k : Nat) (xs ys : List Nat), k < xss.length → xss[k]? = some xs → yss[k]? = some ys → sameR xs ys = true) : equalM N N xss yss = true := by
  unfold equalM
  rw [decide_eq_true rfl, Bool.true_and, ← allF_same hl]
  exact allF_yes hl h

set_option maxRecDepth 100000 in
set_option maxHeartbeats 2000000 in
theorem ref3_Equal (N M : Int) (A B : Option Addr) (n m c d : Nat) (xss yss : List (List Nat)) (w : World) (hr : RowsAt w A n xss) (hs : RowsAt w B m yss) (hn : n ≤ 1073741824) (hm : m ≤ 1073741824) (hl : ∀ (i : Nat) (xs : List Nat), xss[i]? = some xs → xs.length ≤ 1073741824) (hl2 : ∀ (i : Nat) (xs : List Nat), yss[i]? = some xs → xs.length ≤ 1073741824) :
    Calls Try.prog 18 #[.agg #[.int .i64 N, .slice A n c], .agg #[.int .i64 M, .slice B m d]] w (RetB (equalM N M xss yss) w) := by
  have hxl := hr.len
  have hyl := hs.len
  obtain ⟨W0, hW0⟩ : ∃ W0, W0 = ((w.alloc (.cells #[.int .i64 N, .slice A n c] 24)).alloc (.cells #[.int .i64 M, .slice B m d] 24)) := ⟨_, rfl⟩
  have ha : Below w.heap.size w W0 := by rw [hW0]; exact (((Below.refl _ _).alloc (Nat.le_refl _) _).alloc (by simp) _)
  have hBa : MatB W0 w.heap.size 24 N A n c := by rw [hW0]; exact ((MatB.new w _).below_ ((Below.refl _ _).alloc (Nat.le_refl _) _))
  have hBb : MatB W0 (w.heap.size + 1) 24 M B m d := by rw [hW0]; exact (MatB.new1 w _ _)
  have l0 := hBa.c0
  have l1 := hBa.c1
  have m0 := hBb.c0
  have m1 := hBb.c1
  have ha' := Lib.hid ha
  by_cases h1 : N = M
  · subst h1
    have hne : (N != N) = false := by simp
    by_cases h2 : n = m
    · subst h2
      have hne2 : ((n : Int) != (n : Int)) = false := by simp
      have hyes := Lib.hid (fun h => equalM_yes (N := N) (xss := xss) (yss := yss) (by omega) h)
      have hr' := Lib.hid (hr.below ha)
      have hs' := Lib.hid (hs.below ha)
      replace hBa := Lib.hid hBa
      replace hBb := Lib.hid hBb
      replace hl := Lib.hid hl
      replace hl2 := Lib.hid hl2
      replace hxl := Lib.hid hxl
      clear hr hs hyl ha hm
      go_enter Try.func18, Try.ntmps18
      go_wp2_with fail
      rw [← hW0]
      clear hW0
      go_wp2_with fail
      clear l0 l1 m0 m1
      go_loopw [5] (fun i wr => ∃ k : Nat, k ≤ n ∧ i = .int .i64 k ∧ Hid (∀ (j : Nat) (xs ys : List Nat), j < k → xss[j]? = some xs → yss[j]? = some ys → sameR xs ys = true) ∧ Hid (Below W0.heap.size W0 wr)) (fun i _ => n - (intOf i).toNat)
      case atStart => exact ⟨0, Nat.zero_le _, rfl, Lib.hid (fun j xs ys hj => absurd hj (by omega)), Lib.hid (Below.refl _ _)⟩
      case round =>
        obtain ⟨k, hk, rfl, hall, hbr⟩ := hrel
        have l1 := (hBa.out.below_ hbr.out).c1
        have m1 := (hBb.out.below_ hbr.out).c1
        by_cases hlt : k < n
        · obtain ⟨b1, o1, A1, n1, c1, xs, rfl, hbl1, hx, hc1, hrx⟩ := (hr'.out.below hbr.out).at_ hlt
          obtain ⟨b2, o2, B1, n2, c2, ys, rfl, hbl2, hy, hc2, hry⟩ := (hs'.out.below hbr.out).at_ hlt
          have hn1 : n1 ≤ 1073741824 := by have := hrx.len; have := hl.out k xs hx; omega
          have hn2 : n2 ≤ 1073741824 := by have := hry.len; have := hl2.out k ys hy; omega
          have hk0 : (0 : Int) ≤ (k : Int) := by omega
          have hkn : (k : Int) < (n : Int) := by omega
          rcases Bool.eq_false_or_eq_true (sameR xs ys) with hf | hf
          · have hall' : Hid (∀ (j : Nat) (us vs : List Nat), j < k + 1 → xss[j]? = some us → yss[j]? = some vs → sameR us vs = true) := Lib.hid (fun j us vs hj hu hv => by
              rcases Nat.lt_succ_iff_lt_or_eq.1 hj with h | h
              · exact hall.out j us vs h hu hv
              · rw [h, hx] at hu
                rw [h, hy] at hv
                injection hu with hu
                injection hv with hv
                rw [← hu, ← hv]; exact hf)
            replace hf := Lib.hid hf
            clear hx hy
            go_wp2_with fail
            refine wp_region_plan 12 [(true, 0), (true, 1), (true, 2), (true, 3), (true, 4), (true, 5), (true, 6), (true, 7), (true, 8), (true, 9), (false, 10), (true, 11)] (by kernel_rfl) (by kernel_rfl) (fun W hW => ?_)
            have p1 : W.cell? ⟨w.heap.size, 1, none⟩ = some (.slice (some ⟨b1, o1, none⟩) n c) := by rw [hW.out]; exact l1
            have p2 : W.cell? ⟨w.heap.size + 1, 1, none⟩ = some (.slice (some ⟨b2, o2, none⟩) n d) := by rw [hW.out]; exact m1
            have p3 : W.cell? ⟨b1, o1 + k, none⟩ = some (.slice A1 n1 c1) := by rw [hW.out]; exact hc1
            have p4 : W.cell? ⟨b2, o2 + k, none⟩ = some (.slice B1 n2 c2) := by rw [hW.out]; exact hc2
            have hbW := Lib.hid (show Below W0.heap.size W0 W by rw [hW.out]; exact hbr.out.drew)
            have hC := Lib.hid (ref2_Same A1 B1 n1 n2 c1 c2 xs ys W (by rw [hW.out]; exact hrx) (by rw [hW.out]; exact hry) (by omega) (by omega))
            clear l1 m1 hc1 hc2 hrx hry
            simp only [List.drop_succ_cons, List.drop_nil]
            iterate 10
              refine wpPlan_float (v := ?_) rfl (by rfl) (fun w' hw' => ?_) (fun K hK => ?_)
              rotate_left
              · (go_simp; try with_reducible rfl)
              go_simp
              refine hK _ ?_
              clear hK K
            refine wpPlan_only rfl (by rfl) (fun K hK => ?_)
            go_simp
            refine hC.out.mono ?_
            rintro e w' ⟨rfl, z, rfl⟩
            refine hK _ _ (below_drewN (Below.refl _ _) z) ?_
            clear hK K
            rw [hf.out]
            iterate 1
              refine wpPlan_float (v := ?_) rfl (by rfl) (fun w' hw' => ?_) (fun K hK => ?_)
              rotate_left
              · (go_simp; try with_reducible rfl)
              go_simp
              refine hK _ ?_
              clear hK K
            refine wpPlan_nil (NoPanic.normal ?_)
            go_wp2_with fail
            go_roundw
            case rel => exact ⟨k + 1, by omega, by go_num, hall', Lib.hid (below_drewN hbW.out z)⟩
            case measure => simp [intOf]; omega
          · have H := Lib.hid (equalM_row (N := N) hx hy hf)
            replace hf := Lib.hid hf
            clear hx hy
            go_wp2_with fail
            refine wp_region_plan 12 [(true, 0), (true, 1), (true, 2), (true, 3), (true, 4), (true, 5), (true, 6), (true, 7), (true, 8), (true, 9), (false, 10), (true, 11)] (by kernel_rfl) (by kernel_rfl) (fun W hW => ?_)
            have p1 : W.cell? ⟨w.heap.size, 1, none⟩ = some (.slice (some ⟨b1, o1, none⟩) n c) := by rw [hW.out]; exact l1
            have p2 : W.cell? ⟨w.heap.size + 1, 1, none⟩ = some (.slice (some ⟨b2, o2, none⟩) n d) := by rw [hW.out]; exact m1
            have p3 : W.cell? ⟨b1, o1 + k, none⟩ = some (.slice A1 n1 c1) := by rw [hW.out]; exact hc1
            have p4 : W.cell? ⟨b2, o2 + k, none⟩ = some (.slice B1 n2 c2) := by rw [hW.out]; exact hc2
            have hbW := Lib.hid (show Below W0.heap.size W0 W by rw [hW.out]; exact hbr.out.drew)
            have hC := Lib.hid (ref2_Same A1 B1 n1 n2 c1 c2 xs ys W (by rw [hW.out]; exact hrx) (by rw [hW.out]; exact hry) (by omega) (by omega))
            clear l1 m1 hc1 hc2 hrx hry
            simp only [List.drop_succ_cons, List.drop_nil]
            iterate 10
              refine wpPlan_float (v := ?_) rfl (by rfl) (fun w' hw' => ?_) (fun K hK => ?_)
              rotate_left
              · (go_simp; try with_reducible rfl)
              go_simp
              refine hK _ ?_
              clear hK K
            refine wpPlan_only rfl (by rfl) (fun K hK => ?_)
            go_simp
            refine hC.out.mono ?_
            rintro e w' ⟨rfl, z, rfl⟩
            refine hK _ _ (below_drewN (Below.refl _ _) z) ?_
            clear hK K
            rw [hf.out]
            iterate 1
              refine wpPlan_float (v := ?_) rfl (by rfl) (fun w' hw' => ?_) (fun K hK => ?_)
              rotate_left
              · (go_simp; try with_reducible rfl)
              go_simp
              refine hK _ ?_
              clear hK K
            refine wpPlan_nil (NoPanic.normal ?_)
            go_wp2_with fail
            go_ret
            rw [H.out]; exact ⟨rfl, below_trans2 ha'.out (below_drewN hbW.out z)⟩
        · have H := Lib.hid (hyes.out (fun j xs ys hj hx hy => hall.out j xs ys (by have := hxl.out; omega) hx hy))
          go_wp2_with fail
          go_ret
          rw [H.out]; exact ⟨rfl, below_trans2 ha'.out hbr.out⟩
    · have H := Lib.hid (equalM_len (N := N) (xss := xss) (yss := yss) (by omega))
      have hne2 : ((n : Int) != (m : Int)) = true := by rw [bne_iff_ne]; omega
      clear hr hs hxl hyl h2 ha hBa hBb hl hl2
      go_enter Try.func18, Try.ntmps18
      go_wp2_with fail
      rw [← hW0]
      clear hW0
      go_wp2_with fail
      go_ret
      rw [H.out]; exact ⟨rfl, ha'.out⟩
  · have H := Lib.hid (equalM_N (xss := xss) (yss := yss) h1)
    have hne : (N != M) = true := by rw [bne_iff_ne]; exact h1
    clear hr hs hxl hyl h1 ha hBa hBb hl hl2
    go_enter Try.func18, Try.ntmps18
    go_wp2_with fail
    rw [← hW0]
    clear hW0
    go_wp2_with fail
    go_ret
    rw [H.out]; exact ⟨rfl, ha'.out⟩

end Go.Proofs.Ytkikoniihmieiaa
