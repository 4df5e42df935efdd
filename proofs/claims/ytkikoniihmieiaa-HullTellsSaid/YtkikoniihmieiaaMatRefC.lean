/- Contracts of the document's own answers for matrices: Sub, Same. -/
import Derived.Test.YtkikoniihmieiaaMatRefA
namespace Go.Proofs.Ytkikoniihmieiaa
open Go.RowKit
set_option linter.unusedVariables false

set_option maxRecDepth 100000 in
set_option maxHeartbeats 2000000 in
theorem ref3_Sub (A B : Option Addr) (n c d : Nat) (xss yss : List (List Nat)) (w : World) (hr : RowsAt w A n xss) (hs : RowsAt w B n yss) (hn : n ≤ 1073741824) (hl : ∀ (i : Nat) (xs : List Nat), xss[i]? = some xs → xs.length ≤ 1073741824) (hl2 : ∀ (i : Nat) (xs : List Nat), yss[i]? = some xs → xs.length ≤ 1073741824) :
    Calls Try.prog 25 #[.agg #[.int .i64 (n : Int), .slice A n c], .agg #[.int .i64 (n : Int), .slice B n d]] w (RetB (subM xss yss) w) := by
  have hxl := hr.len
  have hyl := hs.len
  obtain ⟨W0, hW0⟩ : ∃ W0, W0 = ((w.alloc (.cells #[.int .i64 n, .slice A n c] 24)).alloc (.cells #[.int .i64 n, .slice B n d] 24)) := ⟨_, rfl⟩
  have ha : Below w.heap.size w W0 := by rw [hW0]; exact (((Below.refl _ _).alloc (Nat.le_refl _) _).alloc (by simp) _)
  have hBa : MatB W0 w.heap.size 24 n A n c := by rw [hW0]; exact ((MatB.new w _).below_ ((Below.refl _ _).alloc (Nat.le_refl _) _))
  have hBb : MatB W0 (w.heap.size + 1) 24 n B n d := by rw [hW0]; exact (MatB.new1 w _ _)
  have ha' := Lib.hid ha
  have heq : ((n : Int) == (n : Int)) = true := by simp
  have hyes := Lib.hid (fun h => allF_yes (f := subR) (xss := xss) (yss := yss) (by omega) h)
  have hr' := Lib.hid (hr.below ha)
  have hs' := Lib.hid (hs.below ha)
  replace hBa := Lib.hid hBa
  replace hBb := Lib.hid hBb
  replace hl := Lib.hid hl
  replace hl2 := Lib.hid hl2
  replace hxl := Lib.hid hxl
  clear hr hs hyl ha
  go_enter Try.func25, Try.ntmps25
  go_wp2_with fail
  rw [← hW0]
  clear hW0
  go_loopw [5] (fun i wr => ∃ k : Nat, k ≤ n ∧ i = .int .i64 k ∧ Hid (∀ (j : Nat) (xs ys : List Nat), j < k → xss[j]? = some xs → yss[j]? = some ys → subR xs ys = true) ∧ Hid (Below W0.heap.size W0 wr)) (fun i _ => n - (intOf i).toNat)
  case atStart => exact ⟨0, Nat.zero_le _, rfl, Lib.hid (fun j xs ys hj => absurd hj (by omega)), Lib.hid (Below.refl _ _)⟩
  case round =>
    obtain ⟨k, hk, rfl, hall, hbr⟩ := hrel
    have l0 := (hBa.out.below_ hbr.out).c0
    have m0 := (hBb.out.below_ hbr.out).c0
    have l1 := (hBa.out.below_ hbr.out).c1
    have m1 := (hBb.out.below_ hbr.out).c1
    by_cases hlt : k < n
    · obtain ⟨b1, o1, A1, n1, c1, xs, rfl, hbl1, hx, hc1, hrx⟩ := (hr'.out.below hbr.out).at_ hlt
      obtain ⟨b2, o2, B1, n2, c2, ys, rfl, hbl2, hy, hc2, hry⟩ := (hs'.out.below hbr.out).at_ hlt
      have hn1 : n1 ≤ 1073741824 := by have := hrx.len; have := hl.out k xs hx; omega
      have hn2 : n2 ≤ 1073741824 := by have := hry.len; have := hl2.out k ys hy; omega
      have hk0 : (0 : Int) ≤ (k : Int) := by omega
      have hkn : (k : Int) < (n : Int) := by omega
      rcases Bool.eq_false_or_eq_true (subR xs ys) with hf | hf
      · have hall' : Hid (∀ (j : Nat) (us vs : List Nat), j < k + 1 → xss[j]? = some us → yss[j]? = some vs → subR us vs = true) := Lib.hid (fun j us vs hj hu hv => by
          rcases Nat.lt_succ_iff_lt_or_eq.1 hj with h | h
          · exact hall.out j us vs h hu hv
          · rw [h, hx] at hu
            rw [h, hy] at hv
            injection hu with hu
            injection hv with hv
            rw [← hu, ← hv]; exact hf)
        replace hf := Lib.hid hf
        clear hx hy
        go_wp2_with fail
        refine wp_region_plan 12 [(true, 0), (true, 1), (true, 2), (true, 3), (true, 4), (true, 5), (true, 6), (true, 7), (true, 8), (true, 9), (false, 10), (true, 11)] (by kernel_rfl) (by kernel_rfl) (fun W hW => ?_)
        have p1 : W.cell? ⟨w.heap.size, 1, none⟩ = some (.slice (some ⟨b1, o1, none⟩) n c) := by rw [hW.out]; exact l1
        have p2 : W.cell? ⟨w.heap.size + 1, 1, none⟩ = some (.slice (some ⟨b2, o2, none⟩) n d) := by rw [hW.out]; exact m1
        have p3 : W.cell? ⟨b1, o1 + k, none⟩ = some (.slice A1 n1 c1) := by rw [hW.out]; exact hc1
        have p4 : W.cell? ⟨b2, o2 + k, none⟩ = some (.slice B1 n2 c2) := by rw [hW.out]; exact hc2
        have hbW := Lib.hid (show Below W0.heap.size W0 W by rw [hW.out]; exact hbr.out.drew)
        have hC := Lib.hid (ref2_Sub A1 B1 n1 n2 c1 c2 xs ys W (by rw [hW.out]; exact hrx) (by rw [hW.out]; exact hry) (by omega) (by omega))
        clear l0 m0 l1 m1 hc1 hc2 hrx hry
        simp only [List.drop_succ_cons, List.drop_nil]
        iterate 10
          refine wpPlan_float (v := ?_) rfl (by rfl) (fun w' hw' => ?_) (fun K hK => ?_)
          rotate_left
          · (go_simp; try with_reducible rfl)
          go_simp
          refine hK _ ?_
          clear hK K
        refine wpPlan_only rfl (by rfl) (fun K hK => ?_)
        go_simp
        refine hC.out.mono ?_
        rintro e w' ⟨rfl, hb2⟩
        refine hK _ _ hb2 ?_
        clear hK K
        rw [hf.out]
        have hb3 := Lib.hid (below_trans2 hbW.out hb2)
        clear hb2 p1 p2 p3 p4
        iterate 1
          refine wpPlan_float (v := ?_) rfl (by rfl) (fun w' hw' => ?_) (fun K hK => ?_)
          rotate_left
          · (go_simp; try with_reducible rfl)
          go_simp
          refine hK _ ?_
          clear hK K
        refine wpPlan_nil (NoPanic.normal ?_)
        go_wp2_with fail
        go_roundw
        case rel => exact ⟨k + 1, by omega, by go_num, hall', hb3⟩
        case measure => simp [intOf]; omega
      · have H := Lib.hid (allF_no hx hy hf)
        replace hf := Lib.hid hf
        clear hx hy
        go_wp2_with fail
        refine wp_region_plan 12 [(true, 0), (true, 1), (true, 2), (true, 3), (true, 4), (true, 5), (true, 6), (true, 7), (true, 8), (true, 9), (false, 10), (true, 11)] (by kernel_rfl) (by kernel_rfl) (fun W hW => ?_)
        have p1 : W.cell? ⟨w.heap.size, 1, none⟩ = some (.slice (some ⟨b1, o1, none⟩) n c) := by rw [hW.out]; exact l1
        have p2 : W.cell? ⟨w.heap.size + 1, 1, none⟩ = some (.slice (some ⟨b2, o2, none⟩) n d) := by rw [hW.out]; exact m1
        have p3 : W.cell? ⟨b1, o1 + k, none⟩ = some (.slice A1 n1 c1) := by rw [hW.out]; exact hc1
        have p4 : W.cell? ⟨b2, o2 + k, none⟩ = some (.slice B1 n2 c2) := by rw [hW.out]; exact hc2
        have hbW := Lib.hid (show Below W0.heap.size W0 W by rw [hW.out]; exact hbr.out.drew)
        have hC := Lib.hid (ref2_Sub A1 B1 n1 n2 c1 c2 xs ys W (by rw [hW.out]; exact hrx) (by rw [hW.out]; exact hry) (by omega) (by omega))
        clear l0 m0 l1 m1 hc1 hc2 hrx hry
        simp only [List.drop_succ_cons, List.drop_nil]
        iterate 10
          refine wpPlan_float (v := ?_) rfl (by rfl) (fun w' hw' => ?_) (fun K hK => ?_)
          rotate_left
          · (go_simp; try with_reducible rfl)
          go_simp
          refine hK _ ?_
          clear hK K
        refine wpPlan_only rfl (by rfl) (fun K hK => ?_)
        go_simp
        refine hC.out.mono ?_
        rintro e w' ⟨rfl, hb2⟩
        refine hK _ _ hb2 ?_
        clear hK K
        rw [hf.out]
        have hb3 := Lib.hid (below_trans2 hbW.out hb2)
        clear hb2 p1 p2 p3 p4
        iterate 1
          refine wpPlan_float (v := ?_) rfl (by rfl) (fun w' hw' => ?_) (fun K hK => ?_)
          rotate_left
          · (go_simp; try with_reducible rfl)
          go_simp
          refine hK _ ?_
          clear hK K
        refine wpPlan_nil (NoPanic.normal ?_)
        go_wp2_with fail
        go_ret
        have H' : subM xss yss = false := by rw [← allF_sub]; exact H.out
        rw [H']; exact ⟨rfl, below_trans2 ha'.out hb3.out⟩
    · have H := Lib.hid (hyes.out (fun j xs ys hj hx hy => hall.out j xs ys (by have := hxl.out; omega) hx hy))
      go_wp2_with fail
      go_ret
      have H' : subM xss yss = true := by rw [← allF_sub]; exact H.out
      rw [H']; exact ⟨rfl, below_trans2 ha'.out hbr.out⟩
set_option maxHeartbeats 400000 in
theorem ref3_Sub_no (N M : Int) (A B : Option Addr) (n m c d : Nat) (w : World) (h : N ≠ M) (hN : N ≤ 4611686018427387904) :
    Calls Try.prog 25 #[.agg #[.int .i64 N, .slice A n c], .agg #[.int .i64 M, .slice B m d]] w (RetB false w) := by
  have hne : (N == M) = false := by simpa using h
  obtain ⟨W0, hW0⟩ : ∃ W0, W0 = ((w.alloc (.cells #[.int .i64 N, .slice A n c] 24)).alloc (.cells #[.int .i64 M, .slice B m d] 24)) := ⟨_, rfl⟩
  have ha : Below w.heap.size w W0 := by rw [hW0]; exact (((Below.refl _ _).alloc (Nat.le_refl _) _).alloc (by simp) _)
  have hBa : MatB W0 w.heap.size 24 N A n c := by rw [hW0]; exact ((MatB.new w _).below_ ((Below.refl _ _).alloc (Nat.le_refl _) _))
  have hBb : MatB W0 (w.heap.size + 1) 24 M B m d := by rw [hW0]; exact (MatB.new1 w _ _)
  have l0 := hBa.c0
  have m0 := hBb.c0
  replace ha := Lib.hid ha
  clear h hBa hBb
  by_cases hpos : 0 < N
  · go_enter Try.func25, Try.ntmps25
    go_wp2_with fail
    rw [← hW0]
    clear hW0
    go_loop [5] (fun i => i = .int .i64 0) (fun i => 0)
    case atStart => exact rfl
    case round =>
      obtain rfl := hrel
      go_wp2_with fail
      go_ret
      exact ⟨rfl, ha.out⟩
  · go_enter Try.func25, Try.ntmps25
    go_wp2_with fail
    rw [← hW0]
    clear hW0
    go_loop [5] (fun i => i = .int .i64 0) (fun i => 0)
    case atStart => exact rfl
    case round =>
      obtain rfl := hrel
      go_wp2_with fail
      go_ret
      exact ⟨rfl, ha.out⟩

set_option maxRecDepth 100000 in
set_option maxHeartbeats 1000000 in
theorem ref3_Same (A B : Option Addr) (n c d : Nat) (xss yss : List (List Nat)) (w : World) (hr : RowsAt w A n xss) (hs : RowsAt w B n yss) (hn : n ≤ 1073741824) (hl : ∀ (i : Nat) (xs : List Nat), xss[i]? = some xs → xs.length ≤ 1073741824) (hl2 : ∀ (i : Nat) (xs : List Nat), yss[i]? = some xs → xs.length ≤ 1073741824) :
    Calls Try.prog 27 #[.agg #[.int .i64 (n : Int), .slice A n c], .agg #[.int .i64 (n : Int), .slice B n d]] w (RetB (subM xss yss && subM yss xss) w) := by
  obtain ⟨W0, hW0⟩ : ∃ W0, W0 = ((w.alloc (.cells #[.int .i64 n, .slice A n c] 24)).alloc (.cells #[.int .i64 n, .slice B n d] 24)) := ⟨_, rfl⟩
  have ha : Below w.heap.size w W0 := by rw [hW0]; exact (((Below.refl _ _).alloc (Nat.le_refl _) _).alloc (by simp) _)
  have hBa : MatB W0 w.heap.size 24 n A n c := by rw [hW0]; exact ((MatB.new w _).below_ ((Below.refl _ _).alloc (Nat.le_refl _) _))
  have hBb : MatB W0 (w.heap.size + 1) 24 n B n d := by rw [hW0]; exact (MatB.new1 w _ _)
  have l0 := hBa.c0
  have m0 := hBb.c0
  have l1 := hBa.c1
  have m1 := hBb.c1
  have hC := Lib.hid (ref3_Sub A B n c d xss yss W0 (hr.below ha) (hs.below ha) hn hl hl2)
  have hr' := Lib.hid (hr.below ha)
  have hs' := Lib.hid (hs.below ha)
  have hD := Lib.hid (fun W h1 h2 => ref3_Sub B A n d c yss xss W h1 h2 hn hl2 hl)
  replace ha := Lib.hid ha
  replace hBa := Lib.hid hBa
  replace hBb := Lib.hid hBb
  clear hr hs hl hl2
  rcases Bool.eq_false_or_eq_true (subM xss yss) with hf | hf
  · rw [hf] at hC ⊢
    rw [Bool.true_and]
    clear hf
    go_enter Try.func27, Try.ntmps27
    go_wp2_with fail
    rw [← hW0]
    clear hW0
    go_wp2_with fail
    refine hC.out.mono ?_; rintro e w1 ⟨rfl, hb1⟩
    have l0' := (hBa.out.below_ hb1).c0
    have l1' := (hBa.out.below_ hb1).c1
    have m0' := (hBb.out.below_ hb1).c0
    have m1' := (hBb.out.below_ hb1).c1
    have hbb := Lib.hid (below_trans2 ha.out hb1)
    have hE := Lib.hid (hD.out w1 (hs'.out.below hb1) (hr'.out.below hb1))
    clear hb1 l0 l1 m0 m1
    go_wp2_with fail
    refine hE.out.mono ?_; rintro e w2 ⟨rfl, hb2⟩
    have hb3 := Lib.hid (below_trans2 hbb.out hb2)
    clear hb2
    go_wp2
    go_ret
    exact ⟨rfl, hb3.out⟩
  · rw [hf] at hC ⊢
    rw [Bool.false_and]
    clear hf
    go_enter Try.func27, Try.ntmps27
    go_wp2_with fail
    rw [← hW0]
    clear hW0
    go_wp2_with fail
    refine hC.out.mono ?_; rintro e w1 ⟨rfl, hb1⟩
    have hbb := Lib.hid (below_trans2 ha.out hb1)
    clear hb1 l0 l1 m0 m1
    go_wp2
    go_ret
    exact ⟨rfl, hbb.out⟩
set_option maxHeartbeats 400000 in
theorem ref3_Same_no (N M : Int) (A B : Option Addr) (n m c d : Nat) (w : World) (h : N ≠ M) (hN : N ≤ 4611686018427387904) :
    Calls Try.prog 27 #[.agg #[.int .i64 N, .slice A n c], .agg #[.int .i64 M, .slice B m d]] w (RetB false w) := by
  obtain ⟨W0, hW0⟩ : ∃ W0, W0 = ((w.alloc (.cells #[.int .i64 N, .slice A n c] 24)).alloc (.cells #[.int .i64 M, .slice B m d] 24)) := ⟨_, rfl⟩
  have ha : Below w.heap.size w W0 := by rw [hW0]; exact (((Below.refl _ _).alloc (Nat.le_refl _) _).alloc (by simp) _)
  have hBa : MatB W0 w.heap.size 24 N A n c := by rw [hW0]; exact ((MatB.new w _).below_ ((Below.refl _ _).alloc (Nat.le_refl _) _))
  have hBb : MatB W0 (w.heap.size + 1) 24 M B m d := by rw [hW0]; exact (MatB.new1 w _ _)
  have l0 := hBa.c0
  have m0 := hBb.c0
  have l1 := hBa.c1
  have m1 := hBb.c1
  have hC := Lib.hid (ref3_Sub_no N M A B n m c d W0 h hN)
  replace ha := Lib.hid ha
  clear h hBa hBb
  go_enter Try.func27, Try.ntmps27
  go_wp2_with fail
  rw [← hW0]
  clear hW0
  go_wp2_with fail
  refine hC.out.mono ?_; rintro e w1 ⟨rfl, hb1⟩
  have hbb := Lib.hid (below_trans2 ha.out hb1)
  clear hb1 l0 l1 m0 m1
  go_wp2
  go_ret
  exact ⟨rfl, hbb.out⟩

end Go.Proofs.Ytkikoniihmieiaa
