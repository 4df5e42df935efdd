/- Contracts of the document's own answers of layer 4: Closed, Loop. -/
import Derived.Test.YtkikoniihmieiaaHull
namespace Go.Proofs.Ytkikoniihmieiaa
open Go.RowKit
set_option linter.unusedVariables false

theorem ref3_HasG (A : Option Addr) (n c : Nat) (a : List (List Nat)) (hG : Good n a) (i j : Int) (w : World) (hr : RowsAt w A n a) :
    Calls Try.prog 17 #[.agg #[.int .i64 (n : Int), .slice A n c], .int .i64 i, .int .i64 j] w (RetB (hasM a i j) w) := by
  have h := ref3_Has A n c a i j w hr hG.le (fun k xs hx => by have := hG.small xs (List.mem_of_getElem? hx); omega)
  rwa [hG.in_has] at h
set_option maxRecDepth 100000 in
set_option maxHeartbeats 2000000 in
theorem ref4_Closed (A : Option Addr) (n c : Nat) (a : List (List Nat)) (w : World) (hr : RowsAt w A n a) (hG : Good n a) :
    Calls Try.prog 37 #[.agg #[.int .i64 (n : Int), .slice A n c]] w (RetB (closedB a) w) := by
  obtain ⟨W0, hW0⟩ : ∃ W0, W0 = w.alloc (.cells #[.int .i64 n, .slice A n c] 24) := ⟨_, rfl⟩
  have ha : Below w.heap.size w W0 := by rw [hW0]; exact below_alloc _ _
  have hB : MatB W0 w.heap.size 24 n A n c := by rw [hW0]; exact MatB.new w _
  have l0 := hB.c0
  have l1 := hB.c1
  have hnn : n ≤ 4096 := hG.le
  have hr' := Lib.hid (hr.below ha)
  have hH := Lib.hid (fun (i j : Nat) W (hW : RowsAt W A n a) => ref3_HasG A n c a hG (i : Int) (j : Int) W hW)
  have hyes : Hid ((∀ i, i < n → ∀ j, j < n → ∀ k, k < n → Rel a i j → Rel a j k → Rel a i k) → closedB a = true) := Lib.hid (fun h => (closedB_iff hG).2 (fun i j k h1 h2 => h i (hG.has_lt h1).1 j (hG.has_lt h1).2 k (hG.has_lt h2).2 h1 h2))
  have hno : Hid (∀ i j k : Nat, hasM a (i : Int) (j : Int) = true → hasM a (j : Int) (k : Int) = true → hasM a (i : Int) (k : Int) = false → closedB a = false) := Lib.hid (fun i j k h1 h2 h3 => by
    cases hc : closedB a with
    | false => rfl
    | true =>
      have := (closedB_iff hG).1 hc i j k h1 h2
      unfold Rel at this
      rw [h3] at this; cases this)
  replace ha := Lib.hid ha
  replace hB := Lib.hid hB
  clear hr hG
  go_enter Try.func37, Try.ntmps37
  go_wp2_with fail
  rw [← hW0]
  clear hW0
  go_wp2_with fail
  clear l0 l1
  go_loopw [3] (fun i wr => ∃ i0 : Nat, i0 ≤ n ∧ i = .int .i64 i0 ∧ Hid (∀ i, i < i0 → ∀ j, j < n → ∀ k, k < n → Rel a i j → Rel a j k → Rel a i k) ∧ Hid (Below W0.heap.size W0 wr)) (fun i _ => n - (intOf i).toNat)
  case atStart => exact ⟨0, Nat.zero_le _, rfl, Lib.hid (fun i hi => absurd hi (by omega)), Lib.hid (Below.refl _ _)⟩
  case round =>
    obtain ⟨i, hi, rfl, halli, hbr⟩ := hrel
    have l0 := (hB.out.below_ hbr.out).c0
    have l1 := (hB.out.below_ hbr.out).c1
    by_cases hlt : i < n
    · go_wp2_with fail
      clear l0 l1
      go_loopw [4] (fun t wr => ∃ j0 : Nat, j0 ≤ n ∧ t = .int .i64 j0 ∧ Hid (∀ j, j < j0 → ∀ k, k < n → Rel a i j → Rel a j k → Rel a i k) ∧ Hid (Below W0.heap.size W0 wr)) (fun t _ => n - (intOf t).toNat)
      case atStart => exact ⟨0, Nat.zero_le _, rfl, Lib.hid (fun j hj => absurd hj (by omega)), hbr⟩
      case round =>
        clear hbr
        obtain ⟨j, hj, rfl, hallj, hbr⟩ := hrel
        have l0 := (hB.out.below_ hbr.out).c0
        have l1 := (hB.out.below_ hbr.out).c1
        by_cases hltj : j < n
        · go_wp2_with fail
          clear l0 l1
          go_loopw [5] (fun t wr => ∃ k0 : Nat, k0 ≤ n ∧ t = .int .i64 k0 ∧ Hid (∀ k, k < k0 → Rel a i j → Rel a j k → Rel a i k) ∧ Hid (Below W0.heap.size W0 wr)) (fun t _ => n - (intOf t).toNat)
          case atStart => exact ⟨0, Nat.zero_le _, rfl, Lib.hid (fun k hk => absurd hk (by omega)), hbr⟩
          case round =>
            clear hbr
            obtain ⟨k, hk, rfl, hallk, hbr⟩ := hrel
            have l0 := (hB.out.below_ hbr.out).c0
            have l1 := (hB.out.below_ hbr.out).c1
            have hnextj : Hid ((∀ k, k < n → Rel a i j → Rel a j k → Rel a i k) → ∀ j', j' < j + 1 → ∀ k, k < n → Rel a i j' → Rel a j' k → Rel a i k) := Lib.hid (fun h j' hj' => by
              rcases Nat.lt_succ_iff_lt_or_eq.1 hj' with h1 | h1
              · exact hallj.out j' h1
              · subst h1; exact h)
            by_cases hltk : k < n
            · have hHij := Lib.hid (hH.out i j wr (hr'.out.below hbr.out))
              cases h1 : hasM a (i : Int) (j : Int) with
              | false =>
                have hres := Lib.hid (hnextj.out (fun k hk h => by unfold Rel at h; rw [h1] at h; cases h))
                go_wp2_with fail
                refine hHij.out.mono ?_; rintro e w1 ⟨rfl, hb1⟩
                rw [h1]
                have hb01 := Lib.hid (below_trans2 hbr.out hb1)
                clear hb1 hHij h1 hnextj
                go_wp2_with fail
                go_roundw
                case rel => exact ⟨j + 1, by omega, by go_num, hres, hb01⟩
                case measure => simp [intOf]; omega
              | true =>
                go_wp2_with fail
                refine hHij.out.mono ?_; rintro e w1 ⟨rfl, hb1⟩
                rw [h1]
                have hb01 := Lib.hid (below_trans2 hbr.out hb1)
                have l0 := (hB.out.below_ hb01.out).c0
                have l1 := (hB.out.below_ hb01.out).c1
                have hHjk := Lib.hid (hH.out j k w1 (hr'.out.below hb01.out))
                clear hb1 hHij hbr
                cases h2 : hasM a (j : Int) (k : Int) with
                | false =>
                  have hres : Hid (∀ k', k' < k + 1 → Rel a i j → Rel a j k' → Rel a i k') := Lib.hid (fun k' hk' h3 h4 => by
                    rcases Nat.lt_succ_iff_lt_or_eq.1 hk' with h5 | h5
                    · exact hallk.out k' h5 h3 h4
                    · subst h5
                      unfold Rel at h4
                      rw [h2] at h4; cases h4)
                  replace h1 := Lib.hid h1
                  go_wp2_with fail
                  refine hHjk.out.mono ?_; rintro e w2 ⟨rfl, hb2⟩
                  rw [h2]
                  have hb02 := Lib.hid (below_trans2 hb01.out hb2)
                  clear hb2 hHjk h2
                  go_wp2_with fail
                  go_roundw
                  case rel => exact ⟨k + 1, by omega, by go_num, hres, hb02⟩
                  case measure => simp [intOf]; omega
                | true =>
                  go_wp2_with fail
                  refine hHjk.out.mono ?_; rintro e w2 ⟨rfl, hb2⟩
                  rw [h2]
                  have hb02 := Lib.hid (below_trans2 hb01.out hb2)
                  have l0 := (hB.out.below_ hb02.out).c0
                  have l1 := (hB.out.below_ hb02.out).c1
                  have hHik := Lib.hid (hH.out i k w2 (hr'.out.below hb02.out))
                  clear hb2 hHjk hb01
                  cases h3 : hasM a (i : Int) (k : Int) with
                  | false =>
                    have hres := Lib.hid (hno.out i j k h1 h2 h3)
                    go_wp2_with fail
                    refine hHik.out.mono ?_; rintro e w3 ⟨rfl, hb3⟩
                    rw [h3]
                    have hb03 := Lib.hid (below_trans2 ha.out (below_trans2 hb02.out hb3))
                    clear hb3 hHik h3 h2 h1
                    go_wp2_with fail
                    go_ret
                    rw [hres.out]; exact ⟨rfl, hb03.out⟩
                  | true =>
                    have hres : Hid (∀ k', k' < k + 1 → Rel a i j → Rel a j k' → Rel a i k') := Lib.hid (fun k' hk' h4 h5 => by
                      rcases Nat.lt_succ_iff_lt_or_eq.1 hk' with h6 | h6
                      · exact hallk.out k' h6 h4 h5
                      · subst h6; exact h3)
                    go_wp2_with fail
                    refine hHik.out.mono ?_; rintro e w3 ⟨rfl, hb3⟩
                    rw [h3]
                    have hb03 := Lib.hid (below_trans2 hb02.out hb3)
                    clear hb3 hHik h3 h2 h1
                    go_wp2_with fail
                    go_roundw
                    case rel => exact ⟨k + 1, by omega, by go_num, hres, hb03⟩
                    case measure => simp [intOf]; omega
            · have hres := Lib.hid (hnextj.out (fun k' hk' => hallk.out k' (by omega)))
              clear hnextj
              go_wp2_with fail
              go_roundw
              case rel => exact ⟨j + 1, by omega, by go_num, hres, hbr⟩
              case measure => simp [intOf]; omega
        · have hres : Hid (∀ i', i' < i + 1 → ∀ j, j < n → ∀ k, k < n → Rel a i' j → Rel a j k → Rel a i' k) := Lib.hid (fun i' hi' j' hj' => by
            rcases Nat.lt_succ_iff_lt_or_eq.1 hi' with h1 | h1
            · exact halli.out i' h1 j' hj'
            · subst h1; exact hallj.out j' (by omega))
          go_wp2_with fail
          go_roundw
          case rel => exact ⟨i + 1, by omega, by go_num, hres, hbr⟩
          case measure => simp [intOf]; omega
    · have hres := Lib.hid (hyes.out (fun i' hi' => halli.out i' (by omega)))
      go_wp2_with fail
      go_ret
      rw [hres.out]; exact ⟨rfl, below_trans2 ha.out hbr.out⟩
set_option maxHeartbeats 1000000 in
theorem ref4_Loop (A : Option Addr) (n c : Nat) (a : List (List Nat)) (w : World) (hr : RowsAt w A n a) (hG : Good n a) :
    Calls Try.prog 33 #[.agg #[.int .i64 (n : Int), .slice A n c]] w (RetLoop n a w) := by
  have hnn : n ≤ 4096 := hG.le
  have hl : True := trivial
  obtain ⟨W0, hW0⟩ : ∃ W0, W0 = w.alloc (.cells #[.int .i64 n, .slice A n c] 24) := ⟨_, rfl⟩
  have ha : Below w.heap.size w W0 := by rw [hW0]; exact below_alloc _ _
  have hB : MatB W0 w.heap.size 24 n A n c := by rw [hW0]; exact MatB.new w _
  have l0 := hB.c0
  have l1 := hB.c1
  have hr' := Lib.hid (hr.below ha)
  have hC := Lib.hid (fun (k : Nat) (hk : k < n) W (hW : RowsAt W A n a) => ref3_HasG A n c a hG (k: Int) (k: Int) W hW)
  replace ha := Lib.hid ha
  replace hB := Lib.hid hB
  clear hr hl
  go_enter Try.func33, Try.ntmps33
  go_wp2_with fail
  rw [← hW0]
  clear hW0
  go_wp2_with fail
  clear l0 l1
  go_loopw [4] (fun i wr => ∃ k : Nat, k ≤ n ∧ i = .int .i64 k ∧ Hid (∀ j, j < k → ¬ Rel a j j) ∧ Hid (Below W0.heap.size W0 wr)) (fun i _ => n - (intOf i).toNat)
  case atStart => exact ⟨0, Nat.zero_le _, rfl, Lib.hid (fun j hj => absurd hj (by omega)), Lib.hid (Below.refl _ _)⟩
  case round =>
    obtain ⟨k, hk, rfl, hall, hbr⟩ := hrel
    have l0 := (hB.out.below_ hbr.out).c0
    have l1 := (hB.out.below_ hbr.out).c1
    by_cases hlt : k < n
    · have hCk := Lib.hid (hC.out k hlt wr (hr'.out.below hbr.out))
      go_wp2_with fail
      refine hCk.out.mono ?_; rintro e w1 ⟨rfl, hb1⟩
      have hb01 := Lib.hid (below_trans2 hbr.out hb1)
      clear hb1 l0 l1 hCk
      cases hh : hasM a (k : Int) (k : Int) with
      | true =>
        have hres : Hid (LoopIs n a (k : Int) true) := Lib.hid (.inl ⟨rfl, k, rfl, hlt, hh, hall.out⟩)
        go_wp2_with fail
        exact bodyPost_ret (v := .tuple #[.int .i64 (k : Int), .bool true]) (by simp [results, Try.results33, go_sem]) rfl ⟨_, _, rfl, hres.out, below_trans2 ha.out hb01.out⟩
      | false =>
        have hall' : Hid (∀ j, j < k + 1 → ¬ Rel a j j) := Lib.hid (fun j hj => by
          rcases Nat.lt_succ_iff_lt_or_eq.1 hj with h1 | h1
          · exact hall.out j h1
          · subst h1
            unfold Rel
            rw [hh]; simp)
        clear hall
        go_wp2_with fail
        go_roundw
        case rel => exact ⟨k + 1, by omega, by go_num, hall', hb01⟩
        case measure => simp [intOf]; omega
    · have hres : Hid (LoopIs n a 0 false) := Lib.hid (.inr ⟨rfl, rfl, fun i hi => hall.out i (by omega)⟩)
      go_wp2_with fail
      exact bodyPost_ret (v := .tuple #[.int .i64 0, .bool false]) (by simp [results, Try.results33, go_sem]) rfl ⟨_, _, rfl, hres.out, below_trans2 ha.out hbr.out⟩

end Go.Proofs.Ytkikoniihmieiaa
