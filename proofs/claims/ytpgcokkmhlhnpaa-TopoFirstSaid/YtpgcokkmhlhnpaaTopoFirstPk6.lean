/- Layer 15's law TopoFirst, walked. Arguments opened: a slice of pairs ('[][2]int'), and the rows of a matrix. An argument opened: a matrix, with its capacity. Arguments opened: a matrix by its cells, inside a struct. Arguments opened: a history (a slice of slices of operations), and what the bound of an '..Upto' statement says of it. Arguments opened: slices of anything that has an encoding; facts. An argument opened: a struct of a matrix, a number, a history, numbers, a number. -/
import Derived.Test.YtpgcokkmhlhnpaaTopoFirstPk5
import Derived.Test.YtpgcokkmhlhnpaaTopoFirstPk2
import Derived.Test.YtpgcokkmhlhnpaaTopoFirstPk1
import Derived.Deep.Slices
import Derived.Deep.Matrix
import Derived.OpenShut
import Derived.ChangeArms
import Derived.Lib.SmallJoins
import Derived.Test.YtpgcokkmhlhnpaaRows
import Derived.Test.YtpgcokkmhlhnpaaTopoFirstPk3
import Derived.WalkKit
import Derived.ProofKit
namespace Go.Proofs.Ytpgcokkmhlhnpaa
open Go.RowKit
set_option linter.unusedVariables false
theorem SortIs.firstO {r : Int → Int → Prop} {n : Nat} {zs l : List Int} {E : Int} (h : SortIs r n zs l E) : FirstO r l ∧ (0 < l.length → E = 0) ∧ l.Nodup := by
  rcases h with ⟨h1, rfl, rfl⟩ | ⟨h1, rfl, h2, h3⟩ | ⟨h1, rfl, rfl, C, h2, h3⟩
  · exact ⟨trivial, fun h => (by simp at h), List.nodup_nil⟩
  · exact ⟨h3, fun _ => rfl, h2.nodup_iff.2 h1.2⟩
  · exact ⟨trivial, fun h => (by simp at h), List.nodup_nil⟩
set_option maxRecDepth 100000 in
set_option maxHeartbeats 4000000 in
theorem law15_TopoFirst (N : Int) (A : Option Addr) (n c : Nat) (a : List (List Nat)) (w : World)
    (hr : RowsAt w A n a) (hn : n ≤ 9223372036854775807) (hl : ∀ (k : Nat) (xs : List Nat), a[k]? = some xs → xs.length ≤ 9223372036854775807) (hw64 : ∀ r ∈ a, ∀ x ∈ r, x < 18446744073709551616) :
    Calls Try.prog 5 #[.agg #[.int .i64 N, .slice A n c]] w (RetBool true w) := by
  -- the matrix, whether it is looked at, all numbers: hL : LAt w2 AL n (allZ n), hM : MatK at w2, bb
  obtain ⟨i0, hi, hz0, hz1, hz2⟩ := info_parts info_int15
  replace hi := Lib.hid hi
  replace hz0 := Lib.hid hz0
  replace hz1 := Lib.hid hz1
  replace hz2 := Lib.hid hz2
  have k1 := Lib.hid (MatK.new (N := N) (c := c) w 39 hr)
  obtain ⟨g, hg⟩ : ∃ g, g = w.heap.size := ⟨_, rfl⟩
  obtain ⟨W0, hW0⟩ : ∃ W, W = w.alloc (.cells #[.int .i64 N, .slice A n c] 39) := ⟨_, rfl⟩
  rw [← hW0, ← hg] at k1
  have bb := Lib.hid (show Below w.heap.size w W0 from by rw [hW0]; exact below_alloc _ _)
  have hla := hr.len
  have cS := Lib.hid (law15_may N A n c a W0 k1.out.2 hn hl)
  replace hl := Lib.hid hl
  replace hw64 := Lib.hid hw64
  have qk10 := k1.out.1.c0
  have qk11 := k1.out.1.c1
  clear hr
  go_enter Try.func5, Try.ntmps5
  go_wp2_with (rw [← hW0, ← hg]; clear hW0 hg)
  refine cS.out.mono ?_; rintro e w1 ⟨rfl, b⟩
  replace k1 := Lib.hid (k1.out.below b)
  replace qk10 := k1.out.1.c0
  replace qk11 := k1.out.1.c1
  replace bb := Lib.hid (below_trans2 bb.out b)
  clear b
  clear cS
  cases hsm : (smallM a 16 && rightM N a) with
  | false =>
    clear hsm
    go_wp2_with fail
    refine (law15_awake w1).mono ?_; rintro e w9 ⟨rfl, b9⟩
    go_wp2_with fail
    go_ret
    exact ⟨rfl, below_trans2 bb.out b9⟩
  | true =>
    rw [Bool.and_eq_true] at hsm
    obtain ⟨s1, s2⟩ := smallM_len hsm.1
    obtain ⟨p, rfl, hGa⟩ := Good.of hsm.2 hw64.out
    obtain rfl : n = p := by have := hGa.len; omega
    have hn16 : n ≤ 16 := by omega
    clear hsm s1 s2 hw64 hl hla
    have hown0 : Hid (w1.ownsRow w1.heap.size 3 1 (.slice none 0 0) 0 (encI.all (allZ 0))) := Lib.hid (World.ownsRow_nil _ _ _ _)
    go_wp2_with fail
    go_loopw [3, 4] (fun v t wr => ∃ q : Nat, q ≤ n ∧ t = .int .i64 (q : Int) ∧ Hid (wr.ownsRow w1.heap.size 3 1 v q (encI.all (allZ q))) ∧ Hid (Below w1.heap.size w1 wr)) (fun _ t _ => n - (intOf t).toNat)
    case atStart => exact ⟨0, Nat.zero_le _, rfl, hown0, Lib.hid (Below.refl _ _)⟩
    case round =>
      clear qk10 qk11 hown0
      obtain ⟨q, hq, rfl, hown, hb⟩ := hrel
      have m0 := (k1.out.below hb.out).1.c0
      by_cases hqn : q < n
      · have hqn' : (q : Int) < (n : Int) := by omega
        obtain ⟨VL, hVL⟩ : ∃ W, W = wr.alloc (.cells #[.int .i64 (q : Int)] 3) := ⟨_, rfl⟩
        obtain ⟨gl2, hgl2⟩ : ∃ g, g = wr.heap.size := ⟨_, rfl⟩
        have bL : Below wr.heap.size wr VL := by rw [hVL]; exact below_alloc _ _
        have hlit := Lib.hid (show LAt encI VL (some ⟨gl2, 0, none⟩) 1 [(q : Int)] from by rw [hVL, hgl2]; exact LAt.lit1 (E := encI) wr 3 (q : Int) ⟨by omega, by omega⟩)
        have hovL := Lib.hid (own_below hown.out bL)
        have bWL := Lib.hid (below_trans2 hb.out bL)
        have hbase := Lib.hid bWL.out.size
        replace hqn := Lib.hid hqn
        clear bL hown hb
        go_wp2_with (first
          | (rw [← hVL, ← hgl2]; clear hVL hgl2)
          | (at_builtin; refine wpList_append_L (E := encI) rfl (.tmp 21) (.tmp 23) _ rfl w1.heap.size 3 i0 _ 8 Try.underlying23 hi.out hz0.out hz1.out hz2.out rfl _ q (allZ q) (by rfl) hovL.out _ 1 1 _ rfl hlit.out (by unfold maxLen; omega) (by omega) hbase.out ?_; intro v7 w7 hown7 hb7 _ _))
        exact ⟨⟨q + 1, by have := hqn.out; omega, by go_num, Lib.hid (by rw [allZ_succ]; exact hown7), Lib.hid (bWL.out.trans hb7)⟩, by have := hqn.out; simp [intOf]; omega⟩
      · have hqn' : ¬ (q : Int) < (n : Int) := by omega
        obtain rfl : q = n := by omega
        clear hqn
        obtain ⟨AL, cL, rfl, hL1, hL2, hL⟩ := LAt.of_own (E := encI) hown.out (fun x hx => by have := allZ_mem.1 hx; exact ⟨by omega, by omega⟩) (allZ_len q)
        replace k1 := Lib.hid (k1.out.below hb.out)
        replace bb := Lib.hid (below_trans2 bb.out hb.out)
        replace hL := Lib.hid hL
        clear hown hb m0
        have qk10 := k1.out.1.c0
        have qk11 := k1.out.1.c1
        have cS := Lib.hid (fun D m d zs W hW hL hm => topo_Sort A q c a D m d zs W hW hGa hL hm)
        have cHas := Lib.hid (fun x y W hW => ref3_HasG A q c a hGa x y W hW)
        clear hGa
        go_wp2_with fail
        refine (cS.out AL q cL _ wr k1.out.2 hL.out (by omega)).mono ?_; rintro e w2 ⟨D1, m1, d1, l, E, rfl, hL1', hmd1, hdm1, hSo, b⟩
        replace k1 := Lib.hid (k1.out.below b)
        replace qk10 := k1.out.1.c0
        replace qk11 := k1.out.1.c1
        replace bb := Lib.hid (below_trans2 bb.out b)
        clear b
        have hlen := Lib.hid hL1'.len
        have hFO := Lib.hid hSo.firstO.1
        have hnd := Lib.hid hSo.firstO.2.2
        have hE0 : 0 < m1 → E = 0 := fun h => hSo.firstO.2.1 (by rw [hlen.out]; exact h)
        have hm17 : m1 ≤ 1048576 := by
          rcases hSo with ⟨_, rfl, _⟩ | ⟨_, _, h2, _⟩ | ⟨_, _, rfl, _⟩
          · have := hlen.out; simp at this; omega
          · have := h2.length_eq; rw [hlen.out, allZ_len] at this; omega
          · have := hlen.out; simp at this; omega
        replace hL1' := Lib.hid hL1'
        clear hL cS hSo
        go_wp2_with fail
        go_loopw [7] (fun t wr => ∃ p : Nat, p ≤ m1 ∧ t = .int .i64 (p : Int) ∧ Hid (Below w2.heap.size w2 wr)) (fun t _ => m1 - (intOf t).toNat)
        case atStart => exact ⟨0, Nat.zero_le _, rfl, Lib.hid (Below.refl _ _)⟩
        case round =>
          clear qk10 qk11
          obtain ⟨p, hp, rfl, hb⟩ := hrel
          by_cases hpm : p < m1
          · have hpm' : (p : Int) < (m1 : Int) := by omega
            have hE : (E == 0) = true := by rw [hE0 (by omega)]; rfl
            replace hpm := Lib.hid hpm
            obtain ⟨Wo, hWo⟩ : ∃ W, W = wr := ⟨_, rfl⟩
            rw [← hWo] at hb ⊢
            clear hWo
            go_wp2_with fail
            go_loopw [8] (fun t wr => ∃ k : Nat, p + 1 ≤ k ∧ k ≤ m1 ∧ t = .int .i64 (k : Int) ∧ Hid (Below Wo.heap.size Wo wr)) (fun t _ => m1 - (intOf t).toNat)
            case atStart => exact ⟨p + 1, Nat.le_refl _, by have := hpm.out; omega, by go_num, Lib.hid (Below.refl _ _)⟩
            case round =>
              obtain ⟨k, hk1, hk2, rfl, hb2⟩ := hrel
              have hbW := Lib.hid (below_trans2 hb.out hb2.out)
              by_cases hkm : k < m1
              · have hkm' : (k : Int) < (m1 : Int) := by omega
                have hLr := hL1'.out.below hbW.out
                obtain ⟨lb, lo, z1, hA2, hlb, hz1, -, j1⟩ := hLr.int hkm
                obtain ⟨lb2, lo2, z2, hA3, hlb2, hz2, -, j2⟩ := hLr.int hpm.out
                subst hA2
                injection hA3 with hA3
                injection hA3 with e1 e2
                subst e1; subst e2
                have bk : 0 ≤ (k : Int) ∧ (k : Int) < (m1 : Int) := by omega
                have bp : 0 ≤ (p : Int) ∧ (p : Int) < (m1 : Int) := by have := hpm.out; omega
                have hzd : Hid (l.getD k 0 = z1 ∧ l.getD p 0 = z2) := Lib.hid ⟨getD_of hz1, getD_of hz2⟩
                replace hkm := Lib.hid hkm
                clear hz1 hz2 hlb hlb2 hLr
                by_cases hlt : z2 < z1
                · have dl : decide (z2 < z1) = true := decide_eq_true hlt
                  go_wp2_with fail
                  go_quiet (fail)
                  go_wp2_with fail
                  exact ⟨⟨k + 1, by omega, by have := hkm.out; omega, by go_num, Lib.hid (below_trans2 hb2.out (below_drewN (Below.refl _ _) _))⟩, by have := hkm.out; simp [intOf]; omega⟩
                · have dl : decide (z2 < z1) = false := decide_eq_false hlt
                  have hne : z1 ≠ z2 ∨ z1 = z2 := by omega
                  go_wp2_with fail
                  go_quiet (fail)
                  go_wp2_with fail
                  obtain ⟨Wi, hWi⟩ : ∃ W, W = wr.drewN nq := ⟨_, rfl⟩
                  have hbi := Lib.hid (show Below wr.heap.size wr Wi by rw [hWi]; exact below_drewN (Below.refl _ _) _)
                  rw [← hWi]
                  clear hWi j1 j2
                  go_loopw [9, 10] (fun f t wr => ∃ (x : Nat) (hd : Bool), p ≤ x ∧ x ≤ m1 ∧ f = .bool hd ∧ t = .int .i64 (x : Int) ∧ Hid (hd = true ↔ ∃ u, p ≤ u ∧ u < x ∧ RelZ a (l.getD u 0) (l.getD k 0)) ∧ Hid (Below Wi.heap.size Wi wr)) (fun _ t _ => m1 - (intOf t).toNat)
                  case atStart => exact ⟨p, false, Nat.le_refl _, by have := hpm.out; omega, rfl, rfl, Lib.hid ⟨fun h => (by cases h), fun ⟨u, h1, h2, _⟩ => by omega⟩, Lib.hid (Below.refl _ _)⟩
                  case round =>
                    obtain ⟨x, hd, hx1, hx2, rfl, rfl, hhd, hb3⟩ := hrel
                    have hb4 := Lib.hid (below_trans2 hbi.out hb3.out)
                    by_cases hxm : x < m1
                    · have hxm' : (x : Int) < (m1 : Int) := by omega
                      have bx : 0 ≤ (x : Int) ∧ (x : Int) < (m1 : Int) := by omega
                      have hLr := (hL1'.out.below hbW.out).below hb4.out
                      obtain ⟨lb3, lo3, z3, hA2, hlb3, hz3, -, j1⟩ := hLr.int hkm.out
                      obtain ⟨lb4, lo4, z4, hA4, hlb4, hz4, -, j2⟩ := hLr.int hxm
                      injection hA2 with hA2
                      injection hA2 with e1 e2
                      subst e1; subst e2
                      injection hA4 with hA4
                      injection hA4 with e1 e2
                      subst e1; subst e2
                      have hzd2 : Hid (l.getD k 0 = z3 ∧ l.getD x 0 = z4) := Lib.hid ⟨getD_of hz3, getD_of hz4⟩
                      replace hxm := Lib.hid hxm
                      clear hz3 hz4 hlb3 hlb4 hLr
                      cases hd with
                      | true =>
                        go_wp2_with fail
                        refine wp_region_plan 14 [(true, 0), (true, 1), (true, 2), (true, 3), (true, 4), (true, 5), (true, 6), (true, 7), (true, 8), (true, 9), (true, 10), (false, 11), (true, 12), (true, 13)] (by kernel_rfl) (by kernel_rfl) (fun X hX => ?_)
                        have hX' : Below wr.heap.size wr X := by rw [hX.out]; exact (Below.refl _ _).drew
                        replace hb3 := Lib.hid (below_trans2 hb3.out hX')
                        clear hX hX' j1 j2
                        simp only [List.drop_succ_cons, List.drop_nil]
                        iterate 2
                          refine wpPlan_float (v := ?_) rfl (by rfl) (fun w' hw' => ?_) (fun K hK => ?_)
                          rotate_left
                          · (go_simp; try with_reducible rfl)
                          go_simp
                          refine hK _ ?_
                          clear hK K
                        iterate 9
                          refine wpPlan_skip rfl (by rfl) (fun K hK => ?_)
                          go_simp
                          refine hK _ ?_
                          clear hK K
                        refine wpPlan_skip' rfl (by rfl) (fun K hK => ?_)
                        go_simp
                        refine hK _ ?_
                        clear hK K
                        iterate 2
                          refine wpPlan_float (v := ?_) rfl (by rfl) (fun w' hw' => ?_) (fun K hK => ?_)
                          rotate_left
                          · (go_simp; try with_reducible rfl)
                          go_simp
                          refine hK _ ?_
                          clear hK K
                        refine wpPlan_nil (NoPanic.normal ?_)
                        go_wp2_with fail
                        refine ⟨⟨x + 1, true, by omega, by have := hxm.out; omega, rfl, by go_num, Lib.hid ⟨fun _ => ?_, fun _ => rfl⟩, hb3⟩, by have := hxm.out; simp [intOf]; omega⟩
                        obtain ⟨u, h1, h2, h3⟩ := hhd.out.1 (by simp)
                        exact ⟨u, h1, by omega, h3⟩
                      | false =>
                        have hM := Lib.hid ((k1.out.below hbW.out).below hb4.out)
                        go_wp2_with fail
                        refine wp_region_plan 14 [(true, 0), (true, 1), (true, 2), (true, 3), (true, 4), (true, 5), (true, 6), (true, 7), (true, 8), (true, 9), (true, 10), (false, 11), (true, 12), (true, 13)] (by kernel_rfl) (by kernel_rfl) (fun X hX => ?_)
                        have hX' : Below wr.heap.size wr X := by rw [hX.out]; exact (Below.refl _ _).drew
                        replace hb3 := Lib.hid (below_trans2 hb3.out hX')
                        replace hM := Lib.hid (hM.out.below hX')
                        replace j1 : X.cell? ⟨lb, lo + k, none⟩ = some (.int .i64 z3) := by rw [hX.out]; exact j1
                        replace j2 : X.cell? ⟨lb, lo + x, none⟩ = some (.int .i64 z4) := by rw [hX.out]; exact j2
                        clear hX hX'
                        have m0 := hM.out.1.c0
                        have m1' := hM.out.1.c1
                        simp only [List.drop_succ_cons, List.drop_nil]
                        iterate 11
                          refine wpPlan_float (v := ?_) rfl (by rfl) (fun w' hw' => ?_) (fun K hK => ?_)
                          rotate_left
                          · (go_simp; try with_reducible rfl)
                          go_simp
                          refine hK _ ?_
                          clear hK K
                        clear m0 m1' j1 j2
                        have cH := cHas.out z4 z3 X hM.out.2
                        refine wpPlan_only rfl (by rfl) (fun K hK => ?_)
                        go_simp
                        refine cH.mono ?_
                        rintro e x1 ⟨rfl, b⟩
                        refine hK _ _ b ?_
                        clear hK K cH
                        replace hb3 := Lib.hid (below_trans2 hb3.out b)
                        clear b
                        obtain ⟨hv, hhv⟩ : ∃ hv, hv = hasM a z4 z3 := ⟨_, rfl⟩
                        rw [← hhv]
                        replace hhv := Lib.hid hhv
                        iterate 2
                          refine wpPlan_float (v := ?_) rfl (by rfl) (fun w' hw' => ?_) (fun K hK => ?_)
                          rotate_left
                          · (go_simp; try with_reducible rfl)
                          go_simp
                          refine hK _ ?_
                          clear hK K
                        refine wpPlan_nil (NoPanic.normal ?_)
                        go_wp2_with fail
                        refine ⟨⟨x + 1, hv, by omega, by have := hxm.out; omega, by first | rfl | simp, by go_num, Lib.hid ⟨fun h => ⟨x, by omega, by omega, ?_⟩, fun ⟨u, h1, h2, h3⟩ => ?_⟩, hb3⟩, by have := hxm.out; simp [intOf]; omega⟩
                        · rw [hzd2.out.1, hzd2.out.2]
                          exact hhv.out.symm.trans h
                        · rcases Nat.lt_or_ge u x with h4 | h4
                          · have := hhd.out.2 ⟨u, h1, h4, h3⟩
                            cases this
                          · obtain rfl : u = x := by omega
                            rw [hzd2.out.1, hzd2.out.2] at h3
                            exact hhv.out.trans h3
                    · have hxm' : ¬ (x : Int) < (m1 : Int) := by omega
                      obtain rfl : x = m1 := by omega
                      have hheld : hd = true := by
                        refine hhd.out.2 ?_
                        rcases Int.lt_or_le z1 z2 with h4 | h4
                        · obtain ⟨u, h1, h2, h3⟩ := hFO.out.held p k (by omega) (by rw [hlen.out]; exact hkm.out) (by rw [hzd.out.1, hzd.out.2]; exact h4)
                          exact ⟨u, h1, by rw [hlen.out] at h2; exact h2, h3⟩
                        · exfalso
                          have e : z1 = z2 := by omega
                          have h1 : l[k]? = some z1 := by
                            rw [List.getElem?_eq_getElem (show k < l.length by rw [hlen.out]; exact hkm.out), ← hzd.out.1, List.getD_eq_getElem?_getD, List.getElem?_eq_getElem (show k < l.length by rw [hlen.out]; exact hkm.out)]; rfl
                          have h2 : l[p]? = some z1 := by
                            rw [List.getElem?_eq_getElem (show p < l.length by rw [hlen.out]; exact hpm.out), e, ← hzd.out.2, List.getD_eq_getElem?_getD, List.getElem?_eq_getElem (show p < l.length by rw [hlen.out]; exact hpm.out)]; rfl
                          have := nodup_at hnd.out h1 h2
                          omega
                      subst hheld
                      clear hxm
                      go_wp2_with fail
                      exact ⟨⟨k + 1, by omega, by have := hkm.out; omega, by go_num, Lib.hid (below_trans2 hb2.out hb4.out)⟩, by have := hkm.out; simp [intOf]; omega⟩
              · have hkm' : ¬ (k : Int) < (m1 : Int) := by omega
                clear hkm
                go_wp2_with fail
                exact ⟨⟨p + 1, by have := hpm.out; omega, by go_num, hbW⟩, by have := hpm.out; simp [intOf]; omega⟩
          · have hpm' : ¬ (p : Int) < (m1 : Int) := by omega
            clear hpm
            go_wp2_with fail
            refine (law15_awake wr).mono ?_; rintro e w9 ⟨rfl, b9⟩
            go_wp2_with fail
            go_ret
            exact ⟨rfl, below_trans2 (below_trans2 bb.out hb.out) b9⟩
end Go.Proofs.Ytpgcokkmhlhnpaa

namespace Go.Proofs.Ytpgcokkmhlhnpaa
open Go.RowKit Go.ChangeShapes Go.WideShapes Go.Deep Go.Joins
set_option linter.unusedVariables false

theorem addr_add (b off j : Nat) : (⟨b, off, none⟩ : Addr).add j = ⟨b, off + j, none⟩ := by unfold Addr.add; split <;> simp_all

section
variable {H : Type} {enc : TypeId × Value → H} {P : Program} {w : World} {base : Nat} {spare : Nat → Bool} {held : Bool}
theorem row_of_ints {a' : Option Addr} {L C : Nat} {zs : List Int} (hl : L ≤ C) (hm : C ≤ maxLen) (hz : zs.length = C) (hwz : ∀ n ∈ zs, (Lit.int .u64 n).wf = true) (hnil : a' = none → C = 0)
    (hcell : ∀ x, a' = some x → ∀ c, c < C → w.cell? (x.add c) = some (.int .u64 (zs.getD c 0))) : ∃ xs, Row w a' L xs ∧ L ≤ 9223372036854775807 := by
  cases a' with
  | none =>
    have := hnil rfl
    obtain rfl : L = 0 := by omega
    exact ⟨[], Row.nil _ _, by omega⟩
  | some x => exact row_of_is (c := C) (zs := zs) (.inr ⟨x, rfl, hl, hm, hz, fun i hi => hcell x rfl i (by omega), hwz⟩)
theorem open_mat {t e q : TypeId} {fuel : Nat} {A : Option Addr} {len cap : Nat} {x : DataW H × List MemPlace} (ht : P.underlying t = some (.slice e)) (he : P.underlying e = some (.slice q)) (hq : P.underlying q = some (.int .u64))
    (ce : P.cellsOf e = 1) (cq : P.cellsOf q = 1) (h : DataW.trod enc P w base (fun _ => true) held fuel t [.slice A len cap] = some x) :
    ∃ xss, RowsAt w A len xss ∧ len ≤ 9223372036854775807 ∧ ∀ (k : Nat) (xs : List Nat), xss[k]? = some xs → xs.length ≤ 9223372036854775807 := by
  rcases open_int_rows ht he hq ce cq h with ⟨hcs, _⟩ | ⟨⟨b, off, spot⟩, l, c, B, L, C, Z, hcs, hb, hl, hm, hx, hrow⟩
  · injection hcs with hcs
    injection hcs with h1 h2 h3
    subst h1 h2 h3
    exact ⟨[], RowsAt.nil _ _, by omega, fun k xs hx => by simp at hx⟩
  · injection hcs with hcs
    injection hcs with h1 h2 h3
    subst h1 h2 h3
    have hlm : len ≤ 9223372036854775807 := by unfold maxLen at hm; omega
    have hrow' : ∀ k, k < len → ∃ xs, Row w (B k) (L k) xs ∧ L k ≤ 9223372036854775807 := fun k hk => by
      obtain ⟨_, h1, h2, h3, h4, h5, h6⟩ := hrow k (by omega)
      exact row_of_ints h1 h2 h3 h4 h5 (fun x e c hc => (h6 x e).2 c hc)
    by_cases h0 : len = 0
    · subst h0
      exact ⟨[], RowsAt.nil _ _, by omega, fun k xs hx => by simp at hx⟩
    · have hc0 := (hrow 0 (by omega)).1
      have hspot : spot = none := by
        have h := World.cell?_spot hc0
        cases spot with
        | none => rfl
        | some s => unfold Addr.add at h; simp at h
      subst hspot
      have hblt : b < w.heap.size := by
        have := World.block_lt_of_cell? w _ hc0
        rwa [addr_add] at this
      have hall : ∀ k, k ≤ len → ∃ xss : List (List Nat), RowsC w ((List.range k).map fun i => .slice (B i) (L i) (C i)) xss ∧ ∀ (j : Nat) (xs : List Nat), xss[j]? = some xs → xs.length ≤ 9223372036854775807 := by
        intro k
        induction k with
        | zero => exact fun _ => ⟨[], RowsC.nil _, fun j xs h => by simp at h⟩
        | succ k ih =>
          intro hk
          obtain ⟨xss, p1, p2⟩ := ih (by omega)
          obtain ⟨xs, hx1, hx2⟩ := hrow' k (by omega)
          refine ⟨xss ++ [xs], ?_, fun j ys hj => ?_⟩
          · rw [List.range_succ, List.map_append]
            exact p1.snoc ⟨_, _, _, rfl, hx1⟩
          · rcases Nat.lt_or_ge j xss.length with hlt | hge
            · rw [List.getElem?_append_left hlt] at hj; exact p2 j ys hj
            · rw [List.getElem?_append_right hge] at hj
              have hj' := List.mem_of_getElem? hj
              rw [List.mem_singleton.1 hj', hx1.len]; exact hx2
      obtain ⟨xss, p1, p2⟩ := hall len (Nat.le_refl _)
      refine ⟨xss, ⟨_, ⟨by simp, fun _ => ⟨b, off, rfl, hblt, fun j u hu => ?_⟩⟩, p1⟩, hlm, p2⟩
      have hj : j < len := by have := (List.getElem?_eq_some_iff.1 hu).1; simpa using this
      rw [List.getElem?_map, List.getElem?_range hj, Option.map_some] at hu
      have h1 := (hrow j (by omega)).1
      rw [addr_add] at h1
      rw [h1]; exact hu
theorem open_matV {r : Reach} {b0 : Nat} {t e q : TypeId} {f0 f1 : Field} {v : Value} {d : DataW H} {p : List MemPlace} (ht : P.underlying t = some (.struct #[f0, f1])) (hone : oneCellFields P #[f0, f1] = true) (cT : P.cellsOf t = 2)
    (hi : P.underlying f0.type = some (.int .i64)) (hr : P.underlying f1.type = some (.slice e)) (he : P.underlying e = some (.slice q)) (hq : P.underlying q = some (.int .u64)) (ce : P.cellsOf e = 1) (cq : P.cellsOf q = 1)
    (hv : Value.okWide P w r b0 t v) (h : DataW.Trod enc P w base (fun _ => true) held t v d p) :
    ∃ (N : Int) (A : Option Addr) (n c : Nat) (xss : List (List Nat)), v = .agg #[.int .i64 N, .slice A n c] ∧ (-9223372036854775808 ≤ N ∧ N ≤ 9223372036854775807) ∧ RowsAt w A n xss ∧ n ≤ 9223372036854775807 ∧
      ∀ (k : Nat) (xs : List Nat), xss[k]? = some xs → xs.length ≤ 9223372036854775807 := by
  obtain ⟨v0, v1, y0, y1, m, rfl, _, _, h0, h1⟩ := open_agg2 ht hone cT hv h
  obtain ⟨N, e0, _, hw⟩ := DataW.trod_int hi h0
  injection e0 with e0
  subst e0
  obtain ⟨A, n, c, rfl⟩ : ∃ A n c, v1 = .slice A n c := by
    rcases open_int_rows hr he hq ce cq h1 with ⟨hcs, _⟩ | ⟨a, l, c, B, L, C, Z, hcs, _⟩
    · injection hcs with hcs; exact ⟨_, _, _, hcs⟩
    · injection hcs with hcs; exact ⟨_, _, _, hcs⟩
  obtain ⟨xss, hx1, hx2, hx3⟩ := open_mat hr he hq ce cq h1
  exact ⟨N, A, n, c, xss, rfl, bounds_i64 hw, hx1, hx2, hx3⟩
end

end Go.Proofs.Ytpgcokkmhlhnpaa

namespace Go.Proofs.Ytpgcokkmhlhnpaa
open Go.RowKit Go.ChangeShapes Go.WideShapes Go.Deep Go.Joins
set_option linter.unusedVariables false
section
variable {H : Type} {enc : TypeId × Value → H} {P : Program} {w : World} {base : Nat} {held : Bool}
theorem open_cap {t e q : TypeId} {fuel : Nat} {A : Option Addr} {len cap : Nat} {x : DataW H × List MemPlace} (ht : P.underlying t = some (.slice e)) (he : P.underlying e = some (.slice q)) (hq : P.underlying q = some (.int .u64))
    (ce : P.cellsOf e = 1) (cq : P.cellsOf q = 1) (h : DataW.trod enc P w base (fun _ => true) held fuel t [.slice A len cap] = some x) : len ≤ cap := by
  rcases open_int_rows ht he hq ce cq h with ⟨hcs, _⟩ | ⟨a, l, c, B, L, C, Z, hcs, hb, hl, hm, hx, hrow⟩
  · injection hcs with hcs
    injection hcs with h1 h2 h3
    omega
  · injection hcs with hcs
    injection hcs with h1 h2 h3
    omega
theorem open_matV_cap {r : Reach} {b0 : Nat} {t e q : TypeId} {f0 f1 : Field} {N : Int} {A : Option Addr} {n c : Nat} {d : DataW H} {p : List MemPlace} (ht : P.underlying t = some (.struct #[f0, f1])) (hone : oneCellFields P #[f0, f1] = true) (cT : P.cellsOf t = 2)
    (hr : P.underlying f1.type = some (.slice e)) (he : P.underlying e = some (.slice q)) (hq : P.underlying q = some (.int .u64)) (ce : P.cellsOf e = 1) (cq : P.cellsOf q = 1)
    (hv : Value.okWide P w r b0 t (.agg #[.int .i64 N, .slice A n c])) (h : DataW.Trod enc P w base (fun _ => true) held t (.agg #[.int .i64 N, .slice A n c]) d p) : n ≤ c := by
  obtain ⟨v0, v1, y0, y1, m, e1, _, _, h0, h1⟩ := open_agg2 ht hone cT hv h
  injection e1 with e1
  simp at e1
  obtain ⟨_, rfl⟩ := e1
  exact open_cap hr he hq ce cq h1
end
end Go.Proofs.Ytpgcokkmhlhnpaa

namespace Go.Proofs.Ytpgcokkmhlhnpaa
open Go.RowKit Go.ChangeShapes Go.WideShapes Go.Deep Go.Joins
set_option linter.unusedVariables false
section
variable {H : Type} {enc : TypeId × Value → H} {P : Program} {w : World} {base : Nat} {held : Bool}
end
end Go.Proofs.Ytpgcokkmhlhnpaa

namespace Go.Proofs.Ytpgcokkmhlhnpaa
open Go.RowKit Go.ChangeShapes Go.WideShapes Go.Deep
set_option linter.unusedVariables false

section
variable {H : Type} {enc : TypeId × Value → H} {P : Program} {w : World} {base : Nat} {held : Bool}
end
end Go.Proofs.Ytpgcokkmhlhnpaa

namespace Go.Proofs.Ytpgcokkmhlhnpaa
open Go.RowKit Go.ChangeShapes Go.WideShapes Go.Deep
set_option linter.unusedVariables false

section
variable {H : Type} {enc : TypeId × Value → H} {P : Program} {w : World} {base : Nat} {held : Bool}
end
end Go.Proofs.Ytpgcokkmhlhnpaa

namespace Go.Proofs.Ytpgcokkmhlhnpaa
open Go.RowKit Go.ChangeShapes Go.WideShapes Go.Deep Go.Joins
set_option linter.unusedVariables false
section
variable {H : Type} {enc : TypeId × Value → H} {P : Program} {w : World} {base : Nat} {held : Bool}
end
end Go.Proofs.Ytpgcokkmhlhnpaa
