/- The code's own contracts of layer 6: Number. -/
import Derived.Test.YtkocknlhlljlcaaHist
namespace Go.Proofs.Ytkocknlhlljlcaa
open Go.RowKit Go.Shelf
set_option linter.unusedVariables false
set_option linter.unusedSectionVars false
attribute [local go_sem] Oper.semAt_some
section
variable (A : Option Addr) (n c : Nat) (hs : List (List OpT)) (w : World) (hH : HistAt w A n hs) (hnc : n ≤ c) (hn : n ≤ 1099511627776) (hc : c ≤ 9223372036854775807) (hF : (allO hs).length ≤ 1099511627776)
include hH hnc hn hc hF
set_option maxRecDepth 100000 in
set_option maxHeartbeats 2000000 in
theorem hist_Number (a b : Int) (a0 : -9223372036854775808 ≤ a) (a1 : a < 9223372036854775808) (b0 : -9223372036854775808 ≤ b) (b1 : b < 9223372036854775808) : Calls Try.prog 10 #[.slice A n c, .agg #[.int .i64 a, .int .i64 b]] w (RetNum (numZ hs a b) w) := by
  have hlen := hH.len
  replace hH := Lib.hid hH
  refine (callsIn_wide (n := 3)).1 ?_
  refine callsIn_of_wp_marks Try.func10 rfl trivial ?_ rfl
  simp only [Try.ntmps10, List.size_toArray, List.length_cons, List.length_nil, Nat.reduceAdd, Nat.reduceSub, Array.replicate_succ, Array.replicate_zero, List.push_toArray, List.append_toArray, List.nil_append, List.cons_append]
  gi_wp2_with (refine ⟨trivial, ?_⟩; gi_at_call 21; refine (firsts_in Fence.wide _ A n c trivial rfl _).mono ?_; rintro e w' ⟨rfl, rfl⟩)
  obtain ⟨W0, hW0⟩ : ∃ W, W = w.alloc (.cells #[.slice A n c] 22) := ⟨_, rfl⟩
  obtain ⟨W1, hW1⟩ : ∃ W, W = W0.alloc (.cells #[.int .i64 a, .int .i64 b] 24) := ⟨_, rfl⟩
  obtain ⟨W2, hW2⟩ : ∃ W, W = W1.alloc (.cells #[.int .i64 0] 3) := ⟨_, rfl⟩
  obtain ⟨W3, hW3⟩ : ∃ W, W = W2.alloc (.cells #[.bool false] 4) := ⟨_, rfl⟩
  obtain ⟨W4, hW4⟩ : ∃ W, W = W3.alloc (.cells #[.slice A n c] 22) := ⟨_, rfl⟩
  rw [← hW0, ← hW1, ← hW2, ← hW3, ← hW4]
  have z0 : W0.heap.size = w.heap.size + 1 := by rw [hW0, World.size_alloc]
  have z1 : W1.heap.size = w.heap.size + 1 + 1 := by rw [hW1, World.size_alloc, z0]
  have z2 : W2.heap.size = w.heap.size + 1 + 1 + 1 := by rw [hW2, World.size_alloc, z1]
  have z3 : W3.heap.size = w.heap.size + 1 + 1 + 1 + 1 := by rw [hW3, World.size_alloc, z2]
  have z4 : W4.heap.size = w.heap.size + 1 + 1 + 1 + 1 + 1 := by rw [hW4, World.size_alloc, z3]
  have k0 : Blk W0 (w.heap.size) 22 [.slice A n c] := by rw [hW0]; exact Blk.new _ _ _
  replace k0 : Blk W1 (w.heap.size) 22 [.slice A n c] := by rw [hW1]; exact k0.alloc _
  replace k0 : Blk W2 (w.heap.size) 22 [.slice A n c] := by rw [hW2]; exact k0.alloc _
  replace k0 : Blk W3 (w.heap.size) 22 [.slice A n c] := by rw [hW3]; exact k0.alloc _
  replace k0 : Blk W4 (w.heap.size) 22 [.slice A n c] := by rw [hW4]; exact k0.alloc _
  have k1 : Blk W1 (w.heap.size + 1) 24 [.int .i64 a, .int .i64 b] := by rw [hW1, ← z0]; exact Blk.new _ _ _
  replace k1 : Blk W2 (w.heap.size + 1) 24 [.int .i64 a, .int .i64 b] := by rw [hW2]; exact k1.alloc _
  replace k1 : Blk W3 (w.heap.size + 1) 24 [.int .i64 a, .int .i64 b] := by rw [hW3]; exact k1.alloc _
  replace k1 : Blk W4 (w.heap.size + 1) 24 [.int .i64 a, .int .i64 b] := by rw [hW4]; exact k1.alloc _
  have k2 : Blk W2 (w.heap.size + 1 + 1) 3 [.int .i64 0] := by rw [hW2, ← z1]; exact Blk.new _ _ _
  replace k2 : Blk W3 (w.heap.size + 1 + 1) 3 [.int .i64 0] := by rw [hW3]; exact k2.alloc _
  replace k2 : Blk W4 (w.heap.size + 1 + 1) 3 [.int .i64 0] := by rw [hW4]; exact k2.alloc _
  have k3 : Blk W3 (w.heap.size + 1 + 1 + 1) 4 [.bool false] := by rw [hW3, ← z2]; exact Blk.new _ _ _
  replace k3 : Blk W4 (w.heap.size + 1 + 1 + 1) 4 [.bool false] := by rw [hW4]; exact k3.alloc _
  have k4 : Blk W4 (w.heap.size + 1 + 1 + 1 + 1) 22 [.slice A n c] := by rw [hW4, ← z3]; exact Blk.new _ _ _
  have hB0 : Below w.heap.size w W4 := by
    rw [hW4, hW3, hW2, hW1, hW0]
    exact (((((Below.refl _ w).alloc (by first | exact Nat.le_refl _ | (simp only [World.size_alloc]; omega)) _).alloc (by first | exact Nat.le_refl _ | (simp only [World.size_alloc]; omega)) _).alloc (by first | exact Nat.le_refl _ | (simp only [World.size_alloc]; omega)) _).alloc (by first | exact Nat.le_refl _ | (simp only [World.size_alloc]; omega)) _).alloc (by first | exact Nat.le_refl _ | (simp only [World.size_alloc]; omega)) _
  clear hW4 hW3 hW2 hW1 hW0
  refine wpIn_rangeFunc_ownG (F := Fence.wide) rfl (by omega) (gf := 28) (lb := #[.pointer (some ⟨w.heap.size + 1 + 1 + 1 + 1, 0, none⟩)]) rfl trivial (enters_of Try.func28 (by kernel_rfl) rfl)
    (firsts_stops Fence.wide _ A n c hs trivial rfl (by omega) (w.heap.size + 1 + 1 + 1 + 1) w W4 hH.out (by omega) (by omega) (by rw [z4]; omega) hB0 (k4.cell 0)) belowK_t (belowK_b (by rw [z4]; omega)) (Below.refl _ _) (fun _ => rfl)
    (fun (pre : List (Fin hs.length)) W => ((∀ y ∈ pre, ¬ ((y.1 : Int) = a ∧ 0 ≤ b ∧ b < (hs.getD y.1 []).length)) ∧ Blk W w.heap.size 22 [.slice A n c] ∧ Blk W (w.heap.size + 1) 24 [.int .i64 a, .int .i64 b] ∧ Blk W (w.heap.size + 1 + 1) 3 [.int .i64 0] ∧ Blk W (w.heap.size + 1 + 1 + 1) 4 [.bool false]) ∧ Below w.heap.size w W)
    (fun c (pre : List (Fin hs.length)) W => (c = .ret ∧ ∃ x : Fin hs.length, (x.1 : Int) = a ∧ 0 ≤ b ∧ b < (hs.getD x.1 []).length ∧ Blk W (w.heap.size + 1 + 1) 3 [.int .i64 (lenK hs x.1 + b)] ∧ Blk W (w.heap.size + 1 + 1 + 1) 4 [.bool true]) ∧ Below w.heap.size w W)
    (OwnFrom.and (Own.from (fun s X Y row h hg hr => ⟨h.1, h.2.1.owned hg hr, h.2.2.1.owned hg hr, h.2.2.2.1.owned hg hr, h.2.2.2.2.owned hg hr⟩) _) (ownFrom_below (Nat.le_refl _) (by rw [z4]; omega)))
    (fun c => OwnFrom.and (Own.from (fun s X Y row h hg hr => ⟨h.1, h.2.imp fun x h => ⟨h.1, h.2.1, h.2.2.1, h.2.2.2.1.owned hg hr, h.2.2.2.2.owned hg hr⟩⟩) _) (ownFrom_below (Nat.le_refl _) (by rw [z4]; omega)))
    ⟨⟨by simp, k0, k1, k2, k3⟩, hB0⟩
    (fun (x : Fin hs.length) => { tmps := #[.slice A n c, .agg #[.int .i64 a, .int .i64 b], .pointer (some ⟨w.heap.size, 0, none⟩), .pointer (some ⟨w.heap.size + 1, 0, none⟩), .pointer (some ⟨w.heap.size + 1 + 1, 0, none⟩), .pointer (some ⟨w.heap.size + 1 + 1 + 1, 0, none⟩), .int .i64 (x.1 : Int), .int .i64 (lenK hs x.1 : Int), .slice A n c, .func (.func 28) #[] #[.pointer (some ⟨w.heap.size + 1 + 1 + 1 + 1, 0, none⟩)], .int .i64 (x.1 : Int), .int .i64 (lenK hs x.1 : Int), undef, undef, undef, undef, undef, undef, undef, undef, undef, undef, undef, undef, undef, undef, undef, undef, undef, undef], defers := [] }) ?assign ?body ?done ?stop
  case assign =>
    intro l x W K hK
    simp only [encF]
    gi_wp2
    exact hK
  case body =>
    rintro l pre x W ⟨⟨hp, b0, b1, b2, b3⟩, hB⟩ _
    have hx : (x.1 : Int) < (n : Int) := by have := x.2; omega
    by_cases hxa : (x.1 : Int) = a
    · obtain ⟨bl, off, B, m, cc, os, rfl, hbl, hos, hcell, hmc, hm63, hO⟩ := (hH.out.below hB).at_ (k := x.1) (by have := x.2; omega)
      have hle := lenK_le hs (x.1 + 1)
      have hls := lenK_succ hos
      rw [hO.len] at hls
      rw [hls] at hle
      have hgd : Hid (hs.getD x.1 [] = os) := Lib.hid (by rw [List.getD_eq_getElem?_getD, hos]; rfl)
      have hol := Lib.hid hO.len
      replace hos := Lib.hid hos
      replace hO := Lib.hid hO
      replace hls := Lib.hid hls
      have heq : ((x.1 : Int) == a) = true := by rw [hxa]; simp
      have hxc : 0 ≤ (x.1 : Int) ∧ (x.1 : Int) < (n : Int) := ⟨by omega, hx⟩
      replace hxa := Lib.hid hxa
      gi_wp2
      refine wpIn_round_plan 14 [(true, 0), (true, 1), (true, 2), (true, 3), (true, 4), (true, 5), (true, 6), (true, 7), (true, 8), (true, 9), (true, 10), (true, 11), (false, 12), (true, 13)] (by rintro ⟨_, _, h⟩; exact h) (by kernel_rfl) (by kernel_rfl) (by kernel_rfl) (fun X hX => ?_)
      obtain rfl := hX.out
      clear hX
      have c0 : W.drew.cell? ⟨w.heap.size, 0, none⟩ = _ := b0.cell 0
      have c1 : W.drew.cell? ⟨w.heap.size + 1, 0, none⟩ = _ := b1.cell 0
      have c1' : W.drew.cell? ⟨w.heap.size + 1, 1, none⟩ = _ := b1.cell 1
      simp only [List.drop_succ_cons, List.drop_nil]
      have f2 : W.drew.frozen? ⟨w.heap.size + 1 + 1, 0, none⟩ = false := b2.frozen 0
      have f3 : W.drew.frozen? ⟨w.heap.size + 1 + 1 + 1, 0, none⟩ = false := b3.frozen 0
      have d2 : W.drew.cell? ⟨w.heap.size + 1 + 1, 0, none⟩ = _ := b2.cell 0
      have d3 : W.drew.cell? ⟨w.heap.size + 1 + 1 + 1, 0, none⟩ = _ := b3.cell 0
      replace hcell : W.drew.cell? ⟨bl, off + x.1, none⟩ = some (.slice B m cc) := hcell
      by_cases hbm : 0 ≤ b ∧ b < (m : Int)
      · have cB := fun (W : World) => Lib.hid (hist_below b m W)
        rw [show (decide (0 ≤ b) && decide (b < (m : Int))) = true from by rw [decide_eq_true hbm.1, decide_eq_true hbm.2]; rfl] at cB
        have hwr : wrap64 ((lenK hs x.1 : Int) + b) = (lenK hs x.1 : Int) + b := by unfold wrap64; omega
        iterate 12
          refine wpPlan_float (v := ?_) rfl (by rfl) (fun w' hw' => ?_) (fun K hK => ?_)
          rotate_left
          · (go_simp; try with_reducible rfl)
          go_simp
          refine hK _ ?_
          clear hK K
        refine wpPlan_only rfl (by rfl) (fun K hK => ?_)
        go_simp
        refine (cB _).out.mono ?_
        rintro e w3 ⟨rfl, rfl⟩
        refine hK _ _ (Below.refl _ _) ?_
        clear hK K
        iterate 1
          refine wpPlan_float (v := ?_) rfl (by rfl) (fun w' hw' => ?_) (fun K hK => ?_)
          rotate_left
          · (go_simp; try with_reducible rfl)
          go_simp
          refine hK _ ?_
          clear hK K
        refine wpPlan_nil (NoPanic.normal ?_)
        have g2 := b2.frozen 0
        have g3 := b3.frozen 0
        have q2 := b2.cell 0
        have q3 := b3.cell 0
        have q0 := b1.cell 0
        have q1 := b1.cell 1
        clear f2 f3 d2 d3 c0 c1 c1' hcell
        gi_wp2
        refine ⟨((KeepsOthers.drew _).trans ((KeepsOthers.setCell _ _ _).trans (KeepsOthers.setCell _ _ _))).from _, ⟨rfl, x, hxa.out, hbm.1, by rw [hgd.out, hol.out]; exact hbm.2, ?_, ?_⟩, ?_⟩
        · exact (Blk.set_ (w := W.drew) b2.drew 0 (.int .i64 ((lenK hs x.1 : Int) + b))).other (by omega) _ _
        · exact (Blk.other (W := W.drew) b3.drew (by omega) _ _).set_ 0 _
        · exact (hB.drew.setCell (p := ⟨w.heap.size + 1 + 1, 0, none⟩) (by simp; omega) _).setCell (p := ⟨w.heap.size + 1 + 1 + 1, 0, none⟩) (by simp; omega) _
      · have cB := fun (W : World) => Lib.hid (hist_below b m W)
        rw [show (decide (0 ≤ b) && decide (b < (m : Int))) = false from by
          rw [Bool.and_eq_false_iff]
          rcases Classical.em (0 ≤ b) with h | h
          · exact .inr (decide_eq_false (fun h' => hbm ⟨h, h'⟩))
          · exact .inl (decide_eq_false h)] at cB
        iterate 12
          refine wpPlan_float (v := ?_) rfl (by rfl) (fun w' hw' => ?_) (fun K hK => ?_)
          rotate_left
          · (go_simp; try with_reducible rfl)
          go_simp
          refine hK _ ?_
          clear hK K
        refine wpPlan_only rfl (by rfl) (fun K hK => ?_)
        go_simp
        refine (cB _).out.mono ?_
        rintro e w3 ⟨rfl, rfl⟩
        refine hK _ _ (Below.refl _ _) ?_
        clear hK K
        iterate 1
          refine wpPlan_float (v := ?_) rfl (by rfl) (fun w' hw' => ?_) (fun K hK => ?_)
          rotate_left
          · (go_simp; try with_reducible rfl)
          go_simp
          refine hK _ ?_
          clear hK K
        refine wpPlan_nil (NoPanic.normal ?_)
        gi_wp2
        exact ⟨(KeepsOthers.drew _).from _, (Below.refl _ _).drew, ⟨fun y hy => (List.mem_append.1 hy).elim (hp y) (fun e => by simp at e; subst e; rw [hgd.out, hol.out]; exact fun h => hbm h.2), b0.drew, b1.drew, b2.drew, b3.drew⟩, hB.drew⟩
    · have hne : ((x.1 : Int) == a) = false := by simp [hxa]
      gi_wp2
      refine wpIn_round_plan 14 [(true, 0), (true, 1), (true, 2), (true, 3), (true, 4), (true, 5), (true, 6), (true, 7), (true, 8), (true, 9), (true, 10), (true, 11), (false, 12), (true, 13)] (by rintro ⟨_, _, h⟩; exact h) (by kernel_rfl) (by kernel_rfl) (by kernel_rfl) (fun X hX => ?_)
      obtain rfl := hX.out
      clear hX
      have c0 : W.drew.cell? ⟨w.heap.size, 0, none⟩ = _ := b0.cell 0
      have c1 : W.drew.cell? ⟨w.heap.size + 1, 0, none⟩ = _ := b1.cell 0
      have c1' : W.drew.cell? ⟨w.heap.size + 1, 1, none⟩ = _ := b1.cell 1
      simp only [List.drop_succ_cons, List.drop_nil]
      iterate 5
        refine wpPlan_float (v := ?_) rfl (by rfl) (fun w' hw' => ?_) (fun K hK => ?_)
        rotate_left
        · (go_simp; try with_reducible rfl)
        go_simp
        refine hK _ ?_
        clear hK K
      iterate 7
        refine wpPlan_skip rfl (by rfl) (fun K hK => ?_)
        go_simp
        refine hK _ ?_
        clear hK K
      refine wpPlan_skip' rfl (by rfl) (fun K hK => ?_)
      go_simp
      refine hK _ ?_
      clear hK K
      iterate 1
        refine wpPlan_float (v := ?_) rfl (by rfl) (fun w' hw' => ?_) (fun K hK => ?_)
        rotate_left
        · (go_simp; try with_reducible rfl)
        go_simp
        refine hK _ ?_
        clear hK K
      refine wpPlan_nil (NoPanic.normal ?_)
      gi_wp2
      exact ⟨(KeepsOthers.drew _).from _, (Below.refl _ _).drew, ⟨fun y hy => (List.mem_append.1 hy).elim (hp y) (fun e => by simp at e; subst e; exact fun h => hxa h.1), b0.drew, b1.drew, b2.drew, b3.drew⟩, hB.drew⟩
  case done =>
    rintro D ys W hD rfl ⟨⟨hp, b0, b1, b2, b3⟩, hB⟩ hK
    have hres : Hid (numZ hs a b = none) := Lib.hid (if_neg (fun h => hp ⟨a.toNat, by omega⟩ (List.mem_finRange _) ⟨by simp; omega, h.2.2.1, h.2.2.2⟩))
    have c2 := b2.cell 0
    have c3 := b3.cell 0
    have f2 := b2.frozen 0
    have f3 := b3.frozen 0
    gi_wp2
    have d2 := (b2.set_ 0 (.int .i64 0)).other (B' := w.heap.size + 1 + 1 + 1) (by omega) 0 (.bool false)
    have d3 := (b3.other (B' := w.heap.size + 1 + 1) (by omega) 0 (.int .i64 0)).set_ 0 (.bool false)
    have hK' := ((KeepsOthers.setCell W ⟨w.heap.size + 1 + 1, 0, none⟩ (.int .i64 0)).trans (KeepsOthers.setCell _ ⟨w.heap.size + 1 + 1 + 1, 0, none⟩ (.bool false))).same D _ hK rfl
    refine ⟨by simp, .inl ⟨_, _, rfl, run_takeDeferred hK', ?_⟩⟩
    have e20 := (d2.back (o' := .deferred none) hK' rfl).cell 0
    have e30 := (d3.back (o' := .deferred none) hK' rfl).cell 0
    have hB' := (hB.setCell (p := ⟨w.heap.size + 1 + 1, 0, none⟩) (by simp; omega) (.int .i64 0)).setCell (p := ⟨w.heap.size + 1 + 1 + 1, 0, none⟩) (by simp; omega) (.bool false)
    refine ⟨.tuple #[.int .i64 0, .bool false], ?_, by rw [hres.out]; rfl, hB'.trans (belowK_b (w := w) (Nat.le_refl _) _ D _ _ (by rw [z4] at hD; omega) hK' rfl rfl)⟩
    simp [results, Try.f10, go_sem, e20, e30]
  case stop =>
    rintro D c pre W hD _ ⟨⟨rfl, x, h1, h2, h3, b2, b3⟩, hB⟩ hK
    have hres : Hid (numZ hs a b = some (lenK hs x.1 + b.toNat)) := Lib.hid (by
      have hx2 := x.2
      have ha : a.toNat = x.1 := by omega
      unfold numZ
      rw [ha, if_pos ⟨by omega, by omega, h2, h3⟩]; rfl)
    gi_wp2
    refine ⟨by simp, .inl ⟨_, _, rfl, run_takeDeferred hK, ?_⟩⟩
    have e20 := (b2.back (o' := .deferred none) hK rfl).cell 0
    have e30 := (b3.back (o' := .deferred none) hK rfl).cell 0
    refine ⟨.tuple #[.int .i64 (lenK hs x.1 + b), .bool true], ?_, ?_, hB.trans (belowK_b (w := w) (Nat.le_refl _) _ D _ _ (by rw [z4] at hD; omega) hK rfl rfl)⟩
    · simp [results, Try.f10, go_sem, e20, e30]
    · rw [hres.out]
      show _ = Ending.returned (.tuple #[.int .i64 ((lenK hs x.1 + b.toNat : Nat) : Int), .bool true])
      rw [show ((lenK hs x.1 + b.toNat : Nat) : Int) = (lenK hs x.1 : Int) + b from by omega]
end

end Go.Proofs.Ytkocknlhlljlcaa
