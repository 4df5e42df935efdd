/- Layer 6's law HistTells, walked (where what comes in is of no more than 2^40 operations). -/
import Derived.Test.YtkocknlhlljlcaaLaw6B
namespace Go.Proofs.Ytkocknlhlljlcaa
open Go.RowKit
set_option linter.unusedVariables false

/-- what HistTells keeps: both histories, the spot, and what was there -/
structure TellI (w : World) (A : Option Addr) (n : Nat) (xs : List (List OpT)) (B : Option Addr) (m : Nat) (ys : List (List OpT)) (g : Nat) (t : TypeId) (a b : Int) (wr : World) : Prop where
  x : HistAt wr A n xs
  y : HistAt wr B m ys
  s : TwoI wr g t a b
  b : Below w.heap.size w wr
theorem TellI.later {w : World} {A : Option Addr} {n : Nat} {xs : List (List OpT)} {B : Option Addr} {m : Nat} {ys : List (List OpT)} {g : Nat} {t : TypeId} {a b : Int} {wr w' : World} (h : TellI w A n xs B m ys g t a b wr) (hb : Below wr.heap.size wr w') : TellI w A n xs B m ys g t a b w' := ⟨h.x.below hb, h.y.below hb, h.s.below hb, below_trans2 h.b hb⟩
set_option maxRecDepth 100000 in
set_option maxHeartbeats 2000000 in
theorem law6_HistTells (A B : Option Addr) (n c m d : Nat) (i a b : Int) (xs ys : List (List OpT)) (w : World) (hX : HistAt w A n xs) (hY : HistAt w B m ys) (hnc : n ≤ c) (hc : c ≤ 1099511627776) (hmd : m ≤ d) (hd : d ≤ 1099511627776)
    (hFx : (allO xs).length ≤ 1099511627776) (hFy : (allO ys).length ≤ 1099511627776) (i0 : -9223372036854775808 ≤ i) (i1 : i < 9223372036854775808) (a0 : -9223372036854775808 ≤ a) (a1 : a < 9223372036854775808) (b0 : -9223372036854775808 ≤ b) (b1 : b < 9223372036854775808) :
    Calls Try.prog 3 #[.agg #[.slice A n c, .slice B m d, .int .i64 i, .int .i64 a, .int .i64 b]] w (RetBool true w) := by
  have hXl := hX.len
  have hYl := hY.len
  obtain ⟨g0, hg0⟩ : ∃ g, g = w.heap.size := ⟨_, rfl⟩
  obtain ⟨W0, hW0⟩ : ∃ W0, W0 = w.alloc (.cells #[.slice A n c, .slice B m d, .int .i64 i, .int .i64 a, .int .i64 b] 26) := ⟨_, rfl⟩
  have bb := show Below w.heap.size w W0 from by rw [hW0]; exact (Below.refl _ _).alloc (Nat.le_refl _) _
  have hB := show Blk W0 g0 26 [.slice A n c, .slice B m d, .int .i64 i, .int .i64 a, .int .i64 b] from by rw [hW0, hg0]; exact Blk.new _ _ _
  have p0 := hB.cell 0
  have p1 := hB.cell 1
  have p2 := hB.cell 2
  have p3 := hB.cell 3
  have p4 := hB.cell 4
  simp only [List.getElem?_cons_zero, List.getElem?_cons_succ] at p0 p1 p2 p3 p4
  replace hX := Lib.hid (hX.below bb)
  replace hY := Lib.hid (hY.below bb)
  replace bb := Lib.hid bb
  replace hXl := Lib.hid hXl
  replace hYl := Lib.hid hYl
  clear hB
  go_enter Try.func3, Try.ntmps3
  go_wp2_with (rw [← hW0, ← hg0]; clear hW0 hg0)
  refine wp_region_plan 12 [(true, 0), (true, 1), (true, 2), (true, 3), (true, 4), (true, 5), (true, 6), (true, 7), (false, 8), (true, 9), (true, 10), (true, 11)] (by kernel_rfl) (by kernel_rfl) (fun W hW => ?_)
  replace bb := Lib.hid (show Below w.heap.size w W from by rw [hW.out]; exact bb.out.drew)
  replace hX := Lib.hid (show HistAt W A n xs from by rw [hW.out]; exact hX.out)
  replace hY := Lib.hid (show HistAt W B m ys from by rw [hW.out]; exact hY.out)
  have hcw : ∀ p, W.cell? p = W0.cell? p := fun p => by rw [hW.out]; rfl
  rw [← hcw] at p0 p1 p2 p3 p4
  clear hcw
  clear hW
  simp only [List.drop_succ_cons, List.drop_zero]
  iterate 8
    refine wpPlan_float (v := ?_) rfl (by rfl) (fun w' hw' => ?_) (fun K hK => ?_)
    rotate_left
    · (go_simp; try with_reducible rfl)
    go_simp
    refine hK _ ?_
    clear hK K
  clear p0 p1 p2 p3 p4
  refine wpPlan_only rfl (by rfl) (fun K hK => ?_)
  go_simp
  obtain ⟨g, hg⟩ : ∃ g, g = W.heap.size := ⟨_, rfl⟩
  obtain ⟨W2, hW2⟩ : ∃ W2, W2 = W.alloc (.cells #[.int .i64 0, .int .i64 0] 24) := ⟨_, rfl⟩
  have ba : Below W.heap.size W W2 := by rw [hW2]; exact (Below.refl _ _).alloc (Nat.le_refl _) _
  have k0 := show TwoI W2 g 24 0 0 from by rw [hW2, hg]; exact TwoI.new _ _ _ _
  rw [← hW2, ← hg]
  refine hK _ _ ba ?_
  clear hK K hW2
  replace hg := Lib.hid hg
  iterate 3
    refine wpPlan_float (v := ?_) rfl (by rfl) (fun w' hw' => ?_) (fun K hK => ?_)
    rotate_left
    · (go_simp; try with_reducible rfl)
    go_simp
    refine hK _ ?_
    clear hK K
  have f0 := Blk.frozen k0 0
  have f1 := Blk.frozen k0 1
  have q0 := k0.c0
  have q1 := k0.c1
  obtain ⟨W3, hW3⟩ : ∃ W3, W3 = ((W2.setCell ⟨g, 0, none⟩ (.int .i64 a)).setCell ⟨g, 1, none⟩ (.int .i64 b)) := ⟨_, rfl⟩
  have b3 := show Below W.heap.size W W3 from by rw [hW3]; exact (ba.setCell (by rw [hg.out]; exact Nat.le_refl _) _).setCell (by rw [hg.out]; exact Nat.le_refl _) _
  have hI := Lib.hid (⟨hX.out.below b3, hY.out.below b3, by rw [hW3]; exact k0.put a b, below_trans2 bb.out b3⟩ : TellI w A n xs B m ys g 24 a b W3)
  clear bb hX hY k0 ba b3 hg
  refine wpPlan_nil ?_
  go_wp2_with (rw [← hW3]; clear hW3 f0 f1 q0 q1)
  refine NoPanic.normal ?_
  have hI' : Hid (True) := Lib.hid trivial
  have cSa := Lib.hid (ref6_Small A n c 60 xs W3 hI.out.x (by omega) (by omega))
  cases hsa : smallL xs 60 with
  | false =>
    rw [hsa] at cSa
    clear hsa
    go_wp2_with fail
    refine cSa.out.mono ?_; rintro e w1 ⟨rfl, b4⟩
    replace hI := Lib.hid (hI.out.later b4)
    go_wp2_with fail
    refine (law6_awake w1).mono ?_; rintro e w9 ⟨rfl, b9⟩
    go_wp2_with fail
    go_ret
    exact ⟨rfl, below_trans2 hI.out.b b9⟩
  | true =>
    rw [hsa] at cSa
    obtain ⟨hnx, hFx60, -⟩ := smallL_says hsa
    rw [hXl.out] at hnx
    clear hsa
    go_wp2_with fail
    refine cSa.out.mono ?_; rintro e w1 ⟨rfl, b4⟩
    replace hI := Lib.hid (hI.out.later b4)
    clear b4 cSa
    have cSb := Lib.hid (ref6_Small B m d 60 ys w1 hI.out.y (by omega) (by omega))
    cases hsb : smallL ys 60 with
    | false =>
      rw [hsb] at cSb
      clear hsb
      go_wp2_with fail
      refine cSb.out.mono ?_; rintro e w2 ⟨rfl, b5⟩
      replace hI := Lib.hid (hI.out.later b5)
      go_wp2_with fail
      refine (law6_awake w2).mono ?_; rintro e w9 ⟨rfl, b9⟩
      go_wp2_with fail
      go_ret
      exact ⟨rfl, below_trans2 hI.out.b b9⟩
    | true =>
      rw [hsb] at cSb
      obtain ⟨hny, hFy60, -⟩ := smallL_says hsb
      rw [hYl.out] at hny
      clear hsb
      go_wp2_with fail
      refine cSb.out.mono ?_; rintro e w2 ⟨rfl, b5⟩
      replace hI := Lib.hid (hI.out.later b5)
      clear b5 cSb
      obtain ⟨s, hs⟩ : ∃ s, s = spotS (spotZ xs i) := ⟨_, rfl⟩
      obtain ⟨p, hp⟩ : ∃ p, p = spotP (spotZ xs i) := ⟨_, rfl⟩
      obtain ⟨f, hf⟩ : ∃ f, f = spotB (spotZ xs i) := ⟨_, rfl⟩
      have cS1 : Hid (Calls Try.prog 8 #[.slice A n c, .int .i64 i] w2 fun e w' => e = .returned (.tuple #[.agg #[.int .i64 s, .int .i64 p], .bool f]) ∧ Below w2.heap.size w2 w') := Lib.hid (by
        rw [hs, hp, hf]; exact hist_Spot A n c xs w2 hI.out.x hnc (by omega) (by omega) hFx i i0 i1)
      replace hs := Lib.hid hs
      replace hp := Lib.hid hp
      replace hf := Lib.hid hf
      go_wp2_with fail
      refine cS1.out.mono ?_; rintro e w4 ⟨rfl, b5⟩
      replace hI := Lib.hid (hI.out.later b5)
      clear b5 cS1
      -- behind a call that answers a spot (s, p): the variable g1 that it is laid into; the world is w5 then; walked to what comes next
      obtain ⟨V0, hV0⟩ : ∃ W, W = w4.alloc (.cells #[.int .i64 0, .int .i64 0] 24) := ⟨_, rfl⟩
      obtain ⟨g1, hg1⟩ : ∃ g, g = w4.heap.size := ⟨_, rfl⟩
      have k0 := show TwoI V0 g1 24 0 0 from by rw [hV0, hg1]; exact TwoI.new _ _ _ _
      have ba := show Below w4.heap.size w4 V0 from by rw [hV0]; exact (Below.refl _ _).alloc (Nat.le_refl _) _
      have f0 := Blk.frozen k0 0
      have f1 := Blk.frozen k0 1
      have q0 := k0.c0
      have q1 := k0.c1
      obtain ⟨w5, hw5⟩ : ∃ W, W = ((V0.setCell ⟨g1, 0, none⟩ (.int .i64 s)).setCell ⟨g1, 1, none⟩ (.int .i64 p)) := ⟨_, rfl⟩
      have k1 := Lib.hid (show TwoI w5 g1 24 s p from by rw [hw5]; exact k0.put s p)
      have ba2 := Lib.hid (show Below w4.heap.size w4 w5 from by rw [hw5]; exact (ba.setCell (by rw [hg1]; exact Nat.le_refl _) _).setCell (by rw [hg1]; exact Nat.le_refl _) _)
      clear ba k0
      go_wp2_with (rw [← hV0, ← hg1]; clear hV0; replace hg1 := Lib.hid hg1; replace hw5 := Lib.hid hw5; replace q0 := q0; go_wp2_with fail)
      rw [← hw5.out]
      clear f0 f1 q0 q1 hw5 V0
      replace hI := Lib.hid (hI.out.later ba2.out)
      clear ba2
      have cS2 : Hid (Calls Try.prog 9 #[.slice A n c, .int .i64 i] w5 fun e w' => e = .returned (.tuple #[.agg #[.int .i64 s, .int .i64 p], .bool f]) ∧ Below w5.heap.size w5 w') := Lib.hid (by
        rw [hs.out, hp.out, hf.out]; exact ref6_Spot A n c i xs w5 hI.out.x (by omega) i0 i1)
      refine cS2.out.mono ?_; rintro e w6 ⟨rfl, b5⟩
      replace hI := Lib.hid (hI.out.later b5)
      replace k1 := Lib.hid (k1.out.below b5)
      clear b5 cS2
      have hgg : Hid (g < w6.heap.size) := Lib.hid hI.out.s.lt
      obtain ⟨V0, hV0⟩ : ∃ W, W = w6.alloc (.cells #[.int .i64 0, .int .i64 0] 24) := ⟨_, rfl⟩
      obtain ⟨g2, hg2⟩ : ∃ g, g = w6.heap.size := ⟨_, rfl⟩
      have k0 := show TwoI V0 g2 24 0 0 from by rw [hV0, hg2]; exact TwoI.new _ _ _ _
      have ba := show Below w6.heap.size w6 V0 from by rw [hV0]; exact (Below.refl _ _).alloc (Nat.le_refl _) _
      have f0 := Blk.frozen k0 0
      have f1 := Blk.frozen k0 1
      have q0 := k0.c0
      have q1 := k0.c1
      obtain ⟨w7, hw7⟩ : ∃ W, W = ((V0.setCell ⟨g2, 0, none⟩ (.int .i64 s)).setCell ⟨g2, 1, none⟩ (.int .i64 p)) := ⟨_, rfl⟩
      have k2 := Lib.hid (show TwoI w7 g2 24 s p from by rw [hw7]; exact k0.put s p)
      have ba2 := Lib.hid (show Below w6.heap.size w6 w7 from by rw [hw7]; exact (ba.setCell (by rw [hg2]; exact Nat.le_refl _) _).setCell (by rw [hg2]; exact Nat.le_refl _) _)
      have r0 := (hI.out.s.below ba).c0
      have r1 := (hI.out.s.below ba).c1
      have hne : ¬ g2 = g := by have := hgg.out; omega
      have hne2 : ¬ g = g2 := by have := hgg.out; omega
      clear ba k0
      go_wp2_with (rw [← hV0, ← hg2]; clear hV0; replace hg2 := Lib.hid hg2; go_wp2_with fail)
      rw [← hw7]
      replace hI := Lib.hid (hI.out.later ba2.out)
      replace k1 := Lib.hid (k1.out.below ba2.out)
      clear hw7 ba2 r0 r1 hne hne2 f0 f1 q0 q1 V0 hgg
      obtain ⟨u, hu⟩ : ∃ u, u = numV (numZ xs a b) := ⟨_, rfl⟩
      obtain ⟨v, hv⟩ : ∃ v, v = numB (numZ xs a b) := ⟨_, rfl⟩
      have cN1 : Hid (Calls Try.prog 10 #[.slice A n c, .agg #[.int .i64 a, .int .i64 b]] w7 fun e w' => e = .returned (.tuple #[.int .i64 u, .bool v]) ∧ Below w7.heap.size w7 w') := Lib.hid (by
        rw [hu, hv]; exact hist_Number A n c xs w7 hI.out.x hnc (by omega) (by omega) hFx a b a0 a1 b0 b1)
      replace hu := Lib.hid hu
      replace hv := Lib.hid hv
      refine cN1.out.mono ?_; rintro e w8 ⟨rfl, b5⟩
      replace hI := Lib.hid (hI.out.later b5)
      replace k1 := Lib.hid (k1.out.below b5)
      replace k2 := Lib.hid (k2.out.below b5)
      clear b5 cN1
      have cN2 : Hid (Calls Try.prog 11 #[.slice A n c, .agg #[.int .i64 a, .int .i64 b]] w8 fun e w' => e = .returned (.tuple #[.int .i64 u, .bool v]) ∧ Below w8.heap.size w8 w') := Lib.hid (by
        rw [hu.out, hv.out]; exact ref6_Number A n c a b xs w8 hI.out.x hnc (by omega) (by omega) a0 a1 b0 b1)
      have r0 := hI.out.s.c0
      have r1 := hI.out.s.c1
      go_wp2_with fail
      refine cN2.out.mono ?_; rintro e w9 ⟨rfl, b5⟩
      replace hI := Lib.hid (hI.out.later b5)
      replace k1 := Lib.hid (k1.out.below b5)
      replace k2 := Lib.hid (k2.out.below b5)
      clear b5 cN2 r0 r1
      go_wp2_with fail
      refine (law6_awake w9).mono ?_; rintro e w10 ⟨rfl, b5⟩
      replace hI := Lib.hid (hI.out.later b5)
      replace k1 := Lib.hid (k1.out.below b5)
      replace k2 := Lib.hid (k2.out.below b5)
      clear b5
      have cC := Lib.hid (hist_Right A n c xs w10 hI.out.x hnc (by omega) (by omega) hFx)
      obtain ⟨br, hbr⟩ : ∃ v, v = rightL xs := ⟨_, rfl⟩
      rw [← hbr] at cC
      go_wp2_with fail
      refine cC.out.mono ?_; rintro e w11 ⟨rfl, b5⟩
      replace hI := Lib.hid (hI.out.later b5)
      replace k1 := Lib.hid (k1.out.below b5)
      replace k2 := Lib.hid (k2.out.below b5)
      clear b5
      clear cC
      have cC := Lib.hid (ref6_Right A n c xs w11 hI.out.x (by omega) (by omega))
      rw [← hbr] at cC
      replace hbr := Lib.hid hbr
      go_wp2_with fail
      refine cC.out.mono ?_; rintro e w12 ⟨rfl, b5⟩
      replace hI := Lib.hid (hI.out.later b5)
      replace k1 := Lib.hid (k1.out.below b5)
      replace k2 := Lib.hid (k2.out.below b5)
      clear b5
      clear cC
      obtain ⟨bc, hbc⟩ : ∃ v, v = (allO xs).length := ⟨_, rfl⟩
      have cC := Lib.hid (hist_Count A n c xs w12 hI.out.x hnc (by omega) (by omega) hFx)
      rw [← hbc] at cC
      go_wp2_with fail
      refine cC.out.mono ?_; rintro e w13 ⟨rfl, b5⟩
      replace hI := Lib.hid (hI.out.later b5)
      replace k1 := Lib.hid (k1.out.below b5)
      replace k2 := Lib.hid (k2.out.below b5)
      clear b5
      clear cC
      have cC := Lib.hid (ref6_Count A n c xs w13 hI.out.x (by omega) (by omega))
      rw [← hbc] at cC
      go_wp2_with fail
      refine cC.out.mono ?_; rintro e w14 ⟨rfl, b5⟩
      replace hI := Lib.hid (hI.out.later b5)
      replace k1 := Lib.hid (k1.out.below b5)
      replace k2 := Lib.hid (k2.out.below b5)
      clear b5
      clear cC
      have cC := Lib.hid (hist_Flat A n c xs w14 hI.out.x hnc (by omega) (by omega) hFx)
      go_wp2_with fail
      refine cC.out.mono ?_; rintro e w15 ⟨L1, N1, C1, rfl, hN1, hL1, hNc1, b5⟩
      replace hI := Lib.hid (hI.out.later b5)
      replace k1 := Lib.hid (k1.out.below b5)
      replace k2 := Lib.hid (k2.out.below b5)
      clear b5
      clear cC
      have cC := Lib.hid (ref6_Flat A n c xs w15 hI.out.x (by omega) (by omega))
      replace hL1 := Lib.hid hL1
      rw [← hbc] at hN1 hFx60
      have hN63 : N1 ≤ 9223372036854775807 := by omega
      replace hN1 := Lib.hid hN1
      replace hNc1 := Lib.hid hNc1
      go_wp2_with fail
      refine cC.out.mono ?_; rintro e w16 ⟨L2, N2, C2, rfl, -, hN2, -, hL2, hNc2, b5⟩
      replace hL1 := Lib.hid (hL1.out.below b5)
      replace hI := Lib.hid (hI.out.later b5)
      replace k1 := Lib.hid (k1.out.below b5)
      replace k2 := Lib.hid (k2.out.below b5)
      clear b5
      clear cC
      rw [← hbc] at hN2
      have hN63' : N2 ≤ 9223372036854775807 := by omega
      have cC := Lib.hid (law6_flat L1 L2 N1 C1 N2 C2 (allO xs) (allO xs) w16 hL1.out hL2 hNc1.out hNc2 hN63 hN63')
      rw [show decide (allO xs = allO xs) = true from decide_eq_true rfl] at cC
      replace hN2 := Lib.hid hN2
      replace hNc2 := Lib.hid hNc2
      clear hL1 hL2
      go_wp2_with fail
      refine cC.out.mono ?_; rintro e w17 ⟨rfl, b5⟩
      replace hI := Lib.hid (hI.out.later b5)
      replace k1 := Lib.hid (k1.out.below b5)
      replace k2 := Lib.hid (k2.out.below b5)
      clear b5
      clear cC
      have k1' := k1.out
      have k2' := k2.out
      have e0 := k1'.c0
      have e1 := k1'.c1
      have e2 := k2'.c0
      have e3 := k2'.c1
      clear k1' k2'
      have y0 : (s == s) = true := by simp
      have y1 : (p == p) = true := by simp
      have y2 : (u == u) = true := by simp
      have cC := Lib.hid (hist_Same A B n c m d xs ys w17 hI.out.x hI.out.y hnc hmd (by omega) (by omega))
      obtain ⟨bs, hbs⟩ : ∃ v, v = decide (xs = ys) := ⟨_, rfl⟩
      rw [← hbs] at cC
      replace hbs := Lib.hid hbs
      go_wp2_with fail
      refine cC.out.mono ?_; rintro e w18 ⟨rfl, b5⟩
      replace hI := Lib.hid (hI.out.later b5)
      replace k1 := Lib.hid (k1.out.below b5)
      replace k2 := Lib.hid (k2.out.below b5)
      clear b5
      clear cC e0 e1 e2 e3
      have cC := Lib.hid (ref6_Same A B n c m d xs ys w18 hI.out.x hI.out.y (by omega) (by omega))
      rw [← hbs.out] at cC
      go_wp2_with fail
      refine cC.out.mono ?_; rintro e w19 ⟨rfl, q, rfl⟩
      go_wp2_with fail
      go_ret
      exact ⟨rfl, below_drewN hI.out.b q⟩

end Go.Proofs.Ytkocknlhlljlcaa
