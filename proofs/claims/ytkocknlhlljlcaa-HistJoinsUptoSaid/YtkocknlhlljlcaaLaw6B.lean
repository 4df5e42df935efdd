/- Layer 6's law HistBack, walked (where what comes in is of no more than 2^40 operations). -/
import Derived.Test.YtkocknlhlljlcaaLaw6A
import Derived.BigQuiet
namespace Go.Proofs.Ytkocknlhlljlcaa
open Go.RowKit
set_option linter.unusedVariables false

theorem smallL_says {hs : List (List OpT)} {most : Int} (h : smallL hs most = true) : (hs.length : Int) ≤ most ∧ ((allO hs).length : Int) ≤ most ∧ ∀ o ∈ allO hs, o.2.1.size ≤ 20 := by
  unfold smallL at h
  simp only [Bool.and_eq_true, decide_eq_true_eq, List.all_eq_true] at h
  exact ⟨h.1.1, h.1.2, h.2⟩
/-- what HistBack keeps: the history, its operations, and what was there -/
structure BackI (w : World) (A : Option Addr) (n : Nat) (hs : List (List OpT)) (L : Option Addr) (N : Nat) (wr : World) : Prop where
  h : HistAt wr A n hs
  l : OpsAt wr L N (allO hs)
  b : Below w.heap.size w wr
theorem BackI.later {w : World} {A : Option Addr} {n : Nat} {hs : List (List OpT)} {L : Option Addr} {N : Nat} {wr w' : World} (h : BackI w A n hs L N wr) (hb : Below wr.heap.size wr w') : BackI w A n hs L N w' := ⟨h.h.below hb, h.l.below hb, below_trans2 h.b hb⟩
set_option maxRecDepth 100000 in
set_option maxHeartbeats 2000000 in
theorem law6_HistBack (A : Option Addr) (n c : Nat) (hs : List (List OpT)) (w : World) (hH : HistAt w A n hs) (hnc : n ≤ c) (hc : c ≤ 1099511627776) (hF : (allO hs).length ≤ 1099511627776) :
    Calls Try.prog 4 #[.slice A n c] w (RetBool true w) := by
  have hHl := hH.len
  have cS := Lib.hid (ref6_Small A n c 60 hs w hH (by omega) (by omega))
  cases hsm : smallL hs 60 with
  | false =>
    rw [hsm] at cS
    clear hsm hHl hH
    go_enter Try.func4, Try.ntmps4
    go_wp2_with fail
    refine cS.out.mono ?_; rintro e w1 ⟨rfl, b⟩
    go_wp2_with fail
    refine (law6_awake w1).mono ?_; rintro e w2 ⟨rfl, b2⟩
    go_wp2_with fail
    go_ret
    exact ⟨rfl, below_trans2 b b2⟩
  | true =>
    rw [hsm] at cS
    obtain ⟨hn60, hF60, -⟩ := smallL_says hsm
    rw [hHl] at hn60
    replace hHl := Lib.hid hHl
    replace hH := Lib.hid hH
    clear hsm
    go_enter Try.func4, Try.ntmps4
    go_wp2_with fail
    refine cS.out.mono ?_; rintro e w1 ⟨rfl, b⟩
    replace hH := Lib.hid (hH.out.below b)
    have bb := Lib.hid b
    clear b cS
    have cF := Lib.hid (hist_Flat A n c hs w1 hH.out hnc (by omega) (by omega) hF)
    go_wp2_with fail
    refine cF.out.mono ?_; rintro e w2 ⟨L, N, c2, rfl, hN, hL, hNc, b⟩
    have hI := Lib.hid (⟨hH.out.below b, hL, below_trans2 bb.out b⟩ : BackI w A n hs L N w2)
    have cC := Lib.hid (hist_Count A n c hs w2 hI.out.h hnc (by omega) (by omega) hF)
    rw [← hN] at cC hF60 hF
    replace hN := Lib.hid hN
    replace hNc := Lib.hid hNc
    clear cF b bb hH hL
    go_wp2_with fail
    refine cC.out.mono ?_; rintro e w3 ⟨rfl, b⟩
    replace hI := Lib.hid (hI.out.later b)
    have hNN : ((N : Int) != (N : Int)) = false := by simp
    clear cC b
    go_wp2_with fail
    go_loopw [4] (fun t wr => ∃ k : Nat, k ≤ N ∧ t = .int .i64 k ∧ Hid (BackI w A n hs L N wr)) (fun t _ => N - (intOf t).toNat)
    case atStart => exact ⟨0, Nat.zero_le _, rfl, hI⟩
    case round =>
      clear hI
      obtain ⟨k, hk, rfl, hI⟩ := hrel
      by_cases hlt : k < N
      · have hlt' : (k : Int) < (N : Int) := by omega
        obtain ⟨s, p, hsp⟩ := spotN_is hs k (by rw [← hN.out]; exact hlt)
        obtain ⟨f1, f2, f3, f4⟩ := spotN_some hs k s p hsp
        obtain ⟨a, ha⟩ : ∃ a : Int, a = s := ⟨_, rfl⟩
        obtain ⟨b, hb⟩ : ∃ b : Int, b = p := ⟨_, rfl⟩
        have cSp : Hid (Calls Try.prog 8 #[.slice A n c, .int .i64 (k : Int)] wr fun e w' => e = .returned (.tuple #[.agg #[.int .i64 a, .int .i64 b], .bool true]) ∧ Below wr.heap.size wr w') := Lib.hid (by
          have h := hist_Spot A n c hs wr hI.out.h hnc (by omega) (by omega) (by rw [← hN.out]; exact hF) k (by omega) (by omega)
          rw [show spotZ hs (k : Int) = some (s, p) from by unfold spotZ; rw [if_neg (by omega), Int.toNat_natCast, hsp]] at h
          rw [ha, hb]
          exact h)
        have hnum : numZ hs a b = some k := by
          unfold numZ
          rw [ha, hb, if_pos ⟨by omega, by omega, by omega, by rw [Int.toNat_natCast]; omega⟩, Int.toNat_natCast, Int.toNat_natCast, f3]
        obtain ⟨os, hos⟩ : ∃ os, hs[s]? = some os := ⟨_, List.getElem?_eq_getElem f1⟩
        have hgd : hs.getD s [] = os := by rw [List.getD_eq_getElem?_getD, hos]; rfl
        rw [hgd] at f2 f4
        have z0 : (0 : Int) ≤ a := by omega
        have z1 : a < (n : Int) := by have := hHl.out; omega
        have z2 : (0 : Int) ≤ b := by omega
        have z4 : a < 9223372036854775808 := by omega
        have z5 : b < 9223372036854775808 := by omega
        have hat : a.toNat = s := by omega
        have hbt : b.toNat = p := by omega
        have hbp : Hid (b = (p : Int)) := Lib.hid hb
        replace hsp := Lib.hid hsp
        replace ha := Lib.hid ha
        have hsn : Hid (s < n) := Lib.hid (by rw [← hHl.out]; exact f1)
        replace f2 := Lib.hid f2
        replace f3 := Lib.hid f3
        replace f4 := Lib.hid f4
        replace hos := Lib.hid hos
        replace hlt := Lib.hid hlt
        clear f1 hgd hb
        go_wp2_with fail
        refine cSp.out.mono ?_; rintro e w4 ⟨rfl, b4⟩
        replace hI := Lib.hid (hI.out.later b4)
        clear b4 cSp
        -- behind a call that answers a spot (a, b): the variable g that it is laid into; the world is W2 then; walked to what comes next
        obtain ⟨W1, hW1⟩ : ∃ W, W = w4.alloc (.cells #[.int .i64 0, .int .i64 0] 24) := ⟨_, rfl⟩
        obtain ⟨g, hg⟩ : ∃ g, g = w4.heap.size := ⟨_, rfl⟩
        have k0 := show TwoI W1 g 24 0 0 from by rw [hW1, hg]; exact TwoI.new _ _ _ _
        have ba := show Below w4.heap.size w4 W1 from by rw [hW1]; exact (Below.refl _ _).alloc (Nat.le_refl _) _
        have f0 := Blk.frozen k0 0
        have f1 := Blk.frozen k0 1
        have q0 := k0.c0
        have q1 := k0.c1
        obtain ⟨W2, hW2⟩ : ∃ W, W = ((W1.setCell ⟨g, 0, none⟩ (.int .i64 a)).setCell ⟨g, 1, none⟩ (.int .i64 b)) := ⟨_, rfl⟩
        have k1 := Lib.hid (show TwoI W2 g 24 a b from by rw [hW2]; exact k0.put a b)
        have ba2 := Lib.hid (show Below w4.heap.size w4 W2 from by rw [hW2]; exact (ba.setCell (by rw [hg]; exact Nat.le_refl _) _).setCell (by rw [hg]; exact Nat.le_refl _) _)
        clear ba k0
        go_wp2_with (rw [← hW1, ← hg]; clear hW1; replace hg := Lib.hid hg; replace hW2 := Lib.hid hW2; replace q0 := q0; go_wp2_with fail)
        rw [← hW2.out]
        clear f0 f1 q0 q1 hW2 W1
        replace hI := Lib.hid (hI.out.later ba2.out)
        have hgW := Lib.hid k1.out.lt
        clear ba2
        have cN : Hid (Calls Try.prog 10 #[.slice A n c, .agg #[.int .i64 a, .int .i64 b]] W2 fun e w' => e = .returned (.tuple #[.int .i64 k, .bool true]) ∧ Below W2.heap.size W2 w') := Lib.hid (by
          have h := hist_Number A n c hs W2 hI.out.h hnc (by omega) (by omega) (by rw [← hN.out]; exact hF) a b (by omega) (by omega) (by omega) (by omega)
          rw [hnum] at h
          exact h)
        refine cN.out.mono ?_; rintro e w5 ⟨rfl, b5⟩
        replace hI := Lib.hid (hI.out.later b5)
        replace k1 := Lib.hid (k1.out.below b5)
        clear b5 cN hgW hnum
        have q0 := k1.out.c0
        have q1 := k1.out.c1
        obtain ⟨sb, so, B, m, cc, os', rfl, hsb, hos', hcell, hmc, hm63, hO⟩ := hI.out.h.at_ hsn.out
        rw [hos.out] at hos'
        injection hos' with hos'
        subst hos'
        obtain ⟨pb, po, x, rfl, hpb, hx, hokx, x0, x1, x2⟩ := hO.at_ (show p < m by rw [← hO.len]; exact f2.out)
        obtain ⟨lb, lo, y, rfl, hlb, hy, hoky, y0, y1, y2⟩ := hI.out.l.at_ hlt.out
        have hxy : x = y := by
          have f := f4.out
          rw [hx, hy] at f
          injection f with f
          exact f.symm
        subst hxy
        have z3 : b < (m : Int) := by have := hO.len; have := f2.out; have := hbp.out; omega
        have d0 : decide (a < 0) = false := decide_eq_false (by omega)
        have d1 : decide ((n : Int) ≤ a) = false := decide_eq_false (by omega)
        have d2 : decide (b < 0) = false := decide_eq_false (by omega)
        have d3 : decide ((m : Int) ≤ b) = false := decide_eq_false (by omega)
        have z01 : 0 ≤ a ∧ a < (n : Int) := ⟨z0, z1⟩
        have z23 : 0 ≤ b ∧ b < (m : Int) := ⟨z2, z3⟩
        have hkk : ((k : Int) != (k : Int)) = false := by simp
        obtain ⟨xw, xn, xv⟩ := x
        simp only at x0 x1 x2 y0 y1 y2
        clear hx hy hokx hoky hO
        go_wp2_with fail
        go_quiet (fail)
        go_wp2_with fail
        refine ⟨⟨k + 1, by have := hlt.out; omega, by go_num, Lib.hid (hI.out.later (below_drewN (Below.refl _ _) _))⟩, by have := hlt.out; simp [intOf]; omega⟩
      · have hkN : k = N := by omega
        have cSp : Hid (Calls Try.prog 8 #[.slice A n c, .int .i64 (N : Int)] wr fun e w' => e = .returned (.tuple #[.agg #[.int .i64 0, .int .i64 0], .bool false]) ∧ Below wr.heap.size wr w') := Lib.hid (by
          have h := hist_Spot A n c hs wr hI.out.h hnc (by omega) (by omega) (by rw [← hN.out]; exact hF) N (by omega) (by omega)
          rw [show spotZ hs (N : Int) = none from by unfold spotZ; rw [if_neg (by omega), Int.toNat_natCast, spotN_none hs N (by rw [← hN.out]; exact Nat.le_refl _)]] at h
          exact h)
        have hlt' : ¬ (k : Int) < (N : Int) := by omega
        clear hlt hkN
        go_wp2_with fail
        refine cSp.out.mono ?_; rintro e w4 ⟨rfl, b4⟩
        replace hI := Lib.hid (hI.out.later b4)
        clear b4 cSp
        -- behind a call that answers a spot (0, 0): the variable g that it is laid into; the world is W2 then; walked to what comes next
        obtain ⟨W1, hW1⟩ : ∃ W, W = w4.alloc (.cells #[.int .i64 0, .int .i64 0] 24) := ⟨_, rfl⟩
        obtain ⟨g, hg⟩ : ∃ g, g = w4.heap.size := ⟨_, rfl⟩
        have k0 := show TwoI W1 g 24 0 0 from by rw [hW1, hg]; exact TwoI.new _ _ _ _
        have ba := show Below w4.heap.size w4 W1 from by rw [hW1]; exact (Below.refl _ _).alloc (Nat.le_refl _) _
        have f0 := Blk.frozen k0 0
        have f1 := Blk.frozen k0 1
        have q0 := k0.c0
        have q1 := k0.c1
        obtain ⟨W2, hW2⟩ : ∃ W, W = ((W1.setCell ⟨g, 0, none⟩ (.int .i64 0)).setCell ⟨g, 1, none⟩ (.int .i64 0)) := ⟨_, rfl⟩
        have k1 := Lib.hid (show TwoI W2 g 24 0 0 from by rw [hW2]; exact k0.put 0 0)
        have ba2 := Lib.hid (show Below w4.heap.size w4 W2 from by rw [hW2]; exact (ba.setCell (by rw [hg]; exact Nat.le_refl _) _).setCell (by rw [hg]; exact Nat.le_refl _) _)
        clear ba k0
        go_wp2_with (rw [← hW1, ← hg]; clear hW1; replace hg := Lib.hid hg; replace hW2 := Lib.hid hW2; replace q0 := q0; go_wp2_with fail)
        rw [← hW2.out]
        clear f0 f1 q0 q1 hW2 W1
        replace hI := Lib.hid (hI.out.later ba2.out)
        refine (law6_awake W2).mono ?_; rintro e w5 ⟨rfl, b5⟩
        replace hI := Lib.hid (hI.out.later b5)
        clear b5
        go_wp2_with fail
        go_ret
        exact ⟨rfl, hI.out.b⟩

end Go.Proofs.Ytkocknlhlljlcaa
