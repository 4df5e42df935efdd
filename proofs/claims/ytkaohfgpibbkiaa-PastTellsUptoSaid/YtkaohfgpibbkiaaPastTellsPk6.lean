/- The contracts of the document's own answers of layer 16: Of, With, Writes, Kept. Plain mathematics of layer 12: the past of an operation of a history. Nothing of the program is named. Plain mathematics of layer 12: the matrix of a history's sessions is closed, doesn't go round, and has n (n - 1) / 2 pairs of each session. Nothing of the program is named. Plain mathematics of layer 12: items of a session are neighbours; what follows for their order and the rows of the matrix. Nothing of the program is named. A region that draws its order, by a plan (XPlan), in which one block of the caller's may change (an append in place): what reads must not read it. No function of the program is named here. A region that draws its order, walked by a tree of orders: what only reads (in every world that meets S) is taken as soon as it may come up; what changes memory, and stays in S, comes up alone, or as one of two: then both ways are walked. S is the prover's: as a rule 'the blocks that were there at the region's start are as they were': so an alloc beside calls, and stores into what the region made, are steps too. No function of the program is named here. The code's own contracts of layer 12: known, first, fill, Ahead, Past, Po. -/
import Derived.Test.YtkaohfgpibbkiaaPastTellsPk4
import Derived.Test.YtkaohfgpibbkiaaPastTellsPk5
import Derived.Test.YtkaohfgpibbkiaaPastTellsPk3
import Derived.Test.YtkaohfgpibbkiaaPastTellsPk2
import Derived.Test.YtkaohfgpibbkiaaPastTellsPk1
namespace Go.Proofs.Ytkaohfgpibbkiaa
open Go.RowKit
set_option linter.unusedVariables false
theorem info_int16 : (Try.prog.info? 3).map (fun i => (i.zero, i.size, i.bytes)) = some (some (.int .i64 0), 1, 8) := by kernel_rfl
set_option maxRecDepth 100000 in
set_option maxHeartbeats 2000000 in
theorem ref16_Of (A : Option Addr) (n c : Nat) (a : List (List Nat)) (o : Int) (w : World) (hr : RowsAt w A n a) (hG : Good n a) :
    Calls Try.prog 22 #[.agg #[.int .i64 (n : Int), .slice A n c], .int .i64 o] w (RetIL (colF a o n) w) := by
  have hnn := hG.le
  obtain ⟨i0, hi, hz0, hz1, hz2⟩ := info_parts info_int16
  replace hi := Lib.hid hi
  replace hz0 := Lib.hid hz0
  replace hz1 := Lib.hid hz1
  replace hz2 := Lib.hid hz2
  -- a call with the matrix (A n c a): it is boxed at g, the world is W0 then
  have hM0 := Lib.hid (MatK.new (N := (n : Int)) (c := c) w 39 hr)
  obtain ⟨g, hg⟩ : ∃ g, g = w.heap.size := ⟨_, rfl⟩
  obtain ⟨W0, hW0⟩ : ∃ W, W = w.alloc (.cells #[.int .i64 (n : Int), .slice A n c] 39) := ⟨_, rfl⟩
  rw [← hW0, ← hg] at hM0
  have hbo := Lib.hid (show Below w.heap.size w W0 from by rw [hW0]; exact below_alloc _ _)
  go_enter Try.func22, Try.ntmps22
  go_wp2_with (rw [← hW0, ← hg]; clear hW0 hg)
  go_loopw [5, 6] (fun u t wr => ∃ k : Nat, k ≤ n ∧ t = .int .i64 k ∧ Hid (Below W0.heap.size W0 wr) ∧ Hid (wr.ownsRow W0.heap.size 3 1 u (colF a o k).length (encI.all (colF a o k)))) (fun _ t _ => n - (intOf t).toNat)
  case atStart => exact ⟨0, Nat.zero_le _, rfl, Lib.hid (Below.refl _ _), Lib.hid (World.ownsRow_nil _ _ _ _)⟩
  case round =>
    obtain ⟨k, hk, rfl, hb, hown⟩ := hrel
    have hM := Lib.hid (hM0.out.below hb.out)
    have m0 := hM.out.1.c0
    have m1 := hM.out.1.c1
    have hrl := colF_len a o k
    have hrs := colF_succ a o k
    obtain ⟨L, hL⟩ : ∃ L, L = (colF a o k).length := ⟨_, rfl⟩
    rw [← hL] at hown hrl
    replace hL := Lib.hid hL
    by_cases hlt : k < n
    · have hlt' : (k : Int) < (n : Int) := by omega
      have cH := ref3_HasG A n c a hG (k : Int) o wr hM.out.2
      cases ha : hasM a (k : Int) o with
      | true =>
        rw [ha] at cH
        rw [if_pos ha] at hrs
        replace hrs := Lib.hid hrs
        replace cH := Lib.hid cH
        clear hlt ha
        go_wp2_with fail
        refine cH.out.mono ?_; rintro e w3 ⟨rfl, b3⟩
        have hown3 := Lib.hid (own_below hown.out b3)
        have hb3 := Lib.hid (below_trans2 hb.out b3)
        clear b3 cH m0 m1
        -- 'append(out, (k : Int))' (temps 17 19) in the world w3: hown : the row (colF a o k) of length L (hL), hb : Below W0 .. w3; behind it: hown', hb7
        obtain ⟨gl, hgl⟩ : ∃ g, g = (w3).heap.size := ⟨_, rfl⟩
        obtain ⟨VL, hVL⟩ : ∃ W, W = World.alloc (w3) (.cells #[.int .i64 (k : Int)] 3) := ⟨_, rfl⟩
        have bL : Below (w3).heap.size (w3) VL := by rw [hVL]; exact (Below.refl _ _).alloc (Nat.le_refl _) _
        have hlit := Lib.hid (show LAt encI VL (some ⟨gl, 0, none⟩) 1 [(k : Int)] from by rw [hVL, hgl]; exact LAt.lit1 (E := encI) (w3) 3 (k : Int) ⟨by omega, by omega⟩)
        have hownL := Lib.hid (own_below hown3.out bL)
        have bWL := Lib.hid (below_trans2 hb3.out bL)
        have hbase := Lib.hid bWL.out.size
        clear bL
        go_wp2_with (first
          | (rw [← hVL, ← hgl]; clear hVL hgl)
          | (at_builtin; refine wpList_append_L (E := encI) rfl (.tmp 17) (.tmp 19) _ rfl W0.heap.size 3 i0 _ 8 Try.underlying23 hi.out hz0.out hz1.out hz2.out rfl _ L (colF a o k) (by rfl) hownL.out _ 1 1 _ rfl hlit.out (by unfold maxLen; omega) (by omega) hbase.out ?_; intro v' w7 hown' hb7 _ _))
        exact ⟨⟨k + 1, by omega, by go_num, Lib.hid (bWL.out.trans hb7), Lib.hid (by rw [hrs.out, List.length_append, ← hL.out]; exact hown')⟩, by simp [intOf]; omega⟩
      | false =>
        rw [ha] at cH
        rw [if_neg (by simp [ha])] at hrs
        replace hrs := Lib.hid hrs
        replace cH := Lib.hid cH
        clear hlt ha
        go_wp2_with fail
        refine cH.out.mono ?_; rintro e w3 ⟨rfl, b3⟩
        have hown3 := Lib.hid (own_below hown.out b3)
        have hb3 := Lib.hid (below_trans2 hb.out b3)
        clear b3 cH m0 m1
        go_wp2_with fail
        exact ⟨⟨k + 1, by omega, by go_num, hb3, Lib.hid (by rw [hrs.out, ← hL.out]; exact hown3.out)⟩, by simp [intOf]; omega⟩
    · have hlt' : ¬ (k : Int) < (n : Int) := by omega
      obtain rfl : k = n := by omega
      obtain ⟨A2, c2, rfl, hnc, hcm, hLA⟩ := LAt.of_own hown.out (fun z hz => by
        have := colF_ok a o k z hz
        exact ⟨by omega, by omega⟩) hL.out.symm
      clear hlt
      go_wp2_with fail
      go_ret
      exact ⟨A2, L, c2, rfl, hLA, hnc, hcm, below_trans2 hbo.out hb.out⟩
set_option maxRecDepth 100000 in
set_option maxHeartbeats 2000000 in
theorem ref16_With (A : Option Addr) (n c : Nat) (a : List (List Nat)) (o : Int) (w : World) (hr : RowsAt w A n a) (hG : Good n a) :
    Calls Try.prog 24 #[.agg #[.int .i64 (n : Int), .slice A n c], .int .i64 o] w (RetIL (wihO a o n) w) := by
  have hnn := hG.le
  obtain ⟨i0, hi, hz0, hz1, hz2⟩ := info_parts info_int16
  replace hi := Lib.hid hi
  replace hz0 := Lib.hid hz0
  replace hz1 := Lib.hid hz1
  replace hz2 := Lib.hid hz2
  -- a call with the matrix (A n c a): it is boxed at g, the world is W0 then
  have hM0 := Lib.hid (MatK.new (N := (n : Int)) (c := c) w 39 hr)
  obtain ⟨g, hg⟩ : ∃ g, g = w.heap.size := ⟨_, rfl⟩
  obtain ⟨W0, hW0⟩ : ∃ W, W = w.alloc (.cells #[.int .i64 (n : Int), .slice A n c] 39) := ⟨_, rfl⟩
  rw [← hW0, ← hg] at hM0
  have hbo := Lib.hid (show Below w.heap.size w W0 from by rw [hW0]; exact below_alloc _ _)
  by_cases hin : 0 ≤ o ∧ o < (n : Int)
  · obtain ⟨h0, h1⟩ := hin
    have hwo : Hid (wihO a o n = wihF a o n) := Lib.hid (if_pos ⟨h0, h1⟩)
    have d2 : decide (0 ≤ o) = true := decide_eq_true h0
    have d3 : decide (o < (n : Int)) = true := decide_eq_true h1
    go_enter Try.func24, Try.ntmps24
    go_wp2_with (rw [← hW0, ← hg]; clear hW0 hg)
    go_loopw [5, 6] (fun u t wr => ∃ k : Nat, k ≤ n ∧ t = .int .i64 k ∧ Hid (Below W0.heap.size W0 wr) ∧ Hid (wr.ownsRow W0.heap.size 3 1 u (wihF a o k).length (encI.all (wihF a o k)))) (fun _ t _ => n - (intOf t).toNat)
    case atStart => exact ⟨0, Nat.zero_le _, rfl, Lib.hid (Below.refl _ _), Lib.hid (World.ownsRow_nil _ _ _ _)⟩
    case round =>
      obtain ⟨k, hk, rfl, hb, hown⟩ := hrel
      have hM := Lib.hid (hM0.out.below hb.out)
      have m0 := hM.out.1.c0
      have m1 := hM.out.1.c1
      have hrl := wihF_len a o k
      have hrs := wihF_succ a o k
      obtain ⟨L, hL⟩ : ∃ L, L = (wihF a o k).length := ⟨_, rfl⟩
      rw [← hL] at hown hrl
      replace hL := Lib.hid hL
      by_cases hlt : k < n
      · have hlt' : (k : Int) < (n : Int) := by omega
        have d1 : decide ((k : Int) < (n : Int)) = true := decide_eq_true hlt'
        by_cases hko : (k : Int) = o
        · rw [if_pos (by simp [hko])] at hrs
          have e0 : ((k : Int) == o) = true := by simp [hko]
          replace hrs := Lib.hid hrs
          replace hko := Lib.hid hko
          clear hlt
          -- 'append(out, (k : Int))' (temps 32 34) in the world wr: hown : the row (wihF a o k) of length L (hL), hb : Below W0 .. wr; behind it: hown', hb7
          obtain ⟨gl, hgl⟩ : ∃ g, g = (wr).heap.size := ⟨_, rfl⟩
          obtain ⟨VL, hVL⟩ : ∃ W, W = World.alloc (wr) (.cells #[.int .i64 (k : Int)] 3) := ⟨_, rfl⟩
          have bL : Below (wr).heap.size (wr) VL := by rw [hVL]; exact (Below.refl _ _).alloc (Nat.le_refl _) _
          have hlit := Lib.hid (show LAt encI VL (some ⟨gl, 0, none⟩) 1 [(k : Int)] from by rw [hVL, hgl]; exact LAt.lit1 (E := encI) (wr) 3 (k : Int) ⟨by omega, by omega⟩)
          have hownL := Lib.hid (own_below hown.out bL)
          have bWL := Lib.hid (below_trans2 hb.out bL)
          have hbase := Lib.hid bWL.out.size
          clear bL
          go_wp2_with (first
            | (rw [← hVL, ← hgl]; clear hVL hgl)
            | (at_builtin; refine wpList_append_L (E := encI) rfl (.tmp 32) (.tmp 34) _ rfl W0.heap.size 3 i0 _ 8 Try.underlying23 hi.out hz0.out hz1.out hz2.out rfl _ L (wihF a o k) (by rfl) hownL.out _ 1 1 _ rfl hlit.out (by unfold maxLen; omega) (by omega) hbase.out ?_; intro v' w7 hown' hb7 _ _))
          exact ⟨⟨k + 1, by omega, by go_num, Lib.hid (bWL.out.trans hb7), Lib.hid (by rw [hrs.out, List.length_append, ← hL.out]; exact hown')⟩, by simp [intOf]; omega⟩
        · have e0 : ((k : Int) == o) = false := by simpa using hko
          rw [decide_eq_false hko, Bool.false_or] at hrs
          have cH := ref3_HasG A n c a hG (k : Int) o wr hM.out.2
          replace hko := Lib.hid hko
          cases ha : hasM a (k : Int) o with
          | true =>
            rw [ha] at cH
            rw [if_pos ha] at hrs
            replace hrs := Lib.hid hrs
            replace cH := Lib.hid cH
            clear hlt ha
            go_wp2_with fail
            refine cH.out.mono ?_; rintro e w3 ⟨rfl, b3⟩
            have hown3 := Lib.hid (own_below hown.out b3)
            have hb3 := Lib.hid (below_trans2 hb.out b3)
            clear b3 cH m0 m1
            -- 'append(out, (k : Int))' (temps 32 34) in the world w3: hown : the row (wihF a o k) of length L (hL), hb : Below W0 .. w3; behind it: hown', hb7
            obtain ⟨gl, hgl⟩ : ∃ g, g = (w3).heap.size := ⟨_, rfl⟩
            obtain ⟨VL, hVL⟩ : ∃ W, W = World.alloc (w3) (.cells #[.int .i64 (k : Int)] 3) := ⟨_, rfl⟩
            have bL : Below (w3).heap.size (w3) VL := by rw [hVL]; exact (Below.refl _ _).alloc (Nat.le_refl _) _
            have hlit := Lib.hid (show LAt encI VL (some ⟨gl, 0, none⟩) 1 [(k : Int)] from by rw [hVL, hgl]; exact LAt.lit1 (E := encI) (w3) 3 (k : Int) ⟨by omega, by omega⟩)
            have hownL := Lib.hid (own_below hown3.out bL)
            have bWL := Lib.hid (below_trans2 hb3.out bL)
            have hbase := Lib.hid bWL.out.size
            clear bL
            go_wp2_with (first
              | (rw [← hVL, ← hgl]; clear hVL hgl)
              | (at_builtin; refine wpList_append_L (E := encI) rfl (.tmp 32) (.tmp 34) _ rfl W0.heap.size 3 i0 _ 8 Try.underlying23 hi.out hz0.out hz1.out hz2.out rfl _ L (wihF a o k) (by rfl) hownL.out _ 1 1 _ rfl hlit.out (by unfold maxLen; omega) (by omega) hbase.out ?_; intro v' w7 hown' hb7 _ _))
            exact ⟨⟨k + 1, by omega, by go_num, Lib.hid (bWL.out.trans hb7), Lib.hid (by rw [hrs.out, List.length_append, ← hL.out]; exact hown')⟩, by simp [intOf]; omega⟩
          | false =>
            rw [ha] at cH
            rw [if_neg (by simp [ha])] at hrs
            replace hrs := Lib.hid hrs
            replace cH := Lib.hid cH
            clear hlt ha
            go_wp2_with fail
            refine cH.out.mono ?_; rintro e w3 ⟨rfl, b3⟩
            have hown3 := Lib.hid (own_below hown.out b3)
            have hb3 := Lib.hid (below_trans2 hb.out b3)
            clear b3 cH m0 m1
            go_wp2_with fail
            exact ⟨⟨k + 1, by omega, by go_num, hb3, Lib.hid (by rw [hrs.out, ← hL.out]; exact hown3.out)⟩, by simp [intOf]; omega⟩
      · have hlt' : ¬ (k : Int) < (n : Int) := by omega
        have d1 : decide ((k : Int) < (n : Int)) = false := decide_eq_false hlt'
        obtain rfl : k = n := by omega
        obtain ⟨A2, c2, rfl, hnc, hcm, hLA⟩ := LAt.of_own hown.out (fun z hz => by
          have := wihF_ok a o k z hz
          exact ⟨by omega, by omega⟩) hL.out.symm
        clear hlt
        go_wp2_with fail
        go_ret
        exact ⟨A2, L, c2, rfl, by rw [hwo.out]; exact hLA, hnc, hcm, below_trans2 hbo.out hb.out⟩
  · have hwo : Hid (wihO a o n = []) := Lib.hid (if_neg hin)
    have hM := hM0
    have m0 := hM0.out.1.c0
    rcases Nat.eq_zero_or_pos n with hn0 | hn0
    · have d1 : decide (0 < n) = false := decide_eq_false (by omega)
      have d1' : decide ((0 : Int) < (n : Int)) = false := decide_eq_false (by omega)
      replace hn0 := Lib.hid hn0
      go_enter Try.func24, Try.ntmps24
      go_wp2_with (rw [← hW0, ← hg]; clear hW0 hg)
      go_loopw [5, 6] (fun u t wr => u = .slice none 0 0 ∧ t = .int .i64 0 ∧ wr = W0) (fun _ _ _ => 0)
      case atStart => exact ⟨rfl, rfl, rfl⟩
      case round =>
        obtain ⟨rfl, rfl, rfl⟩ := hrel
        go_wp2_with fail
        go_ret
        exact ⟨none, 0, 0, rfl, by rw [hwo.out]; exact LAt.nil _ _ _, Nat.le_refl _, by omega, hbo.out⟩
    · have d1 : decide (0 < n) = true := decide_eq_true hn0
      have d1' : decide ((0 : Int) < (n : Int)) = true := decide_eq_true (by omega)
      by_cases h0 : 0 ≤ o
      · have h1 : ¬ o < (n : Int) := by omega
        have d2 : decide (0 ≤ o) = true := decide_eq_true h0
        have d3 : decide (o < (n : Int)) = false := decide_eq_false h1
        go_enter Try.func24, Try.ntmps24
        go_wp2_with (rw [← hW0, ← hg]; clear hW0 hg)
        go_loopw [5, 6] (fun u t wr => u = .slice none 0 0 ∧ t = .int .i64 0 ∧ wr = W0) (fun _ _ _ => 0)
        case atStart => exact ⟨rfl, rfl, rfl⟩
        case round =>
          obtain ⟨rfl, rfl, rfl⟩ := hrel
          go_wp2_with fail
          go_ret
          exact ⟨none, 0, 0, rfl, by rw [hwo.out]; exact LAt.nil _ _ _, Nat.le_refl _, by omega, hbo.out⟩
      · have d2 : decide (0 ≤ o) = false := decide_eq_false h0
        go_enter Try.func24, Try.ntmps24
        go_wp2_with (rw [← hW0, ← hg]; clear hW0 hg)
        go_loopw [5, 6] (fun u t wr => u = .slice none 0 0 ∧ t = .int .i64 0 ∧ wr = W0) (fun _ _ _ => 0)
        case atStart => exact ⟨rfl, rfl, rfl⟩
        case round =>
          obtain ⟨rfl, rfl, rfl⟩ := hrel
          go_wp2_with fail
          go_ret
          exact ⟨none, 0, 0, rfl, by rw [hwo.out]; exact LAt.nil _ _ _, Nat.le_refl _, by omega, hbo.out⟩
/-- a list in a block of the call's own -/
def RetILF (xs : List Int) (w : World) (e : Ending) (w' : World) : Prop := ∃ A n c, e = .returned (.slice A n c) ∧ LAt encI w' A n xs ∧ n ≤ c ∧ c ≤ 9223372036854775807 ∧ Below w.heap.size w w' ∧ ∀ ad, A = some ad → w.heap.size ≤ ad.block
set_option maxRecDepth 100000 in
set_option maxHeartbeats 2000000 in
theorem ref16_WritesF (v : FV) (f : Fac) (B : Option Addr) (m d : Nat) (l : List Int) (vr : Int) (w : World) (hF : FactsAt w v f) (hL : LAt encI w B m l) (hm : m ≤ 1048576) (hvm : v.m ≤ 1048576) :
    Calls Try.prog 26 #[.agg #[.slice v.A v.n v.c, .slice v.B v.m v.d, .slice v.C v.k v.e], .slice B m d, .int .i64 vr] w (RetILF (wrsF f.items vr l) w) := by
  have hil := hF.is.len
  obtain ⟨i0, hi, hz0, hz1, hz2⟩ := info_parts info_int16
  replace hi := Lib.hid hi
  replace hz0 := Lib.hid hz0
  replace hz1 := Lib.hid hz1
  replace hz2 := Lib.hid hz2
  replace hil := Lib.hid hil
  replace hL := Lib.hid hL
  -- a call with facts v: they are boxed at g, the world is W0 then
  have hB0 := Lib.hid (FBox.new hF)
  obtain ⟨g, hg⟩ : ∃ g, g = w.heap.size := ⟨_, rfl⟩
  obtain ⟨W0, hW0⟩ : ∃ W, W = w.alloc (.cells #[.slice v.A v.n v.c, .slice v.B v.m v.d, .slice v.C v.k v.e] 27) := ⟨_, rfl⟩
  rw [← hW0, ← hg] at hB0
  clear hF
  go_enter Try.func26, Try.ntmps26
  go_wp2_with (rw [← hW0, ← hg]; clear hW0 hg)
  go_loopw [7, 8] (fun u t wr => ∃ k : Nat, k ≤ m ∧ t = .int .i64 k ∧ Hid (Below W0.heap.size W0 wr) ∧ Hid (wr.ownsRow W0.heap.size 3 1 u (wrsF f.items vr (l.take k)).length (encI.all (wrsF f.items vr (l.take k))))) (fun _ t _ => m - (intOf t).toNat)
  case atStart => exact ⟨0, Nat.zero_le _, rfl, Lib.hid (Below.refl _ _), Lib.hid (World.ownsRow_nil _ _ _ _)⟩
  case round =>
    obtain ⟨k, hk, rfl, hb, hown⟩ := hrel
    have hB := Lib.hid (hB0.out.later hb.out)
    have hLr := (hL.out.below hB0.out.o).below hb.out
    have p0 := hB.out.c0
    have p1 := hB.out.c1
    have p2 := hB.out.c2
    have hrl : (wrsF f.items vr (l.take k)).length ≤ k := Nat.le_trans (List.length_filter_le _ _) (List.length_take_le _ _)
    obtain ⟨L, hLl⟩ : ∃ L, L = (wrsF f.items vr (l.take k)).length := ⟨_, rfl⟩
    rw [← hLl] at hown hrl
    replace hLl := Lib.hid hLl
    by_cases hlt : k < m
    · have hlt' : (k : Int) < (m : Int) := by omega
      obtain ⟨lb, lo, z, rfl, hlb, hz, ⟨z0, z1⟩, j0⟩ := hLr.int hlt
      have hrs : wrsF f.items vr (l.take (k + 1)) = if wrOK f.items vr z = true then wrsF f.items vr (l.take k) ++ [z] else wrsF f.items vr (l.take k) := filter_take hz
      by_cases hzn : 0 ≤ z
      · have d1 : decide (0 ≤ z) = true := decide_eq_true hzn
        by_cases hzm : z < (v.m : Int)
        · have d2 : decide (z < (v.m : Int)) = true := decide_eq_true hzm
          have hzb : 0 ≤ z ∧ z < (v.m : Int) := ⟨hzn, hzm⟩
          obtain ⟨ib, io, it, hxB, hib, hq, -, i0, i1, i2, i3, i4⟩ := hB.out.f.is.item (show z.toNat < v.m by omega)
          rw [hxB] at p1
          rw [wrOK_at hzn hq] at hrs
          obtain ⟨s1, t1, w1, a1, l1⟩ := it
          simp only at i2 i3 hrs
          clear i0 i1 i4 hxB hq hib
          cases w1 with
          | false =>
            rw [if_neg (by simp)] at hrs
            replace hrs := Lib.hid hrs
            clear hz hlb
            clear hlt
            go_wp2_with fail
            go_quiet (fail)
            go_wp2_with fail
            exact ⟨⟨k + 1, by omega, by go_num, Lib.hid (below_drewN hb.out _), Lib.hid (by rw [hrs.out, ← hLl.out]; exact own_below hown.out (below_drewN (Below.refl _ _) _))⟩, by simp [intOf]; omega⟩
          | true =>
            by_cases ha : a1 = vr
            · rw [if_pos (by simp [ha])] at hrs
              have g1 : (a1 == vr) = true := by simp [ha]
              replace hrs := Lib.hid hrs
              replace ha := Lib.hid ha
              have k0 : 0 ≤ (k : Int) ∧ (k : Int) < (m : Int) := ⟨by omega, hlt'⟩
              clear hlt
              go_wp2_with fail
              go_quiet (fail)
              obtain ⟨Wq, hWq⟩ : ∃ W, W = wr.drewN nq := ⟨_, rfl⟩
              have hown3 := Lib.hid (show Wq.ownsRow W0.heap.size 3 1 _ L (encI.all (wrsF f.items vr (l.take k))) from by rw [hWq]; exact own_below hown.out (below_drewN (Below.refl _ _) _))
              have hb3 := Lib.hid (show Below W0.heap.size W0 Wq from by rw [hWq]; exact below_drewN hb.out _)
              have j0' : Wq.cell? ⟨lb, lo + k, none⟩ = some (.int .i64 z) := by rw [hWq]; exact j0
              rw [← hWq]
              clear hWq j0 p0 p1 p2 hz hlb i2 i3
              -- 'append(out, z)' (temps 54 59) in the world Wq: hown : the row (wrsF f.items vr (l.take k)) of length L (hL), hb : Below W0 .. Wq; behind it: hown', hb7
              obtain ⟨gl, hgl⟩ : ∃ g, g = (Wq).heap.size := ⟨_, rfl⟩
              obtain ⟨VL, hVL⟩ : ∃ W, W = World.alloc (Wq) (.cells #[.int .i64 z] 3) := ⟨_, rfl⟩
              have bL : Below (Wq).heap.size (Wq) VL := by rw [hVL]; exact (Below.refl _ _).alloc (Nat.le_refl _) _
              have hlit := Lib.hid (show LAt encI VL (some ⟨gl, 0, none⟩) 1 [z] from by rw [hVL, hgl]; exact LAt.lit1 (E := encI) (Wq) 3 z ⟨by omega, by omega⟩)
              have hownL := Lib.hid (own_below hown3.out bL)
              have bWL := Lib.hid (below_trans2 hb3.out bL)
              have hbase := Lib.hid bWL.out.size
              clear bL
              go_wp2_with (first
                | (rw [← hVL, ← hgl]; clear hVL hgl)
                | (at_builtin; refine wpList_append_L (E := encI) rfl (.tmp 54) (.tmp 59) _ rfl W0.heap.size 3 i0 _ 8 Try.underlying23 hi.out hz0.out hz1.out hz2.out rfl _ L (wrsF f.items vr (l.take k)) (by rfl) hownL.out _ 1 1 _ rfl hlit.out (by unfold maxLen; omega) (by omega) hbase.out ?_; intro v' w7 hown' hb7 _ _))
              exact ⟨⟨k + 1, by omega, by go_num, Lib.hid (bWL.out.trans hb7), Lib.hid (by rw [hrs.out, List.length_append, ← hLl.out]; exact hown')⟩, by simp [intOf]; omega⟩
            · rw [if_neg (by simp [ha])] at hrs
              have g1 : (a1 == vr) = false := by simpa using ha
              replace hrs := Lib.hid hrs
              replace ha := Lib.hid ha
              clear hz hlb
              clear hlt
              go_wp2_with fail
              go_quiet (fail)
              go_wp2_with fail
              exact ⟨⟨k + 1, by omega, by go_num, Lib.hid (below_drewN hb.out _), Lib.hid (by rw [hrs.out, ← hLl.out]; exact own_below hown.out (below_drewN (Below.refl _ _) _))⟩, by simp [intOf]; omega⟩
        · have d2 : decide (z < (v.m : Int)) = false := decide_eq_false hzm
          rw [if_neg (by rw [wrOK_out (.inr (by rw [hil.out]; omega))]; simp)] at hrs
          replace hrs := Lib.hid hrs
          clear hz hlb
          clear hlt
          go_wp2_with fail
          go_quiet (fail)
          go_wp2_with fail
          exact ⟨⟨k + 1, by omega, by go_num, Lib.hid (below_drewN hb.out _), Lib.hid (by rw [hrs.out, ← hLl.out]; exact own_below hown.out (below_drewN (Below.refl _ _) _))⟩, by simp [intOf]; omega⟩
      · have d1 : decide (0 ≤ z) = false := decide_eq_false hzn
        rw [if_neg (by rw [wrOK_out (.inl (by omega))]; simp)] at hrs
        replace hrs := Lib.hid hrs
        clear hz hlb
        clear hlt
        go_wp2_with fail
        go_quiet (fail)
        go_wp2_with fail
        exact ⟨⟨k + 1, by omega, by go_num, Lib.hid (below_drewN hb.out _), Lib.hid (by rw [hrs.out, ← hLl.out]; exact own_below hown.out (below_drewN (Below.refl _ _) _))⟩, by simp [intOf]; omega⟩
    · have hlt' : ¬ (k : Int) < (m : Int) := by omega
      obtain rfl : k = m := by omega
      have hta : l.take k = l := List.take_of_length_le (by rw [hL.out.len]; omega)
      rw [hta] at hown hLl
      have hfr := Lib.hid (own_lt_block hown.out)
      obtain ⟨A2, c2, rfl, hnc, hcm, hLA⟩ := LAt.of_own hown.out (fun z hz => hL.out.okAll z (List.mem_filter.1 hz).1) hLl.out.symm
      clear hlt hta hLr
      go_wp2_with fail
      go_ret
      exact ⟨A2, L, c2, rfl, hLA, hnc, hcm, below_trans2 hB0.out.o hb.out, fun ad e => by subst e; exact Nat.le_trans hB0.out.o.size (hfr.out _ rfl)⟩
theorem ref16_Writes (v : FV) (f : Fac) (B : Option Addr) (m d : Nat) (l : List Int) (vr : Int) (w : World) (hF : FactsAt w v f) (hL : LAt encI w B m l) (hm : m ≤ 1048576) (hvm : v.m ≤ 1048576) :
    Calls Try.prog 26 #[.agg #[.slice v.A v.n v.c, .slice v.B v.m v.d, .slice v.C v.k v.e], .slice B m d, .int .i64 vr] w (RetIL (wrsF f.items vr l) w) :=
  (ref16_WritesF v f B m d l vr w hF hL hm hvm).mono fun _ _ ⟨A', n', c', h1, h2, h3, h4, h5, _⟩ => ⟨A', n', c', h1, h2, h3, h4, h5⟩
set_option maxRecDepth 100000 in
set_option maxHeartbeats 2000000 in
theorem ref16_KeptF (v : FV) (f : Fac) (o : Int) (w : World) (hF : FactsAt w v f) (hvm : v.m ≤ 1048576) :
    Calls Try.prog 28 #[.agg #[.slice v.A v.n v.c, .slice v.B v.m v.d, .slice v.C v.k v.e], .int .i64 o] w (RetILF (keptF f.items (pastF f.items o f.items.length)) w) := by
  have hil := hF.is.len
  obtain ⟨i0, hi, hz0, hz1, hz2⟩ := info_parts info_int16
  replace hi := Lib.hid hi
  replace hz0 := Lib.hid hz0
  replace hz1 := Lib.hid hz1
  replace hz2 := Lib.hid hz2
  -- a call with facts v: they are boxed at g, the world is W0 then
  have hB0 := Lib.hid (FBox.new hF)
  obtain ⟨g, hg⟩ : ∃ g, g = w.heap.size := ⟨_, rfl⟩
  obtain ⟨W0, hW0⟩ : ∃ W, W = w.alloc (.cells #[.slice v.A v.n v.c, .slice v.B v.m v.d, .slice v.C v.k v.e] 27) := ⟨_, rfl⟩
  rw [← hW0, ← hg] at hB0
  clear hF
  obtain ⟨l, hl⟩ : ∃ l, l = pastF f.items o f.items.length := ⟨_, rfl⟩
  have cP := ref12_Past v f o W0 hB0.out.f hvm
  rw [← hl] at cP ⊢
  have hlr : Hid (∀ z ∈ l, 0 ≤ z ∧ z < (v.m : Int)) := Lib.hid (by rw [hl, ← hil]; exact pastF_ok _ _ _)
  have hlm : l.length ≤ v.m := by rw [hl, ← hil]; exact pastF_len _ _ _
  replace cP := Lib.hid cP
  replace hil := Lib.hid hil
  clear hl
  have p0 := hB0.out.c0
  have p1 := hB0.out.c1
  have p2 := hB0.out.c2
  go_enter Try.func28, Try.ntmps28
  go_wp2_with (rw [← hW0, ← hg]; clear hW0 hg)
  refine cP.out.mono ?_; rintro e w1 ⟨D, m, d, rfl, hL, hmd, hdm, b1⟩
  have hml : m ≤ v.m := by rw [← hL.len]; exact hlm
  have hB1 := Lib.hid (hB0.out.later b1)
  replace hL := Lib.hid hL
  clear b1 cP hlm p0 p1 p2
  go_wp2_with fail
  go_loopw [5, 7] (fun u t wr => ∃ k : Nat, k ≤ m ∧ t = .int .i64 k ∧ Hid (Below w1.heap.size w1 wr) ∧ Hid (wr.ownsRow w1.heap.size 3 1 u (keptF f.items (l.take k)).length (encI.all (keptF f.items (l.take k))))) (fun _ t _ => m - (intOf t).toNat)
  case atStart => exact ⟨0, Nat.zero_le _, rfl, Lib.hid (Below.refl _ _), Lib.hid (World.ownsRow_nil _ _ _ _)⟩
  case round =>
    obtain ⟨k, hk, rfl, hb, hown⟩ := hrel
    obtain ⟨W0, hW0⟩ : ∃ W0, W0 = w1 := ⟨_, rfl⟩
    rw [← hW0] at hb hown
    have hB := Lib.hid (hB1.out.later (by rw [← hW0]; exact hb.out))
    have hLr := hL.out.below (by rw [← hW0]; exact hb.out)
    replace hW0 := Lib.hid hW0
    have p0 := hB.out.c0
    have p1 := hB.out.c1
    have p2 := hB.out.c2
    have hrl : (keptF f.items (l.take k)).length ≤ k := Nat.le_trans (List.length_filter_le _ _) (List.length_take_le _ _)
    obtain ⟨L, hLl⟩ : ∃ L, L = (keptF f.items (l.take k)).length := ⟨_, rfl⟩
    rw [← hLl] at hown hrl
    replace hLl := Lib.hid hLl
    by_cases hlt : k < m
    · have hlt' : (k : Int) < (m : Int) := by omega
      have k0 : 0 ≤ (k : Int) ∧ (k : Int) < (m : Int) := ⟨by omega, hlt'⟩
      obtain ⟨lb, lo, z, rfl, hlb, hz, ⟨z0, z1⟩, j0⟩ := hLr.int hlt
      have hrs : keptF f.items (l.take (k + 1)) = if rdOK f.items z = true then keptF f.items (l.take k) ++ [z] else keptF f.items (l.take k) := filter_take hz
      have hzb := hlr.out z (List.mem_of_getElem? hz)
      obtain ⟨ib, io, it, hxB, hib, hq, -, i0, i1, i2, i3, i4⟩ := hB.out.f.is.item (show z.toNat < v.m by omega)
      rw [hxB] at p1
      rw [rdOK_at hq] at hrs
      obtain ⟨s1, t1, w1', a1, l1⟩ := it
      simp only at i2 hrs
      clear i0 i1 i3 i4 hxB hq hib hz hlb
      go_wp2_with fail
      refine wp_region_plan 10 [(true, 0), (true, 1), (true, 2), (true, 3), (true, 4), (true, 5), (true, 6), (true, 7), (true, 8), (true, 9)] (by kernel_rfl) (by kernel_rfl) (fun Wq hWq => ?_)
      have hown3 := Lib.hid (show Wq.ownsRow W0.heap.size 3 1 _ L (encI.all (keptF f.items (l.take k))) from by rw [hWq.out]; exact hown.out.drew)
      have hb3 := Lib.hid (show Below W0.heap.size W0 Wq from by rw [hWq.out]; exact hb.out.drew)
      have j0' : Wq.cell? ⟨lb, lo + k, none⟩ = some (.int .i64 z) := by rw [hWq.out]; exact j0
      have q1 : Wq.cell? ⟨g, 1, none⟩ = some (.slice (some ⟨ib, io, none⟩) v.m v.d) := by rw [hWq.out]; exact p1
      have q2 : Wq.cell? ⟨ib, io + z.toNat * 5 + 2, none⟩ = some (.bool w1') := by rw [hWq.out]; exact i2
      clear hWq j0 p0 p1 p2 i2
      simp only [List.drop_succ_cons, List.drop_nil]
      iterate 10
        refine wpPlan_float (v := ?_) rfl (by rfl) (fun w' hw' => ?_) (fun K hK => ?_)
        rotate_left
        · (go_simp; try with_reducible rfl)
        go_simp
        refine hK _ ?_
        clear hK K
      refine wpPlan_nil (NoPanic.normal ?_)
      cases w1' with
      | true =>
        rw [if_neg (by simp)] at hrs
        replace hrs := Lib.hid hrs
        replace hlt := Lib.hid hlt
        go_wp2_with fail
        exact ⟨⟨k + 1, by omega, by go_num, Lib.hid (by have := hb3.out; rw [hW0.out] at this; exact this), Lib.hid (by rw [hrs.out, ← hLl.out, ← hW0.out]; exact hown3.out)⟩, by simp [intOf]; omega⟩
      | false =>
        rw [if_pos (by simp)] at hrs
        replace hrs := Lib.hid hrs
        replace hlt := Lib.hid hlt
        -- 'append(out, z)' (temps 27 32) in the world Wq: hown : the row (keptF f.items (l.take k)) of length L (hL), hb : Below W0 .. Wq; behind it: hown', hb7
        obtain ⟨gl, hgl⟩ : ∃ g, g = (Wq).heap.size := ⟨_, rfl⟩
        obtain ⟨VL, hVL⟩ : ∃ W, W = World.alloc (Wq) (.cells #[.int .i64 z] 3) := ⟨_, rfl⟩
        have bL : Below (Wq).heap.size (Wq) VL := by rw [hVL]; exact (Below.refl _ _).alloc (Nat.le_refl _) _
        have hlit := Lib.hid (show LAt encI VL (some ⟨gl, 0, none⟩) 1 [z] from by rw [hVL, hgl]; exact LAt.lit1 (E := encI) (Wq) 3 z ⟨by omega, by omega⟩)
        have hownL := Lib.hid (own_below hown3.out bL)
        have bWL := Lib.hid (below_trans2 hb3.out bL)
        have hbase := Lib.hid bWL.out.size
        clear bL
        go_wp2_with (first
          | (rw [← hVL, ← hgl]; clear hVL hgl)
          | (at_builtin; refine wpList_append_L (E := encI) rfl (.tmp 27) (.tmp 32) _ rfl W0.heap.size 3 i0 _ 8 Try.underlying23 hi.out hz0.out hz1.out hz2.out rfl _ L (keptF f.items (l.take k)) (by rfl) hownL.out _ 1 1 _ rfl hlit.out (by unfold maxLen; omega) (by omega) hbase.out ?_; intro v' w7 hown' hb7 _ _))
        exact ⟨⟨k + 1, by omega, by go_num, Lib.hid (by have := bWL.out.trans hb7; rw [hW0.out] at this; exact this), Lib.hid (by rw [hrs.out, List.length_append, ← hLl.out, ← hW0.out]; exact hown')⟩, by simp [intOf]; omega⟩
    · have hlt' : ¬ (k : Int) < (m : Int) := by omega
      obtain rfl : k = m := by omega
      have hta : l.take k = l := List.take_of_length_le (by rw [hL.out.len]; omega)
      rw [hta] at hown hLl
      have hfr := Lib.hid (own_lt_block hown.out)
      obtain ⟨A2, c2, rfl, hnc, hcm, hLA⟩ := LAt.of_own hown.out (fun z hz => hL.out.okAll z (List.mem_filter.1 hz).1) hLl.out.symm
      clear hlt hta hLr
      go_wp2_with fail
      go_ret
      exact ⟨A2, L, c2, rfl, hLA, hnc, hcm, hB.out.o, fun ad e => by subst e; have h1 := hfr.out _ rfl; have h2 := hB1.out.o.size; rw [hW0.out] at h1; exact Nat.le_trans h2 h1⟩
theorem ref16_Kept (v : FV) (f : Fac) (o : Int) (w : World) (hF : FactsAt w v f) (hvm : v.m ≤ 1048576) :
    Calls Try.prog 28 #[.agg #[.slice v.A v.n v.c, .slice v.B v.m v.d, .slice v.C v.k v.e], .int .i64 o] w (RetIL (keptF f.items (pastF f.items o f.items.length)) w) :=
  (ref16_KeptF v f o w hF hvm).mono fun _ _ ⟨A', n', c', h1, h2, h3, h4, h5, _⟩ => ⟨A', n', c', h1, h2, h3, h4, h5⟩
end Go.Proofs.Ytkaohfgpibbkiaa

namespace Go.Proofs.Ytkaohfgpibbkiaa
set_option linter.unusedVariables false

/-- where a session begins -/
def baseO (hs : List (List OpT)) (s : Nat) : Nat := (allO (hs.take s)).length
theorem baseO_succ {hs : List (List OpT)} {s : Nat} {os : List OpT} (h : hs[s]? = some os) : baseO hs (s + 1) = baseO hs s + os.length := by
  unfold baseO; rw [allO_take_succ h, List.length_append]
theorem baseO_mono {hs : List (List OpT)} {s t : Nat} (h : s ≤ t) : baseO hs s ≤ baseO hs t := by
  induction t with
  | zero => rw [Nat.le_zero.1 h]; exact Nat.le_refl _
  | succ t ih =>
    rcases Nat.lt_or_ge s (t + 1) with h1 | h1
    · have := ih (by omega)
      cases ht : hs[t]? with
      | none =>
        have e : hs.take (t + 1) = hs.take t := by
          have := List.getElem?_eq_none_iff.1 ht
          rw [List.take_of_length_le this, List.take_of_length_le (by omega)]
        unfold baseO at this ⊢; rw [e]; exact this
      | some os => rw [baseO_succ ht]; omega
    · rw [show s = t + 1 by omega]; exact Nat.le_refl _
/-- item i of a history's facts, by where it stands -/
theorem items_at {hs : List (List OpT)} {i : Nat} (hi : i < (allO hs).length) : ∃ (s p : Nat) (x : It), spotN hs i = some (s, p) ∧ (hisF hs).2[i]? = some x ∧ x.se = (s : Int) ∧ x.pl = (p : Int) ∧ baseO hs s + p = i ∧ p < (hs.getD s []).length ∧ s < hs.length := by
  obtain ⟨s, p, va, h1, h2, -, -⟩ := hisF_item hs i _ (List.getElem?_eq_getElem hi)
  obtain ⟨f1, f2, f3, -⟩ := spotN_some hs i s p h1
  exact ⟨s, p, _, h1, h2, rfl, rfl, f3, f2, f1⟩
theorem filter_span {N b k : Nat} (hb : b ≤ k) (hk : k < N) (p : Nat → Bool) (hp : ∀ i, i < N → p i = decide (b ≤ i ∧ i ≤ k)) : (List.range N).filter p = List.range' b (k + 1 - b) := by
  have e : List.range N = List.range' 0 b ++ (List.range' b (k + 1 - b) ++ List.range' (k + 1) (N - (k + 1))) := by
    rw [List.range_eq_range']
    have h1 := List.range'_append_1 (s := b) (m := k + 1 - b) (n := N - (k + 1))
    have h2 := List.range'_append_1 (s := 0) (m := b) (n := N - b)
    rw [show b + (k + 1 - b) = k + 1 by omega, show k + 1 - b + (N - (k + 1)) = N - b by omega] at h1
    rw [Nat.zero_add, show b + (N - b) = N by omega] at h2
    rw [h1, h2]
  rw [e, List.filter_append, List.filter_append]
  rw [List.filter_eq_nil_iff.2 (fun a ha => by have := List.mem_range'_1.1 ha; rw [hp a (by omega)]; simp; omega), List.nil_append]
  rw [List.filter_eq_self.2 (fun a ha => by have := List.mem_range'_1.1 ha; rw [hp a (by omega)]; simp; omega)]
  rw [List.filter_eq_nil_iff.2 (fun a ha => by have := List.mem_range'_1.1 ha; rw [hp a (by omega)]; simp; omega), List.append_nil]
end Go.Proofs.Ytkaohfgpibbkiaa

namespace Go.Proofs.Ytkaohfgpibbkiaa
set_option linter.unusedVariables false

end Go.Proofs.Ytkaohfgpibbkiaa

namespace Go.Proofs.Ytkaohfgpibbkiaa
set_option linter.unusedVariables false

/-- items of a session are neighbours, and their places rise by one -/
def Nbr (is : List It) : Prop := ∀ (i : Nat) (x y : It), is[i]? = some x → is[i + 1]? = some y → (x.se = y.se ∧ y.pl = x.pl + 1) ∨ x.se < y.se
theorem nbr_hist (hs : List (List OpT)) : Nbr (hisF hs).2 := fun i x y hx hy => by
  have hi : i + 1 < (allO hs).length := by rw [← hisF_len hs]; exact (List.getElem?_eq_some_iff.1 hy).1
  obtain ⟨s, p, x', x1, x2, x3, x4, x5, x6, x7⟩ := items_at (hs := hs) (i := i) (by omega)
  obtain ⟨t, q, y', y1, y2, y3, y4, y5, y6, y7⟩ := items_at (hs := hs) (i := i + 1) hi
  rw [hx] at x2; injection x2 with x2; subst x2
  rw [hy] at y2; injection y2 with y2; subst y2
  rcases Nat.lt_trichotomy s t with h | h | h
  · exact .inr (by omega)
  · subst h; exact .inl ⟨by omega, by omega⟩
  · exfalso
    obtain ⟨os, hos⟩ : ∃ os, hs[t]? = some os := ⟨_, List.getElem?_eq_getElem y7⟩
    have hgd : hs.getD t [] = os := by rw [List.getD_eq_getElem?_getD, hos]; rfl
    rw [hgd] at y6
    have b1 := baseO_succ hos
    have := baseO_mono (hs := hs) (show t + 1 ≤ s by omega)
    omega
theorem Nbr.chain {is : List It} (h : Nbr is) : ∀ (d i : Nat) (x y : It), is[i]? = some x → is[i + d]? = some y → (x.se = y.se ∧ y.pl = x.pl + (d : Int)) ∨ x.se < y.se
  | 0, i, x, y, hx, hy => by
    rw [Nat.add_zero, hx] at hy; injection hy with hy; subst hy
    exact .inl ⟨rfl, by omega⟩
  | d + 1, i, x, y, hx, hy => by
    obtain ⟨z, hz⟩ : ∃ z, is[i + d]? = some z := ⟨_, List.getElem?_eq_getElem (by have := (List.getElem?_eq_some_iff.1 hy).1; omega)⟩
    have h1 := h.chain d i x z hx hz
    have h2 := h (i + d) z y hz (by rw [Nat.add_assoc]; exact hy)
    omega
theorem Nbr.le {is : List It} (h : Nbr is) {i j : Nat} {x y : It} (hij : i ≤ j) (hx : is[i]? = some x) (hy : is[j]? = some y) : (x.se = y.se ∧ y.pl = x.pl + ((j - i : Nat) : Int)) ∨ x.se < y.se :=
  h.chain (j - i) i x y hx (by rw [show i + (j - i) = j by omega]; exact hy)
theorem Nbr.ahead {is : List It} (h : Nbr is) {i j : Nat} {x y : It} (hx : is[i]? = some x) (hy : is[j]? = some y) : aheadF is i j = (decide (x.se = y.se) && decide (i < j)) := by
  rw [aheadF_at (by omega) (by omega) (by rw [Int.toNat_natCast]; exact hx) (by rw [Int.toNat_natCast]; exact hy), Bool.eq_iff_iff, Bool.and_eq_true, Bool.and_eq_true, decide_eq_true_eq, decide_eq_true_eq, decide_eq_true_eq]
  rcases Nat.le_total i j with hij | hij
  · have := h.le hij hx hy
    omega
  · have := h.le hij hy hx
    omega
/-- b is the first item of o's session -/
structure FirstIs (is : List It) (o b : Nat) : Prop where
  le : b ≤ o
  same : ∀ (i : Nat) (x y : It), b ≤ i → i ≤ o → is[i]? = some x → is[o]? = some y → x.se = y.se
  new : 0 < b → ∀ x y, is[b - 1]? = some x → is[o]? = some y → x.se ≠ y.se
theorem FirstIs.lower {is : List It} {o b : Nat} (hN : Nbr is) (h : FirstIs is o b) {i : Nat} {x y : It} (hi : i < b) (hx : is[i]? = some x) (hy : is[o]? = some y) : x.se ≠ y.se := by
  have hob : o < is.length := (List.getElem?_eq_some_iff.1 hy).1
  have hle := h.le
  obtain ⟨z, hz⟩ : ∃ z, is[b - 1]? = some z := ⟨_, List.getElem?_eq_getElem (by omega)⟩
  have h1 := h.new (by omega) z y hz hy
  have h2 := hN.le (show i ≤ b - 1 by omega) hx hz
  have h3 := hN.le (show b - 1 ≤ o by omega) hz hy
  omega
theorem FirstIs.ahead {is : List It} {o b : Nat} (hN : Nbr is) (h : FirstIs is o b) (ho : o < is.length) {i : Nat} (hi : i < is.length) : aheadF is i o = decide (b ≤ i ∧ i < o) := by
  obtain ⟨x, hx⟩ : ∃ z, is[i]? = some z := ⟨_, List.getElem?_eq_getElem hi⟩
  obtain ⟨y, hy⟩ : ∃ z, is[o]? = some z := ⟨_, List.getElem?_eq_getElem ho⟩
  rw [hN.ahead hx hy, Bool.eq_iff_iff, Bool.and_eq_true, decide_eq_true_eq, decide_eq_true_eq, decide_eq_true_eq]
  constructor
  · rintro ⟨h1, h2⟩
    refine ⟨?_, h2⟩
    rcases Nat.lt_or_ge i b with hb | hb
    · exact absurd h1 (h.lower hN hb hx hy)
    · exact hb
  · rintro ⟨h1, h2⟩
    exact ⟨h.same i x y h1 (by omega) hx hy, h2⟩
def spanI (b n : Nat) : List Int := (List.range' b n).map fun (i : Nat) => (i : Int)
theorem spanI_succ (b n : Nat) : spanI b (n + 1) = spanI b n ++ [((b + n : Nat) : Int)] := by
  unfold spanI; rw [List.range'_1_concat, List.map_append]; rfl
theorem spanI_len (b n : Nat) : (spanI b n).length = n := by unfold spanI; simp
theorem spanI_ok (b n : Nat) : ∀ z ∈ spanI b n, 0 ≤ z ∧ z < ((b + n : Nat) : Int) := fun z hz => by
  unfold spanI at hz
  obtain ⟨i, hi, rfl⟩ := List.mem_map.1 hz
  have := List.mem_range'_1.1 hi
  omega
theorem FirstIs.past {is : List It} {o b : Nat} (hN : Nbr is) (h : FirstIs is o b) (ho : o < is.length) : pastF is (o : Int) is.length = spanI b (o + 1 - b) := by
  unfold pastF pastN spanI
  rw [filter_span h.le ho _ (fun i hi => by
    rw [h.ahead hN ho hi, Bool.eq_iff_iff, Bool.or_eq_true, decide_eq_true_eq, decide_eq_true_eq, decide_eq_true_eq]; have := h.le; omega)]
theorem past_none {is : List It} {o : Int} (h : o < 0 ∨ (is.length : Int) ≤ o) : pastF is o is.length = [] := by
  unfold pastF pastN
  rw [List.filter_eq_nil_iff.2 (fun a ha => by
    have := List.mem_range.1 ha
    rw [aheadF_out (by omega), decide_eq_false (by omega)]; simp)]
  rfl
end Go.Proofs.Ytkaohfgpibbkiaa

namespace Go.Proofs.Ytkaohfgpibbkiaa
open Go.RowKit

section
variable {gb : Nat} {P : Program} {ops : Array Oper} {md : Region.Mode} {Q : Exit → Act → World → Prop}

/-! ### the steps -/
section
variable {tail : List Oper} {rest : List (Bool × Nat)} {a : Act} {w : World} {i : Nat} {o : Oper}
end
end
end Go.Proofs.Ytkaohfgpibbkiaa

namespace Go.Proofs.Ytkaohfgpibbkiaa
open Go.RowKit
set_option linter.unusedVariables false

section
variable {P : Program} {ops : Array Oper} {md : Region.Mode} {Q : Exit → Act → World → Prop} {S : World → Prop}

/-- a tree of orders -/
inductive PT where
  | done
  | flt (i : Nat) (t : PT)
  | one (i : Nat) (t : PT)
  | two (i j : Nat) (ti tj : PT)
  | three (i j k : Nat) (ti tj tk : PT)

/-! ### the steps -/
section
variable {W : World} {t u : PT} {a : Act} {w : World} {i j : Nat} {o : Oper}
end
end
end Go.Proofs.Ytkaohfgpibbkiaa

namespace Go.Proofs.Ytkaohfgpibbkiaa
open Go.RowKit
set_option linter.unusedVariables false
theorem session_known (B : Option Addr) (m d : Nat) (i : Int) (w : World) :
    Calls Try.prog 72 #[.slice B m d, .int .i64 i] w fun e w' => e = .returned (.bool (decide (0 ≤ i) && decide (i < (m : Int)))) ∧ w = w' := by
  by_cases hi : 0 ≤ i
  · have d1 : decide (0 ≤ i) = true := decide_eq_true hi
    rw [d1, Bool.true_and]
    go_enter Try.func72, Try.ntmps72
    go_wp2
    go_ret
    exact ⟨rfl, rfl⟩
  · have d1 : decide (0 ≤ i) = false := decide_eq_false hi
    rw [d1, Bool.false_and]
    go_enter Try.func72, Try.ntmps72
    go_wp2
    go_ret
    exact ⟨rfl, rfl⟩
set_option maxRecDepth 100000 in
set_option maxHeartbeats 1000000 in
theorem session_first (B : Option Addr) (m d : Nat) (is : List It) (o : Nat) (w : World) (hI : LAt encT w B m is) (ho : o < m) (hm : m ≤ 1048576) :
    Calls Try.prog 73 #[.slice B m d, .int .i64 (o : Int)] w fun e w' => ∃ b : Nat, e = .returned (.int .i64 (b : Int)) ∧ FirstIs is o b ∧ Below w.heap.size w w' := by
  have hil := Lib.hid hI.len
  obtain ⟨jb, jo, y, rfl, hjb, hy, hyo, -⟩ := hI.item ho
  replace hI := Lib.hid hI
  replace hyo := Lib.hid hyo
  replace hy := Lib.hid hy
  obtain ⟨oz, hoz⟩ : ∃ z : Int, z = (o : Int) := ⟨_, rfl⟩
  rw [← hoz]
  have bo : 0 ≤ oz ∧ oz < (m : Int) := by omega
  go_enter Try.func73, Try.ntmps73
  go_wp2
  go_loopw [5] (fun t wr => ∃ k : Nat, k ≤ o ∧ t = .int .i64 k ∧ Hid (∀ (i : Nat) (x : It), k ≤ i → i ≤ o → is[i]? = some x → x.se = y.se) ∧ Hid (Below w.heap.size w wr)) (fun t _ => (intOf t).toNat)
  case atStart =>
    refine ⟨o, Nat.le_refl _, by rw [hoz], Lib.hid (fun i x h1 h2 hx => ?_), Lib.hid (Below.refl _ _)⟩
    have e : i = o := by omega
    rw [e, hy.out] at hx
    injection hx with hx
    rw [hx]
  case round =>
    obtain ⟨k, hk, ht, hall, hb⟩ := hrel
    have hIr := Lib.hid (hI.out.below hb.out)
    obtain ⟨jb', jo', y', hjB, hjb', hy', -, j0, -⟩ := hIr.out.item ho
    injection hjB with hjB
    injection hjB with e1 e2
    subst e1; subst e2
    rw [hy.out] at hy'; injection hy' with hy'; subst hy'
    rw [show o = oz.toNat by omega] at j0
    obtain ⟨kz, hkz⟩ : ∃ z : Int, z = (k : Int) := ⟨_, rfl⟩
    rw [← hkz] at ht
    subst ht
    by_cases hk0 : k = 0
    · have d1 : decide (0 < kz) = false := decide_eq_false (by omega)
      have hF : Hid (FirstIs is o k) := Lib.hid ⟨hk, fun i x z h1 h2 hx hz => by
        rw [hy.out] at hz; injection hz with hz; subst hz; exact hall.out i x h1 h2 hx, fun h => absurd h (by omega)⟩
      replace hkz := Lib.hid hkz
      replace hoz := Lib.hid hoz
      clear hall hIr hI
      go_wp2_with fail
      go_quiet (fail)
      go_wp2_with fail
      go_ret
      exact ⟨k, by rw [hkz.out]; rfl, hF.out, below_drewN hb.out _⟩
    · have d1 : decide (0 < kz) = true := decide_eq_true (by omega)
      obtain ⟨pz, hpz⟩ : ∃ z : Int, z = ((k - 1 : Nat) : Int) := ⟨_, rfl⟩
      have hw1 : IntKind.i64.wrap (kz - 1) = pz := by rw [IntKind.wrap_i64]; omega
      have hw2 : wrap64 (kz - 1) = pz := by unfold wrap64; omega
      obtain ⟨ib, io, x, hiB, hib, hx, -, i0, -⟩ := hIr.out.item (show k - 1 < m by omega)
      injection hiB with hiB
      injection hiB with e1 e2
      subst e1; subst e2
      rw [show k - 1 = pz.toNat by omega] at i0
      have bp : 0 ≤ pz ∧ pz < (m : Int) := by omega
      by_cases hse : x.se = y.se
      · have e1 : (x.se == y.se) = true := by simp [hse]
        have hall' : Hid (∀ (i : Nat) (x : It), k - 1 ≤ i → i ≤ o → is[i]? = some x → x.se = y.se) := Lib.hid (fun i z h1 h2 hz => by
          rcases Nat.lt_or_ge i k with h | h
          · rw [show i = k - 1 by omega, hx] at hz; injection hz with hz; subst hz; exact hse
          · exact hall.out i z h h2 hz)
        replace hkz := Lib.hid hkz
        replace hoz := Lib.hid hoz
        replace hpz := Lib.hid hpz
        replace hse := Lib.hid hse
        clear hall hIr hI hx
        go_wp2_with fail
        go_quiet (fail)
        go_wp2_with fail
        exact ⟨⟨k - 1, by omega, by rw [← hpz.out], hall', Lib.hid (below_drewN hb.out _)⟩, by have := hkz.out; have := hpz.out; simp [intOf]; omega⟩
      · have e1 : (x.se == y.se) = false := by simpa using hse
        have hF : Hid (FirstIs is o k) := Lib.hid ⟨hk, fun i x z h1 h2 hx hz => by
          rw [hy.out] at hz; injection hz with hz; subst hz; exact hall.out i x h1 h2 hx, fun _ u z hu hz => by
          rw [hy.out] at hz; injection hz with hz; subst hz
          rw [hx] at hu; injection hu with hu; subst hu; exact hse⟩
        replace hkz := Lib.hid hkz
        replace hoz := Lib.hid hoz
        replace hpz := Lib.hid hpz
        replace hse := Lib.hid hse
        clear hall hIr hI hx
        go_wp2_with fail
        go_quiet (fail)
        go_wp2_with fail
        go_ret
        exact ⟨k, by rw [hkz.out]; rfl, hF.out, below_drewN hb.out _⟩
theorem both_no {i : Int} {m : Nat} (h : ¬ (0 ≤ i ∧ i < (m : Int))) : (decide (0 ≤ i) && decide (i < (m : Int))) = false := by
  rw [Bool.eq_false_iff]; simpa using h
theorem info_int12 : (Try.prog.info? 3).map (fun i => (i.zero, i.size, i.bytes)) = some (some (.int .i64 0), 1, 8) := by kernel_rfl
set_option maxRecDepth 100000 in
set_option maxHeartbeats 1000000 in
theorem session_Past (v : FV) (f : Fac) (o : Int) (w : World) (hF : FactsAt w v f) (hm : v.m ≤ 1048576) (hN : Nbr f.items) :
    Calls Try.prog 52 #[.agg #[.slice v.A v.n v.c, .slice v.B v.m v.d, .slice v.C v.k v.e], .int .i64 o] w (RetIL (pastF f.items o f.items.length) w) := by
  have hil := hF.is.len
  have ck := Lib.hid (fun W => session_known v.B v.m v.d o W)
  obtain ⟨i0, hi, hz0, hz1, hz2⟩ := info_parts info_int12
  replace hi := Lib.hid hi
  replace hz0 := Lib.hid hz0
  replace hz1 := Lib.hid hz1
  replace hz2 := Lib.hid hz2
  -- a call with facts v: they are boxed at g, the world is W0 then
  have hB0 := Lib.hid (FBox.new hF)
  obtain ⟨g, hg⟩ : ∃ g, g = w.heap.size := ⟨_, rfl⟩
  obtain ⟨W0, hW0⟩ : ∃ W, W = w.alloc (.cells #[.slice v.A v.n v.c, .slice v.B v.m v.d, .slice v.C v.k v.e] 27) := ⟨_, rfl⟩
  rw [← hW0, ← hg] at hB0
  clear hF
  have p0 := hB0.out.c0
  have p1 := hB0.out.c1
  have p2 := hB0.out.c2
  by_cases ho : 0 ≤ o ∧ o < (v.m : Int)
  · rw [decide_eq_true ho.1, decide_eq_true ho.2] at ck
    obtain ⟨oN, hoe⟩ := Int.eq_ofNat_of_zero_le ho.1
    have hoN : oN < v.m := by omega
    have cF := session_first v.B v.m v.d f.items oN W0 hB0.out.f.is hoN hm
    have hpast := Lib.hid (fun b (h : FirstIs f.items oN b) => h.past hN (by omega))
    rw [← hoe] at cF hpast
    have hom : o < 1048576 := by omega
    replace hoe := Lib.hid hoe
    replace cF := Lib.hid cF
    replace ck := Lib.hid ck
    replace hil := Lib.hid hil
    clear ho hN
    go_enter Try.func52, Try.ntmps52
    go_wp2_with (rw [← hW0, ← hg]; clear hW0 hg)
    refine (ck.out _).mono ?_; rintro e w' ⟨rfl, rfl⟩
    go_wp2_with fail
    refine cF.out.mono ?_; rintro e w2 ⟨b, rfl, hfi, b2⟩
    have hpl := Lib.hid (hpast.out b hfi)
    have hbo := hfi.le
    have hBW := Lib.hid (below_trans2 hB0.out.o b2)
    clear hB0 p0 p1 p2 hpast hfi b2 cF ck
    go_wp2_with fail
    go_loopw [5, 6] (fun u t wr => ∃ k : Nat, k ≤ oN + 1 - b ∧ t = .int .i64 ((b + k : Nat) : Int) ∧ Hid (Below w2.heap.size w2 wr) ∧ Hid (wr.ownsRow w2.heap.size 3 1 u k (encI.all (spanI b k)))) (fun _ t _ => oN + 1 - (intOf t).toNat)
    case atStart => exact ⟨0, Nat.zero_le _, rfl, Lib.hid (Below.refl _ _), Lib.hid (World.ownsRow_nil _ _ _ _)⟩
    case round =>
      obtain ⟨k, hk, ht, hb, hown⟩ := hrel
      obtain ⟨iz, hiz⟩ : ∃ z : Int, z = ((b + k : Nat) : Int) := ⟨_, rfl⟩
      rw [← hiz] at ht
      subst ht
      have hss := spanI_succ b k
      rw [← hiz] at hss
      have hoe' := hoe.out
      have i64 : -9223372036854775808 ≤ iz ∧ iz < 9223372036854775808 := by omega
      by_cases hlt : iz ≤ o
      · have d1 : decide (iz ≤ o) = true := decide_eq_true hlt
        have hw : wrap64 (iz + 1) = iz + 1 := by unfold wrap64; omega
        have hwh := Lib.hid hw
        obtain ⟨gl, hgl⟩ : ∃ g, g = wr.heap.size := ⟨_, rfl⟩
        obtain ⟨VL, hVL⟩ : ∃ W, W = World.alloc wr (.cells #[.int .i64 iz] 3) := ⟨_, rfl⟩
        have bL : Below wr.heap.size wr VL := by rw [hVL]; exact (Below.refl _ _).alloc (Nat.le_refl _) _
        have hlit := Lib.hid (show LAt encI VL (some ⟨gl, 0, none⟩) 1 [iz] from by rw [hVL, hgl]; exact LAt.lit1 (E := encI) wr 3 iz i64)
        have hownL := Lib.hid (own_below hown.out bL)
        have bWL := Lib.hid (below_trans2 hb.out bL)
        have hbase := Lib.hid bWL.out.size
        have hk1 : k + 1 ≤ oN + 1 - b := by omega
        have hmea : oN + 1 - ((iz + 1).toNat) < oN + 1 - iz.toNat := by omega
        replace hmea := Lib.hid hmea
        replace hiz := Lib.hid hiz
        replace hss := Lib.hid hss
        clear bL hoe' i64 hlt
        go_wp2_with (first
          | (rw [← hVL, ← hgl]; clear hVL hgl)
          | (at_builtin; refine wpList_append_L (E := encI) rfl (.tmp 21) (.tmp 23) _ rfl w2.heap.size 3 i0 _ 8 Try.underlying23 hi.out hz0.out hz1.out hz2.out rfl _ k (spanI b k) (by rfl) hownL.out _ 1 1 _ rfl hlit.out (by unfold maxLen; omega) (by omega) hbase.out ?_; intro v' w7 hown' hb7 _ _))
        refine ⟨⟨k + 1, hk1, ?_, Lib.hid (bWL.out.trans hb7), Lib.hid (by rw [hss.out]; exact hown')⟩, ?_⟩
        · have := hiz.out; congr 1; omega
        · have := hmea.out; simpa [intOf, show wrap64 (iz + 1) = iz + 1 from hwh.out] using this
      · have d1 : decide (iz ≤ o) = false := decide_eq_false hlt
        have hkk : k = oN + 1 - b := by omega
        rw [← hkk] at hpl
        obtain ⟨A, c, rfl, hnc, hcm, hLA⟩ := LAt.of_own hown.out (fun z hz => by
          have := spanI_ok b k z hz
          exact ⟨by omega, by omega⟩) (spanI_len b k)
        replace hkk := Lib.hid hkk
        replace hiz := Lib.hid hiz
        replace hss := Lib.hid hss
        replace hLA := Lib.hid hLA
        replace hoe := Lib.hid hoe'
        clear hlt hoe' i64
        go_wp2_with fail
        go_ret
        rw [hpl.out]
        exact ⟨A, k, c, rfl, hLA.out, hnc, hcm, below_trans2 hBW.out hb.out⟩
  · rw [both_no ho] at ck
    have hpl := Lib.hid (past_none (is := f.items) (o := o) (by omega))
    replace ck := Lib.hid ck
    clear ho hN
    go_enter Try.func52, Try.ntmps52
    go_wp2_with (rw [← hW0, ← hg]; clear hW0 hg)
    refine (ck.out _).mono ?_; rintro e w' ⟨rfl, rfl⟩
    go_wp2_with fail
    go_ret
    rw [hpl.out]
    exact ⟨none, 0, 0, rfl, LAt.nil _ _ _, Nat.le_refl _, by omega, hB0.out.o⟩
end Go.Proofs.Ytkaohfgpibbkiaa
