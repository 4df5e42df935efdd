/- The code's own contracts of layer 14: Find, Round, Is. Layer 14's helpers: may, awake. Layer 14's law PathTells, walked. Arguments opened: a slice of pairs ('[][2]int'), and the rows of a matrix. An argument opened: a matrix, with its capacity. Arguments opened: a matrix by its cells, inside a struct. Arguments opened: a history (a slice of slices of operations), and what the bound of an '..Upto' statement says of it. Arguments opened: slices of anything that has an encoding; facts. An argument opened: a struct of a matrix, a number, a history, numbers, a number. -/
import Derived.Test.YtfeomhoicnjgpaaPathTellsPk5
import Derived.Test.YtfeomhoicnjgpaaPathTellsPk6
import Derived.Test.YtfeomhoicnjgpaaPathTellsPk2
import Derived.Test.YtfeomhoicnjgpaaPathTellsPk3
import Derived.Test.YtfeomhoicnjgpaaPathTellsPk4
import Derived.Test.YtfeomhoicnjgpaaPathTellsPk1
import Derived.Deep.Slices
import Derived.Deep.Matrix
import Derived.OpenShut
import Derived.ChangeArms
import Derived.Lib.SmallJoins
import Derived.Test.YtfeomhoicnjgpaaRows
import Derived.WalkKit
import Derived.ProofKit
namespace Go.Proofs.Ytfeomhoicnjgpaa
open Go.RowKit
set_option linter.unusedVariables false
def popV : Value → Nat
  | .int _ z => pop z.toNat
  | _ => 0
/-- how many aren't met, and how many are in the queue, as memory has it -/
def srM (w : World) (g gl : Nat) : Nat :=
  (match w.heap[gl]? with | some (.cells cs _ _) => (cs.toList.map popV).sum | _ => 0) + (match w.cell? ⟨g, 1, none⟩ with | some v => qlen v | none => 0)
theorem SrS.meas {w0 w : World} {g gl gf n nw : Nat} {A : Option Addr} {c : Nat} {v : Value} {ls fs zs : List Nat} (h : SrS w0 g gl gf n nw A c v ls fs zs w) : srM w g gl = countR ls + zs.length := by
  unfold srM
  have h1 : w.heap[gl]? = some (.cells (ls.map u64v).toArray 99 (0, 0)) := h.l
  rw [h1, h.cells.2.1]
  simp only [h.q.qlen_]
  congr 1
  unfold countR
  simp only [List.map_map]
  rfl
set_option maxRecDepth 100000 in
set_option maxHeartbeats 4000000 in
theorem path_Find (A : Option Addr) (n c : Nat) (a : List (List Nat)) (i j : Int) (w : World) (hr : RowsAt w A n a) (hG : Good n a) :
    Calls Try.prog 19 #[.agg #[.int .i64 (n : Int), .slice A n c], .int .i64 i, .int .i64 j] w (RetPath (Rel a) n i j w) := by
  have hnn := hG.le
  -- a call with the matrix (A n c a): it is boxed at g, the world is W0 then
  have hM0 := Lib.hid (MatK.new (N := (n : Int)) (c := c) w 39 hr)
  obtain ⟨g, hg⟩ : ∃ g, g = w.heap.size := ⟨_, rfl⟩
  obtain ⟨W0, hW0⟩ : ∃ W, W = w.alloc (.cells #[.int .i64 (n : Int), .slice A n c] 39) := ⟨_, rfl⟩
  rw [← hW0, ← hg] at hM0
  have hbo := Lib.hid (show Below w.heap.size w W0 from by rw [hW0]; exact below_alloc _ _)
  have m0 := hM0.out.1.c0
  have c1 := Lib.hid (fun W => path_below i (n : Int) W)
  have c2 := Lib.hid (fun W => path_below j (n : Int) W)
  by_cases hi : 0 ≤ i ∧ i < (n : Int)
  · rw [belowZ_yes hi.1 hi.2] at c1
    by_cases hj : 0 ≤ j ∧ j < (n : Int)
    · rw [belowZ_yes hj.1 hj.2] at c2
      obtain ⟨x, rfl⟩ := Int.eq_ofNat_of_zero_le hi.1
      obtain ⟨y, rfl⟩ := Int.eq_ofNat_of_zero_le hj.1
      have hxn : x < n := by omega
      have hyn : y < n := by omega
      have hM1 := hM0.out.1.c1
      obtain ⟨nw, hnw⟩ : ∃ q, q = (wordsZ (n : Int)).toNat := ⟨_, rfl⟩
      have hnw64 : nw ≤ 64 := by rw [hnw]; unfold wordsZ; split <;> omega
      have cB := Lib.hid (path_begin A n c nw a x W0 hM0.out.2 hnn hnw)
      have hR0 := Lib.hid hM0.out.2
      have hstart := Lib.hid (BfsM.start (a := a) hxn)
      rw [← hnw] at hstart
      replace hnw := Lib.hid hnw
      replace hG := Lib.hid hG
      replace hxn := Lib.hid hxn
      replace hyn := Lib.hid hyn
      clear hi hj
      go_enter Try.func19, Try.ntmps19
      go_wp2_with (rw [← hW0, ← hg]; clear hW0 hg)
      refine (c1.out _).mono ?_; rintro e w9 ⟨rfl, rfl⟩
      go_wp2_with fail
      refine (c2.out _).mono ?_; rintro e w9 ⟨rfl, rfl⟩
      go_wp2_with fail
      refine cB.out.mono ?_; rintro e w1 ⟨gs, gl, gf, v, rfl, hS⟩
      replace hS := Lib.hid hS
      clear m0 hM1 c1 c2 cB
      go_wp2_with fail
      go_loopw [29] (fun _ wr => ∃ (v : Value) (ls fs zs : List Nat) (N : Nat), Hid (SrS W0 gs gl gf n nw A c v ls fs zs wr) ∧ Hid (BfsM n a x N ls fs zs)) (fun _ wr => srM wr gs gl)
      case atStart => exact ⟨v, _, _, _, _, hS, hstart⟩
      case round =>
        clear hS hstart
        obtain ⟨v, ls, fs, zs, N, hS, hB⟩ := hrel
        obtain ⟨s0, s1, s2, s3⟩ := hS.out.cells
        have hrow : Row wr (some ⟨gl, 0, none⟩) nw ls := by
          have h1 := hS.out.l.rd
          have h2 : (ls.map u64v).length = nw := by rw [List.length_map, hB.out.sz.ll]; exact hnw.out.symm
          rw [h2] at h1
          exact ⟨h1, hB.out.sz.lw⟩
        have hyb := hyn.out
        have cH := Lib.hid (row_Has (some ⟨gl, 0, none⟩) nw nw ls (y : Int) wr hrow (by omega) (by omega) (by omega))
        clear hyb
        replace hrow := Lib.hid hrow
        cases hh : hasR ls (y : Int) with
        | false =>
          rw [hh] at cH
          obtain ⟨T, p, hwo, hT, hF⟩ := hB.out.found hG.out hyn.out hh
          have cW := Lib.hid (path_way W0 gs gl gf n nw A c v ls fs zs x y T p wr hS.out hwo hT hnn)
          have hP : Hid (PathIs (Rel a) n (x : Int) (y : Int) (natI (x :: p y)) true) := Lib.hid (.inr ⟨rfl, x, y, p y, rfl, rfl, hxn.out, hyn.out, hF, rfl⟩)
          clear hwo hT hF
          replace hh := Lib.hid hh
          go_wp2_with fail
          refine cH.out.mono ?_; rintro e w9 ⟨rfl, rfl⟩
          go_wp2_with fail
          refine cW.out.mono ?_; rintro e w2 ⟨D, m, d, rfl, hL, hmd, hdm, b2⟩
          replace hL := Lib.hid hL
          go_wp2_with fail
          exact bodyPost_ret (v := .tuple #[.slice D m d, .bool true]) (by simp [results, go_sem]) rfl ⟨D, m, d, _, true, rfl, hL.out, hmd, hdm, hP.out, below_trans2 hbo.out (below_trans2 hS.out.bel b2)⟩
        | true =>
          rw [hh] at cH
          cases zs with
          | nil =>
            have cN := Lib.hid (path_step_none W0 gs gl gf n nw A c v ls fs wr hS.out)
            have hno : Hid (PathIs (Rel a) n (x : Int) (y : Int) [] false) := Lib.hid (.inl ⟨rfl, rfl, fun x' y' e1 e2 _ _ => by
              have e1 : x' = x := by omega
              have e2 : y' = y := by omega
              subst e1; subst e2
              exact hB.out.none hyn.out hh⟩)
            replace hh := Lib.hid hh
            go_wp2_with fail
            refine cH.out.mono ?_; rintro e w9 ⟨rfl, rfl⟩
            go_wp2_with fail
            refine cN.out.mono ?_; rintro e w9 ⟨rfl, rfl⟩
            go_wp2_with fail
            exact bodyPost_ret (v := .tuple #[.slice none 0 0, .bool false]) (by simp [results, go_sem]) rfl ⟨none, 0, 0, [], false, rfl, LAt.nil _ _ _, Nat.le_refl _, by omega, hno.out, below_trans2 hbo.out hS.out.bel⟩
          | cons z zs =>
            have cN := Lib.hid (path_step W0 gs gl gf n nw A c v ls fs zs a x N z wr hS.out hB.out hG.out hR0.out hnw.out)
            have hms := Lib.hid (show srM wr gs gl = N ∧ 0 < N from by
              have h1 := hB.out.sz.cnt
              rw [hS.out.meas]
              simp only [List.length_cons] at h1 ⊢
              omega)
            replace hh := Lib.hid hh
            go_wp2_with fail
            refine cH.out.mono ?_; rintro e w9 ⟨rfl, rfl⟩
            go_wp2_with fail
            refine cN.out.mono ?_; rintro e w2 ⟨rfl, u2, ls2, fs2, zs2, hS2, hB2⟩
            have hms2 := Lib.hid (show srM w2 gs gl = N - 1 from by rw [hS2.meas]; exact hB2.sz.cnt)
            replace hS2 := Lib.hid hS2
            replace hB2 := Lib.hid hB2
            clear s0 s1 s2 s3 hS hB
            go_wp2_with fail
            go_roundw
            case rel => exact ⟨u2, ls2, fs2, zs2, N - 1, hS2, hB2⟩
            case measure => rw [hms.out.1, hms2.out]; have := hms.out.2; omega
    · rw [belowZ_no (by omega)] at c2
      have hno : Hid (PathIs (Rel a) n i j [] false) := Lib.hid (.inl ⟨rfl, rfl, fun x y h1 h2 h3 h4 => by omega⟩)
      go_enter Try.func19, Try.ntmps19
      go_wp2_with (rw [← hW0, ← hg]; clear hW0 hg)
      refine (c1.out _).mono ?_; rintro e w9 ⟨rfl, rfl⟩
      go_wp2_with fail; refine (c2.out _).mono ?_; rintro e w9 ⟨rfl, rfl⟩
      go_wp2_with fail
      exact bodyPost_ret (v := .tuple #[.slice none 0 0, .bool false]) (by simp [results, go_sem]) rfl ⟨none, 0, 0, [], false, rfl, LAt.nil _ _ _, Nat.le_refl _, by omega, hno.out, hbo.out⟩
  · rw [belowZ_no (by omega)] at c1
    have hno : Hid (PathIs (Rel a) n i j [] false) := Lib.hid (.inl ⟨rfl, rfl, fun x y h1 h2 h3 h4 => by omega⟩)
    go_enter Try.func19, Try.ntmps19
    go_wp2_with (rw [← hW0, ← hg]; clear hW0 hg)
    refine (c1.out _).mono ?_; rintro e w9 ⟨rfl, rfl⟩
    skip
    go_wp2_with fail
    exact bodyPost_ret (v := .tuple #[.slice none 0 0, .bool false]) (by simp [results, go_sem]) rfl ⟨none, 0, 0, [], false, rfl, LAt.nil _ _ _, Nat.le_refl _, by omega, hno.out, hbo.out⟩
set_option maxRecDepth 100000 in
set_option maxHeartbeats 4000000 in
theorem path_Round (A : Option Addr) (n c : Nat) (a : List (List Nat)) (w : World) (hr : RowsAt w A n a) (hG : Good n a) :
    Calls Try.prog 21 #[.agg #[.int .i64 (n : Int), .slice A n c]] w (RetRound (Rel a) n w) := by
  have hnn := hG.le
  -- a call with the matrix (A n c a): it is boxed at g, the world is W0 then
  have hM0 := Lib.hid (MatK.new (N := (n : Int)) (c := c) w 39 hr)
  obtain ⟨g, hg⟩ : ∃ g, g = w.heap.size := ⟨_, rfl⟩
  obtain ⟨W0, hW0⟩ : ∃ W, W = w.alloc (.cells #[.int .i64 (n : Int), .slice A n c] 39) := ⟨_, rfl⟩
  rw [← hW0, ← hg] at hM0
  have hbo := Lib.hid (show Below w.heap.size w W0 from by rw [hW0]; exact below_alloc _ _)
  have cF := Lib.hid (fun (i : Int) (W : World) (hW : RowsAt W A n a) => path_Find A n c a i i W hW hG)
  have m0 := hM0.out.1.c0
  go_enter Try.func21, Try.ntmps21
  go_wp2_with (rw [← hW0, ← hg]; clear hW0 hg)
  clear m0
  go_loopw [9] (fun t wr => ∃ k : Nat, k ≤ n ∧ t = .int .i64 (k : Int) ∧ Hid (∀ x, x < k → ¬ Conn (Rel a) x x) ∧ Hid (Below W0.heap.size W0 wr)) (fun t _ => n - (intOf t).toNat)
  case atStart => exact ⟨0, Nat.zero_le _, rfl, Lib.hid (fun x h => by omega), Lib.hid (Below.refl _ _)⟩
  case round =>
    obtain ⟨k, hk, rfl, hno, hb⟩ := hrel
    have hM := Lib.hid (hM0.out.below hb.out)
    have m0 := hM.out.1.c0
    have m1 := hM.out.1.c1
    by_cases hkn : k < n
    · have hkn' : (k : Int) < (n : Int) := by omega
      replace hkn := Lib.hid hkn
      go_wp2_with fail
      refine (cF.out (k : Int) wr hM.out.2).mono ?_; rintro e w1 ⟨D, m, d, l, ok, rfl, hL, hmd, hdm, hP, b⟩
      replace hb := Lib.hid (below_trans2 hb.out b)
      clear b m0 m1
      cases ok with
      | true =>
        have hR : RoundIs (Rel a) n l true := by
          rcases hP with ⟨h, _⟩ | ⟨_, x, y, rest, e1, e2, h1, h2, h3, h4⟩
          · cases h
          · have e1 : x = k := by omega
            have e2 : y = k := by omega
            subst e1; subst e2
            exact .inr ⟨rfl, y, rest, h1, h3, h4, hno.out⟩
        replace hL := Lib.hid hL
        replace hR := Lib.hid hR
        clear hP
        go_wp2_with fail
        exact bodyPost_ret (v := .tuple #[.slice D m d, .bool true]) (by simp [results, go_sem]) rfl ⟨D, m, d, l, true, rfl, hL.out, hmd, hdm, hR.out, below_trans2 hbo.out hb.out⟩
      | false =>
        have hno2 : Hid (∀ x, x < k + 1 → ¬ Conn (Rel a) x x) := Lib.hid (fun x hx => by
          rcases Nat.lt_or_ge x k with h | h
          · exact hno.out x h
          · obtain rfl : x = k := by omega
            rcases hP with ⟨_, _, h1⟩ | ⟨h, _⟩
            · exact h1 x x rfl rfl hkn.out hkn.out
            · cases h)
        clear hP hL
        go_wp2_with fail
        exact ⟨⟨k + 1, by have := hkn.out; omega, by go_num, hno2, hb⟩, by simp [intOf]; have := hkn.out; omega⟩
    · have hkn' : ¬ (k : Int) < (n : Int) := by omega
      have hR : Hid (RoundIs (Rel a) n [] false) := Lib.hid (.inl ⟨rfl, rfl, fun x hx => hno.out x (by omega)⟩)
      clear hkn
      go_wp2_with fail
      exact bodyPost_ret (v := .tuple #[.slice none 0 0, .bool false]) (by simp [results, go_sem]) rfl ⟨none, 0, 0, [], false, rfl, LAt.nil _ _ _, Nat.le_refl _, by omega, hR.out, below_trans2 hbo.out hb.out⟩
set_option maxRecDepth 100000 in
set_option maxHeartbeats 2000000 in
theorem path_Is (A : Option Addr) (n c : Nat) (a : List (List Nat)) (D : Option Addr) (m d : Nat) (l : List Int) (w : World) (hr : RowsAt w A n a) (hG : Good n a) (hL : LAt encI w D m l) (hm : m ≤ 1048576) :
    Calls Try.prog 23 #[.agg #[.int .i64 (n : Int), .slice A n c], .slice D m d] w (RetB (pathB a l) w) := by
  have hnn := hG.le
  have hsml : ∀ xs ∈ a, xs.length ≤ 1073741824 := fun xs hx => by have := hG.small xs hx; omega
  -- a call with the matrix (A n c a): it is boxed at g, the world is W0 then
  have hM0 := Lib.hid (MatK.new (N := (n : Int)) (c := c) w 39 hr)
  obtain ⟨g, hg⟩ : ∃ g, g = w.heap.size := ⟨_, rfl⟩
  obtain ⟨W0, hW0⟩ : ∃ W, W = w.alloc (.cells #[.int .i64 (n : Int), .slice A n c] 39) := ⟨_, rfl⟩
  rw [← hW0, ← hg] at hM0
  have hbo := Lib.hid (show Below w.heap.size w W0 from by rw [hW0]; exact below_alloc _ _)
  have hll := Lib.hid hL.len
  replace hL := Lib.hid (hL.below hbo.out)
  have hHas := Lib.hid (fun (z z2 : Int) h1 h2 h3 h4 (W : World) (hW : RowsAt W A n a) => mat_Has (n : Int) A n c a z z2 W hW (by omega) hsml h1 h2 h3 h4)
  clear hsml
  go_enter Try.func23, Try.ntmps23
  go_wp2_with (rw [← hW0, ← hg]; clear hW0 hg)
  go_loopw [5] (fun t wr => ∃ q : Nat, q ≤ m ∧ t = .int .i64 ((q : Int) + 1) ∧ Hid (∀ r, r < q → r + 1 < m → hasM a (l.getD r 0) (l.getD (r + 1) 0) = true) ∧ Hid (Below W0.heap.size W0 wr)) (fun t _ => m + 1 - (intOf t).toNat)
  case atStart => exact ⟨0, Nat.zero_le _, rfl, Lib.hid (fun q h => by omega), Lib.hid (Below.refl _ _)⟩
  case round =>
    obtain ⟨q, hq, rfl, hall, hb⟩ := hrel
    have hM := Lib.hid (hM0.out.below hb.out)
    have hLr := hL.out.below hb.out
    by_cases hlt : q + 1 < m
    · have hlt' : (q : Int) + 1 < (m : Int) := by omega
      obtain ⟨lb, lo, z, hD, hlb, hz, zok, j0⟩ := hLr.int (show q < m by omega)
      obtain ⟨lb2, lo2, z2, hD2, hlb2, hz2, zok2, j1⟩ := hLr.int hlt
      subst hD
      injection hD2 with hD2
      injection hD2 with hD1 hD2
      subst hD1; subst hD2
      have hH := Lib.hid (hHas.out z z2 zok.1 zok.2 zok2.1 zok2.2)
      have hzz : Hid (l.getD q 0 = z ∧ l.getD (q + 1) 0 = z2) := Lib.hid ⟨getD_of hz, getD_of hz2⟩
      have bq : 0 ≤ (q : Int) ∧ (q : Int) < (m : Int) := by omega
      have bk : 0 ≤ (q : Int) + 1 ∧ (q : Int) + 1 < (m : Int) := by omega
      have hwq : IntKind.i64.wrap (q : Int) = (q : Int) := by rw [IntKind.wrap_i64]; omega
      clear hz hz2 hlb hlb2 hLr
      replace hlt := Lib.hid hlt
      go_wp2_with fail
      refine wp_region_plan 12 [(true, 0), (true, 1), (true, 2), (true, 3), (true, 4), (true, 5), (true, 6), (true, 7), (true, 8), (true, 9), (false, 10), (true, 11)] (by kernel_rfl) (by kernel_rfl) (fun X hX => ?_)
      have hX' : Below wr.heap.size wr X := by rw [hX.out]; exact (Below.refl _ _).drew
      replace hM := Lib.hid (hM.out.below hX')
      replace hb := Lib.hid (below_trans2 hb.out hX')
      replace j0 : X.cell? ⟨lb, lo + q, none⟩ = some (.int .i64 z) := by rw [hX.out]; exact j0
      replace j1 : X.cell? ⟨lb, lo + (q + 1), none⟩ = some (.int .i64 z2) := by rw [hX.out]; exact j1
      clear hX hX'
      have m0 := hM.out.1.c0
      have m1 := hM.out.1.c1
      simp only [List.drop_succ_cons, List.drop_nil]
      iterate 10
        refine wpPlan_float (v := ?_) rfl (by rfl) (fun w' hw' => ?_) (fun K hK => ?_)
        rotate_left
        · (go_simp; try with_reducible rfl)
        go_simp
        refine hK _ ?_
        clear hK K
      clear m0 m1 j0 j1 hwq
      have cH := hH.out X hM.out.2
      cases hz : hasM a z z2 with
      | true =>
        rw [hz] at cH
        replace cH := Lib.hid cH
        replace hz := Lib.hid hz
        refine wpPlan_only rfl (by rfl) (fun K hK => ?_)
        go_simp
        refine cH.out.mono ?_
        rintro e x1 ⟨rfl, b⟩
        refine hK _ _ b ?_
        clear hK K
        replace hb := Lib.hid (below_trans2 hb.out b)
        clear b
        iterate 1
          refine wpPlan_float (v := ?_) rfl (by rfl) (fun w' hw' => ?_) (fun K hK => ?_)
          rotate_left
          · (go_simp; try with_reducible rfl)
          go_simp
          refine hK _ ?_
          clear hK K
        refine wpPlan_nil (NoPanic.normal ?_)
        go_wp2_with fail
        go_roundw
        case rel =>
          refine ⟨q + 1, by have := hlt.out; omega, by go_num, Lib.hid (fun r h1 h2 => ?_), hb⟩
          rcases Nat.lt_or_ge r q with h3 | h3
          · exact hall.out r h3 h2
          · obtain rfl : r = q := by omega
            rw [hzz.out.1, hzz.out.2]; exact hz.out
        case measure => simp [intOf]; have := hlt.out; omega
      | false =>
        rw [hz] at cH
        have hno : pathB a l = false := pathB_no (q := q) (by rw [hll.out]; exact hlt.out) (by rw [hzz.out.1, hzz.out.2]; exact hz)
        replace cH := Lib.hid cH
        replace hno := Lib.hid hno
        clear hz
        refine wpPlan_only rfl (by rfl) (fun K hK => ?_)
        go_simp
        refine cH.out.mono ?_
        rintro e x1 ⟨rfl, b⟩
        refine hK _ _ b ?_
        clear hK K
        replace hb := Lib.hid (below_trans2 hb.out b)
        clear b
        iterate 1
          refine wpPlan_float (v := ?_) rfl (by rfl) (fun w' hw' => ?_) (fun K hK => ?_)
          rotate_left
          · (go_simp; try with_reducible rfl)
          go_simp
          refine hK _ ?_
          clear hK K
        refine wpPlan_nil (NoPanic.normal ?_)
        go_wp2_with fail
        go_ret
        exact ⟨by rw [hno.out]; rfl, below_trans2 hbo.out hb.out⟩
    · have hlt' : ¬ (q : Int) + 1 < (m : Int) := by omega
      have hyes := pathB_yes (a := a) (l := l) (fun r h => hall.out r (by rw [hll.out] at h; omega) (by rw [← hll.out]; exact h))
      rw [hll.out] at hyes
      by_cases h2 : 2 ≤ m
      · have d2 : decide ((1 : Int) < (m : Int)) = true := decide_eq_true (by omega)
        have d3 : decide (1 < m) = true := decide_eq_true (by omega)
        rw [decide_eq_true h2] at hyes
        replace hyes := Lib.hid hyes
        clear hlt hLr h2
        go_wp2_with fail
        go_ret
        exact ⟨by rw [hyes.out]; rfl, below_trans2 hbo.out hb.out⟩
      · have d2 : decide ((1 : Int) < (m : Int)) = false := decide_eq_false (by omega)
        have d3 : decide (1 < m) = false := decide_eq_false (by omega)
        rw [decide_eq_false h2] at hyes
        replace hyes := Lib.hid hyes
        clear hlt hLr h2
        go_wp2_with fail
        go_ret
        exact ⟨by rw [hyes.out]; rfl, below_trans2 hbo.out hb.out⟩
end Go.Proofs.Ytfeomhoicnjgpaa

namespace Go.Proofs.Ytfeomhoicnjgpaa
open Go.RowKit
set_option linter.unusedVariables false
set_option maxHeartbeats 1000000 in
theorem law14_may (N : Int) (A : Option Addr) (n c : Nat) (xss : List (List Nat)) (w : World) (hr : RowsAt w A n xss) (hn : n ≤ 9223372036854775807) (hl : ∀ (k : Nat) (xs : List Nat), xss[k]? = some xs → xs.length ≤ 9223372036854775807) :
    Calls Try.prog 17 #[.agg #[.int .i64 N, .slice A n c]] w (RetB (smallM xss 16 && rightM N xss) w) := by
  have hlen := hr.len
  obtain ⟨W0, hW0⟩ : ∃ W0, W0 = w.alloc (.cells #[.int .i64 N, .slice A n c] 39) := ⟨_, rfl⟩
  have ha : Below w.heap.size w W0 := by rw [hW0]; exact below_alloc _ _
  have k1 := Lib.hid (show MatK W0 w.heap.size 39 N A n c xss by rw [hW0]; exact MatK.new w _ hr)
  have hS := Lib.hid (ref3_Small N A n c xss 16 W0 k1.out.2 hn hl (by omega))
  have bb := Lib.hid ha
  clear ha hr
  have qk10 := k1.out.1.c0
  have qk11 := k1.out.1.c1
  go_enter Try.func17, Try.ntmps17
  go_wp2_with fail
  rw [← hW0]
  clear hW0
  go_wp2_with fail
  refine hS.out.mono ?_; rintro e w1 ⟨rfl, b⟩
  replace k1 := Lib.hid (k1.out.below b)
  replace qk10 := k1.out.1.c0
  replace qk11 := k1.out.1.c1
  replace bb := Lib.hid (below_trans2 bb.out b)
  clear b
  clear hS
  cases hs : smallM xss 16 with
  | false =>
    replace hs := Lib.hid hs
    go_wp2_with fail
    go_ret
    rw [hs.out]
    exact ⟨rfl, bb.out⟩
  | true =>
    obtain ⟨s1, s2⟩ := smallM_len hs
    have hR := Lib.hid (ref3_Right N A n c xss w1 k1.out.2 (by omega) (fun k xs hx => by have := s2 xs (List.mem_of_getElem? hx); omega))
    clear s1 s2 hlen
    go_wp2_with fail
    refine hR.out.mono ?_; rintro e w2 ⟨rfl, b⟩
    replace k1 := Lib.hid (k1.out.below b)
    replace qk10 := k1.out.1.c0
    replace qk11 := k1.out.1.c1
    replace bb := Lib.hid (below_trans2 bb.out b)
    clear b
    clear hR
    replace hs := Lib.hid hs
    go_wp2_with fail
    go_ret
    rw [hs.out]
    exact ⟨rfl, bb.out⟩
theorem ints_is {A B : Option Addr} {n m c d c' d' : Nat} {s t : List Int} {w : World} (h1 : LAt encI w A n s) (h2 : LAt encI w B m t) (hn : n ≤ c) (hc : c ≤ 9223372036854775807) (hm : m ≤ d) (hd : d ≤ 9223372036854775807) :
    Calls Try.prog 14 #[.slice A n c', .slice B m d'] w (RetB (decide (s = t)) w) := by
  refine (ref2_IntsL A B n c' m d' s t w h1 h2 (by omega) (by omega)).mono ?_
  rintro e w' ⟨rfl, q, rfl⟩
  exact ⟨rfl, below_drewN (Below.refl _ _) q⟩
theorem awake14_of : ofN 3 [(0, 1), (1, 2), (2, 0)] = 3 ∧ ofM 3 [(0, 1), (1, 2), (2, 0)] = [[2], [4], [1]] ∧ ofE 3 [(0, 1), (1, 2), (2, 0)] = 0 := by decide
theorem awake14_right : rightM 3 [[2], [4], [1]] = true := by decide
theorem awake14_good : Good 3 [[2], [4], [1]] := by
  obtain ⟨n, h1, h2⟩ := Good.of awake14_right (by intro r hr; simp at hr; rcases hr with rfl | rfl | rfl <;> (intro x hx; simp at hx; omega))
  obtain rfl : n = 3 := by omega
  exact h2
theorem awake14_rel {i j : Nat} (h : Rel [[2], [4], [1]] i j) : (i = 0 ∧ j = 1) ∨ (i = 1 ∧ j = 2) ∨ (i = 2 ∧ j = 0) := by
  have hl := awake14_good.has_lt h
  have hd : ∀ i : Nat, i < 3 → ∀ j : Nat, j < 3 → hasM [[2], [4], [1]] (i : Int) (j : Int) = true → (i = 0 ∧ j = 1) ∨ (i = 1 ∧ j = 2) ∨ (i = 2 ∧ j = 0) := by decide
  exact hd i hl.1 j hl.2 h
theorem awake14_first : First (Rel [[2], [4], [1]]) 0 0 [1, 2, 0] := by
  refine ⟨⟨by unfold Rel; decide, by unfold Rel; decide, by unfold Rel; decide, rfl⟩, by simp, fun l' hw hne => ?_⟩
  match l', hw, hne with
  | [x], hw, _ =>
    have h1 := awake14_rel hw.1
    have h2 : x = 0 := hw.2
    omega
  | [x, y], hw, _ =>
    have h1 := awake14_rel hw.1
    have h2 := awake14_rel hw.2.1
    have h3 : y = 0 := hw.2.2
    omega
  | [x, y, z], hw, _ =>
    have h1 := awake14_rel hw.1
    have h2 := awake14_rel hw.2.1
    have h3 := awake14_rel hw.2.2.1
    refine .inr ⟨rfl, .inl ?_⟩
    have e1 : x = 1 := by omega
    have e2 : y = 2 := by omega
    have e3 : z = 0 := by omega
    rw [e1, e2, e3]
  | x :: y :: z :: u :: l', hw, _ => exact .inl (by simp only [List.length_cons, List.length_nil]; omega)
theorem awake14_round {l : List Int} {ok : Bool} (h : RoundIs (Rel [[2], [4], [1]]) 3 l ok) : l = [0, 1, 2, 0] ∧ ok = true :=
  h.unique (.inr ⟨rfl, 0, [1, 2, 0], by omega, awake14_first, rfl, fun y hy => by omega⟩)
theorem awake14_no {l : List Int} {ok : Bool} (h : PathIs (Rel [[2], [4], [1]]) 3 0 3 l ok) : ok = false := by
  rcases h with ⟨h, _⟩ | ⟨_, x, y, rest, h1, h2, h3, h4, _⟩
  · exact h
  · omega
theorem awake14_is : pathB [[2], [4], [1]] [0, 1, 2, 0] = true ∧ pathB [[2], [4], [1]] [0, 2] = false := by decide
set_option maxRecDepth 100000 in
set_option maxHeartbeats 2000000 in
theorem law14_awake (w : World) : Calls Try.prog 18 #[] w (RetBool true w) := by
  obtain ⟨W0, hW0⟩ : ∃ W0, W0 = w.alloc (.cells #[.int .i64 0, .int .i64 1, .int .i64 1, .int .i64 2, .int .i64 2, .int .i64 0] 75) := ⟨_, rfl⟩
  have bb := Lib.hid (show Below w.heap.size w W0 by rw [hW0]; exact below_alloc _ _)
  have hP : PairsAt W0 (some ⟨w.heap.size, 0, none⟩) 3 [(0, 1), (1, 2), (2, 0)] := by
    refine ⟨rfl, by simp, fun _ => ⟨_, _, rfl, by rw [hW0]; simp, fun j p hj => ?_⟩⟩
    have hB : Blk W0 w.heap.size 75 [.int .i64 0, .int .i64 1, .int .i64 1, .int .i64 2, .int .i64 2, .int .i64 0] := by rw [hW0]; exact Blk.new w _ _
    match j, hj with
    | 0, hj => simp at hj; subst hj; exact ⟨hB.cell 0, hB.cell 1⟩
    | 1, hj => simp at hj; subst hj; exact ⟨hB.cell 2, hB.cell 3⟩
    | 2, hj => simp at hj; subst hj; exact ⟨hB.cell 4, hB.cell 5⟩
    | j + 3, hj => simp at hj
  have hO := ref3_Of 3 _ 3 3 _ W0 hP (by omega)
  rw [awake14_of.1, awake14_of.2.1, awake14_of.2.2] at hO
  replace hO := Lib.hid hO
  clear hP
  have cR := Lib.hid (fun A c W hW => path_Round A 3 c [[2], [4], [1]] W hW awake14_good)
  have cF := Lib.hid (fun A c W hW => path_Find A 3 c [[2], [4], [1]] 0 3 W hW awake14_good)
  have cI := Lib.hid (fun A c D m d l W hW hL hm => path_Is A 3 c [[2], [4], [1]] D m d l W hW awake14_good hL hm)
  go_enter Try.func18, Try.ntmps18
  go_wp2_with fail
  rw [← hW0]
  clear hW0
  refine hO.out.mono ?_; rintro e w1 ⟨A1, n1, c1, rfl, r1, _, b⟩
  obtain rfl : n1 = 3 := by have := r1.len; simpa using this.symm
  clear hO
  obtain ⟨W1, hW1⟩ : ∃ W, W = w1.alloc (.cells #[.int .i64 3, .slice A1 3 c1] 39) := ⟨_, rfl⟩
  obtain ⟨G1, hG1⟩ : ∃ G, G = w1.heap.size := ⟨_, rfl⟩
  have ba : Below w1.heap.size w1 W1 := by rw [hW1]; exact below_alloc _ _
  have k1 := Lib.hid (show MatK W1 G1 39 3 A1 3 c1 [[2],[4],[1]] from ⟨by rw [hW1, hG1]; exact MatB.new _ _, r1.below ba⟩)
  replace b := below_trans2 b ba
  clear ba r1
  replace bb := Lib.hid (below_trans2 bb.out b)
  clear b
  go_wp2_with fail
  rw [← hW1, ← hG1]
  clear hW1 hG1
  have qk10 := k1.out.1.c0
  have qk11 := k1.out.1.c1
  refine (cR.out A1 c1 W1 k1.out.2).mono ?_; rintro e w2 ⟨D, m, d, l, ok, rfl, hL, hmd, hdm, hR, b⟩
  obtain ⟨rfl, rfl⟩ := awake14_round hR
  obtain rfl : m = 4 := hL.len.symm
  replace hL := Lib.hid hL
  clear hR
  replace k1 := Lib.hid (k1.out.below b)
  replace qk10 := k1.out.1.c0
  replace qk11 := k1.out.1.c1
  replace bb := Lib.hid (below_trans2 bb.out b)
  clear b
  go_wp2_with fail
  refine (cF.out A1 c1 w2 k1.out.2).mono ?_; rintro e w3 ⟨D2, m2, d2, l2, ok2, rfl, _, _, _, hP2, b⟩
  obtain rfl := awake14_no hP2
  replace hL := Lib.hid (hL.out.below b)
  clear hP2
  replace k1 := Lib.hid (k1.out.below b)
  replace qk10 := k1.out.1.c0
  replace qk11 := k1.out.1.c1
  replace bb := Lib.hid (below_trans2 bb.out b)
  clear b
  obtain ⟨V2, hV2⟩ : ∃ V, V = w3.alloc (.cells #[.int .i64 0, .int .i64 1, .int .i64 2, .int .i64 0] 3) := ⟨_, rfl⟩
  have bV : Below w3.heap.size w3 V2 := by rw [hV2]; exact below_alloc _ _
  have l2' := Lib.hid (show LAt encI V2 (some ⟨w3.heap.size, 0, none⟩) 4 [0, 1, 2, 0] from by rw [hV2]; exact LAt.of_blk (t := 3) (Blk.new w3 _ (encI.all [0, 1, 2, 0])) (fun x hx => by simp only [List.mem_cons, List.not_mem_nil, or_false] at hx; rcases hx with rfl | rfl | rfl | rfl <;> exact ⟨by decide, by decide⟩) rfl)
  replace hL := Lib.hid (hL.out.below bV)
  replace k1 := Lib.hid (k1.out.below bV)
  replace qk10 := k1.out.1.c0
  replace qk11 := k1.out.1.c1
  replace bb := Lib.hid (below_trans2 bb.out bV)
  clear bV
  have cE := Lib.hid (ints_is (c' := d) (d' := 4) hL.out l2'.out hmd hdm (Nat.le_refl 4) (by omega))
  rw [show decide (([0, 1, 2, 0] : List Int) = [0, 1, 2, 0]) = true from by decide] at cE
  go_wp2_with (rw [← hV2]; clear hV2)
  refine cE.out.mono ?_; rintro e w4 ⟨rfl, b⟩
  replace hL := Lib.hid (hL.out.below b)
  replace k1 := Lib.hid (k1.out.below b)
  replace qk10 := k1.out.1.c0
  replace qk11 := k1.out.1.c1
  replace bb := Lib.hid (below_trans2 bb.out b)
  clear b
  clear l2' cE
  have cI1 := cI.out A1 c1 D 4 d _ w4 k1.out.2 hL.out (by omega)
  rw [awake14_is.1] at cI1
  replace cI1 := Lib.hid cI1
  go_wp2_with fail
  refine cI1.out.mono ?_; rintro e w5 ⟨rfl, b⟩
  replace k1 := Lib.hid (k1.out.below b)
  replace qk10 := k1.out.1.c0
  replace qk11 := k1.out.1.c1
  replace bb := Lib.hid (below_trans2 bb.out b)
  clear b
  clear cI1
  have q50 := k1.out.1.c0
  have q51 := k1.out.1.c1
  obtain ⟨V4, hV4⟩ : ∃ V, V = w5.alloc (.cells #[.int .i64 0, .int .i64 2] 3) := ⟨_, rfl⟩
  have bV : Below w5.heap.size w5 V4 := by rw [hV4]; exact below_alloc _ _
  have l2' := (show LAt encI V4 (some ⟨w5.heap.size, 0, none⟩) 2 [0, 2] from by rw [hV4]; exact LAt.of_blk (t := 3) (Blk.new w5 _ (encI.all [0, 2])) (fun x hx => by simp only [List.mem_cons, List.not_mem_nil, or_false] at hx; rcases hx with rfl | rfl <;> exact ⟨by decide, by decide⟩) rfl)
  replace k1 := Lib.hid (k1.out.below bV)
  replace qk10 := k1.out.1.c0
  replace qk11 := k1.out.1.c1
  replace bb := Lib.hid (below_trans2 bb.out bV)
  clear bV
  have cI2 := cI.out A1 c1 (some ⟨w5.heap.size, 0, none⟩) 2 2 _ V4 k1.out.2 l2' (by omega)
  rw [awake14_is.2] at cI2
  replace cI2 := Lib.hid cI2
  clear l2'
  go_wp2_with (rw [← hV4]; clear hV4)
  refine cI2.out.mono ?_; rintro e w6 ⟨rfl, b⟩
  replace k1 := Lib.hid (k1.out.below b)
  replace qk10 := k1.out.1.c0
  replace qk11 := k1.out.1.c1
  replace bb := Lib.hid (below_trans2 bb.out b)
  clear b
  go_wp2_with fail
  go_ret
  exact ⟨rfl, bb.out⟩
end Go.Proofs.Ytfeomhoicnjgpaa

namespace Go.Proofs.Ytfeomhoicnjgpaa
open Go.RowKit
set_option linter.unusedVariables false
set_option maxRecDepth 100000 in
set_option maxHeartbeats 8000000 in
theorem law14_PathTells (N : Int) (A L : Option Addr) (n c m d : Nat) (a : List (List Nat)) (i j : Int) (zs : List Int) (w : World) (hr : RowsAt w A n a) (hz : LAt encI w L m zs) (hn : n ≤ 9223372036854775807) (hm : m ≤ 9223372036854775807)
    (hl : ∀ (k : Nat) (xs : List Nat), a[k]? = some xs → xs.length ≤ 9223372036854775807) (hw64 : ∀ r ∈ a, ∀ x ∈ r, x < 18446744073709551616) :
    Calls Try.prog 4 #[.agg #[.int .i64 N, .slice A n c, .int .i64 i, .int .i64 j, .slice L m d]] w (RetBool true w) := by
  have cM := Lib.hid (fun W hW => law14_may N A n c a W hW hn hl)
  have hla := hr.len
  obtain ⟨W0, hW0⟩ : ∃ W0, W0 = w.alloc (.cells #[.int .i64 N, .slice A n c, .int .i64 i, .int .i64 j, .slice L m d] 41) := ⟨_, rfl⟩
  have ha : Below w.heap.size w W0 := by rw [hW0]; exact below_alloc _ _
  have hB := Lib.hid (show Blk W0 w.heap.size 41 [.int .i64 N, .slice A n c, .int .i64 i, .int .i64 j, .slice L m d] by rw [hW0]; exact Blk.new w _ _)
  have hr0 := Lib.hid (hr.below ha)
  replace ha := Lib.hid ha
  replace hz := Lib.hid hz
  clear hr
  go_enter Try.func4, Try.ntmps4
  go_wp2_with fail
  rw [← hW0]
  clear hW0
  refine wp_region_tree (.flt 0 (.flt 1 (.flt 2 (.flt 3 (.flt 4 (.flt 5 (.flt 6 (.flt 7 (.one 8 (.one 9 (.flt 10 (.flt 11 (.flt 12 .done))))))))))))) (by kernel_rfl) (by kernel_rfl) (fun W hW => ?_)
  have hBW : Blk W w.heap.size 41 [.int .i64 N, .slice A n c, .int .i64 i, .int .i64 j, .slice L m d] := by rw [hW.out]; exact Blk.drew hB.out
  -- region 1: the fields of the struct, then the matrix into a variable of its own
  have p0 := Blk.cell hBW 0
  have p1 := Blk.cell hBW 1
  have p2 := Blk.cell hBW 2
  have p3 := Blk.cell hBW 3
  have p4 := Blk.cell hBW 4
  simp only [List.getElem?_cons_zero, List.getElem?_cons_succ] at p0 p1 p2 p3 p4
  have hbW := Lib.hid (show Below w.heap.size w W by rw [hW.out]; exact ha.out.drew)
  have hrW := Lib.hid (show RowsAt W A n a by rw [hW.out]; exact hr0.out)
  clear hBW hB ha hr0 hW
  iterate 8
    refine wpPT_float (v := ?_) rfl (by rfl) (fun w' hw' => ?_) (fun K hK => ?_)
    rotate_left
    · (go_simp; try with_reducible rfl)
    go_simp
    refine hK _ ?_
    clear hK K
  clear p0 p1 p2 p3 p4
  refine wpPT_one rfl (by rfl) (fun K hK => ?_)
  go_simp
  obtain ⟨G3, hG⟩ : ∃ G, G = W.heap.size := ⟨_, rfl⟩
  obtain ⟨v1, hw⟩ : ∃ X : World, X = W.alloc (.cells #[.int .i64 0, .slice none 0 0] 39) := ⟨_, rfl⟩
  rw [← hw, ← hG]
  have b1 : Below W.heap.size W v1 := by rw [hw]; exact below_alloc _ _
  refine hK _ _ b1 ?_
  clear hK K
  have m3 := Lib.hid (show MatB v1 G3 39 0 none 0 0 by rw [hw, hG]; exact MatB.new _ _)
  have hWG : W.heap.size ≤ G3 := by omega
  clear hw hG
  have f0 := m3.out.c0
  have f1 := m3.out.c1
  have g0 := m3.out.frozen 0
  have g1 := m3.out.frozen 1
  refine wpPT_one rfl (by rfl) (fun K hK => ?_)
  go_simp
  obtain ⟨v2, hw⟩ : ∃ X : World, X = (v1.setCell ⟨G3, 0, none⟩ (.int .i64 N)).setCell ⟨G3, 1, none⟩ (.slice A n c) := ⟨_, rfl⟩
  rw [← hw]
  have b2 : Below W.heap.size W v2 := by rw [hw]; exact (b1.setCell (p := ⟨G3, 0, none⟩) (by simpa using hWG) _).setCell (p := ⟨G3, 1, none⟩) (by simpa using hWG) _
  refine hK _ _ b2 ?_
  clear hK K f0 f1 g0 g1
  have k3 := Lib.hid (show MatK v2 G3 39 N A n c a by rw [hw]; exact ⟨m3.out.put N A n c, (hrW.out.below b1).putB m3.out (fun h0 ad e => by have := hrW.out.block_lt h0 ad e; omega) _ _⟩)
  have bb := Lib.hid (below_trans2 hbW.out b2)
  clear hw m3 b1 b2 hWG
  iterate 3
    refine wpPT_float (v := ?_) rfl (by rfl) (fun w' hw' => ?_) (fun K hK => ?_)
    rotate_left
    · (go_simp; try with_reducible rfl)
    go_simp
    refine hK _ ?_
    clear hK K
  refine wpPT_done (NoPanic.normal ?_)
  clear hrW hbW
  have qk30 := k3.out.1.c0
  have qk31 := k3.out.1.c1
  go_wp2_with fail
  refine (cM.out v2 k3.out.2).mono ?_; rintro e w1 ⟨rfl, b⟩
  replace k3 := Lib.hid (k3.out.below b)
  replace qk30 := k3.out.1.c0
  replace qk31 := k3.out.1.c1
  replace bb := Lib.hid (below_trans2 bb.out b)
  clear b
  clear cM
  cases hsm : smallM a 16 && rightM N a with
  | false =>
    replace hsm := Lib.hid hsm
    go_wp2_with fail
    refine (law14_awake w1).mono ?_; rintro e w9 ⟨rfl, b9⟩
    go_wp2_with fail
    go_ret
    exact ⟨rfl, below_trans2 bb.out b9⟩
  | true =>
    by_cases h60 : 60 < m
    · have h60' : (60 : Int) < (m : Int) := by omega
      replace hsm := Lib.hid hsm
      go_wp2_with fail
      refine (law14_awake w1).mono ?_; rintro e w9 ⟨rfl, b9⟩
      go_wp2_with fail
      go_ret
      exact ⟨rfl, below_trans2 bb.out b9⟩
    · have h60' : ¬ (60 : Int) < (m : Int) := by omega
      rw [Bool.and_eq_true] at hsm
      obtain ⟨s1, s2⟩ := smallM_len hsm.1
      obtain ⟨p, rfl, hGa⟩ := Good.of hsm.2 hw64
      obtain rfl : n = p := by have := hGa.len; omega
      have cF := Lib.hid (fun W hW => path_Find A n c a i j W hW hGa)
      have cF4 := Lib.hid (fun W hW => ref14_Find A n c a i j W hW hGa)
      have cR := Lib.hid (fun W hW => path_Round A n c a W hW hGa)
      have cR4 := Lib.hid (fun W hW => ref14_Round A n c a W hW hGa)
      have cI := Lib.hid (fun W hW hL => path_Is A n c a L m d zs W hW hGa hL (by omega))
      have cI4 := Lib.hid (fun W hW hL => ref14_Is A n c a L m d zs W hW hGa hL (by omega))
      obtain ⟨ib, hib⟩ : ∃ ib, ib = pathB a zs := ⟨_, rfl⟩
      rw [← hib] at cI cI4
      clear hsm s1 s2 hGa hw64 hl hla hib h60
      go_wp2_with fail
      refine (cF.out w1 k3.out.2).mono ?_; rintro e w2 ⟨D1, m1, d1, l1, o1, rfl, hL1, hmd1, hdm1, hP, b⟩
      replace k3 := Lib.hid (k3.out.below b)
      replace qk30 := k3.out.1.c0
      replace qk31 := k3.out.1.c1
      replace bb := Lib.hid (below_trans2 bb.out b)
      clear b
      replace hL1 := Lib.hid hL1
      replace hP := Lib.hid hP
      clear cF
      go_wp2_with fail
      refine (cF4.out w2 k3.out.2).mono ?_; rintro e w3 ⟨D2, m2, d2, l2, o2, rfl, hL2, hmd2, hdm2, hP2, b⟩
      obtain ⟨rfl, rfl⟩ := hP.out.unique hP2
      replace hL1 := Lib.hid (hL1.out.below b)
      replace k3 := Lib.hid (k3.out.below b)
      replace qk30 := k3.out.1.c0
      replace qk31 := k3.out.1.c1
      replace bb := Lib.hid (below_trans2 bb.out b)
      clear b
      replace hL2 := Lib.hid hL2
      clear cF4 hP hP2
      go_wp2_with fail
      refine (cR.out w3 k3.out.2).mono ?_; rintro e w4 ⟨D3, m3, d3, l3, o3, rfl, hL3, hmd3, hdm3, hR, b⟩
      replace hL1 := Lib.hid (hL1.out.below b)
      replace hL2 := Lib.hid (hL2.out.below b)
      replace k3 := Lib.hid (k3.out.below b)
      replace qk30 := k3.out.1.c0
      replace qk31 := k3.out.1.c1
      replace bb := Lib.hid (below_trans2 bb.out b)
      clear b
      replace hL3 := Lib.hid hL3
      replace hR := Lib.hid hR
      clear cR
      go_wp2_with fail
      refine (cR4.out w4 k3.out.2).mono ?_; rintro e w5 ⟨D4, m4, d4, l4, o4, rfl, hL4, hmd4, hdm4, hR4, b⟩
      obtain ⟨rfl, rfl⟩ := hR.out.unique hR4
      replace hL1 := Lib.hid (hL1.out.below b)
      replace hL2 := Lib.hid (hL2.out.below b)
      replace hL3 := Lib.hid (hL3.out.below b)
      replace k3 := Lib.hid (k3.out.below b)
      replace qk30 := k3.out.1.c0
      replace qk31 := k3.out.1.c1
      replace bb := Lib.hid (below_trans2 bb.out b)
      clear b
      replace hL4 := Lib.hid hL4
      clear cR4 hR hR4
      go_wp2_with fail
      refine wp_region_plan 31 [(false, 0), (true, 1), (true, 2), (true, 3), (false, 4), (true, 5), (true, 6), (true, 7), (true, 8), (true, 9), (true, 10), (true, 11), (true, 12), (true, 13), (false, 14), (true, 15), (true, 16), (true, 17), (true, 18), (true, 19), (true, 20), (true, 21), (true, 22), (true, 23), (true, 25), (true, 26), (false, 24), (false, 27), (true, 28), (true, 29), (true, 30)] (by kernel_rfl) (by kernel_rfl) (fun X hX => ?_)
      have b : Below w5.heap.size w5 X := by rw [hX.out]; exact (Below.refl _ _).drew
      clear hX
      replace hL1 := Lib.hid (hL1.out.below b)
      replace hL2 := Lib.hid (hL2.out.below b)
      replace hL3 := Lib.hid (hL3.out.below b)
      replace hL4 := Lib.hid (hL4.out.below b)
      replace hz := Lib.hid (hz.out.below (below_trans2 bb.out b))
      replace k3 := Lib.hid (k3.out.below b)
      replace qk30 := k3.out.1.c0
      replace qk31 := k3.out.1.c1
      replace bb := Lib.hid (below_trans2 bb.out b)
      clear b
      have e1 : (o1 == o1) = true := by simp
      have e3 : (o3 == o3) = true := by simp
      have e5 : (ib == ib) = true := by simp
      simp only [List.drop_succ_cons, List.drop_nil]
      refine wpPlan_only rfl (by rfl) (fun K hK => ?_)
      go_simp
      refine (law14_awake X).mono ?_
      rintro e w6 ⟨rfl, b⟩
      refine hK _ _ b ?_
      clear hK K
      replace k3 := Lib.hid (k3.out.below b)
      replace qk30 := k3.out.1.c0
      replace qk31 := k3.out.1.c1
      replace hL1 := Lib.hid (hL1.out.below b)
      replace hL2 := Lib.hid (hL2.out.below b)
      replace hL3 := Lib.hid (hL3.out.below b)
      replace hL4 := Lib.hid (hL4.out.below b)
      replace hz := Lib.hid (hz.out.below b)
      replace bb := Lib.hid (below_trans2 bb.out b)
      clear b
      have cE := Lib.hid (ints_is (c' := d1) (d' := d2) hL1.out hL2.out hmd1 hdm1 hmd2 hdm2)
      rw [show decide (l1 = l1) = true from decide_eq_true rfl] at cE
      clear hL1 hL2
      iterate 3
        refine wpPlan_float (v := ?_) rfl (by rfl) (fun w' hw' => ?_) (fun K hK => ?_)
        rotate_left
        · (go_simp; try with_reducible rfl)
        go_simp
        refine hK _ ?_
        clear hK K
      refine wpPlan_only rfl (by rfl) (fun K hK => ?_)
      go_simp
      refine (cE.out).mono ?_
      rintro e w7 ⟨rfl, b⟩
      refine hK _ _ b ?_
      clear hK K
      replace k3 := Lib.hid (k3.out.below b)
      replace qk30 := k3.out.1.c0
      replace qk31 := k3.out.1.c1
      replace hL3 := Lib.hid (hL3.out.below b)
      replace hL4 := Lib.hid (hL4.out.below b)
      replace hz := Lib.hid (hz.out.below b)
      replace bb := Lib.hid (below_trans2 bb.out b)
      clear b
      clear cE
      have cE := Lib.hid (ints_is (c' := d3) (d' := d4) hL3.out hL4.out hmd3 hdm3 hmd4 hdm4)
      rw [show decide (l3 = l3) = true from decide_eq_true rfl] at cE
      clear hL3 hL4
      iterate 9
        refine wpPlan_float (v := ?_) rfl (by rfl) (fun w' hw' => ?_) (fun K hK => ?_)
        rotate_left
        · (go_simp; try with_reducible rfl)
        go_simp
        refine hK _ ?_
        clear hK K
      refine wpPlan_only rfl (by rfl) (fun K hK => ?_)
      go_simp
      refine (cE.out).mono ?_
      rintro e w8 ⟨rfl, b⟩
      refine hK _ _ b ?_
      clear hK K
      replace k3 := Lib.hid (k3.out.below b)
      replace qk30 := k3.out.1.c0
      replace qk31 := k3.out.1.c1
      replace hz := Lib.hid (hz.out.below b)
      replace bb := Lib.hid (below_trans2 bb.out b)
      clear b
      clear cE
      iterate 11
        refine wpPlan_float (v := ?_) rfl (by rfl) (fun w' hw' => ?_) (fun K hK => ?_)
        rotate_left
        · (go_simp; try with_reducible rfl)
        go_simp
        refine hK _ ?_
        clear hK K
      refine wpPlan_only rfl (by rfl) (fun K hK => ?_)
      go_simp
      refine (cI.out w8 k3.out.2 hz.out).mono ?_
      rintro e w10 ⟨rfl, b⟩
      refine hK _ _ b ?_
      clear hK K
      replace k3 := Lib.hid (k3.out.below b)
      replace qk30 := k3.out.1.c0
      replace qk31 := k3.out.1.c1
      replace hz := Lib.hid (hz.out.below b)
      replace bb := Lib.hid (below_trans2 bb.out b)
      clear b
      refine wpPlan_only rfl (by rfl) (fun K hK => ?_)
      go_simp
      refine (cI4.out w10 k3.out.2 hz.out).mono ?_
      rintro e w11 ⟨rfl, b⟩
      refine hK _ _ b ?_
      clear hK K
      replace k3 := Lib.hid (k3.out.below b)
      replace qk30 := k3.out.1.c0
      replace qk31 := k3.out.1.c1
      replace hz := Lib.hid (hz.out.below b)
      replace bb := Lib.hid (below_trans2 bb.out b)
      clear b
      iterate 3
        refine wpPlan_float (v := ?_) rfl (by rfl) (fun w' hw' => ?_) (fun K hK => ?_)
        rotate_left
        · (go_simp; try with_reducible rfl)
        go_simp
        refine hK _ ?_
        clear hK K
      refine wpPlan_nil (NoPanic.normal ?_)
      go_wp2_with fail
      go_ret
      exact ⟨rfl, bb.out⟩
end Go.Proofs.Ytfeomhoicnjgpaa

namespace Go.Proofs.Ytfeomhoicnjgpaa
open Go.RowKit Go.ChangeShapes Go.WideShapes Go.Deep Go.Joins
set_option linter.unusedVariables false

theorem addr_add (b off j : Nat) : (⟨b, off, none⟩ : Addr).add j = ⟨b, off + j, none⟩ := by unfold Addr.add; split <;> simp_all

section
variable {H : Type} {enc : TypeId × Value → H} {P : Program} {w : World} {base : Nat} {spare : Nat → Bool} {held : Bool}
theorem row_of_ints {a' : Option Addr} {L C : Nat} {zs : List Int} (hl : L ≤ C) (hm : C ≤ maxLen) (hz : zs.length = C) (hwz : ∀ n ∈ zs, (Lit.int .u64 n).wf = true) (hnil : a' = none → C = 0)
    (hcell : ∀ x, a' = some x → ∀ c, c < C → w.cell? (x.add c) = some (.int .u64 (zs.getD c 0))) : ∃ xs, Row w a' L xs ∧ L ≤ 9223372036854775807 := by
  cases a' with
  | none =>
    have := hnil rfl
    obtain rfl : L = 0 := by omega
    exact ⟨[], Row.nil _ _, by omega⟩
  | some x => exact row_of_is (c := C) (zs := zs) (.inr ⟨x, rfl, hl, hm, hz, fun i hi => hcell x rfl i (by omega), hwz⟩)
theorem open_mat {t e q : TypeId} {fuel : Nat} {A : Option Addr} {len cap : Nat} {x : DataW H × List MemPlace} (ht : P.underlying t = some (.slice e)) (he : P.underlying e = some (.slice q)) (hq : P.underlying q = some (.int .u64))
    (ce : P.cellsOf e = 1) (cq : P.cellsOf q = 1) (h : DataW.trod enc P w base (fun _ => true) held fuel t [.slice A len cap] = some x) :
    ∃ xss, RowsAt w A len xss ∧ len ≤ 9223372036854775807 ∧ ∀ (k : Nat) (xs : List Nat), xss[k]? = some xs → xs.length ≤ 9223372036854775807 := by
  rcases open_int_rows ht he hq ce cq h with ⟨hcs, _⟩ | ⟨⟨b, off, spot⟩, l, c, B, L, C, Z, hcs, hb, hl, hm, hx, hrow⟩
  · injection hcs with hcs
    injection hcs with h1 h2 h3
    subst h1 h2 h3
    exact ⟨[], RowsAt.nil _ _, by omega, fun k xs hx => by simp at hx⟩
  · injection hcs with hcs
    injection hcs with h1 h2 h3
    subst h1 h2 h3
    have hlm : len ≤ 9223372036854775807 := by unfold maxLen at hm; omega
    have hrow' : ∀ k, k < len → ∃ xs, Row w (B k) (L k) xs ∧ L k ≤ 9223372036854775807 := fun k hk => by
      obtain ⟨_, h1, h2, h3, h4, h5, h6⟩ := hrow k (by omega)
      exact row_of_ints h1 h2 h3 h4 h5 (fun x e c hc => (h6 x e).2 c hc)
    by_cases h0 : len = 0
    · subst h0
      exact ⟨[], RowsAt.nil _ _, by omega, fun k xs hx => by simp at hx⟩
    · have hc0 := (hrow 0 (by omega)).1
      have hspot : spot = none := by
        have h := World.cell?_spot hc0
        cases spot with
        | none => rfl
        | some s => unfold Addr.add at h; simp at h
      subst hspot
      have hblt : b < w.heap.size := by
        have := World.block_lt_of_cell? w _ hc0
        rwa [addr_add] at this
      have hall : ∀ k, k ≤ len → ∃ xss : List (List Nat), RowsC w ((List.range k).map fun i => .slice (B i) (L i) (C i)) xss ∧ ∀ (j : Nat) (xs : List Nat), xss[j]? = some xs → xs.length ≤ 9223372036854775807 := by
        intro k
        induction k with
        | zero => exact fun _ => ⟨[], RowsC.nil _, fun j xs h => by simp at h⟩
        | succ k ih =>
          intro hk
          obtain ⟨xss, p1, p2⟩ := ih (by omega)
          obtain ⟨xs, hx1, hx2⟩ := hrow' k (by omega)
          refine ⟨xss ++ [xs], ?_, fun j ys hj => ?_⟩
          · rw [List.range_succ, List.map_append]
            exact p1.snoc ⟨_, _, _, rfl, hx1⟩
          · rcases Nat.lt_or_ge j xss.length with hlt | hge
            · rw [List.getElem?_append_left hlt] at hj; exact p2 j ys hj
            · rw [List.getElem?_append_right hge] at hj
              have hj' := List.mem_of_getElem? hj
              rw [List.mem_singleton.1 hj', hx1.len]; exact hx2
      obtain ⟨xss, p1, p2⟩ := hall len (Nat.le_refl _)
      refine ⟨xss, ⟨_, ⟨by simp, fun _ => ⟨b, off, rfl, hblt, fun j u hu => ?_⟩⟩, p1⟩, hlm, p2⟩
      have hj : j < len := by have := (List.getElem?_eq_some_iff.1 hu).1; simpa using this
      rw [List.getElem?_map, List.getElem?_range hj, Option.map_some] at hu
      have h1 := (hrow j (by omega)).1
      rw [addr_add] at h1
      rw [h1]; exact hu
end

end Go.Proofs.Ytfeomhoicnjgpaa

namespace Go.Proofs.Ytfeomhoicnjgpaa
open Go.RowKit Go.ChangeShapes Go.WideShapes Go.Deep Go.Joins
set_option linter.unusedVariables false
section
variable {H : Type} {enc : TypeId × Value → H} {P : Program} {w : World} {base : Nat} {held : Bool}
theorem open_cap {t e q : TypeId} {fuel : Nat} {A : Option Addr} {len cap : Nat} {x : DataW H × List MemPlace} (ht : P.underlying t = some (.slice e)) (he : P.underlying e = some (.slice q)) (hq : P.underlying q = some (.int .u64))
    (ce : P.cellsOf e = 1) (cq : P.cellsOf q = 1) (h : DataW.trod enc P w base (fun _ => true) held fuel t [.slice A len cap] = some x) : len ≤ cap := by
  rcases open_int_rows ht he hq ce cq h with ⟨hcs, _⟩ | ⟨a, l, c, B, L, C, Z, hcs, hb, hl, hm, hx, hrow⟩
  · injection hcs with hcs
    injection hcs with h1 h2 h3
    omega
  · injection hcs with hcs
    injection hcs with h1 h2 h3
    omega
end
end Go.Proofs.Ytfeomhoicnjgpaa

namespace Go.Proofs.Ytfeomhoicnjgpaa
open Go.RowKit Go.ChangeShapes Go.WideShapes Go.Deep Go.Joins
set_option linter.unusedVariables false
section
variable {H : Type} {enc : TypeId × Value → H} {P : Program} {w : World} {base : Nat} {held : Bool}
theorem open_matC {t e q : TypeId} {f0 f1 : Field} {fuel : Nat} {c0 c1 : Value} {x : DataW H × List MemPlace} (ht : P.underlying t = some (.struct #[f0, f1])) (hone : oneCellFields P #[f0, f1] = true)
    (hi : P.underlying f0.type = some (.int .i64)) (hr : P.underlying f1.type = some (.slice e)) (he : P.underlying e = some (.slice q)) (hq : P.underlying q = some (.int .u64)) (ce : P.cellsOf e = 1) (cq : P.cellsOf q = 1)
    (h : DataW.trod enc P w base (fun _ => true) held fuel t [c0, c1] = some x) :
    ∃ (N : Int) (A : Option Addr) (n c : Nat) (xss : List (List Nat)), c0 = .int .i64 N ∧ c1 = .slice A n c ∧ (-9223372036854775808 ≤ N ∧ N ≤ 9223372036854775807) ∧ RowsAt w A n xss ∧ n ≤ c ∧ n ≤ 9223372036854775807 ∧
      ∀ (k : Nat) (xs : List Nat), xss[k]? = some xs → xs.length ≤ 9223372036854775807 := by
  obtain ⟨xs, n, _, hx, _, hlen, hg⟩ := DataW.trod_struct ht h
  obtain ⟨o0, k0⟩ := hone_of hone 0 f0 rfl
  obtain ⟨o1, k1⟩ := hone_of hone 1 f1 rfl
  have h0 := hg 0 f0 rfl
  have h1 := hg 1 f1 rfl
  match xs, hlen with
  | [y0, y1], _ =>
    rw [o0, k0] at h0
    rw [o1, k1] at h1
    simp at h0 h1
    obtain ⟨N, e0, _, hw⟩ := DataW.trod_int hi h0
    injection e0 with e0
    subst e0
    obtain ⟨A, n, c, rfl⟩ : ∃ A n c, c1 = .slice A n c := by
      rcases open_int_rows hr he hq ce cq h1 with ⟨hcs, _⟩ | ⟨a, l, c, B, L, C, Z, hcs, _⟩
      · injection hcs with hcs; exact ⟨_, _, _, hcs⟩
      · injection hcs with hcs; exact ⟨_, _, _, hcs⟩
    obtain ⟨xss, hx1, hx2, hx3⟩ := open_mat hr he hq ce cq h1
    exact ⟨N, A, n, c, xss, rfl, rfl, bounds_i64 hw, hx1, open_cap hr he hq ce cq h1, hx2, hx3⟩
/-- a struct of a struct of two cells and three one-cell fields -/
theorem open_ask5 {r : Reach} {b0 : Nat} {t : TypeId} {f0 f1 f2 f3 : Field} {v : Value} {d : DataW H} {p : List MemPlace} (hs : P.underlying t = some (.struct #[f0, f1, f2, f3])) (hC : P.cellsOf t = 5)
    (o0 : f0.offset = 0) (o1 : f1.offset = 2) (o2 : f2.offset = 3) (o3 : f3.offset = 4) (k0 : P.cellsOf f0.type = 2) (k1 : P.cellsOf f1.type = 1) (k2 : P.cellsOf f2.type = 1) (k3 : P.cellsOf f3.type = 1)
    (hv : Value.okWide P w r b0 t v) (h : DataW.Trod enc P w base (fun _ => true) held t v d p) :
    ∃ (v0 v1 v2 v3 v4 : Value) (y0 y1 y2 y3 : DataW H × List MemPlace) (n : Nat), v = .agg #[v0, v1, v2, v3, v4] ∧
      DataW.trod enc P w base (fun _ => true) held n f0.type [v0, v1] = some y0 ∧ DataW.trod enc P w base (fun _ => true) held n f1.type [v2] = some y1 ∧ DataW.trod enc P w base (fun _ => true) held n f2.type [v3] = some y2 ∧ DataW.trod enc P w base (fun _ => true) held n f3.type [v4] = some y3 := by
  obtain ⟨cs, rfl, hsz⟩ := okWide_struct hs hv
  obtain ⟨l⟩ := cs
  match l, hsz.trans hC with
  | [c0, c1, c2, c3, c4], _ =>
    obtain ⟨fuel, hf⟩ := h
    obtain ⟨xs, n, _, hx, _, hlen, hg⟩ := DataW.trod_struct hs hf
    match xs, hlen with
    | [y0, y1, y2, y3], _ =>
      exact ⟨c0, c1, c2, c3, c4, y0, y1, y2, y3, n, rfl, by simpa [Value.cells, o0, k0] using hg 0 f0 rfl, by simpa [Value.cells, o1, k1] using hg 1 f1 rfl, by simpa [Value.cells, o2, k2] using hg 2 f2 rfl, by simpa [Value.cells, o3, k3] using hg 3 f3 rfl⟩
end
end Go.Proofs.Ytfeomhoicnjgpaa

namespace Go.Proofs.Ytfeomhoicnjgpaa
open Go.RowKit Go.ChangeShapes Go.WideShapes Go.Deep
set_option linter.unusedVariables false

theorem bulk_pos {H : Type} (d : DataW H) : 1 ≤ Rows.uptoBulk d := by
  cases d with
  | lit l => cases l <;> simp [Rows.uptoBulk]
  | nil => simp [Rows.uptoBulk]
  | ptr d => simp [Rows.uptoBulk]
  | slice elems spare => simp [Rows.uptoBulk]
  | agg parts => simp [Rows.uptoBulk]
  | iface t d => simp [Rows.uptoBulk]
  | map entries => simp [Rows.uptoBulk]
  | held h => simp [Rows.uptoBulk]
theorem bulk_len {H : Type} (l : List (DataW H)) : l.length ≤ Rows.uptoBulkAll l := by
  induction l with
  | nil => simp
  | cons x r ih => have := bulk_pos x; rw [Rows.uptoBulkAll, List.length_cons]; omega
theorem bulk_slice {H : Type} (a b : List (DataW H)) : Rows.uptoBulk (.slice a b) = Rows.uptoBulkAll a + Rows.uptoBulkAll b + 1 := by rw [Rows.uptoBulk]
theorem addr_plus (b off j : Nat) : (⟨b, off, none⟩ : Addr).add j = ⟨b, off + j, none⟩ := by unfold Addr.add; split <;> simp_all

section
variable {H : Type} {enc : TypeId × Value → H} {P : Program} {w : World} {base : Nat} {held : Bool}
end
end Go.Proofs.Ytfeomhoicnjgpaa

namespace Go.Proofs.Ytfeomhoicnjgpaa
open Go.RowKit Go.ChangeShapes Go.WideShapes Go.Deep
set_option linter.unusedVariables false

section
variable {H : Type} {enc : TypeId × Value → H} {P : Program} {w : World} {base : Nat} {held : Bool}
theorem open_L {α : Type} (E : Enc α) {t e : TypeId} {fuel : Nat} {A : Option Addr} {len cap : Nat} {x : DataW H × List MemPlace} (ht : P.underlying t = some (.slice e)) (ce : P.cellsOf e = E.sz)
    (hel : ∀ (cs : List Value) (fuel : Nat) (sp : Nat → Bool) (y : DataW H × List MemPlace), cs.length = E.sz → DataW.trod enc P w base sp held fuel e cs = some y → ∃ a, cs = E.cells a ∧ E.ok a)
    (h : DataW.trod enc P w base (fun _ => true) held fuel t [.slice A len cap] = some x) : ∃ xs, LAt E w A len xs ∧ len ≤ cap ∧ cap ≤ 9223372036854775807 ∧ cap ≤ Rows.uptoBulk x.1 := by
  rcases open_slice ht h with ⟨hcs, hx⟩ | ⟨⟨b, off, spot⟩, l, c, m, n, D, Pl, hcs, hb, hl, hm, hmm, hx, hE⟩
  · injection hcs with hcs
    injection hcs with h1 h2 h3
    subst h1 h2 h3
    exact ⟨[], LAt.nil _ _ _, by omega, by omega, by omega⟩
  · injection hcs with hcs
    injection hcs with h1 h2 h3
    subst h1 h2 h3
    rw [if_pos rfl] at hmm
    subst hmm
    have hbulk : m ≤ Rows.uptoBulk x.1 := by
      rw [hx, bulk_slice]
      have := bulk_len ((List.range len).map D)
      have := bulk_len ((List.range (m - len)).map fun j => D (len + j))
      simp only [List.length_map, List.length_range] at *
      omega
    have hmm : m ≤ 9223372036854775807 := by unfold maxLen at hm; omega
    have hat : ∀ k, k < len → ∃ a : α, E.ok a ∧ ∀ r u, (E.cells a)[r]? = some u → w.cell? (((⟨b, off, spot⟩ : Addr).add (k * E.sz)).add r) = some u := by
      intro k hk
      obtain ⟨cs', hc, ht'⟩ := hE k (by omega)
      rw [ce] at hc
      obtain ⟨_, hcl, hcat⟩ := World.cells?_some hc
      obtain ⟨a, rfl, hok⟩ := hel cs' _ _ _ hcl ht'
      refine ⟨a, hok, fun r u hr => ?_⟩
      have hr' : r < E.sz := by rw [← E.len a]; exact (List.getElem?_eq_some_iff.1 hr).1
      rw [hcat r hr']; exact hr
    by_cases h0 : len = 0
    · subst h0
      exact ⟨[], LAt.nil _ _ _, by omega, hmm, hbulk⟩
    · obtain ⟨a0, _, hc0⟩ := hat 0 (by omega)
      obtain ⟨y, s, hy⟩ : ∃ y s, E.cells a0 = y :: s := by
        have h1 := E.len a0
        have h2 := E.pos
        cases hcx : E.cells a0 with
        | nil => rw [hcx] at h1; simp at h1; omega
        | cons y s => exact ⟨y, s, rfl⟩
      have hc00 := hc0 0 y (by rw [hy]; rfl)
      have hz : ∀ a : Addr, a.add 0 = a := fun a => by obtain ⟨b, o, s⟩ := a; unfold Addr.add; split <;> simp_all
      rw [hz] at hc00
      have hspot : spot = none := by
        have h := World.cell?_spot hc00
        cases spot with
        | none => rfl
        | some s => unfold Addr.add at h; simp at h
      subst hspot
      have hblt : b < w.heap.size := by
        have := World.block_lt_of_cell? w _ hc00
        rwa [addr_plus] at this
      have hall : ∀ k, k ≤ len → ∃ xs : List α, xs.length = k ∧ (∀ x ∈ xs, E.ok x) ∧ ∀ (j : Nat) (u : Value), (E.all xs)[j]? = some u → w.cell? ⟨b, off + j, none⟩ = some u := by
        intro k
        induction k with
        | zero => exact fun _ => ⟨[], rfl, fun o h => by simp at h, fun j u h => by simp [Enc.all] at h⟩
        | succ k ih =>
          intro hk
          obtain ⟨xs, p1, p2, p3⟩ := ih (by omega)
          obtain ⟨o, hok, hc⟩ := hat k (by omega)
          refine ⟨xs ++ [o], by simp [p1], fun x hx => (List.mem_append.1 hx).elim (p2 x) (fun h => by rw [List.mem_singleton.1 h]; exact hok), fun j u hj => ?_⟩
          rw [E.all_append, E.all_single] at hj
          rcases Nat.lt_or_ge j (E.all xs).length with hlt | hge
          · rw [List.getElem?_append_left hlt] at hj; exact p3 j u hj
          · rw [List.getElem?_append_right hge] at hj
            have hlk : (E.all xs).length = k * E.sz := by rw [E.all_len, p1]
            obtain ⟨r, rfl⟩ : ∃ r, j = k * E.sz + r := ⟨j - k * E.sz, by omega⟩
            rw [hlk, Nat.add_sub_cancel_left] at hj
            have := hc r u hj
            rw [addr_plus, addr_plus, Nat.add_assoc] at this
            exact this
      obtain ⟨xs, p1, p2, p3⟩ := hall len (Nat.le_refl _)
      exact ⟨xs, ⟨p1, p2, fun _ => ⟨b, off, rfl, hblt, p3⟩⟩, by omega, hmm, hbulk⟩
theorem el_int {e : TypeId} (u0 : P.underlying e = some (.int .i64)) (cs : List Value) (fuel : Nat) (sp : Nat → Bool) (y : DataW H × List MemPlace) (hl : cs.length = encI.sz) (h : DataW.trod enc P w base sp held fuel e cs = some y) : ∃ a, cs = encI.cells a ∧ encI.ok a := by
  match cs, hl with
  | [c0], _ =>
    obtain ⟨iv, e1, _, wi⟩ := DataW.trod_int u0 h
    have := bounds_i64 wi
    exact ⟨iv, e1, this.1, by omega⟩
end
end Go.Proofs.Ytfeomhoicnjgpaa

namespace Go.Proofs.Ytfeomhoicnjgpaa
open Go.RowKit Go.ChangeShapes Go.WideShapes Go.Deep Go.Joins
set_option linter.unusedVariables false
section
variable {H : Type} {enc : TypeId × Value → H} {P : Program} {w : World} {base : Nat} {held : Bool}
/-- what is a slice -/
theorem slice_form {t e : TypeId} {fuel : Nat} {v : Value} {x : DataW H × List MemPlace} (ht : P.underlying t = some (.slice e)) (h : DataW.trod enc P w base (fun _ => true) held fuel t [v] = some x) : ∃ A len cap, v = .slice A len cap := by
  rcases open_slice ht h with ⟨hcs, _⟩ | ⟨a, l, c, m, n, D, Pl, hcs, _⟩
  · injection hcs with hcs; exact ⟨_, _, _, hcs⟩
  · injection hcs with hcs; exact ⟨_, _, _, hcs⟩
end
end Go.Proofs.Ytfeomhoicnjgpaa
