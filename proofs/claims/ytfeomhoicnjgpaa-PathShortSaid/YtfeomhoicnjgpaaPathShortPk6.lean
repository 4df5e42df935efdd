/- The code's own contracts of layer 14: Find, Round, Is. Layer 14's helpers: may, awake. Plain mathematics of layer 14: what a first path's numbers are. Nothing of the program is named. Contract of the document's own answer: Reach (a search with a queue). Contracts of the document's own answers of layer 4: Close, Add. Layer 14's law PathHull, walked. Layer 14's law PathTells, walked. Layer 14's law PathShort, walked. Arguments opened: a slice of pairs ('[][2]int'), and the rows of a matrix. An argument opened: a matrix, with its capacity. Arguments opened: a matrix by its cells, inside a struct. Arguments opened: a history (a slice of slices of operations), and what the bound of an '..Upto' statement says of it. Arguments opened: slices of anything that has an encoding; facts. An argument opened: a struct of a matrix, a number, a history, numbers, a number. -/
import Derived.Test.YtfeomhoicnjgpaaPathShortPk5
import Derived.Test.YtfeomhoicnjgpaaPathShortPk2
import Derived.Test.YtfeomhoicnjgpaaPathShortPk3
import Derived.Test.YtfeomhoicnjgpaaPathShortPk4
import Derived.Test.YtfeomhoicnjgpaaPathShortPk1
import Derived.Deep.Slices
import Derived.Deep.Matrix
import Derived.OpenShut
import Derived.ChangeArms
import Derived.Lib.SmallJoins
import Derived.Test.YtfeomhoicnjgpaaRows
import Derived.WalkKit
import Derived.ProofKit
namespace Go.Proofs.Ytfeomhoicnjgpaa
open Go.RowKit
set_option linter.unusedVariables false
def popV : Value → Nat
  | .int _ z => pop z.toNat
  | _ => 0
/-- how many aren't met, and how many are in the queue, as memory has it -/
def srM (w : World) (g gl : Nat) : Nat :=
  (match w.heap[gl]? with | some (.cells cs _ _) => (cs.toList.map popV).sum | _ => 0) + (match w.cell? ⟨g, 1, none⟩ with | some v => qlen v | none => 0)
theorem SrS.meas {w0 w : World} {g gl gf n nw : Nat} {A : Option Addr} {c : Nat} {v : Value} {ls fs zs : List Nat} (h : SrS w0 g gl gf n nw A c v ls fs zs w) : srM w g gl = countR ls + zs.length := by
  unfold srM
  have h1 : w.heap[gl]? = some (.cells (ls.map u64v).toArray 99 (0, 0)) := h.l
  rw [h1, h.cells.2.1]
  simp only [h.q.qlen_]
  congr 1
  unfold countR
  simp only [List.map_map]
  rfl
set_option maxRecDepth 100000 in
set_option maxHeartbeats 4000000 in
theorem path_Find (A : Option Addr) (n c : Nat) (a : List (List Nat)) (i j : Int) (w : World) (hr : RowsAt w A n a) (hG : Good n a) :
    Calls Try.prog 19 #[.agg #[.int .i64 (n : Int), .slice A n c], .int .i64 i, .int .i64 j] w (RetPath (Rel a) n i j w) := by
  have hnn := hG.le
  -- a call with the matrix (A n c a): it is boxed at g, the world is W0 then
  have hM0 := Lib.hid (MatK.new (N := (n : Int)) (c := c) w 39 hr)
  obtain ⟨g, hg⟩ : ∃ g, g = w.heap.size := ⟨_, rfl⟩
  obtain ⟨W0, hW0⟩ : ∃ W, W = w.alloc (.cells #[.int .i64 (n : Int), .slice A n c] 39) := ⟨_, rfl⟩
  rw [← hW0, ← hg] at hM0
  have hbo := Lib.hid (show Below w.heap.size w W0 from by rw [hW0]; exact below_alloc _ _)
  have m0 := hM0.out.1.c0
  have c1 := Lib.hid (fun W => path_below i (n : Int) W)
  have c2 := Lib.hid (fun W => path_below j (n : Int) W)
  by_cases hi : 0 ≤ i ∧ i < (n : Int)
  · rw [belowZ_yes hi.1 hi.2] at c1
    by_cases hj : 0 ≤ j ∧ j < (n : Int)
    · rw [belowZ_yes hj.1 hj.2] at c2
      obtain ⟨x, rfl⟩ := Int.eq_ofNat_of_zero_le hi.1
      obtain ⟨y, rfl⟩ := Int.eq_ofNat_of_zero_le hj.1
      have hxn : x < n := by omega
      have hyn : y < n := by omega
      have hM1 := hM0.out.1.c1
      obtain ⟨nw, hnw⟩ : ∃ q, q = (wordsZ (n : Int)).toNat := ⟨_, rfl⟩
      have hnw64 : nw ≤ 64 := by rw [hnw]; unfold wordsZ; split <;> omega
      have cB := Lib.hid (path_begin A n c nw a x W0 hM0.out.2 hnn hnw)
      have hR0 := Lib.hid hM0.out.2
      have hstart := Lib.hid (BfsM.start (a := a) hxn)
      rw [← hnw] at hstart
      replace hnw := Lib.hid hnw
      replace hG := Lib.hid hG
      replace hxn := Lib.hid hxn
      replace hyn := Lib.hid hyn
      clear hi hj
      go_enter Try.func19, Try.ntmps19
      go_wp2_with (rw [← hW0, ← hg]; clear hW0 hg)
      refine (c1.out _).mono ?_; rintro e w9 ⟨rfl, rfl⟩
      go_wp2_with fail
      refine (c2.out _).mono ?_; rintro e w9 ⟨rfl, rfl⟩
      go_wp2_with fail
      refine cB.out.mono ?_; rintro e w1 ⟨gs, gl, gf, v, rfl, hS⟩
      replace hS := Lib.hid hS
      clear m0 hM1 c1 c2 cB
      go_wp2_with fail
      go_loopw [29] (fun _ wr => ∃ (v : Value) (ls fs zs : List Nat) (N : Nat), Hid (SrS W0 gs gl gf n nw A c v ls fs zs wr) ∧ Hid (BfsM n a x N ls fs zs)) (fun _ wr => srM wr gs gl)
      case atStart => exact ⟨v, _, _, _, _, hS, hstart⟩
      case round =>
        clear hS hstart
        obtain ⟨v, ls, fs, zs, N, hS, hB⟩ := hrel
        obtain ⟨s0, s1, s2, s3⟩ := hS.out.cells
        have hrow : Row wr (some ⟨gl, 0, none⟩) nw ls := by
          have h1 := hS.out.l.rd
          have h2 : (ls.map u64v).length = nw := by rw [List.length_map, hB.out.sz.ll]; exact hnw.out.symm
          rw [h2] at h1
          exact ⟨h1, hB.out.sz.lw⟩
        have hyb := hyn.out
        have cH := Lib.hid (row_Has (some ⟨gl, 0, none⟩) nw nw ls (y : Int) wr hrow (by omega) (by omega) (by omega))
        clear hyb
        replace hrow := Lib.hid hrow
        cases hh : hasR ls (y : Int) with
        | false =>
          rw [hh] at cH
          obtain ⟨T, p, hwo, hT, hF⟩ := hB.out.found hG.out hyn.out hh
          have cW := Lib.hid (path_way W0 gs gl gf n nw A c v ls fs zs x y T p wr hS.out hwo hT hnn)
          have hP : Hid (PathIs (Rel a) n (x : Int) (y : Int) (natI (x :: p y)) true) := Lib.hid (.inr ⟨rfl, x, y, p y, rfl, rfl, hxn.out, hyn.out, hF, rfl⟩)
          clear hwo hT hF
          replace hh := Lib.hid hh
          go_wp2_with fail
          refine cH.out.mono ?_; rintro e w9 ⟨rfl, rfl⟩
          go_wp2_with fail
          refine cW.out.mono ?_; rintro e w2 ⟨D, m, d, rfl, hL, hmd, hdm, b2⟩
          replace hL := Lib.hid hL
          go_wp2_with fail
          exact bodyPost_ret (v := .tuple #[.slice D m d, .bool true]) (by simp [results, go_sem]) rfl ⟨D, m, d, _, true, rfl, hL.out, hmd, hdm, hP.out, below_trans2 hbo.out (below_trans2 hS.out.bel b2)⟩
        | true =>
          rw [hh] at cH
          cases zs with
          | nil =>
            have cN := Lib.hid (path_step_none W0 gs gl gf n nw A c v ls fs wr hS.out)
            have hno : Hid (PathIs (Rel a) n (x : Int) (y : Int) [] false) := Lib.hid (.inl ⟨rfl, rfl, fun x' y' e1 e2 _ _ => by
              have e1 : x' = x := by omega
              have e2 : y' = y := by omega
              subst e1; subst e2
              exact hB.out.none hyn.out hh⟩)
            replace hh := Lib.hid hh
            go_wp2_with fail
            refine cH.out.mono ?_; rintro e w9 ⟨rfl, rfl⟩
            go_wp2_with fail
            refine cN.out.mono ?_; rintro e w9 ⟨rfl, rfl⟩
            go_wp2_with fail
            exact bodyPost_ret (v := .tuple #[.slice none 0 0, .bool false]) (by simp [results, go_sem]) rfl ⟨none, 0, 0, [], false, rfl, LAt.nil _ _ _, Nat.le_refl _, by omega, hno.out, below_trans2 hbo.out hS.out.bel⟩
          | cons z zs =>
            have cN := Lib.hid (path_step W0 gs gl gf n nw A c v ls fs zs a x N z wr hS.out hB.out hG.out hR0.out hnw.out)
            have hms := Lib.hid (show srM wr gs gl = N ∧ 0 < N from by
              have h1 := hB.out.sz.cnt
              rw [hS.out.meas]
              simp only [List.length_cons] at h1 ⊢
              omega)
            replace hh := Lib.hid hh
            go_wp2_with fail
            refine cH.out.mono ?_; rintro e w9 ⟨rfl, rfl⟩
            go_wp2_with fail
            refine cN.out.mono ?_; rintro e w2 ⟨rfl, u2, ls2, fs2, zs2, hS2, hB2⟩
            have hms2 := Lib.hid (show srM w2 gs gl = N - 1 from by rw [hS2.meas]; exact hB2.sz.cnt)
            replace hS2 := Lib.hid hS2
            replace hB2 := Lib.hid hB2
            clear s0 s1 s2 s3 hS hB
            go_wp2_with fail
            go_roundw
            case rel => exact ⟨u2, ls2, fs2, zs2, N - 1, hS2, hB2⟩
            case measure => rw [hms.out.1, hms2.out]; have := hms.out.2; omega
    · rw [belowZ_no (by omega)] at c2
      have hno : Hid (PathIs (Rel a) n i j [] false) := Lib.hid (.inl ⟨rfl, rfl, fun x y h1 h2 h3 h4 => by omega⟩)
      go_enter Try.func19, Try.ntmps19
      go_wp2_with (rw [← hW0, ← hg]; clear hW0 hg)
      refine (c1.out _).mono ?_; rintro e w9 ⟨rfl, rfl⟩
      go_wp2_with fail; refine (c2.out _).mono ?_; rintro e w9 ⟨rfl, rfl⟩
      go_wp2_with fail
      exact bodyPost_ret (v := .tuple #[.slice none 0 0, .bool false]) (by simp [results, go_sem]) rfl ⟨none, 0, 0, [], false, rfl, LAt.nil _ _ _, Nat.le_refl _, by omega, hno.out, hbo.out⟩
  · rw [belowZ_no (by omega)] at c1
    have hno : Hid (PathIs (Rel a) n i j [] false) := Lib.hid (.inl ⟨rfl, rfl, fun x y h1 h2 h3 h4 => by omega⟩)
    go_enter Try.func19, Try.ntmps19
    go_wp2_with (rw [← hW0, ← hg]; clear hW0 hg)
    refine (c1.out _).mono ?_; rintro e w9 ⟨rfl, rfl⟩
    skip
    go_wp2_with fail
    exact bodyPost_ret (v := .tuple #[.slice none 0 0, .bool false]) (by simp [results, go_sem]) rfl ⟨none, 0, 0, [], false, rfl, LAt.nil _ _ _, Nat.le_refl _, by omega, hno.out, hbo.out⟩
set_option maxRecDepth 100000 in
set_option maxHeartbeats 4000000 in
theorem path_Round (A : Option Addr) (n c : Nat) (a : List (List Nat)) (w : World) (hr : RowsAt w A n a) (hG : Good n a) :
    Calls Try.prog 21 #[.agg #[.int .i64 (n : Int), .slice A n c]] w (RetRound (Rel a) n w) := by
  have hnn := hG.le
  -- a call with the matrix (A n c a): it is boxed at g, the world is W0 then
  have hM0 := Lib.hid (MatK.new (N := (n : Int)) (c := c) w 39 hr)
  obtain ⟨g, hg⟩ : ∃ g, g = w.heap.size := ⟨_, rfl⟩
  obtain ⟨W0, hW0⟩ : ∃ W, W = w.alloc (.cells #[.int .i64 (n : Int), .slice A n c] 39) := ⟨_, rfl⟩
  rw [← hW0, ← hg] at hM0
  have hbo := Lib.hid (show Below w.heap.size w W0 from by rw [hW0]; exact below_alloc _ _)
  have cF := Lib.hid (fun (i : Int) (W : World) (hW : RowsAt W A n a) => path_Find A n c a i i W hW hG)
  have m0 := hM0.out.1.c0
  go_enter Try.func21, Try.ntmps21
  go_wp2_with (rw [← hW0, ← hg]; clear hW0 hg)
  clear m0
  go_loopw [9] (fun t wr => ∃ k : Nat, k ≤ n ∧ t = .int .i64 (k : Int) ∧ Hid (∀ x, x < k → ¬ Conn (Rel a) x x) ∧ Hid (Below W0.heap.size W0 wr)) (fun t _ => n - (intOf t).toNat)
  case atStart => exact ⟨0, Nat.zero_le _, rfl, Lib.hid (fun x h => by omega), Lib.hid (Below.refl _ _)⟩
  case round =>
    obtain ⟨k, hk, rfl, hno, hb⟩ := hrel
    have hM := Lib.hid (hM0.out.below hb.out)
    have m0 := hM.out.1.c0
    have m1 := hM.out.1.c1
    by_cases hkn : k < n
    · have hkn' : (k : Int) < (n : Int) := by omega
      replace hkn := Lib.hid hkn
      go_wp2_with fail
      refine (cF.out (k : Int) wr hM.out.2).mono ?_; rintro e w1 ⟨D, m, d, l, ok, rfl, hL, hmd, hdm, hP, b⟩
      replace hb := Lib.hid (below_trans2 hb.out b)
      clear b m0 m1
      cases ok with
      | true =>
        have hR : RoundIs (Rel a) n l true := by
          rcases hP with ⟨h, _⟩ | ⟨_, x, y, rest, e1, e2, h1, h2, h3, h4⟩
          · cases h
          · have e1 : x = k := by omega
            have e2 : y = k := by omega
            subst e1; subst e2
            exact .inr ⟨rfl, y, rest, h1, h3, h4, hno.out⟩
        replace hL := Lib.hid hL
        replace hR := Lib.hid hR
        clear hP
        go_wp2_with fail
        exact bodyPost_ret (v := .tuple #[.slice D m d, .bool true]) (by simp [results, go_sem]) rfl ⟨D, m, d, l, true, rfl, hL.out, hmd, hdm, hR.out, below_trans2 hbo.out hb.out⟩
      | false =>
        have hno2 : Hid (∀ x, x < k + 1 → ¬ Conn (Rel a) x x) := Lib.hid (fun x hx => by
          rcases Nat.lt_or_ge x k with h | h
          · exact hno.out x h
          · obtain rfl : x = k := by omega
            rcases hP with ⟨_, _, h1⟩ | ⟨h, _⟩
            · exact h1 x x rfl rfl hkn.out hkn.out
            · cases h)
        clear hP hL
        go_wp2_with fail
        exact ⟨⟨k + 1, by have := hkn.out; omega, by go_num, hno2, hb⟩, by simp [intOf]; have := hkn.out; omega⟩
    · have hkn' : ¬ (k : Int) < (n : Int) := by omega
      have hR : Hid (RoundIs (Rel a) n [] false) := Lib.hid (.inl ⟨rfl, rfl, fun x hx => hno.out x (by omega)⟩)
      clear hkn
      go_wp2_with fail
      exact bodyPost_ret (v := .tuple #[.slice none 0 0, .bool false]) (by simp [results, go_sem]) rfl ⟨none, 0, 0, [], false, rfl, LAt.nil _ _ _, Nat.le_refl _, by omega, hR.out, below_trans2 hbo.out hb.out⟩
set_option maxRecDepth 100000 in
set_option maxHeartbeats 2000000 in
theorem path_Is (A : Option Addr) (n c : Nat) (a : List (List Nat)) (D : Option Addr) (m d : Nat) (l : List Int) (w : World) (hr : RowsAt w A n a) (hG : Good n a) (hL : LAt encI w D m l) (hm : m ≤ 1048576) :
    Calls Try.prog 23 #[.agg #[.int .i64 (n : Int), .slice A n c], .slice D m d] w (RetB (pathB a l) w) := by
  have hnn := hG.le
  have hsml : ∀ xs ∈ a, xs.length ≤ 1073741824 := fun xs hx => by have := hG.small xs hx; omega
  -- a call with the matrix (A n c a): it is boxed at g, the world is W0 then
  have hM0 := Lib.hid (MatK.new (N := (n : Int)) (c := c) w 39 hr)
  obtain ⟨g, hg⟩ : ∃ g, g = w.heap.size := ⟨_, rfl⟩
  obtain ⟨W0, hW0⟩ : ∃ W, W = w.alloc (.cells #[.int .i64 (n : Int), .slice A n c] 39) := ⟨_, rfl⟩
  rw [← hW0, ← hg] at hM0
  have hbo := Lib.hid (show Below w.heap.size w W0 from by rw [hW0]; exact below_alloc _ _)
  have hll := Lib.hid hL.len
  replace hL := Lib.hid (hL.below hbo.out)
  have hHas := Lib.hid (fun (z z2 : Int) h1 h2 h3 h4 (W : World) (hW : RowsAt W A n a) => mat_Has (n : Int) A n c a z z2 W hW (by omega) hsml h1 h2 h3 h4)
  clear hsml
  go_enter Try.func23, Try.ntmps23
  go_wp2_with (rw [← hW0, ← hg]; clear hW0 hg)
  go_loopw [5] (fun t wr => ∃ q : Nat, q ≤ m ∧ t = .int .i64 ((q : Int) + 1) ∧ Hid (∀ r, r < q → r + 1 < m → hasM a (l.getD r 0) (l.getD (r + 1) 0) = true) ∧ Hid (Below W0.heap.size W0 wr)) (fun t _ => m + 1 - (intOf t).toNat)
  case atStart => exact ⟨0, Nat.zero_le _, rfl, Lib.hid (fun q h => by omega), Lib.hid (Below.refl _ _)⟩
  case round =>
    obtain ⟨q, hq, rfl, hall, hb⟩ := hrel
    have hM := Lib.hid (hM0.out.below hb.out)
    have hLr := hL.out.below hb.out
    by_cases hlt : q + 1 < m
    · have hlt' : (q : Int) + 1 < (m : Int) := by omega
      obtain ⟨lb, lo, z, hD, hlb, hz, zok, j0⟩ := hLr.int (show q < m by omega)
      obtain ⟨lb2, lo2, z2, hD2, hlb2, hz2, zok2, j1⟩ := hLr.int hlt
      subst hD
      injection hD2 with hD2
      injection hD2 with hD1 hD2
      subst hD1; subst hD2
      have hH := Lib.hid (hHas.out z z2 zok.1 zok.2 zok2.1 zok2.2)
      have hzz : Hid (l.getD q 0 = z ∧ l.getD (q + 1) 0 = z2) := Lib.hid ⟨getD_of hz, getD_of hz2⟩
      have bq : 0 ≤ (q : Int) ∧ (q : Int) < (m : Int) := by omega
      have bk : 0 ≤ (q : Int) + 1 ∧ (q : Int) + 1 < (m : Int) := by omega
      have hwq : IntKind.i64.wrap (q : Int) = (q : Int) := by rw [IntKind.wrap_i64]; omega
      clear hz hz2 hlb hlb2 hLr
      replace hlt := Lib.hid hlt
      go_wp2_with fail
      refine wp_region_plan 12 [(true, 0), (true, 1), (true, 2), (true, 3), (true, 4), (true, 5), (true, 6), (true, 7), (true, 8), (true, 9), (false, 10), (true, 11)] (by kernel_rfl) (by kernel_rfl) (fun X hX => ?_)
      have hX' : Below wr.heap.size wr X := by rw [hX.out]; exact (Below.refl _ _).drew
      replace hM := Lib.hid (hM.out.below hX')
      replace hb := Lib.hid (below_trans2 hb.out hX')
      replace j0 : X.cell? ⟨lb, lo + q, none⟩ = some (.int .i64 z) := by rw [hX.out]; exact j0
      replace j1 : X.cell? ⟨lb, lo + (q + 1), none⟩ = some (.int .i64 z2) := by rw [hX.out]; exact j1
      clear hX hX'
      have m0 := hM.out.1.c0
      have m1 := hM.out.1.c1
      simp only [List.drop_succ_cons, List.drop_nil]
      iterate 10
        refine wpPlan_float (v := ?_) rfl (by rfl) (fun w' hw' => ?_) (fun K hK => ?_)
        rotate_left
        · (go_simp; try with_reducible rfl)
        go_simp
        refine hK _ ?_
        clear hK K
      clear m0 m1 j0 j1 hwq
      have cH := hH.out X hM.out.2
      cases hz : hasM a z z2 with
      | true =>
        rw [hz] at cH
        replace cH := Lib.hid cH
        replace hz := Lib.hid hz
        refine wpPlan_only rfl (by rfl) (fun K hK => ?_)
        go_simp
        refine cH.out.mono ?_
        rintro e x1 ⟨rfl, b⟩
        refine hK _ _ b ?_
        clear hK K
        replace hb := Lib.hid (below_trans2 hb.out b)
        clear b
        iterate 1
          refine wpPlan_float (v := ?_) rfl (by rfl) (fun w' hw' => ?_) (fun K hK => ?_)
          rotate_left
          · (go_simp; try with_reducible rfl)
          go_simp
          refine hK _ ?_
          clear hK K
        refine wpPlan_nil (NoPanic.normal ?_)
        go_wp2_with fail
        go_roundw
        case rel =>
          refine ⟨q + 1, by have := hlt.out; omega, by go_num, Lib.hid (fun r h1 h2 => ?_), hb⟩
          rcases Nat.lt_or_ge r q with h3 | h3
          · exact hall.out r h3 h2
          · obtain rfl : r = q := by omega
            rw [hzz.out.1, hzz.out.2]; exact hz.out
        case measure => simp [intOf]; have := hlt.out; omega
      | false =>
        rw [hz] at cH
        have hno : pathB a l = false := pathB_no (q := q) (by rw [hll.out]; exact hlt.out) (by rw [hzz.out.1, hzz.out.2]; exact hz)
        replace cH := Lib.hid cH
        replace hno := Lib.hid hno
        clear hz
        refine wpPlan_only rfl (by rfl) (fun K hK => ?_)
        go_simp
        refine cH.out.mono ?_
        rintro e x1 ⟨rfl, b⟩
        refine hK _ _ b ?_
        clear hK K
        replace hb := Lib.hid (below_trans2 hb.out b)
        clear b
        iterate 1
          refine wpPlan_float (v := ?_) rfl (by rfl) (fun w' hw' => ?_) (fun K hK => ?_)
          rotate_left
          · (go_simp; try with_reducible rfl)
          go_simp
          refine hK _ ?_
          clear hK K
        refine wpPlan_nil (NoPanic.normal ?_)
        go_wp2_with fail
        go_ret
        exact ⟨by rw [hno.out]; rfl, below_trans2 hbo.out hb.out⟩
    · have hlt' : ¬ (q : Int) + 1 < (m : Int) := by omega
      have hyes := pathB_yes (a := a) (l := l) (fun r h => hall.out r (by rw [hll.out] at h; omega) (by rw [← hll.out]; exact h))
      rw [hll.out] at hyes
      by_cases h2 : 2 ≤ m
      · have d2 : decide ((1 : Int) < (m : Int)) = true := decide_eq_true (by omega)
        have d3 : decide (1 < m) = true := decide_eq_true (by omega)
        rw [decide_eq_true h2] at hyes
        replace hyes := Lib.hid hyes
        clear hlt hLr h2
        go_wp2_with fail
        go_ret
        exact ⟨by rw [hyes.out]; rfl, below_trans2 hbo.out hb.out⟩
      · have d2 : decide ((1 : Int) < (m : Int)) = false := decide_eq_false (by omega)
        have d3 : decide (1 < m) = false := decide_eq_false (by omega)
        rw [decide_eq_false h2] at hyes
        replace hyes := Lib.hid hyes
        clear hlt hLr h2
        go_wp2_with fail
        go_ret
        exact ⟨by rw [hyes.out]; rfl, below_trans2 hbo.out hb.out⟩
end Go.Proofs.Ytfeomhoicnjgpaa

namespace Go.Proofs.Ytfeomhoicnjgpaa
open Go.RowKit
set_option linter.unusedVariables false
set_option maxHeartbeats 1000000 in
theorem law14_may (N : Int) (A : Option Addr) (n c : Nat) (xss : List (List Nat)) (w : World) (hr : RowsAt w A n xss) (hn : n ≤ 9223372036854775807) (hl : ∀ (k : Nat) (xs : List Nat), xss[k]? = some xs → xs.length ≤ 9223372036854775807) :
    Calls Try.prog 17 #[.agg #[.int .i64 N, .slice A n c]] w (RetB (smallM xss 16 && rightM N xss) w) := by
  have hlen := hr.len
  obtain ⟨W0, hW0⟩ : ∃ W0, W0 = w.alloc (.cells #[.int .i64 N, .slice A n c] 39) := ⟨_, rfl⟩
  have ha : Below w.heap.size w W0 := by rw [hW0]; exact below_alloc _ _
  have k1 := Lib.hid (show MatK W0 w.heap.size 39 N A n c xss by rw [hW0]; exact MatK.new w _ hr)
  have hS := Lib.hid (ref3_Small N A n c xss 16 W0 k1.out.2 hn hl (by omega))
  have bb := Lib.hid ha
  clear ha hr
  have qk10 := k1.out.1.c0
  have qk11 := k1.out.1.c1
  go_enter Try.func17, Try.ntmps17
  go_wp2_with fail
  rw [← hW0]
  clear hW0
  go_wp2_with fail
  refine hS.out.mono ?_; rintro e w1 ⟨rfl, b⟩
  replace k1 := Lib.hid (k1.out.below b)
  replace qk10 := k1.out.1.c0
  replace qk11 := k1.out.1.c1
  replace bb := Lib.hid (below_trans2 bb.out b)
  clear b
  clear hS
  cases hs : smallM xss 16 with
  | false =>
    replace hs := Lib.hid hs
    go_wp2_with fail
    go_ret
    rw [hs.out]
    exact ⟨rfl, bb.out⟩
  | true =>
    obtain ⟨s1, s2⟩ := smallM_len hs
    have hR := Lib.hid (ref3_Right N A n c xss w1 k1.out.2 (by omega) (fun k xs hx => by have := s2 xs (List.mem_of_getElem? hx); omega))
    clear s1 s2 hlen
    go_wp2_with fail
    refine hR.out.mono ?_; rintro e w2 ⟨rfl, b⟩
    replace k1 := Lib.hid (k1.out.below b)
    replace qk10 := k1.out.1.c0
    replace qk11 := k1.out.1.c1
    replace bb := Lib.hid (below_trans2 bb.out b)
    clear b
    clear hR
    replace hs := Lib.hid hs
    go_wp2_with fail
    go_ret
    rw [hs.out]
    exact ⟨rfl, bb.out⟩
theorem ints_is {A B : Option Addr} {n m c d c' d' : Nat} {s t : List Int} {w : World} (h1 : LAt encI w A n s) (h2 : LAt encI w B m t) (hn : n ≤ c) (hc : c ≤ 9223372036854775807) (hm : m ≤ d) (hd : d ≤ 9223372036854775807) :
    Calls Try.prog 14 #[.slice A n c', .slice B m d'] w (RetB (decide (s = t)) w) := by
  refine (ref2_IntsL A B n c' m d' s t w h1 h2 (by omega) (by omega)).mono ?_
  rintro e w' ⟨rfl, q, rfl⟩
  exact ⟨rfl, below_drewN (Below.refl _ _) q⟩
theorem awake14_of : ofN 3 [(0, 1), (1, 2), (2, 0)] = 3 ∧ ofM 3 [(0, 1), (1, 2), (2, 0)] = [[2], [4], [1]] ∧ ofE 3 [(0, 1), (1, 2), (2, 0)] = 0 := by decide
theorem awake14_right : rightM 3 [[2], [4], [1]] = true := by decide
theorem awake14_good : Good 3 [[2], [4], [1]] := by
  obtain ⟨n, h1, h2⟩ := Good.of awake14_right (by intro r hr; simp at hr; rcases hr with rfl | rfl | rfl <;> (intro x hx; simp at hx; omega))
  obtain rfl : n = 3 := by omega
  exact h2
theorem awake14_rel {i j : Nat} (h : Rel [[2], [4], [1]] i j) : (i = 0 ∧ j = 1) ∨ (i = 1 ∧ j = 2) ∨ (i = 2 ∧ j = 0) := by
  have hl := awake14_good.has_lt h
  have hd : ∀ i : Nat, i < 3 → ∀ j : Nat, j < 3 → hasM [[2], [4], [1]] (i : Int) (j : Int) = true → (i = 0 ∧ j = 1) ∨ (i = 1 ∧ j = 2) ∨ (i = 2 ∧ j = 0) := by decide
  exact hd i hl.1 j hl.2 h
theorem awake14_first : First (Rel [[2], [4], [1]]) 0 0 [1, 2, 0] := by
  refine ⟨⟨by unfold Rel; decide, by unfold Rel; decide, by unfold Rel; decide, rfl⟩, by simp, fun l' hw hne => ?_⟩
  match l', hw, hne with
  | [x], hw, _ =>
    have h1 := awake14_rel hw.1
    have h2 : x = 0 := hw.2
    omega
  | [x, y], hw, _ =>
    have h1 := awake14_rel hw.1
    have h2 := awake14_rel hw.2.1
    have h3 : y = 0 := hw.2.2
    omega
  | [x, y, z], hw, _ =>
    have h1 := awake14_rel hw.1
    have h2 := awake14_rel hw.2.1
    have h3 := awake14_rel hw.2.2.1
    refine .inr ⟨rfl, .inl ?_⟩
    have e1 : x = 1 := by omega
    have e2 : y = 2 := by omega
    have e3 : z = 0 := by omega
    rw [e1, e2, e3]
  | x :: y :: z :: u :: l', hw, _ => exact .inl (by simp only [List.length_cons, List.length_nil]; omega)
theorem awake14_round {l : List Int} {ok : Bool} (h : RoundIs (Rel [[2], [4], [1]]) 3 l ok) : l = [0, 1, 2, 0] ∧ ok = true :=
  h.unique (.inr ⟨rfl, 0, [1, 2, 0], by omega, awake14_first, rfl, fun y hy => by omega⟩)
theorem awake14_no {l : List Int} {ok : Bool} (h : PathIs (Rel [[2], [4], [1]]) 3 0 3 l ok) : ok = false := by
  rcases h with ⟨h, _⟩ | ⟨_, x, y, rest, h1, h2, h3, h4, _⟩
  · exact h
  · omega
theorem awake14_is : pathB [[2], [4], [1]] [0, 1, 2, 0] = true ∧ pathB [[2], [4], [1]] [0, 2] = false := by decide
set_option maxRecDepth 100000 in
set_option maxHeartbeats 2000000 in
theorem law14_awake (w : World) : Calls Try.prog 18 #[] w (RetBool true w) := by
  obtain ⟨W0, hW0⟩ : ∃ W0, W0 = w.alloc (.cells #[.int .i64 0, .int .i64 1, .int .i64 1, .int .i64 2, .int .i64 2, .int .i64 0] 75) := ⟨_, rfl⟩
  have bb := Lib.hid (show Below w.heap.size w W0 by rw [hW0]; exact below_alloc _ _)
  have hP : PairsAt W0 (some ⟨w.heap.size, 0, none⟩) 3 [(0, 1), (1, 2), (2, 0)] := by
    refine ⟨rfl, by simp, fun _ => ⟨_, _, rfl, by rw [hW0]; simp, fun j p hj => ?_⟩⟩
    have hB : Blk W0 w.heap.size 75 [.int .i64 0, .int .i64 1, .int .i64 1, .int .i64 2, .int .i64 2, .int .i64 0] := by rw [hW0]; exact Blk.new w _ _
    match j, hj with
    | 0, hj => simp at hj; subst hj; exact ⟨hB.cell 0, hB.cell 1⟩
    | 1, hj => simp at hj; subst hj; exact ⟨hB.cell 2, hB.cell 3⟩
    | 2, hj => simp at hj; subst hj; exact ⟨hB.cell 4, hB.cell 5⟩
    | j + 3, hj => simp at hj
  have hO := ref3_Of 3 _ 3 3 _ W0 hP (by omega)
  rw [awake14_of.1, awake14_of.2.1, awake14_of.2.2] at hO
  replace hO := Lib.hid hO
  clear hP
  have cR := Lib.hid (fun A c W hW => path_Round A 3 c [[2], [4], [1]] W hW awake14_good)
  have cF := Lib.hid (fun A c W hW => path_Find A 3 c [[2], [4], [1]] 0 3 W hW awake14_good)
  have cI := Lib.hid (fun A c D m d l W hW hL hm => path_Is A 3 c [[2], [4], [1]] D m d l W hW awake14_good hL hm)
  go_enter Try.func18, Try.ntmps18
  go_wp2_with fail
  rw [← hW0]
  clear hW0
  refine hO.out.mono ?_; rintro e w1 ⟨A1, n1, c1, rfl, r1, _, b⟩
  obtain rfl : n1 = 3 := by have := r1.len; simpa using this.symm
  clear hO
  obtain ⟨W1, hW1⟩ : ∃ W, W = w1.alloc (.cells #[.int .i64 3, .slice A1 3 c1] 39) := ⟨_, rfl⟩
  obtain ⟨G1, hG1⟩ : ∃ G, G = w1.heap.size := ⟨_, rfl⟩
  have ba : Below w1.heap.size w1 W1 := by rw [hW1]; exact below_alloc _ _
  have k1 := Lib.hid (show MatK W1 G1 39 3 A1 3 c1 [[2],[4],[1]] from ⟨by rw [hW1, hG1]; exact MatB.new _ _, r1.below ba⟩)
  replace b := below_trans2 b ba
  clear ba r1
  replace bb := Lib.hid (below_trans2 bb.out b)
  clear b
  go_wp2_with fail
  rw [← hW1, ← hG1]
  clear hW1 hG1
  have qk10 := k1.out.1.c0
  have qk11 := k1.out.1.c1
  refine (cR.out A1 c1 W1 k1.out.2).mono ?_; rintro e w2 ⟨D, m, d, l, ok, rfl, hL, hmd, hdm, hR, b⟩
  obtain ⟨rfl, rfl⟩ := awake14_round hR
  obtain rfl : m = 4 := hL.len.symm
  replace hL := Lib.hid hL
  clear hR
  replace k1 := Lib.hid (k1.out.below b)
  replace qk10 := k1.out.1.c0
  replace qk11 := k1.out.1.c1
  replace bb := Lib.hid (below_trans2 bb.out b)
  clear b
  go_wp2_with fail
  refine (cF.out A1 c1 w2 k1.out.2).mono ?_; rintro e w3 ⟨D2, m2, d2, l2, ok2, rfl, _, _, _, hP2, b⟩
  obtain rfl := awake14_no hP2
  replace hL := Lib.hid (hL.out.below b)
  clear hP2
  replace k1 := Lib.hid (k1.out.below b)
  replace qk10 := k1.out.1.c0
  replace qk11 := k1.out.1.c1
  replace bb := Lib.hid (below_trans2 bb.out b)
  clear b
  obtain ⟨V2, hV2⟩ : ∃ V, V = w3.alloc (.cells #[.int .i64 0, .int .i64 1, .int .i64 2, .int .i64 0] 3) := ⟨_, rfl⟩
  have bV : Below w3.heap.size w3 V2 := by rw [hV2]; exact below_alloc _ _
  have l2' := Lib.hid (show LAt encI V2 (some ⟨w3.heap.size, 0, none⟩) 4 [0, 1, 2, 0] from by rw [hV2]; exact LAt.of_blk (t := 3) (Blk.new w3 _ (encI.all [0, 1, 2, 0])) (fun x hx => by simp only [List.mem_cons, List.not_mem_nil, or_false] at hx; rcases hx with rfl | rfl | rfl | rfl <;> exact ⟨by decide, by decide⟩) rfl)
  replace hL := Lib.hid (hL.out.below bV)
  replace k1 := Lib.hid (k1.out.below bV)
  replace qk10 := k1.out.1.c0
  replace qk11 := k1.out.1.c1
  replace bb := Lib.hid (below_trans2 bb.out bV)
  clear bV
  have cE := Lib.hid (ints_is (c' := d) (d' := 4) hL.out l2'.out hmd hdm (Nat.le_refl 4) (by omega))
  rw [show decide (([0, 1, 2, 0] : List Int) = [0, 1, 2, 0]) = true from by decide] at cE
  go_wp2_with (rw [← hV2]; clear hV2)
  refine cE.out.mono ?_; rintro e w4 ⟨rfl, b⟩
  replace hL := Lib.hid (hL.out.below b)
  replace k1 := Lib.hid (k1.out.below b)
  replace qk10 := k1.out.1.c0
  replace qk11 := k1.out.1.c1
  replace bb := Lib.hid (below_trans2 bb.out b)
  clear b
  clear l2' cE
  have cI1 := cI.out A1 c1 D 4 d _ w4 k1.out.2 hL.out (by omega)
  rw [awake14_is.1] at cI1
  replace cI1 := Lib.hid cI1
  go_wp2_with fail
  refine cI1.out.mono ?_; rintro e w5 ⟨rfl, b⟩
  replace k1 := Lib.hid (k1.out.below b)
  replace qk10 := k1.out.1.c0
  replace qk11 := k1.out.1.c1
  replace bb := Lib.hid (below_trans2 bb.out b)
  clear b
  clear cI1
  have q50 := k1.out.1.c0
  have q51 := k1.out.1.c1
  obtain ⟨V4, hV4⟩ : ∃ V, V = w5.alloc (.cells #[.int .i64 0, .int .i64 2] 3) := ⟨_, rfl⟩
  have bV : Below w5.heap.size w5 V4 := by rw [hV4]; exact below_alloc _ _
  have l2' := (show LAt encI V4 (some ⟨w5.heap.size, 0, none⟩) 2 [0, 2] from by rw [hV4]; exact LAt.of_blk (t := 3) (Blk.new w5 _ (encI.all [0, 2])) (fun x hx => by simp only [List.mem_cons, List.not_mem_nil, or_false] at hx; rcases hx with rfl | rfl <;> exact ⟨by decide, by decide⟩) rfl)
  replace k1 := Lib.hid (k1.out.below bV)
  replace qk10 := k1.out.1.c0
  replace qk11 := k1.out.1.c1
  replace bb := Lib.hid (below_trans2 bb.out bV)
  clear bV
  have cI2 := cI.out A1 c1 (some ⟨w5.heap.size, 0, none⟩) 2 2 _ V4 k1.out.2 l2' (by omega)
  rw [awake14_is.2] at cI2
  replace cI2 := Lib.hid cI2
  clear l2'
  go_wp2_with (rw [← hV4]; clear hV4)
  refine cI2.out.mono ?_; rintro e w6 ⟨rfl, b⟩
  replace k1 := Lib.hid (k1.out.below b)
  replace qk10 := k1.out.1.c0
  replace qk11 := k1.out.1.c1
  replace bb := Lib.hid (below_trans2 bb.out b)
  clear b
  go_wp2_with fail
  go_ret
  exact ⟨rfl, bb.out⟩
end Go.Proofs.Ytfeomhoicnjgpaa

namespace Go.Proofs.Ytfeomhoicnjgpaa
set_option linter.unusedVariables false

theorem natI_getD {l : List Nat} {q : Nat} (hq : q < l.length) : (natI l).getD q 0 = ((l.getD q 0 : Nat) : Int) := by
  unfold natI
  rw [List.getD_eq_getElem?_getD, List.getElem?_map, List.getElem?_eq_getElem hq, List.getD_eq_getElem?_getD, List.getElem?_eq_getElem hq]; rfl
theorem Way.rel {r : Nat → Nat → Prop} : ∀ {i j : Nat} {l : List Nat}, Way r i j l → ∀ q, q < l.length → r ((i :: l).getD q 0) ((i :: l).getD (q + 1) 0)
  | i, j, [], h, q, hq => by simp at hq
  | i, j, k :: l, h, 0, hq => h.1
  | i, j, k :: l, h, q + 1, hq => Way.rel (l := l) h.2 q (by simpa using hq)
theorem way_end {r : Nat → Nat → Prop} : ∀ {i j : Nat} {l : List Nat}, Way r i j l → (i :: l).getD l.length 0 = j
  | i, j, [], h => h
  | i, j, k :: l, h => by
    have := way_end (l := l) h.2
    simpa using this
theorem First.pathB {a : List (List Nat)} {x y : Nat} {rest : List Nat} (h : First (Rel a) x y rest) : Go.Proofs.Ytfeomhoicnjgpaa.pathB a (natI (x :: rest)) = true := by
  have hl : 1 ≤ rest.length := by
    cases rest with
    | nil => exact absurd rfl h.ne
    | cons _ _ => simp
  rw [pathB_yes (fun q hq => ?_), decide_eq_true (by rw [natI_len, List.length_cons]; omega)]
  rw [natI_len, List.length_cons] at hq
  rw [natI_getD (by simp; omega), natI_getD (by simp; omega)]
  exact h.way.rel q (by omega)
theorem First.once {r : Nat → Nat → Prop} {x y p q : Nat} {rest : List Nat} (h : First r x y rest) (hpq : p < q) (hq : q < rest.length + 1) (he : (x :: rest).getD p 0 = (x :: rest).getD q 0) : p = 0 ∧ q = rest.length := by
  obtain ⟨q', rfl⟩ : ∃ q', q = q' + 1 := ⟨q - 1, by omega⟩
  have hq' : q' < rest.length := by omega
  have e2 : (x :: rest).getD (q' + 1) 0 = rest[q'] := by
    rw [List.getD_eq_getElem?_getD, List.getElem?_cons_succ, List.getElem?_eq_getElem hq']; rfl
  rw [e2] at he
  cases p with
  | zero =>
    have he : x = rest[q'] := he
    refine ⟨rfl, ?_⟩
    have hs : rest = rest.take q' ++ x :: rest.drop (q' + 1) := by
      rw [he, List.getElem_cons_drop, List.take_append_drop]
    rw [hs] at h
    have := congrArg List.length h.notMid
    simp at this
    omega
  | succ p' =>
    have hp' : p' < rest.length := by omega
    have e1 : (x :: rest).getD (p' + 1) 0 = rest[p'] := by
      rw [List.getD_eq_getElem?_getD, List.getElem?_cons_succ, List.getElem?_eq_getElem hp']; rfl
    rw [e1] at he
    exact absurd he (List.pairwise_iff_getElem.1 h.nodup p' q' hp' hq' (by omega))
/-- a path that is answered, by its numbers -/
structure PathL (a : List (List Nat)) (n x y : Nat) (l : List Int) (m : Nat) : Prop where
  len : l.length = m
  two : 2 ≤ m
  most : m ≤ n + 1
  is : Go.Proofs.Ytfeomhoicnjgpaa.pathB a l = true
  head : l[0]? = some (x : Int)
  last : l[m - 1]? = some (y : Int)
  once : ∀ p q : Nat, p < q → q < m → l.getD p 0 = l.getD q 0 → p = 0 ∧ q = m - 1
theorem First.list {a : List (List Nat)} {n x y : Nat} {rest : List Nat} (hr : ∀ i j, Rel a i j → i < n ∧ j < n) (h : First (Rel a) x y rest) : PathL a n x y (natI (x :: rest)) (rest.length + 1) := by
  have hl : 1 ≤ rest.length := by
    cases rest with
    | nil => exact absurd rfl h.ne
    | cons _ _ => simp
  refine ⟨by rw [natI_len]; rfl, by omega, by have := h.len hr; omega, h.pathB, rfl, ?_, fun p q h1 h2 he => ?_⟩
  · have h1 : (natI (x :: rest)).getD rest.length 0 = (y : Int) := by rw [natI_getD (by simp), way_end h.way]
    rw [List.getD_eq_getElem?_getD, List.getElem?_eq_getElem (by rw [natI_len]; simp)] at h1
    rw [show rest.length + 1 - 1 = rest.length by omega, List.getElem?_eq_getElem (by rw [natI_len]; simp)]
    exact congrArg some h1
  · rw [natI_getD (by simp; omega), natI_getD (by simp; omega)] at he
    have := h.once h1 h2 (by omega)
    omega
theorem PathIs.list {a : List (List Nat)} {n x y : Nat} {l : List Int} {ok : Bool} (hr : ∀ i j, Rel a i j → i < n ∧ j < n) (hx : x < n) (hy : y < n) (h : PathIs (Rel a) n (x : Int) (y : Int) l ok) :
    (ok = true ↔ Conn (Rel a) x y) ∧ (ok = false → l = []) ∧ (ok = true → PathL a n x y l l.length) := by
  rcases h with ⟨rfl, rfl, h1⟩ | ⟨rfl, x', y', rest, e1, e2, h1, h2, h3, rfl⟩
  · exact ⟨⟨fun h => (by cases h), fun h => absurd h (h1 x y rfl rfl hx hy)⟩, fun _ => rfl, fun h => (by cases h)⟩
  · have e1 : x' = x := by omega
    have e2 : y' = y := by omega
    subst e1; subst e2
    refine ⟨⟨fun _ => h3.way.conn h3.ne, fun _ => rfl⟩, fun h => (by cases h), fun _ => ?_⟩
    have := h3.list hr
    rw [natI_len]; exact this
end Go.Proofs.Ytfeomhoicnjgpaa

namespace Go.Proofs.Ytfeomhoicnjgpaa
open Go.RowKit
set_option linter.unusedVariables false

end Go.Proofs.Ytfeomhoicnjgpaa

namespace Go.Proofs.Ytfeomhoicnjgpaa
open Go.RowKit
set_option linter.unusedVariables false

section
variable {n : Nat} {a X : List (List Nat)} {i : Nat} {l : List Nat}
end

end Go.Proofs.Ytfeomhoicnjgpaa

namespace Go.Proofs.Ytfeomhoicnjgpaa
open Go.RowKit
set_option linter.unusedVariables false
theorem tmod_small14 (x n : Nat) (h : x < 256) : (IntKind.i64.wrap (x : Int)).tmod (n : Int) = ((x % n : Nat) : Int) := by
  rw [show IntKind.i64.wrap (x : Int) = (x : Int) from by rw [IntKind.wrap_i64]; omega]
  exact (Int.ofNat_tmod x n).symm
theorem wrap_sm14 {z : Int} (h0 : -9223372036854775808 ≤ z) (h1 : z < 9223372036854775808) : wrap64 z = z := by unfold wrap64; omega
end Go.Proofs.Ytfeomhoicnjgpaa

namespace Go.Proofs.Ytfeomhoicnjgpaa
open Go.RowKit
set_option linter.unusedVariables false
end Go.Proofs.Ytfeomhoicnjgpaa

namespace Go.Proofs.Ytfeomhoicnjgpaa
open Go.RowKit
set_option linter.unusedVariables false
theorem PathIs.short {r : Nat → Nat → Prop} {n x y z : Nat} {l l1 l2 : List Int} {ok : Bool} (hx : x < n) (hy : y < n) (h : PathIs r n (x : Int) (y : Int) l ok) (h1 : PathIs r n (x : Int) (z : Int) l1 true) (h2 : PathIs r n (z : Int) (y : Int) l2 true) :
    ok = true ∧ l.length + 1 ≤ l1.length + l2.length := by
  rcases h1 with ⟨h1, _⟩ | ⟨_, x1, z1, rest1, e1, e2, _, _, f1, rfl⟩
  · cases h1
  rcases h2 with ⟨h2, _⟩ | ⟨_, z2, y2, rest2, e3, e4, _, _, f2, rfl⟩
  · cases h2
  obtain rfl : x1 = x := by omega
  obtain rfl : z1 = z := by omega
  obtain rfl : z2 = z1 := by omega
  obtain rfl : y2 = y := by omega
  have hw := f1.way.append f2.way
  have hne : rest1 ++ rest2 ≠ [] := fun e => f1.ne (List.append_eq_nil_iff.1 e).1
  rcases h with ⟨_, _, h⟩ | ⟨ho, x3, y3, rest, e5, e6, _, _, f3, rfl⟩
  · exact absurd (hw.conn hne) (h x1 y2 rfl rfl hx hy)
  · obtain rfl : x3 = x1 := by omega
    obtain rfl : y3 = y2 := by omega
    refine ⟨ho, ?_⟩
    rw [natI_len, natI_len, natI_len]
    simp only [List.length_cons]
    have := f3.least _ hw hne
    rw [List.length_append] at this
    omega
theorem PathIs.step {r : Nat → Nat → Prop} {n x y : Nat} {l : List Int} {ok : Bool} (hx : x < n) (hy : y < n) (h : PathIs r n (x : Int) (y : Int) l ok) (hr : r x y) : ok = true ∧ l.length = 2 := by
  have hw : Way r x y [y] := ⟨hr, rfl⟩
  rcases h with ⟨_, _, h⟩ | ⟨ho, x3, y3, rest, e5, e6, _, _, f3, rfl⟩
  · exact absurd (hw.conn (by simp)) (h x y rfl rfl hx hy)
  · obtain rfl : x3 = x := by omega
    obtain rfl : y3 = y := by omega
    refine ⟨ho, ?_⟩
    rw [natI_len]
    have := f3.least _ hw (by simp)
    have hne := f3.ne
    have : rest.length ≠ 0 := fun e => hne (List.eq_nil_of_length_eq_zero e)
    simp only [List.length_cons, List.length_nil] at *
    omega
theorem wrap_len2 {m2 m3 : Nat} (h2 : m2 ≤ 18) (h3 : m3 ≤ 18) : wrap64 ((m2 : Int) + (m3 : Int)) = (m2 : Int) + (m3 : Int) := wrap_sm14 (by omega) (by omega)
theorem wrap_len3 {m2 m3 : Nat} (h2 : m2 ≤ 18) (h3 : m3 ≤ 18) : wrap64 ((m2 : Int) + (m3 : Int) - 1) = (m2 : Int) + (m3 : Int) - 1 := wrap_sm14 (by omega) (by omega)
theorem len_le3 {m1 m2 m3 : Nat} (h : m1 + 1 ≤ m2 + m3) : (m1 : Int) ≤ (m2 : Int) + (m3 : Int) - 1 := by omega
set_option maxRecDepth 100000 in
set_option maxHeartbeats 8000000 in
theorem law14_PathShort (N : Int) (A : Option Addr) (n c : Nat) (a : List (List Nat)) (ia ja ka : Int) (w : World) (hr : RowsAt w A n a) (hn : n ≤ 9223372036854775807)
    (hl : ∀ (k : Nat) (xs : List Nat), a[k]? = some xs → xs.length ≤ 9223372036854775807) (hw64 : ∀ r ∈ a, ∀ x ∈ r, x < 18446744073709551616) (i0 : 0 ≤ ia) (i1 : ia < 256) (j0 : 0 ≤ ja) (j1 : ja < 256) (k0 : 0 ≤ ka) (k1 : ka < 256) :
    Calls Try.prog 6 #[.agg #[.int .i64 N, .slice A n c, .int .u8 ia, .int .u8 ja, .int .u8 ka]] w (RetBool true w) := by
  obtain ⟨xN, rfl⟩ := Int.eq_ofNat_of_zero_le i0
  obtain ⟨yN, rfl⟩ := Int.eq_ofNat_of_zero_le j0
  obtain ⟨zN, rfl⟩ := Int.eq_ofNat_of_zero_le k0
  have cM := Lib.hid (fun W hW => law14_may N A n c a W hW hn hl)
  have hla := hr.len
  obtain ⟨W0, hW0⟩ : ∃ W0, W0 = w.alloc (.cells #[.int .i64 N, .slice A n c, .int .u8 (xN : Int), .int .u8 (yN : Int), .int .u8 (zN : Int)] 52) := ⟨_, rfl⟩
  have ha : Below w.heap.size w W0 := by rw [hW0]; exact below_alloc _ _
  have hB := Lib.hid (show Blk W0 w.heap.size 52 [.int .i64 N, .slice A n c, .int .u8 (xN : Int), .int .u8 (yN : Int), .int .u8 (zN : Int)] by rw [hW0]; exact Blk.new w _ _)
  have hr0 := Lib.hid (hr.below ha)
  replace ha := Lib.hid ha
  clear hr
  go_enter Try.func6, Try.ntmps6
  go_wp2_with fail
  rw [← hW0]
  clear hW0
  refine wp_region_tree (.flt 0 (.flt 1 (.flt 2 (.flt 3 (.flt 4 (.flt 5 (.flt 6 (.flt 7 (.one 8 (.one 9 (.flt 10 (.flt 11 (.flt 12 .done))))))))))))) (by kernel_rfl) (by kernel_rfl) (fun W hW => ?_)
  have hBW : Blk W w.heap.size 52 [.int .i64 N, .slice A n c, .int .u8 (xN : Int), .int .u8 (yN : Int), .int .u8 (zN : Int)] := by rw [hW.out]; exact Blk.drew hB.out
  -- region 1: the fields of the struct, then the matrix into a variable of its own
  have p0 := Blk.cell hBW 0
  have p1 := Blk.cell hBW 1
  have p2 := Blk.cell hBW 2
  have p3 := Blk.cell hBW 3
  have p4 := Blk.cell hBW 4
  simp only [List.getElem?_cons_zero, List.getElem?_cons_succ] at p0 p1 p2 p3 p4
  have hbW := Lib.hid (show Below w.heap.size w W by rw [hW.out]; exact ha.out.drew)
  have hrW := Lib.hid (show RowsAt W A n a by rw [hW.out]; exact hr0.out)
  clear hBW hB ha hr0 hW
  iterate 8
    refine wpPT_float (v := ?_) rfl (by rfl) (fun w' hw' => ?_) (fun K hK => ?_)
    rotate_left
    · (go_simp; try with_reducible rfl)
    go_simp
    refine hK _ ?_
    clear hK K
  clear p0 p1 p2 p3 p4
  refine wpPT_one rfl (by rfl) (fun K hK => ?_)
  go_simp
  obtain ⟨G3, hG⟩ : ∃ G, G = W.heap.size := ⟨_, rfl⟩
  obtain ⟨v1, hw⟩ : ∃ X : World, X = W.alloc (.cells #[.int .i64 0, .slice none 0 0] 39) := ⟨_, rfl⟩
  rw [← hw, ← hG]
  have b1 : Below W.heap.size W v1 := by rw [hw]; exact below_alloc _ _
  refine hK _ _ b1 ?_
  clear hK K
  have m3 := Lib.hid (show MatB v1 G3 39 0 none 0 0 by rw [hw, hG]; exact MatB.new _ _)
  have hWG : W.heap.size ≤ G3 := by omega
  clear hw hG
  have f0 := m3.out.c0
  have f1 := m3.out.c1
  have g0 := m3.out.frozen 0
  have g1 := m3.out.frozen 1
  refine wpPT_one rfl (by rfl) (fun K hK => ?_)
  go_simp
  obtain ⟨v2, hw⟩ : ∃ X : World, X = (v1.setCell ⟨G3, 0, none⟩ (.int .i64 N)).setCell ⟨G3, 1, none⟩ (.slice A n c) := ⟨_, rfl⟩
  rw [← hw]
  have b2 : Below W.heap.size W v2 := by rw [hw]; exact (b1.setCell (p := ⟨G3, 0, none⟩) (by simpa using hWG) _).setCell (p := ⟨G3, 1, none⟩) (by simpa using hWG) _
  refine hK _ _ b2 ?_
  clear hK K f0 f1 g0 g1
  have k3 := Lib.hid (show MatK v2 G3 39 N A n c a by rw [hw]; exact ⟨m3.out.put N A n c, (hrW.out.below b1).putB m3.out (fun h0 ad e => by have := hrW.out.block_lt h0 ad e; omega) _ _⟩)
  have bb := Lib.hid (below_trans2 hbW.out b2)
  clear hw m3 b1 b2 hWG
  iterate 3
    refine wpPT_float (v := ?_) rfl (by rfl) (fun w' hw' => ?_) (fun K hK => ?_)
    rotate_left
    · (go_simp; try with_reducible rfl)
    go_simp
    refine hK _ ?_
    clear hK K
  refine wpPT_done (NoPanic.normal ?_)
  clear hrW hbW
  have qk30 := k3.out.1.c0
  have qk31 := k3.out.1.c1
  go_wp2_with fail
  refine (cM.out v2 k3.out.2).mono ?_; rintro e w1 ⟨rfl, b⟩
  replace k3 := Lib.hid (k3.out.below b)
  replace qk30 := k3.out.1.c0
  replace qk31 := k3.out.1.c1
  replace bb := Lib.hid (below_trans2 bb.out b)
  clear b
  clear cM
  cases hsm : smallM a 16 && rightM N a with
  | false =>
    replace hsm := Lib.hid hsm
    go_wp2_with fail
    refine (law14_awake w1).mono ?_; rintro e w9 ⟨rfl, b9⟩
    go_wp2_with fail
    go_ret
    exact ⟨rfl, below_trans2 bb.out b9⟩
  | true =>
    rw [Bool.and_eq_true] at hsm
    obtain ⟨s1, s2⟩ := smallM_len hsm.1
    obtain ⟨p, rfl, hGa⟩ := Good.of hsm.2 hw64
    obtain rfl : n = p := by have := hGa.len; omega
    by_cases hn0 : n = 0
    · have e0 : ((n : Int) == 0) = true := by simp [hn0]
      replace hn0 := Lib.hid hn0
      replace hsm := Lib.hid hsm
      go_wp2_with fail
      refine (law14_awake w1).mono ?_; rintro e w9 ⟨rfl, b9⟩
      go_wp2_with fail
      go_ret
      exact ⟨rfl, below_trans2 bb.out b9⟩
    · have e0 : ((n : Int) == 0) = false := by simp [hn0]
      have hn16 : n ≤ 16 := by omega
      have hrl : Hid (∀ i j, Rel a i j → i < n ∧ j < n) := Lib.hid (fun i j h => hGa.has_lt h)
      obtain ⟨x, hx⟩ : ∃ x, x = xN % n := ⟨_, rfl⟩
      obtain ⟨y, hy⟩ : ∃ y, y = yN % n := ⟨_, rfl⟩
      obtain ⟨z, hz⟩ : ∃ z, z = zN % n := ⟨_, rfl⟩
      have hxn := Lib.hid (show x < n by rw [hx]; exact Nat.mod_lt _ (by omega))
      have hyn := Lib.hid (show y < n by rw [hy]; exact Nat.mod_lt _ (by omega))
      have hzn := Lib.hid (show z < n by rw [hz]; exact Nat.mod_lt _ (by omega))
      have hxk := Lib.hid (tmod_small14 xN n (by omega))
      have hyk := Lib.hid (tmod_small14 yN n (by omega))
      have hzk := Lib.hid (tmod_small14 zN n (by omega))
      rw [← hx] at hxk
      rw [← hy] at hyk
      rw [← hz] at hzk
      have cF := Lib.hid (fun i j W hW => path_Find A n c a i j W hW hGa)
      have cH := Lib.hid (fun W hW => ref3_HasG A n c a hGa (x : Int) (y : Int) W hW)
      obtain ⟨hb, hhb⟩ : ∃ hb, hb = hasM a (x : Int) (y : Int) := ⟨_, rfl⟩
      rw [← hhb] at cH
      replace hhb := Lib.hid hhb
      replace hx := Lib.hid hx
      replace hy := Lib.hid hy
      replace hz := Lib.hid hz
      clear hsm s1 s2 hGa hw64 hl hla
      go_wp2_with fail
      refine wp_region_plan 18 [(true, 0), (true, 1), (true, 2), (true, 3), (true, 4), (true, 5), (true, 6), (true, 7), (true, 8), (true, 9), (true, 10), (true, 11), (true, 12), (true, 13), (true, 14), (true, 15), (true, 16), (true, 17)] (by kernel_rfl) (by kernel_rfl) (fun X hX => ?_)
      have b : Below w1.heap.size w1 X := by rw [hX.out]; exact (Below.refl _ _).drew
      clear hX
      replace k3 := Lib.hid (k3.out.below b)
      replace qk30 := k3.out.1.c0
      replace qk31 := k3.out.1.c1
      replace bb := Lib.hid (below_trans2 bb.out b)
      clear b
      simp only [List.drop_succ_cons, List.drop_nil]
      iterate 18
        refine wpPlan_float (v := ?_) rfl (by rfl) (fun w' hw' => ?_) (fun K hK => ?_)
        rotate_left
        · (go_simp; try with_reducible rfl)
        go_simp
        refine hK _ ?_
        clear hK K
      rw [hxk.out, hyk.out, hzk.out]
      refine wpPlan_nil (NoPanic.normal ?_)
      go_wp2_with fail
      refine (cF.out x y X k3.out.2).mono ?_; rintro e w2 ⟨D1, m1, d1, l1, o1, rfl, hL1, hmd1, hdm1, hP1, b⟩
      replace k3 := Lib.hid (k3.out.below b)
      replace qk30 := k3.out.1.c0
      replace qk31 := k3.out.1.c1
      replace bb := Lib.hid (below_trans2 bb.out b)
      clear b
      have hm1 := hL1.len
      replace hP1 := Lib.hid hP1
      clear hL1
      go_wp2_with fail
      refine (cF.out x z w2 k3.out.2).mono ?_; rintro e w3 ⟨D2, m2, d2, l2, o2, rfl, hL2, hmd2, hdm2, hP2, b⟩
      replace k3 := Lib.hid (k3.out.below b)
      replace qk30 := k3.out.1.c0
      replace qk31 := k3.out.1.c1
      replace bb := Lib.hid (below_trans2 bb.out b)
      clear b
      have hm2 := hL2.len
      replace hP2 := Lib.hid hP2
      clear hL2
      go_wp2_with fail
      refine (cF.out z y w3 k3.out.2).mono ?_; rintro e w4 ⟨D3, m3, d3, l3, o3, rfl, hL3, hmd3, hdm3, hP3, b⟩
      replace k3 := Lib.hid (k3.out.below b)
      replace qk30 := k3.out.1.c0
      replace qk31 := k3.out.1.c1
      replace bb := Lib.hid (below_trans2 bb.out b)
      clear b
      have hm3 := hL3.len
      replace hP3 := Lib.hid hP3
      clear hL3 cF
      have hM1 : m1 ≤ 18 := by
        obtain ⟨_, hno, hyes⟩ := hP1.out.list hrl.out hxn.out hyn.out
        cases o1 with
        | false => rw [← hm1, hno rfl]; simp
        | true => have := (hyes rfl).most; omega
      have hM2 : m2 ≤ 18 := by
        obtain ⟨_, hno, hyes⟩ := hP2.out.list hrl.out hxn.out hzn.out
        cases o2 with
        | false => rw [← hm2, hno rfl]; simp
        | true => have := (hyes rfl).most; omega
      have hM3 : m3 ≤ 18 := by
        obtain ⟨_, hno, hyes⟩ := hP3.out.list hrl.out hzn.out hyn.out
        cases o3 with
        | false => rw [← hm3, hno rfl]; simp
        | true => have := (hyes rfl).most; omega
      have hst : hb = true → o1 = true ∧ m1 = 2 := fun h => by
        obtain ⟨h1, h2⟩ := hP1.out.step hxn.out hyn.out (show hasM a (x : Int) (y : Int) = true from by rw [← hhb.out]; exact h)
        exact ⟨h1, by omega⟩
      have hsh : o2 = true → o3 = true → o1 = true ∧ m1 + 1 ≤ m2 + m3 := fun h2 h3 => by
        subst h2; subst h3
        obtain ⟨h1, h2⟩ := hP1.out.short hxn.out hyn.out hP2.out hP3.out
        exact ⟨h1, by omega⟩
      replace hm1 := Lib.hid hm1
      replace hm2 := Lib.hid hm2
      replace hm3 := Lib.hid hm3
      clear hhb
      have v1 : wrap64 ((m2 : Int) + (m3 : Int)) = (m2 : Int) + (m3 : Int) := wrap_len2 hM2 hM3
      have v2 : wrap64 ((m2 : Int) + (m3 : Int) - 1) = (m2 : Int) + (m3 : Int) - 1 := wrap_len3 hM2 hM3
      clear hxk hyk hzk
      by_cases h23 : o2 = true ∧ o3 = true
      · obtain ⟨h2, h3⟩ := h23
        obtain ⟨h1, h4⟩ := hsh h2 h3
        have hle : (m1 : Int) ≤ (m2 : Int) + (m3 : Int) - 1 := len_le3 h4
        replace h4 := Lib.hid h4
        subst h1; subst h2; subst h3
        cases hb with
        | false =>
          replace hst := Lib.hid hst
          replace hsh := Lib.hid hsh
          go_wp2_with fail
          refine (law14_awake w4).mono ?_; rintro e w5 ⟨rfl, b⟩
          replace k3 := Lib.hid (k3.out.below b)
          replace qk30 := k3.out.1.c0
          replace qk31 := k3.out.1.c1
          replace bb := Lib.hid (below_trans2 bb.out b)
          clear b
          go_wp2_with fail
          refine (cH.out w5 k3.out.2).mono ?_; rintro e w6 ⟨rfl, b⟩
          replace k3 := Lib.hid (k3.out.below b)
          replace qk30 := k3.out.1.c0
          replace qk31 := k3.out.1.c1
          replace bb := Lib.hid (below_trans2 bb.out b)
          clear b
          go_wp2_with fail
          go_ret
          exact ⟨rfl, bb.out⟩
        | true =>
          have e2 : m1 = 2 := (hst rfl).2
          subst e2
          replace hst := Lib.hid True.intro
          replace hsh := Lib.hid True.intro
          go_wp2_with fail
          refine (law14_awake w4).mono ?_; rintro e w5 ⟨rfl, b⟩
          replace k3 := Lib.hid (k3.out.below b)
          replace qk30 := k3.out.1.c0
          replace qk31 := k3.out.1.c1
          replace bb := Lib.hid (below_trans2 bb.out b)
          clear b
          go_wp2_with fail
          refine (cH.out w5 k3.out.2).mono ?_; rintro e w6 ⟨rfl, b⟩
          replace k3 := Lib.hid (k3.out.below b)
          replace qk30 := k3.out.1.c0
          replace qk31 := k3.out.1.c1
          replace bb := Lib.hid (below_trans2 bb.out b)
          clear b
          go_wp2_with fail
          go_ret
          exact ⟨rfl, bb.out⟩
      · have hcs : o2 = false ∨ (o2 = true ∧ o3 = false) := by
          cases o2 <;> cases o3 <;> simp_all
        replace h23 := Lib.hid h23
        clear hsh v1 v2
        cases hb with
        | false =>
          clear hst
          rcases hcs with rfl | ⟨rfl, rfl⟩
          all_goals (
            go_wp2_with fail
            refine (law14_awake w4).mono ?_; rintro e w5 ⟨rfl, b⟩
            replace k3 := Lib.hid (k3.out.below b)
            replace qk30 := k3.out.1.c0
            replace qk31 := k3.out.1.c1
            replace bb := Lib.hid (below_trans2 bb.out b)
            clear b
            go_wp2_with fail
            refine (cH.out w5 k3.out.2).mono ?_; rintro e w6 ⟨rfl, b⟩
            replace k3 := Lib.hid (k3.out.below b)
            replace qk30 := k3.out.1.c0
            replace qk31 := k3.out.1.c1
            replace bb := Lib.hid (below_trans2 bb.out b)
            clear b
            go_wp2_with fail
            go_ret
            exact ⟨rfl, bb.out⟩
            )
        | true =>
          obtain ⟨h1, e2⟩ := hst rfl
          subst h1; subst e2
          clear hst
          rcases hcs with rfl | ⟨rfl, rfl⟩
          all_goals (
            go_wp2_with fail
            refine (law14_awake w4).mono ?_; rintro e w5 ⟨rfl, b⟩
            replace k3 := Lib.hid (k3.out.below b)
            replace qk30 := k3.out.1.c0
            replace qk31 := k3.out.1.c1
            replace bb := Lib.hid (below_trans2 bb.out b)
            clear b
            go_wp2_with fail
            refine (cH.out w5 k3.out.2).mono ?_; rintro e w6 ⟨rfl, b⟩
            replace k3 := Lib.hid (k3.out.below b)
            replace qk30 := k3.out.1.c0
            replace qk31 := k3.out.1.c1
            replace bb := Lib.hid (below_trans2 bb.out b)
            clear b
            go_wp2_with fail
            go_ret
            exact ⟨rfl, bb.out⟩
            )
end Go.Proofs.Ytfeomhoicnjgpaa

namespace Go.Proofs.Ytfeomhoicnjgpaa
open Go.RowKit Go.ChangeShapes Go.WideShapes Go.Deep Go.Joins
set_option linter.unusedVariables false

theorem addr_add (b off j : Nat) : (⟨b, off, none⟩ : Addr).add j = ⟨b, off + j, none⟩ := by unfold Addr.add; split <;> simp_all

section
variable {H : Type} {enc : TypeId × Value → H} {P : Program} {w : World} {base : Nat} {spare : Nat → Bool} {held : Bool}
theorem row_of_ints {a' : Option Addr} {L C : Nat} {zs : List Int} (hl : L ≤ C) (hm : C ≤ maxLen) (hz : zs.length = C) (hwz : ∀ n ∈ zs, (Lit.int .u64 n).wf = true) (hnil : a' = none → C = 0)
    (hcell : ∀ x, a' = some x → ∀ c, c < C → w.cell? (x.add c) = some (.int .u64 (zs.getD c 0))) : ∃ xs, Row w a' L xs ∧ L ≤ 9223372036854775807 := by
  cases a' with
  | none =>
    have := hnil rfl
    obtain rfl : L = 0 := by omega
    exact ⟨[], Row.nil _ _, by omega⟩
  | some x => exact row_of_is (c := C) (zs := zs) (.inr ⟨x, rfl, hl, hm, hz, fun i hi => hcell x rfl i (by omega), hwz⟩)
theorem open_mat {t e q : TypeId} {fuel : Nat} {A : Option Addr} {len cap : Nat} {x : DataW H × List MemPlace} (ht : P.underlying t = some (.slice e)) (he : P.underlying e = some (.slice q)) (hq : P.underlying q = some (.int .u64))
    (ce : P.cellsOf e = 1) (cq : P.cellsOf q = 1) (h : DataW.trod enc P w base (fun _ => true) held fuel t [.slice A len cap] = some x) :
    ∃ xss, RowsAt w A len xss ∧ len ≤ 9223372036854775807 ∧ ∀ (k : Nat) (xs : List Nat), xss[k]? = some xs → xs.length ≤ 9223372036854775807 := by
  rcases open_int_rows ht he hq ce cq h with ⟨hcs, _⟩ | ⟨⟨b, off, spot⟩, l, c, B, L, C, Z, hcs, hb, hl, hm, hx, hrow⟩
  · injection hcs with hcs
    injection hcs with h1 h2 h3
    subst h1 h2 h3
    exact ⟨[], RowsAt.nil _ _, by omega, fun k xs hx => by simp at hx⟩
  · injection hcs with hcs
    injection hcs with h1 h2 h3
    subst h1 h2 h3
    have hlm : len ≤ 9223372036854775807 := by unfold maxLen at hm; omega
    have hrow' : ∀ k, k < len → ∃ xs, Row w (B k) (L k) xs ∧ L k ≤ 9223372036854775807 := fun k hk => by
      obtain ⟨_, h1, h2, h3, h4, h5, h6⟩ := hrow k (by omega)
      exact row_of_ints h1 h2 h3 h4 h5 (fun x e c hc => (h6 x e).2 c hc)
    by_cases h0 : len = 0
    · subst h0
      exact ⟨[], RowsAt.nil _ _, by omega, fun k xs hx => by simp at hx⟩
    · have hc0 := (hrow 0 (by omega)).1
      have hspot : spot = none := by
        have h := World.cell?_spot hc0
        cases spot with
        | none => rfl
        | some s => unfold Addr.add at h; simp at h
      subst hspot
      have hblt : b < w.heap.size := by
        have := World.block_lt_of_cell? w _ hc0
        rwa [addr_add] at this
      have hall : ∀ k, k ≤ len → ∃ xss : List (List Nat), RowsC w ((List.range k).map fun i => .slice (B i) (L i) (C i)) xss ∧ ∀ (j : Nat) (xs : List Nat), xss[j]? = some xs → xs.length ≤ 9223372036854775807 := by
        intro k
        induction k with
        | zero => exact fun _ => ⟨[], RowsC.nil _, fun j xs h => by simp at h⟩
        | succ k ih =>
          intro hk
          obtain ⟨xss, p1, p2⟩ := ih (by omega)
          obtain ⟨xs, hx1, hx2⟩ := hrow' k (by omega)
          refine ⟨xss ++ [xs], ?_, fun j ys hj => ?_⟩
          · rw [List.range_succ, List.map_append]
            exact p1.snoc ⟨_, _, _, rfl, hx1⟩
          · rcases Nat.lt_or_ge j xss.length with hlt | hge
            · rw [List.getElem?_append_left hlt] at hj; exact p2 j ys hj
            · rw [List.getElem?_append_right hge] at hj
              have hj' := List.mem_of_getElem? hj
              rw [List.mem_singleton.1 hj', hx1.len]; exact hx2
      obtain ⟨xss, p1, p2⟩ := hall len (Nat.le_refl _)
      refine ⟨xss, ⟨_, ⟨by simp, fun _ => ⟨b, off, rfl, hblt, fun j u hu => ?_⟩⟩, p1⟩, hlm, p2⟩
      have hj : j < len := by have := (List.getElem?_eq_some_iff.1 hu).1; simpa using this
      rw [List.getElem?_map, List.getElem?_range hj, Option.map_some] at hu
      have h1 := (hrow j (by omega)).1
      rw [addr_add] at h1
      rw [h1]; exact hu
end

end Go.Proofs.Ytfeomhoicnjgpaa

namespace Go.Proofs.Ytfeomhoicnjgpaa
open Go.RowKit Go.ChangeShapes Go.WideShapes Go.Deep Go.Joins
set_option linter.unusedVariables false
section
variable {H : Type} {enc : TypeId × Value → H} {P : Program} {w : World} {base : Nat} {held : Bool}
theorem open_cap {t e q : TypeId} {fuel : Nat} {A : Option Addr} {len cap : Nat} {x : DataW H × List MemPlace} (ht : P.underlying t = some (.slice e)) (he : P.underlying e = some (.slice q)) (hq : P.underlying q = some (.int .u64))
    (ce : P.cellsOf e = 1) (cq : P.cellsOf q = 1) (h : DataW.trod enc P w base (fun _ => true) held fuel t [.slice A len cap] = some x) : len ≤ cap := by
  rcases open_int_rows ht he hq ce cq h with ⟨hcs, _⟩ | ⟨a, l, c, B, L, C, Z, hcs, hb, hl, hm, hx, hrow⟩
  · injection hcs with hcs
    injection hcs with h1 h2 h3
    omega
  · injection hcs with hcs
    injection hcs with h1 h2 h3
    omega
end
end Go.Proofs.Ytfeomhoicnjgpaa

namespace Go.Proofs.Ytfeomhoicnjgpaa
open Go.RowKit Go.ChangeShapes Go.WideShapes Go.Deep Go.Joins
set_option linter.unusedVariables false
section
variable {H : Type} {enc : TypeId × Value → H} {P : Program} {w : World} {base : Nat} {held : Bool}
theorem open_matC {t e q : TypeId} {f0 f1 : Field} {fuel : Nat} {c0 c1 : Value} {x : DataW H × List MemPlace} (ht : P.underlying t = some (.struct #[f0, f1])) (hone : oneCellFields P #[f0, f1] = true)
    (hi : P.underlying f0.type = some (.int .i64)) (hr : P.underlying f1.type = some (.slice e)) (he : P.underlying e = some (.slice q)) (hq : P.underlying q = some (.int .u64)) (ce : P.cellsOf e = 1) (cq : P.cellsOf q = 1)
    (h : DataW.trod enc P w base (fun _ => true) held fuel t [c0, c1] = some x) :
    ∃ (N : Int) (A : Option Addr) (n c : Nat) (xss : List (List Nat)), c0 = .int .i64 N ∧ c1 = .slice A n c ∧ (-9223372036854775808 ≤ N ∧ N ≤ 9223372036854775807) ∧ RowsAt w A n xss ∧ n ≤ c ∧ n ≤ 9223372036854775807 ∧
      ∀ (k : Nat) (xs : List Nat), xss[k]? = some xs → xs.length ≤ 9223372036854775807 := by
  obtain ⟨xs, n, _, hx, _, hlen, hg⟩ := DataW.trod_struct ht h
  obtain ⟨o0, k0⟩ := hone_of hone 0 f0 rfl
  obtain ⟨o1, k1⟩ := hone_of hone 1 f1 rfl
  have h0 := hg 0 f0 rfl
  have h1 := hg 1 f1 rfl
  match xs, hlen with
  | [y0, y1], _ =>
    rw [o0, k0] at h0
    rw [o1, k1] at h1
    simp at h0 h1
    obtain ⟨N, e0, _, hw⟩ := DataW.trod_int hi h0
    injection e0 with e0
    subst e0
    obtain ⟨A, n, c, rfl⟩ : ∃ A n c, c1 = .slice A n c := by
      rcases open_int_rows hr he hq ce cq h1 with ⟨hcs, _⟩ | ⟨a, l, c, B, L, C, Z, hcs, _⟩
      · injection hcs with hcs; exact ⟨_, _, _, hcs⟩
      · injection hcs with hcs; exact ⟨_, _, _, hcs⟩
    obtain ⟨xss, hx1, hx2, hx3⟩ := open_mat hr he hq ce cq h1
    exact ⟨N, A, n, c, xss, rfl, rfl, bounds_i64 hw, hx1, open_cap hr he hq ce cq h1, hx2, hx3⟩
/-- a struct of a struct of two cells and three one-cell fields -/
theorem open_ask5 {r : Reach} {b0 : Nat} {t : TypeId} {f0 f1 f2 f3 : Field} {v : Value} {d : DataW H} {p : List MemPlace} (hs : P.underlying t = some (.struct #[f0, f1, f2, f3])) (hC : P.cellsOf t = 5)
    (o0 : f0.offset = 0) (o1 : f1.offset = 2) (o2 : f2.offset = 3) (o3 : f3.offset = 4) (k0 : P.cellsOf f0.type = 2) (k1 : P.cellsOf f1.type = 1) (k2 : P.cellsOf f2.type = 1) (k3 : P.cellsOf f3.type = 1)
    (hv : Value.okWide P w r b0 t v) (h : DataW.Trod enc P w base (fun _ => true) held t v d p) :
    ∃ (v0 v1 v2 v3 v4 : Value) (y0 y1 y2 y3 : DataW H × List MemPlace) (n : Nat), v = .agg #[v0, v1, v2, v3, v4] ∧
      DataW.trod enc P w base (fun _ => true) held n f0.type [v0, v1] = some y0 ∧ DataW.trod enc P w base (fun _ => true) held n f1.type [v2] = some y1 ∧ DataW.trod enc P w base (fun _ => true) held n f2.type [v3] = some y2 ∧ DataW.trod enc P w base (fun _ => true) held n f3.type [v4] = some y3 := by
  obtain ⟨cs, rfl, hsz⟩ := okWide_struct hs hv
  obtain ⟨l⟩ := cs
  match l, hsz.trans hC with
  | [c0, c1, c2, c3, c4], _ =>
    obtain ⟨fuel, hf⟩ := h
    obtain ⟨xs, n, _, hx, _, hlen, hg⟩ := DataW.trod_struct hs hf
    match xs, hlen with
    | [y0, y1, y2, y3], _ =>
      exact ⟨c0, c1, c2, c3, c4, y0, y1, y2, y3, n, rfl, by simpa [Value.cells, o0, k0] using hg 0 f0 rfl, by simpa [Value.cells, o1, k1] using hg 1 f1 rfl, by simpa [Value.cells, o2, k2] using hg 2 f2 rfl, by simpa [Value.cells, o3, k3] using hg 3 f3 rfl⟩
end
end Go.Proofs.Ytfeomhoicnjgpaa

namespace Go.Proofs.Ytfeomhoicnjgpaa
open Go.RowKit Go.ChangeShapes Go.WideShapes Go.Deep
set_option linter.unusedVariables false

section
variable {H : Type} {enc : TypeId × Value → H} {P : Program} {w : World} {base : Nat} {held : Bool}
end
end Go.Proofs.Ytfeomhoicnjgpaa

namespace Go.Proofs.Ytfeomhoicnjgpaa
open Go.RowKit Go.ChangeShapes Go.WideShapes Go.Deep
set_option linter.unusedVariables false

section
variable {H : Type} {enc : TypeId × Value → H} {P : Program} {w : World} {base : Nat} {held : Bool}
end
end Go.Proofs.Ytfeomhoicnjgpaa

namespace Go.Proofs.Ytfeomhoicnjgpaa
open Go.RowKit Go.ChangeShapes Go.WideShapes Go.Deep Go.Joins
set_option linter.unusedVariables false
section
variable {H : Type} {enc : TypeId × Value → H} {P : Program} {w : World} {base : Nat} {held : Bool}
end
end Go.Proofs.Ytfeomhoicnjgpaa
