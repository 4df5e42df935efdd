/- The contract of the document's own answer of layer 14: Round. The code's own contracts of layer 14: Find, Round, Is. Layer 14's helpers: may, awake. Plain mathematics of layer 14: what a first path's numbers are. Nothing of the program is named. Contract of the document's own answer: Reach (a search with a queue). Contracts of the document's own answers of layer 4: Close, Add. -/
import Derived.Test.YtfeomhoicnjgpaaPathHullPk6
import Derived.Test.YtfeomhoicnjgpaaPathHullPk2
import Derived.Test.YtfeomhoicnjgpaaPathHullPk3
import Derived.Test.YtfeomhoicnjgpaaPathHullPk5
import Derived.Test.YtfeomhoicnjgpaaPathHullPk4
namespace Go.Proofs.Ytfeomhoicnjgpaa
open Go.RowKit
set_option linter.unusedVariables false
/-- what is answered when a round is asked for -/
def RoundIs (r : Nat → Nat → Prop) (n : Nat) (l : List Int) (ok : Bool) : Prop :=
  (ok = false ∧ l = [] ∧ ∀ x, x < n → ¬ Conn r x x) ∨ (ok = true ∧ ∃ (x : Nat) (rest : List Nat), x < n ∧ First r x x rest ∧ l = natI (x :: rest) ∧ ∀ y, y < x → ¬ Conn r y y)
theorem RoundIs.unique {r : Nat → Nat → Prop} {n : Nat} {l l' : List Int} {ok ok' : Bool} (h : RoundIs r n l ok) (k : RoundIs r n l' ok') : l = l' ∧ ok = ok' := by
  rcases h with ⟨rfl, rfl, h1⟩ | ⟨rfl, x, rest, h1, h2, rfl, h3⟩ <;> rcases k with ⟨rfl, rfl, k1⟩ | ⟨rfl, y, rest', k1, k2, rfl, k3⟩
  · exact ⟨rfl, rfl⟩
  · exact absurd (k2.way.conn k2.ne) (h1 y k1)
  · exact absurd (h2.way.conn h2.ne) (k1 x h1)
  · have : x = y := by
      rcases Nat.lt_trichotomy x y with h | h | h
      · exact absurd (h2.way.conn h2.ne) (k3 x h)
      · exact h
      · exact absurd (k2.way.conn k2.ne) (h3 y h)
    subst this
    rw [h2.unique k2]
    exact ⟨rfl, rfl⟩
def RetRound (r : Nat → Nat → Prop) (n : Nat) (w : World) (e : Ending) (w' : World) : Prop :=
  ∃ (D : Option Addr) (m c : Nat) (l : List Int) (ok : Bool), e = .returned (.tuple #[.slice D m c, .bool ok]) ∧ LAt encI w' D m l ∧ m ≤ c ∧ c ≤ 9223372036854775807 ∧ RoundIs r n l ok ∧ Below w.heap.size w w'
end Go.Proofs.Ytfeomhoicnjgpaa

namespace Go.Proofs.Ytfeomhoicnjgpaa
open Go.RowKit
set_option linter.unusedVariables false
def popV : Value → Nat
  | .int _ z => pop z.toNat
  | _ => 0
/-- how many aren't met, and how many are in the queue, as memory has it -/
def srM (w : World) (g gl : Nat) : Nat :=
  (match w.heap[gl]? with | some (.cells cs _ _) => (cs.toList.map popV).sum | _ => 0) + (match w.cell? ⟨g, 1, none⟩ with | some v => qlen v | none => 0)
theorem SrS.meas {w0 w : World} {g gl gf n nw : Nat} {A : Option Addr} {c : Nat} {v : Value} {ls fs zs : List Nat} (h : SrS w0 g gl gf n nw A c v ls fs zs w) : srM w g gl = countR ls + zs.length := by
  unfold srM
  have h1 : w.heap[gl]? = some (.cells (ls.map u64v).toArray 99 (0, 0)) := h.l
  rw [h1, h.cells.2.1]
  simp only [h.q.qlen_]
  congr 1
  unfold countR
  simp only [List.map_map]
  rfl
set_option maxRecDepth 100000 in
set_option maxHeartbeats 4000000 in
theorem path_Find (A : Option Addr) (n c : Nat) (a : List (List Nat)) (i j : Int) (w : World) (hr : RowsAt w A n a) (hG : Good n a) :
    Calls Try.prog 19 #[.agg #[.int .i64 (n : Int), .slice A n c], .int .i64 i, .int .i64 j] w (RetPath (Rel a) n i j w) := by
  have hnn := hG.le
  -- a call with the matrix (A n c a): it is boxed at g, the world is W0 then
  have hM0 := Lib.hid (MatK.new (N := (n : Int)) (c := c) w 39 hr)
  obtain ⟨g, hg⟩ : ∃ g, g = w.heap.size := ⟨_, rfl⟩
  obtain ⟨W0, hW0⟩ : ∃ W, W = w.alloc (.cells #[.int .i64 (n : Int), .slice A n c] 39) := ⟨_, rfl⟩
  rw [← hW0, ← hg] at hM0
  have hbo := Lib.hid (show Below w.heap.size w W0 from by rw [hW0]; exact below_alloc _ _)
  have m0 := hM0.out.1.c0
  have c1 := Lib.hid (fun W => path_below i (n : Int) W)
  have c2 := Lib.hid (fun W => path_below j (n : Int) W)
  by_cases hi : 0 ≤ i ∧ i < (n : Int)
  · rw [belowZ_yes hi.1 hi.2] at c1
    by_cases hj : 0 ≤ j ∧ j < (n : Int)
    · rw [belowZ_yes hj.1 hj.2] at c2
      obtain ⟨x, rfl⟩ := Int.eq_ofNat_of_zero_le hi.1
      obtain ⟨y, rfl⟩ := Int.eq_ofNat_of_zero_le hj.1
      have hxn : x < n := by omega
      have hyn : y < n := by omega
      have hM1 := hM0.out.1.c1
      obtain ⟨nw, hnw⟩ : ∃ q, q = (wordsZ (n : Int)).toNat := ⟨_, rfl⟩
      have hnw64 : nw ≤ 64 := by rw [hnw]; unfold wordsZ; split <;> omega
      have cB := Lib.hid (path_begin A n c nw a x W0 hM0.out.2 hnn hnw)
      have hR0 := Lib.hid hM0.out.2
      have hstart := Lib.hid (BfsM.start (a := a) hxn)
      rw [← hnw] at hstart
      replace hnw := Lib.hid hnw
      replace hG := Lib.hid hG
      replace hxn := Lib.hid hxn
      replace hyn := Lib.hid hyn
      clear hi hj
      go_enter Try.func19, Try.ntmps19
      go_wp2_with (rw [← hW0, ← hg]; clear hW0 hg)
      refine (c1.out _).mono ?_; rintro e w9 ⟨rfl, rfl⟩
      go_wp2_with fail
      refine (c2.out _).mono ?_; rintro e w9 ⟨rfl, rfl⟩
      go_wp2_with fail
      refine cB.out.mono ?_; rintro e w1 ⟨gs, gl, gf, v, rfl, hS⟩
      replace hS := Lib.hid hS
      clear m0 hM1 c1 c2 cB
      go_wp2_with fail
      go_loopw [29] (fun _ wr => ∃ (v : Value) (ls fs zs : List Nat) (N : Nat), Hid (SrS W0 gs gl gf n nw A c v ls fs zs wr) ∧ Hid (BfsM n a x N ls fs zs)) (fun _ wr => srM wr gs gl)
      case atStart => exact ⟨v, _, _, _, _, hS, hstart⟩
      case round =>
        clear hS hstart
        obtain ⟨v, ls, fs, zs, N, hS, hB⟩ := hrel
        obtain ⟨s0, s1, s2, s3⟩ := hS.out.cells
        have hrow : Row wr (some ⟨gl, 0, none⟩) nw ls := by
          have h1 := hS.out.l.rd
          have h2 : (ls.map u64v).length = nw := by rw [List.length_map, hB.out.sz.ll]; exact hnw.out.symm
          rw [h2] at h1
          exact ⟨h1, hB.out.sz.lw⟩
        have hyb := hyn.out
        have cH := Lib.hid (row_Has (some ⟨gl, 0, none⟩) nw nw ls (y : Int) wr hrow (by omega) (by omega) (by omega))
        clear hyb
        replace hrow := Lib.hid hrow
        cases hh : hasR ls (y : Int) with
        | false =>
          rw [hh] at cH
          obtain ⟨T, p, hwo, hT, hF⟩ := hB.out.found hG.out hyn.out hh
          have cW := Lib.hid (path_way W0 gs gl gf n nw A c v ls fs zs x y T p wr hS.out hwo hT hnn)
          have hP : Hid (PathIs (Rel a) n (x : Int) (y : Int) (natI (x :: p y)) true) := Lib.hid (.inr ⟨rfl, x, y, p y, rfl, rfl, hxn.out, hyn.out, hF, rfl⟩)
          clear hwo hT hF
          replace hh := Lib.hid hh
          go_wp2_with fail
          refine cH.out.mono ?_; rintro e w9 ⟨rfl, rfl⟩
          go_wp2_with fail
          refine cW.out.mono ?_; rintro e w2 ⟨D, m, d, rfl, hL, hmd, hdm, b2⟩
          replace hL := Lib.hid hL
          go_wp2_with fail
          exact bodyPost_ret (v := .tuple #[.slice D m d, .bool true]) (by simp [results, go_sem]) rfl ⟨D, m, d, _, true, rfl, hL.out, hmd, hdm, hP.out, below_trans2 hbo.out (below_trans2 hS.out.bel b2)⟩
        | true =>
          rw [hh] at cH
          cases zs with
          | nil =>
            have cN := Lib.hid (path_step_none W0 gs gl gf n nw A c v ls fs wr hS.out)
            have hno : Hid (PathIs (Rel a) n (x : Int) (y : Int) [] false) := Lib.hid (.inl ⟨rfl, rfl, fun x' y' e1 e2 _ _ => by
              have e1 : x' = x := by omega
              have e2 : y' = y := by omega
              subst e1; subst e2
              exact hB.out.none hyn.out hh⟩)
            replace hh := Lib.hid hh
            go_wp2_with fail
            refine cH.out.mono ?_; rintro e w9 ⟨rfl, rfl⟩
            go_wp2_with fail
            refine cN.out.mono ?_; rintro e w9 ⟨rfl, rfl⟩
            go_wp2_with fail
            exact bodyPost_ret (v := .tuple #[.slice none 0 0, .bool false]) (by simp [results, go_sem]) rfl ⟨none, 0, 0, [], false, rfl, LAt.nil _ _ _, Nat.le_refl _, by omega, hno.out, below_trans2 hbo.out hS.out.bel⟩
          | cons z zs =>
            have cN := Lib.hid (path_step W0 gs gl gf n nw A c v ls fs zs a x N z wr hS.out hB.out hG.out hR0.out hnw.out)
            have hms := Lib.hid (show srM wr gs gl = N ∧ 0 < N from by
              have h1 := hB.out.sz.cnt
              rw [hS.out.meas]
              simp only [List.length_cons] at h1 ⊢
              omega)
            replace hh := Lib.hid hh
            go_wp2_with fail
            refine cH.out.mono ?_; rintro e w9 ⟨rfl, rfl⟩
            go_wp2_with fail
            refine cN.out.mono ?_; rintro e w2 ⟨rfl, u2, ls2, fs2, zs2, hS2, hB2⟩
            have hms2 := Lib.hid (show srM w2 gs gl = N - 1 from by rw [hS2.meas]; exact hB2.sz.cnt)
            replace hS2 := Lib.hid hS2
            replace hB2 := Lib.hid hB2
            clear s0 s1 s2 s3 hS hB
            go_wp2_with fail
            go_roundw
            case rel => exact ⟨u2, ls2, fs2, zs2, N - 1, hS2, hB2⟩
            case measure => rw [hms.out.1, hms2.out]; have := hms.out.2; omega
    · rw [belowZ_no (by omega)] at c2
      have hno : Hid (PathIs (Rel a) n i j [] false) := Lib.hid (.inl ⟨rfl, rfl, fun x y h1 h2 h3 h4 => by omega⟩)
      go_enter Try.func19, Try.ntmps19
      go_wp2_with (rw [← hW0, ← hg]; clear hW0 hg)
      refine (c1.out _).mono ?_; rintro e w9 ⟨rfl, rfl⟩
      go_wp2_with fail; refine (c2.out _).mono ?_; rintro e w9 ⟨rfl, rfl⟩
      go_wp2_with fail
      exact bodyPost_ret (v := .tuple #[.slice none 0 0, .bool false]) (by simp [results, go_sem]) rfl ⟨none, 0, 0, [], false, rfl, LAt.nil _ _ _, Nat.le_refl _, by omega, hno.out, hbo.out⟩
  · rw [belowZ_no (by omega)] at c1
    have hno : Hid (PathIs (Rel a) n i j [] false) := Lib.hid (.inl ⟨rfl, rfl, fun x y h1 h2 h3 h4 => by omega⟩)
    go_enter Try.func19, Try.ntmps19
    go_wp2_with (rw [← hW0, ← hg]; clear hW0 hg)
    refine (c1.out _).mono ?_; rintro e w9 ⟨rfl, rfl⟩
    skip
    go_wp2_with fail
    exact bodyPost_ret (v := .tuple #[.slice none 0 0, .bool false]) (by simp [results, go_sem]) rfl ⟨none, 0, 0, [], false, rfl, LAt.nil _ _ _, Nat.le_refl _, by omega, hno.out, hbo.out⟩
set_option maxRecDepth 100000 in
set_option maxHeartbeats 4000000 in
theorem path_Round (A : Option Addr) (n c : Nat) (a : List (List Nat)) (w : World) (hr : RowsAt w A n a) (hG : Good n a) :
    Calls Try.prog 21 #[.agg #[.int .i64 (n : Int), .slice A n c]] w (RetRound (Rel a) n w) := by
  have hnn := hG.le
  -- a call with the matrix (A n c a): it is boxed at g, the world is W0 then
  have hM0 := Lib.hid (MatK.new (N := (n : Int)) (c := c) w 39 hr)
  obtain ⟨g, hg⟩ : ∃ g, g = w.heap.size := ⟨_, rfl⟩
  obtain ⟨W0, hW0⟩ : ∃ W, W = w.alloc (.cells #[.int .i64 (n : Int), .slice A n c] 39) := ⟨_, rfl⟩
  rw [← hW0, ← hg] at hM0
  have hbo := Lib.hid (show Below w.heap.size w W0 from by rw [hW0]; exact below_alloc _ _)
  have cF := Lib.hid (fun (i : Int) (W : World) (hW : RowsAt W A n a) => path_Find A n c a i i W hW hG)
  have m0 := hM0.out.1.c0
  go_enter Try.func21, Try.ntmps21
  go_wp2_with (rw [← hW0, ← hg]; clear hW0 hg)
  clear m0
  go_loopw [9] (fun t wr => ∃ k : Nat, k ≤ n ∧ t = .int .i64 (k : Int) ∧ Hid (∀ x, x < k → ¬ Conn (Rel a) x x) ∧ Hid (Below W0.heap.size W0 wr)) (fun t _ => n - (intOf t).toNat)
  case atStart => exact ⟨0, Nat.zero_le _, rfl, Lib.hid (fun x h => by omega), Lib.hid (Below.refl _ _)⟩
  case round =>
    obtain ⟨k, hk, rfl, hno, hb⟩ := hrel
    have hM := Lib.hid (hM0.out.below hb.out)
    have m0 := hM.out.1.c0
    have m1 := hM.out.1.c1
    by_cases hkn : k < n
    · have hkn' : (k : Int) < (n : Int) := by omega
      replace hkn := Lib.hid hkn
      go_wp2_with fail
      refine (cF.out (k : Int) wr hM.out.2).mono ?_; rintro e w1 ⟨D, m, d, l, ok, rfl, hL, hmd, hdm, hP, b⟩
      replace hb := Lib.hid (below_trans2 hb.out b)
      clear b m0 m1
      cases ok with
      | true =>
        have hR : RoundIs (Rel a) n l true := by
          rcases hP with ⟨h, _⟩ | ⟨_, x, y, rest, e1, e2, h1, h2, h3, h4⟩
          · cases h
          · have e1 : x = k := by omega
            have e2 : y = k := by omega
            subst e1; subst e2
            exact .inr ⟨rfl, y, rest, h1, h3, h4, hno.out⟩
        replace hL := Lib.hid hL
        replace hR := Lib.hid hR
        clear hP
        go_wp2_with fail
        exact bodyPost_ret (v := .tuple #[.slice D m d, .bool true]) (by simp [results, go_sem]) rfl ⟨D, m, d, l, true, rfl, hL.out, hmd, hdm, hR.out, below_trans2 hbo.out hb.out⟩
      | false =>
        have hno2 : Hid (∀ x, x < k + 1 → ¬ Conn (Rel a) x x) := Lib.hid (fun x hx => by
          rcases Nat.lt_or_ge x k with h | h
          · exact hno.out x h
          · obtain rfl : x = k := by omega
            rcases hP with ⟨_, _, h1⟩ | ⟨h, _⟩
            · exact h1 x x rfl rfl hkn.out hkn.out
            · cases h)
        clear hP hL
        go_wp2_with fail
        exact ⟨⟨k + 1, by have := hkn.out; omega, by go_num, hno2, hb⟩, by simp [intOf]; have := hkn.out; omega⟩
    · have hkn' : ¬ (k : Int) < (n : Int) := by omega
      have hR : Hid (RoundIs (Rel a) n [] false) := Lib.hid (.inl ⟨rfl, rfl, fun x hx => hno.out x (by omega)⟩)
      clear hkn
      go_wp2_with fail
      exact bodyPost_ret (v := .tuple #[.slice none 0 0, .bool false]) (by simp [results, go_sem]) rfl ⟨none, 0, 0, [], false, rfl, LAt.nil _ _ _, Nat.le_refl _, by omega, hR.out, below_trans2 hbo.out hb.out⟩
set_option maxRecDepth 100000 in
set_option maxHeartbeats 2000000 in
theorem path_Is (A : Option Addr) (n c : Nat) (a : List (List Nat)) (D : Option Addr) (m d : Nat) (l : List Int) (w : World) (hr : RowsAt w A n a) (hG : Good n a) (hL : LAt encI w D m l) (hm : m ≤ 1048576) :
    Calls Try.prog 23 #[.agg #[.int .i64 (n : Int), .slice A n c], .slice D m d] w (RetB (pathB a l) w) := by
  have hnn := hG.le
  have hsml : ∀ xs ∈ a, xs.length ≤ 1073741824 := fun xs hx => by have := hG.small xs hx; omega
  -- a call with the matrix (A n c a): it is boxed at g, the world is W0 then
  have hM0 := Lib.hid (MatK.new (N := (n : Int)) (c := c) w 39 hr)
  obtain ⟨g, hg⟩ : ∃ g, g = w.heap.size := ⟨_, rfl⟩
  obtain ⟨W0, hW0⟩ : ∃ W, W = w.alloc (.cells #[.int .i64 (n : Int), .slice A n c] 39) := ⟨_, rfl⟩
  rw [← hW0, ← hg] at hM0
  have hbo := Lib.hid (show Below w.heap.size w W0 from by rw [hW0]; exact below_alloc _ _)
  have hll := Lib.hid hL.len
  replace hL := Lib.hid (hL.below hbo.out)
  have hHas := Lib.hid (fun (z z2 : Int) h1 h2 h3 h4 (W : World) (hW : RowsAt W A n a) => mat_Has (n : Int) A n c a z z2 W hW (by omega) hsml h1 h2 h3 h4)
  clear hsml
  go_enter Try.func23, Try.ntmps23
  go_wp2_with (rw [← hW0, ← hg]; clear hW0 hg)
  go_loopw [5] (fun t wr => ∃ q : Nat, q ≤ m ∧ t = .int .i64 ((q : Int) + 1) ∧ Hid (∀ r, r < q → r + 1 < m → hasM a (l.getD r 0) (l.getD (r + 1) 0) = true) ∧ Hid (Below W0.heap.size W0 wr)) (fun t _ => m + 1 - (intOf t).toNat)
  case atStart => exact ⟨0, Nat.zero_le _, rfl, Lib.hid (fun q h => by omega), Lib.hid (Below.refl _ _)⟩
  case round =>
    obtain ⟨q, hq, rfl, hall, hb⟩ := hrel
    have hM := Lib.hid (hM0.out.below hb.out)
    have hLr := hL.out.below hb.out
    by_cases hlt : q + 1 < m
    · have hlt' : (q : Int) + 1 < (m : Int) := by omega
      obtain ⟨lb, lo, z, hD, hlb, hz, zok, j0⟩ := hLr.int (show q < m by omega)
      obtain ⟨lb2, lo2, z2, hD2, hlb2, hz2, zok2, j1⟩ := hLr.int hlt
      subst hD
      injection hD2 with hD2
      injection hD2 with hD1 hD2
      subst hD1; subst hD2
      have hH := Lib.hid (hHas.out z z2 zok.1 zok.2 zok2.1 zok2.2)
      have hzz : Hid (l.getD q 0 = z ∧ l.getD (q + 1) 0 = z2) := Lib.hid ⟨getD_of hz, getD_of hz2⟩
      have bq : 0 ≤ (q : Int) ∧ (q : Int) < (m : Int) := by omega
      have bk : 0 ≤ (q : Int) + 1 ∧ (q : Int) + 1 < (m : Int) := by omega
      have hwq : IntKind.i64.wrap (q : Int) = (q : Int) := by rw [IntKind.wrap_i64]; omega
      clear hz hz2 hlb hlb2 hLr
      replace hlt := Lib.hid hlt
      go_wp2_with fail
      refine wp_region_plan 12 [(true, 0), (true, 1), (true, 2), (true, 3), (true, 4), (true, 5), (true, 6), (true, 7), (true, 8), (true, 9), (false, 10), (true, 11)] (by kernel_rfl) (by kernel_rfl) (fun X hX => ?_)
      have hX' : Below wr.heap.size wr X := by rw [hX.out]; exact (Below.refl _ _).drew
      replace hM := Lib.hid (hM.out.below hX')
      replace hb := Lib.hid (below_trans2 hb.out hX')
      replace j0 : X.cell? ⟨lb, lo + q, none⟩ = some (.int .i64 z) := by rw [hX.out]; exact j0
      replace j1 : X.cell? ⟨lb, lo + (q + 1), none⟩ = some (.int .i64 z2) := by rw [hX.out]; exact j1
      clear hX hX'
      have m0 := hM.out.1.c0
      have m1 := hM.out.1.c1
      simp only [List.drop_succ_cons, List.drop_nil]
      iterate 10
        refine wpPlan_float (v := ?_) rfl (by rfl) (fun w' hw' => ?_) (fun K hK => ?_)
        rotate_left
        · (go_simp; try with_reducible rfl)
        go_simp
        refine hK _ ?_
        clear hK K
      clear m0 m1 j0 j1 hwq
      have cH := hH.out X hM.out.2
      cases hz : hasM a z z2 with
      | true =>
        rw [hz] at cH
        replace cH := Lib.hid cH
        replace hz := Lib.hid hz
        refine wpPlan_only rfl (by rfl) (fun K hK => ?_)
        go_simp
        refine cH.out.mono ?_
        rintro e x1 ⟨rfl, b⟩
        refine hK _ _ b ?_
        clear hK K
        replace hb := Lib.hid (below_trans2 hb.out b)
        clear b
        iterate 1
          refine wpPlan_float (v := ?_) rfl (by rfl) (fun w' hw' => ?_) (fun K hK => ?_)
          rotate_left
          · (go_simp; try with_reducible rfl)
          go_simp
          refine hK _ ?_
          clear hK K
        refine wpPlan_nil (NoPanic.normal ?_)
        go_wp2_with fail
        go_roundw
        case rel =>
          refine ⟨q + 1, by have := hlt.out; omega, by go_num, Lib.hid (fun r h1 h2 => ?_), hb⟩
          rcases Nat.lt_or_ge r q with h3 | h3
          · exact hall.out r h3 h2
          · obtain rfl : r = q := by omega
            rw [hzz.out.1, hzz.out.2]; exact hz.out
        case measure => simp [intOf]; have := hlt.out; omega
      | false =>
        rw [hz] at cH
        have hno : pathB a l = false := pathB_no (q := q) (by rw [hll.out]; exact hlt.out) (by rw [hzz.out.1, hzz.out.2]; exact hz)
        replace cH := Lib.hid cH
        replace hno := Lib.hid hno
        clear hz
        refine wpPlan_only rfl (by rfl) (fun K hK => ?_)
        go_simp
        refine cH.out.mono ?_
        rintro e x1 ⟨rfl, b⟩
        refine hK _ _ b ?_
        clear hK K
        replace hb := Lib.hid (below_trans2 hb.out b)
        clear b
        iterate 1
          refine wpPlan_float (v := ?_) rfl (by rfl) (fun w' hw' => ?_) (fun K hK => ?_)
          rotate_left
          · (go_simp; try with_reducible rfl)
          go_simp
          refine hK _ ?_
          clear hK K
        refine wpPlan_nil (NoPanic.normal ?_)
        go_wp2_with fail
        go_ret
        exact ⟨by rw [hno.out]; rfl, below_trans2 hbo.out hb.out⟩
    · have hlt' : ¬ (q : Int) + 1 < (m : Int) := by omega
      have hyes := pathB_yes (a := a) (l := l) (fun r h => hall.out r (by rw [hll.out] at h; omega) (by rw [← hll.out]; exact h))
      rw [hll.out] at hyes
      by_cases h2 : 2 ≤ m
      · have d2 : decide ((1 : Int) < (m : Int)) = true := decide_eq_true (by omega)
        have d3 : decide (1 < m) = true := decide_eq_true (by omega)
        rw [decide_eq_true h2] at hyes
        replace hyes := Lib.hid hyes
        clear hlt hLr h2
        go_wp2_with fail
        go_ret
        exact ⟨by rw [hyes.out]; rfl, below_trans2 hbo.out hb.out⟩
      · have d2 : decide ((1 : Int) < (m : Int)) = false := decide_eq_false (by omega)
        have d3 : decide (1 < m) = false := decide_eq_false (by omega)
        rw [decide_eq_false h2] at hyes
        replace hyes := Lib.hid hyes
        clear hlt hLr h2
        go_wp2_with fail
        go_ret
        exact ⟨by rw [hyes.out]; rfl, below_trans2 hbo.out hb.out⟩
end Go.Proofs.Ytfeomhoicnjgpaa

namespace Go.Proofs.Ytfeomhoicnjgpaa
open Go.RowKit
set_option linter.unusedVariables false
set_option maxHeartbeats 1000000 in
theorem law14_may (N : Int) (A : Option Addr) (n c : Nat) (xss : List (List Nat)) (w : World) (hr : RowsAt w A n xss) (hn : n ≤ 9223372036854775807) (hl : ∀ (k : Nat) (xs : List Nat), xss[k]? = some xs → xs.length ≤ 9223372036854775807) :
    Calls Try.prog 17 #[.agg #[.int .i64 N, .slice A n c]] w (RetB (smallM xss 16 && rightM N xss) w) := by
  have hlen := hr.len
  obtain ⟨W0, hW0⟩ : ∃ W0, W0 = w.alloc (.cells #[.int .i64 N, .slice A n c] 39) := ⟨_, rfl⟩
  have ha : Below w.heap.size w W0 := by rw [hW0]; exact below_alloc _ _
  have k1 := Lib.hid (show MatK W0 w.heap.size 39 N A n c xss by rw [hW0]; exact MatK.new w _ hr)
  have hS := Lib.hid (ref3_Small N A n c xss 16 W0 k1.out.2 hn hl (by omega))
  have bb := Lib.hid ha
  clear ha hr
  have qk10 := k1.out.1.c0
  have qk11 := k1.out.1.c1
  go_enter Try.func17, Try.ntmps17
  go_wp2_with fail
  rw [← hW0]
  clear hW0
  go_wp2_with fail
  refine hS.out.mono ?_; rintro e w1 ⟨rfl, b⟩
  replace k1 := Lib.hid (k1.out.below b)
  replace qk10 := k1.out.1.c0
  replace qk11 := k1.out.1.c1
  replace bb := Lib.hid (below_trans2 bb.out b)
  clear b
  clear hS
  cases hs : smallM xss 16 with
  | false =>
    replace hs := Lib.hid hs
    go_wp2_with fail
    go_ret
    rw [hs.out]
    exact ⟨rfl, bb.out⟩
  | true =>
    obtain ⟨s1, s2⟩ := smallM_len hs
    have hR := Lib.hid (ref3_Right N A n c xss w1 k1.out.2 (by omega) (fun k xs hx => by have := s2 xs (List.mem_of_getElem? hx); omega))
    clear s1 s2 hlen
    go_wp2_with fail
    refine hR.out.mono ?_; rintro e w2 ⟨rfl, b⟩
    replace k1 := Lib.hid (k1.out.below b)
    replace qk10 := k1.out.1.c0
    replace qk11 := k1.out.1.c1
    replace bb := Lib.hid (below_trans2 bb.out b)
    clear b
    clear hR
    replace hs := Lib.hid hs
    go_wp2_with fail
    go_ret
    rw [hs.out]
    exact ⟨rfl, bb.out⟩
theorem ints_is {A B : Option Addr} {n m c d c' d' : Nat} {s t : List Int} {w : World} (h1 : LAt encI w A n s) (h2 : LAt encI w B m t) (hn : n ≤ c) (hc : c ≤ 9223372036854775807) (hm : m ≤ d) (hd : d ≤ 9223372036854775807) :
    Calls Try.prog 14 #[.slice A n c', .slice B m d'] w (RetB (decide (s = t)) w) := by
  refine (ref2_IntsL A B n c' m d' s t w h1 h2 (by omega) (by omega)).mono ?_
  rintro e w' ⟨rfl, q, rfl⟩
  exact ⟨rfl, below_drewN (Below.refl _ _) q⟩
theorem awake14_of : ofN 3 [(0, 1), (1, 2), (2, 0)] = 3 ∧ ofM 3 [(0, 1), (1, 2), (2, 0)] = [[2], [4], [1]] ∧ ofE 3 [(0, 1), (1, 2), (2, 0)] = 0 := by decide
theorem awake14_right : rightM 3 [[2], [4], [1]] = true := by decide
theorem awake14_good : Good 3 [[2], [4], [1]] := by
  obtain ⟨n, h1, h2⟩ := Good.of awake14_right (by intro r hr; simp at hr; rcases hr with rfl | rfl | rfl <;> (intro x hx; simp at hx; omega))
  obtain rfl : n = 3 := by omega
  exact h2
theorem awake14_rel {i j : Nat} (h : Rel [[2], [4], [1]] i j) : (i = 0 ∧ j = 1) ∨ (i = 1 ∧ j = 2) ∨ (i = 2 ∧ j = 0) := by
  have hl := awake14_good.has_lt h
  have hd : ∀ i : Nat, i < 3 → ∀ j : Nat, j < 3 → hasM [[2], [4], [1]] (i : Int) (j : Int) = true → (i = 0 ∧ j = 1) ∨ (i = 1 ∧ j = 2) ∨ (i = 2 ∧ j = 0) := by decide
  exact hd i hl.1 j hl.2 h
theorem awake14_first : First (Rel [[2], [4], [1]]) 0 0 [1, 2, 0] := by
  refine ⟨⟨by unfold Rel; decide, by unfold Rel; decide, by unfold Rel; decide, rfl⟩, by simp, fun l' hw hne => ?_⟩
  match l', hw, hne with
  | [x], hw, _ =>
    have h1 := awake14_rel hw.1
    have h2 : x = 0 := hw.2
    omega
  | [x, y], hw, _ =>
    have h1 := awake14_rel hw.1
    have h2 := awake14_rel hw.2.1
    have h3 : y = 0 := hw.2.2
    omega
  | [x, y, z], hw, _ =>
    have h1 := awake14_rel hw.1
    have h2 := awake14_rel hw.2.1
    have h3 := awake14_rel hw.2.2.1
    refine .inr ⟨rfl, .inl ?_⟩
    have e1 : x = 1 := by omega
    have e2 : y = 2 := by omega
    have e3 : z = 0 := by omega
    rw [e1, e2, e3]
  | x :: y :: z :: u :: l', hw, _ => exact .inl (by simp only [List.length_cons, List.length_nil]; omega)
theorem awake14_round {l : List Int} {ok : Bool} (h : RoundIs (Rel [[2], [4], [1]]) 3 l ok) : l = [0, 1, 2, 0] ∧ ok = true :=
  h.unique (.inr ⟨rfl, 0, [1, 2, 0], by omega, awake14_first, rfl, fun y hy => by omega⟩)
theorem awake14_no {l : List Int} {ok : Bool} (h : PathIs (Rel [[2], [4], [1]]) 3 0 3 l ok) : ok = false := by
  rcases h with ⟨h, _⟩ | ⟨_, x, y, rest, h1, h2, h3, h4, _⟩
  · exact h
  · omega
theorem awake14_is : pathB [[2], [4], [1]] [0, 1, 2, 0] = true ∧ pathB [[2], [4], [1]] [0, 2] = false := by decide
set_option maxRecDepth 100000 in
set_option maxHeartbeats 2000000 in
theorem law14_awake (w : World) : Calls Try.prog 18 #[] w (RetBool true w) := by
  obtain ⟨W0, hW0⟩ : ∃ W0, W0 = w.alloc (.cells #[.int .i64 0, .int .i64 1, .int .i64 1, .int .i64 2, .int .i64 2, .int .i64 0] 75) := ⟨_, rfl⟩
  have bb := Lib.hid (show Below w.heap.size w W0 by rw [hW0]; exact below_alloc _ _)
  have hP : PairsAt W0 (some ⟨w.heap.size, 0, none⟩) 3 [(0, 1), (1, 2), (2, 0)] := by
    refine ⟨rfl, by simp, fun _ => ⟨_, _, rfl, by rw [hW0]; simp, fun j p hj => ?_⟩⟩
    have hB : Blk W0 w.heap.size 75 [.int .i64 0, .int .i64 1, .int .i64 1, .int .i64 2, .int .i64 2, .int .i64 0] := by rw [hW0]; exact Blk.new w _ _
    match j, hj with
    | 0, hj => simp at hj; subst hj; exact ⟨hB.cell 0, hB.cell 1⟩
    | 1, hj => simp at hj; subst hj; exact ⟨hB.cell 2, hB.cell 3⟩
    | 2, hj => simp at hj; subst hj; exact ⟨hB.cell 4, hB.cell 5⟩
    | j + 3, hj => simp at hj
  have hO := ref3_Of 3 _ 3 3 _ W0 hP (by omega)
  rw [awake14_of.1, awake14_of.2.1, awake14_of.2.2] at hO
  replace hO := Lib.hid hO
  clear hP
  have cR := Lib.hid (fun A c W hW => path_Round A 3 c [[2], [4], [1]] W hW awake14_good)
  have cF := Lib.hid (fun A c W hW => path_Find A 3 c [[2], [4], [1]] 0 3 W hW awake14_good)
  have cI := Lib.hid (fun A c D m d l W hW hL hm => path_Is A 3 c [[2], [4], [1]] D m d l W hW awake14_good hL hm)
  go_enter Try.func18, Try.ntmps18
  go_wp2_with fail
  rw [← hW0]
  clear hW0
  refine hO.out.mono ?_; rintro e w1 ⟨A1, n1, c1, rfl, r1, _, b⟩
  obtain rfl : n1 = 3 := by have := r1.len; simpa using this.symm
  clear hO
  obtain ⟨W1, hW1⟩ : ∃ W, W = w1.alloc (.cells #[.int .i64 3, .slice A1 3 c1] 39) := ⟨_, rfl⟩
  obtain ⟨G1, hG1⟩ : ∃ G, G = w1.heap.size := ⟨_, rfl⟩
  have ba : Below w1.heap.size w1 W1 := by rw [hW1]; exact below_alloc _ _
  have k1 := Lib.hid (show MatK W1 G1 39 3 A1 3 c1 [[2],[4],[1]] from ⟨by rw [hW1, hG1]; exact MatB.new _ _, r1.below ba⟩)
  replace b := below_trans2 b ba
  clear ba r1
  replace bb := Lib.hid (below_trans2 bb.out b)
  clear b
  go_wp2_with fail
  rw [← hW1, ← hG1]
  clear hW1 hG1
  have qk10 := k1.out.1.c0
  have qk11 := k1.out.1.c1
  refine (cR.out A1 c1 W1 k1.out.2).mono ?_; rintro e w2 ⟨D, m, d, l, ok, rfl, hL, hmd, hdm, hR, b⟩
  obtain ⟨rfl, rfl⟩ := awake14_round hR
  obtain rfl : m = 4 := hL.len.symm
  replace hL := Lib.hid hL
  clear hR
  replace k1 := Lib.hid (k1.out.below b)
  replace qk10 := k1.out.1.c0
  replace qk11 := k1.out.1.c1
  replace bb := Lib.hid (below_trans2 bb.out b)
  clear b
  go_wp2_with fail
  refine (cF.out A1 c1 w2 k1.out.2).mono ?_; rintro e w3 ⟨D2, m2, d2, l2, ok2, rfl, _, _, _, hP2, b⟩
  obtain rfl := awake14_no hP2
  replace hL := Lib.hid (hL.out.below b)
  clear hP2
  replace k1 := Lib.hid (k1.out.below b)
  replace qk10 := k1.out.1.c0
  replace qk11 := k1.out.1.c1
  replace bb := Lib.hid (below_trans2 bb.out b)
  clear b
  obtain ⟨V2, hV2⟩ : ∃ V, V = w3.alloc (.cells #[.int .i64 0, .int .i64 1, .int .i64 2, .int .i64 0] 3) := ⟨_, rfl⟩
  have bV : Below w3.heap.size w3 V2 := by rw [hV2]; exact below_alloc _ _
  have l2' := Lib.hid (show LAt encI V2 (some ⟨w3.heap.size, 0, none⟩) 4 [0, 1, 2, 0] from by rw [hV2]; exact LAt.of_blk (t := 3) (Blk.new w3 _ (encI.all [0, 1, 2, 0])) (fun x hx => by simp only [List.mem_cons, List.not_mem_nil, or_false] at hx; rcases hx with rfl | rfl | rfl | rfl <;> exact ⟨by decide, by decide⟩) rfl)
  replace hL := Lib.hid (hL.out.below bV)
  replace k1 := Lib.hid (k1.out.below bV)
  replace qk10 := k1.out.1.c0
  replace qk11 := k1.out.1.c1
  replace bb := Lib.hid (below_trans2 bb.out bV)
  clear bV
  have cE := Lib.hid (ints_is (c' := d) (d' := 4) hL.out l2'.out hmd hdm (Nat.le_refl 4) (by omega))
  rw [show decide (([0, 1, 2, 0] : List Int) = [0, 1, 2, 0]) = true from by decide] at cE
  go_wp2_with (rw [← hV2]; clear hV2)
  refine cE.out.mono ?_; rintro e w4 ⟨rfl, b⟩
  replace hL := Lib.hid (hL.out.below b)
  replace k1 := Lib.hid (k1.out.below b)
  replace qk10 := k1.out.1.c0
  replace qk11 := k1.out.1.c1
  replace bb := Lib.hid (below_trans2 bb.out b)
  clear b
  clear l2' cE
  have cI1 := cI.out A1 c1 D 4 d _ w4 k1.out.2 hL.out (by omega)
  rw [awake14_is.1] at cI1
  replace cI1 := Lib.hid cI1
  go_wp2_with fail
  refine cI1.out.mono ?_; rintro e w5 ⟨rfl, b⟩
  replace k1 := Lib.hid (k1.out.below b)
  replace qk10 := k1.out.1.c0
  replace qk11 := k1.out.1.c1
  replace bb := Lib.hid (below_trans2 bb.out b)
  clear b
  clear cI1
  have q50 := k1.out.1.c0
  have q51 := k1.out.1.c1
  obtain ⟨V4, hV4⟩ : ∃ V, V = w5.alloc (.cells #[.int .i64 0, .int .i64 2] 3) := ⟨_, rfl⟩
  have bV : Below w5.heap.size w5 V4 := by rw [hV4]; exact below_alloc _ _
  have l2' := (show LAt encI V4 (some ⟨w5.heap.size, 0, none⟩) 2 [0, 2] from by rw [hV4]; exact LAt.of_blk (t := 3) (Blk.new w5 _ (encI.all [0, 2])) (fun x hx => by simp only [List.mem_cons, List.not_mem_nil, or_false] at hx; rcases hx with rfl | rfl <;> exact ⟨by decide, by decide⟩) rfl)
  replace k1 := Lib.hid (k1.out.below bV)
  replace qk10 := k1.out.1.c0
  replace qk11 := k1.out.1.c1
  replace bb := Lib.hid (below_trans2 bb.out bV)
  clear bV
  have cI2 := cI.out A1 c1 (some ⟨w5.heap.size, 0, none⟩) 2 2 _ V4 k1.out.2 l2' (by omega)
  rw [awake14_is.2] at cI2
  replace cI2 := Lib.hid cI2
  clear l2'
  go_wp2_with (rw [← hV4]; clear hV4)
  refine cI2.out.mono ?_; rintro e w6 ⟨rfl, b⟩
  replace k1 := Lib.hid (k1.out.below b)
  replace qk10 := k1.out.1.c0
  replace qk11 := k1.out.1.c1
  replace bb := Lib.hid (below_trans2 bb.out b)
  clear b
  go_wp2_with fail
  go_ret
  exact ⟨rfl, bb.out⟩
end Go.Proofs.Ytfeomhoicnjgpaa

namespace Go.Proofs.Ytfeomhoicnjgpaa
set_option linter.unusedVariables false

theorem natI_getD {l : List Nat} {q : Nat} (hq : q < l.length) : (natI l).getD q 0 = ((l.getD q 0 : Nat) : Int) := by
  unfold natI
  rw [List.getD_eq_getElem?_getD, List.getElem?_map, List.getElem?_eq_getElem hq, List.getD_eq_getElem?_getD, List.getElem?_eq_getElem hq]; rfl
theorem Way.rel {r : Nat → Nat → Prop} : ∀ {i j : Nat} {l : List Nat}, Way r i j l → ∀ q, q < l.length → r ((i :: l).getD q 0) ((i :: l).getD (q + 1) 0)
  | i, j, [], h, q, hq => by simp at hq
  | i, j, k :: l, h, 0, hq => h.1
  | i, j, k :: l, h, q + 1, hq => Way.rel (l := l) h.2 q (by simpa using hq)
theorem way_end {r : Nat → Nat → Prop} : ∀ {i j : Nat} {l : List Nat}, Way r i j l → (i :: l).getD l.length 0 = j
  | i, j, [], h => h
  | i, j, k :: l, h => by
    have := way_end (l := l) h.2
    simpa using this
theorem First.pathB {a : List (List Nat)} {x y : Nat} {rest : List Nat} (h : First (Rel a) x y rest) : Go.Proofs.Ytfeomhoicnjgpaa.pathB a (natI (x :: rest)) = true := by
  have hl : 1 ≤ rest.length := by
    cases rest with
    | nil => exact absurd rfl h.ne
    | cons _ _ => simp
  rw [pathB_yes (fun q hq => ?_), decide_eq_true (by rw [natI_len, List.length_cons]; omega)]
  rw [natI_len, List.length_cons] at hq
  rw [natI_getD (by simp; omega), natI_getD (by simp; omega)]
  exact h.way.rel q (by omega)
theorem First.once {r : Nat → Nat → Prop} {x y p q : Nat} {rest : List Nat} (h : First r x y rest) (hpq : p < q) (hq : q < rest.length + 1) (he : (x :: rest).getD p 0 = (x :: rest).getD q 0) : p = 0 ∧ q = rest.length := by
  obtain ⟨q', rfl⟩ : ∃ q', q = q' + 1 := ⟨q - 1, by omega⟩
  have hq' : q' < rest.length := by omega
  have e2 : (x :: rest).getD (q' + 1) 0 = rest[q'] := by
    rw [List.getD_eq_getElem?_getD, List.getElem?_cons_succ, List.getElem?_eq_getElem hq']; rfl
  rw [e2] at he
  cases p with
  | zero =>
    have he : x = rest[q'] := he
    refine ⟨rfl, ?_⟩
    have hs : rest = rest.take q' ++ x :: rest.drop (q' + 1) := by
      rw [he, List.getElem_cons_drop, List.take_append_drop]
    rw [hs] at h
    have := congrArg List.length h.notMid
    simp at this
    omega
  | succ p' =>
    have hp' : p' < rest.length := by omega
    have e1 : (x :: rest).getD (p' + 1) 0 = rest[p'] := by
      rw [List.getD_eq_getElem?_getD, List.getElem?_cons_succ, List.getElem?_eq_getElem hp']; rfl
    rw [e1] at he
    exact absurd he (List.pairwise_iff_getElem.1 h.nodup p' q' hp' hq' (by omega))
/-- a path that is answered, by its numbers -/
structure PathL (a : List (List Nat)) (n x y : Nat) (l : List Int) (m : Nat) : Prop where
  len : l.length = m
  two : 2 ≤ m
  most : m ≤ n + 1
  is : Go.Proofs.Ytfeomhoicnjgpaa.pathB a l = true
  head : l[0]? = some (x : Int)
  last : l[m - 1]? = some (y : Int)
  once : ∀ p q : Nat, p < q → q < m → l.getD p 0 = l.getD q 0 → p = 0 ∧ q = m - 1
theorem First.list {a : List (List Nat)} {n x y : Nat} {rest : List Nat} (hr : ∀ i j, Rel a i j → i < n ∧ j < n) (h : First (Rel a) x y rest) : PathL a n x y (natI (x :: rest)) (rest.length + 1) := by
  have hl : 1 ≤ rest.length := by
    cases rest with
    | nil => exact absurd rfl h.ne
    | cons _ _ => simp
  refine ⟨by rw [natI_len]; rfl, by omega, by have := h.len hr; omega, h.pathB, rfl, ?_, fun p q h1 h2 he => ?_⟩
  · have h1 : (natI (x :: rest)).getD rest.length 0 = (y : Int) := by rw [natI_getD (by simp), way_end h.way]
    rw [List.getD_eq_getElem?_getD, List.getElem?_eq_getElem (by rw [natI_len]; simp)] at h1
    rw [show rest.length + 1 - 1 = rest.length by omega, List.getElem?_eq_getElem (by rw [natI_len]; simp)]
    exact congrArg some h1
  · rw [natI_getD (by simp; omega), natI_getD (by simp; omega)] at he
    have := h.once h1 h2 (by omega)
    omega
theorem PathIs.list {a : List (List Nat)} {n x y : Nat} {l : List Int} {ok : Bool} (hr : ∀ i j, Rel a i j → i < n ∧ j < n) (hx : x < n) (hy : y < n) (h : PathIs (Rel a) n (x : Int) (y : Int) l ok) :
    (ok = true ↔ Conn (Rel a) x y) ∧ (ok = false → l = []) ∧ (ok = true → PathL a n x y l l.length) := by
  rcases h with ⟨rfl, rfl, h1⟩ | ⟨rfl, x', y', rest, e1, e2, h1, h2, h3, rfl⟩
  · exact ⟨⟨fun h => (by cases h), fun h => absurd h (h1 x y rfl rfl hx hy)⟩, fun _ => rfl, fun h => (by cases h)⟩
  · have e1 : x' = x := by omega
    have e2 : y' = y := by omega
    subst e1; subst e2
    refine ⟨⟨fun _ => h3.way.conn h3.ne, fun _ => rfl⟩, fun h => (by cases h), fun _ => ?_⟩
    have := h3.list hr
    rw [natI_len]; exact this
end Go.Proofs.Ytfeomhoicnjgpaa

namespace Go.Proofs.Ytfeomhoicnjgpaa
open Go.RowKit
set_option linter.unusedVariables false

theorem info_bool : (Try.prog.info? 4).map (fun i => (i.zero, i.size, i.bytes)) = some (some (.bool false), 1, 1) := by kernel_rfl
theorem mk_bool (kl kc : IntKind) (n c : Nat) (hnc : n ≤ c) (hc : c ≤ 35184372088832) (W : World) :
    (Instr.makeSlice 106 (.int kl (n : Int)) (.int kc (c : Int))).run Try.prog W = .ok (.slice (some ⟨W.heap.size, 0, none⟩) n c) (W.alloc (.cells (zeros c (.bool false)) 4)) := by
  obtain ⟨i, hi, hz0, hz1, hz2⟩ := info_parts info_bool
  exact run_make_one _ _ i _ Try.underlying106 hi hz0 hz1 rfl kl kc n c hnc (by rw [hz2]; omega) (by omega) W
/-- what is known in the search: the queue, who was seen, the matrix -/
structure StR (w : World) (n : Nat) (A : Option Addr) (c : Nat) (v : Value) (bs : List Bool) (zs : List Nat) (wr : World) : Prop where
  q : QN wr (w.heap.size + 2) 3 v zs
  b : Blk wr (w.heap.size + 1) 4 (bs.map .bool)
  m : MatB wr w.heap.size 39 n A n c
  bel : Below w.heap.size w wr
  big : w.heap.size + 2 ≤ wr.heap.size
theorem StR.later {w : World} {n : Nat} {A : Option Addr} {c : Nat} {v : Value} {bs : List Bool} {zs : List Nat} {wr w' : World} (h : StR w n A c v bs zs wr) (hb : Below wr.heap.size wr w') : StR w n A c v bs zs w' :=
  ⟨h.q.below hb, h.b.below hb h.b.lt, h.m.below_ hb, below_trans2 h.bel hb, Nat.le_trans h.big hb.size⟩
def reachL (bs : List Bool) (k : Nat) : List Nat := (List.range k).filter fun x => bs[x]? == some true
theorem reachL_yes {bs : List Bool} {k : Nat} (h : bs[k]? = some true) : reachL bs (k + 1) = reachL bs k ++ [k] := by
  unfold reachL; rw [List.range_succ, List.filter_append]; simp [h]
theorem reachL_no {bs : List Bool} {k : Nat} (h : bs[k]? = some false) : reachL bs (k + 1) = reachL bs k := by
  unfold reachL; rw [List.range_succ, List.filter_append]; simp [h]
theorem reachL_len (bs : List Bool) (k : Nat) : (reachL bs k).length ≤ k := by
  have := List.length_filter_le (fun x => bs[x]? == some true) (List.range k)
  simpa [reachL] using this
theorem reachL_mem (bs : List Bool) (k x : Nat) : x ∈ reachL bs k ↔ x < k ∧ bs[x]? = some true := by
  unfold reachL; rw [List.mem_filter, List.mem_range, beq_iff_eq]
/-- a call that answers what is reached from i -/
def RetReach (n : Nat) (a : List (List Nat)) (i : Nat) (w : World) (e : Ending) (w' : World) : Prop :=
  ∃ (B : Option Addr) (m d : Nat) (l : List Nat), e = .returned (.slice B m d) ∧ Ints w' B m (l.map Int.ofNat) ∧ (∀ x : Nat, x ∈ l ↔ x < n ∧ Conn (Rel a) i x) ∧ l.length ≤ n ∧ (∀ ad, B = some ad → w.heap.size ≤ ad.block) ∧ Below w.heap.size w w'
set_option maxRecDepth 100000 in
set_option maxHeartbeats 4000000 in
theorem ref4_Reach (A : Option Addr) (n c : Nat) (a : List (List Nat)) (i : Nat) (w : World) (hr : RowsAt w A n a) (hG : Good n a) (hin : i < n) :
    Calls Try.prog 51 #[.agg #[.int .i64 (n : Int), .slice A n c], .int .i64 (i : Int)] w (RetReach n a i w) := by
  have hnn : n ≤ 4096 := hG.le
  obtain ⟨i0, hi, hz0, hz1, hz2⟩ := info_parts info_int
  replace hi := Lib.hid hi
  replace hz0 := Lib.hid hz0
  replace hz1 := Lib.hid hz1
  replace hz2 := Lib.hid hz2
  have hmk := mk_bool .i64 .i64 n n (Nat.le_refl _) (by omega)
  obtain ⟨W0, hW0⟩ : ∃ W0, W0 = w.alloc (.cells #[.int .i64 n, .slice A n c] 39) := ⟨_, rfl⟩
  obtain ⟨W1, hW1⟩ : ∃ W1, W1 = W0.alloc (.cells (zeros n (.bool false)) 4) := ⟨_, rfl⟩
  obtain ⟨W2, hW2⟩ : ∃ W2, W2 = W1.alloc (.cells #[.int .i64 (i : Int)] 3) := ⟨_, rfl⟩
  have b0 : Below w.heap.size w W0 := by rw [hW0]; exact below_alloc _ _
  have b1 : Below W0.heap.size W0 W1 := by rw [hW1]; exact below_alloc _ _
  have b2 : Below W1.heap.size W1 W2 := by rw [hW2]; exact below_alloc _ _
  have hs0 : W0.heap.size = w.heap.size + 1 := by rw [hW0]; simp
  have hs1 : W1.heap.size = w.heap.size + 2 := by rw [hW1]; simp [hs0]
  have hs2 : W2.heap.size = w.heap.size + 3 := by rw [hW2]; simp [hs1]
  have hB0 : MatB W0 w.heap.size 39 n A n c := by rw [hW0]; exact MatB.new w _
  have l0 := hB0.c0
  have hSt : Hid (StR w n A c (.slice (some ⟨w.heap.size + 2, 0, none⟩) 1 1) (List.replicate n false) [i] W2) := Lib.hid
    { q := ⟨w.heap.size + 2, 0, 1, #[.int .i64 (i : Int)], rfl, Nat.le_refl _, by rw [hW2, ← hs1]; exact heap_alloc_new _ _, Nat.le_refl _, by unfold maxLen; omega, by simp, fun j z hj => by
        match j, hj with
        | 0, hj => simp at hj; subst hj; rfl
        | j + 1, hj => simp at hj⟩
      b := by
        have h : Blk W1 (w.heap.size + 1) 4 ((List.replicate n false).map .bool) := by
          rw [hW1, ← hs0, List.map_replicate]
          exact Blk.new W0 _ _
        exact h.below b2 h.lt
      m := (hB0.below_ b1).below_ b2
      bel := below_trans2 (below_trans2 b0 b1) b2
      big := by omega }
  have hR : Hid (ReachI n a i (fun _ _ => False) (List.replicate n false) [i]) := Lib.hid (ReachI.start hin)
  have hU : Hid (unseen (List.replicate n false) + [i].length ≤ n + 1) := Lib.hid (by rw [unseen_all]; simp)
  have hH := Lib.hid (fun (x y : Nat) W (hW : RowsAt W A n a) => ref3_HasG A n c a hG (x : Int) (y : Int) W hW)
  have hn1 := Lib.hid (fun z bs zs => ReachI.next (n := n) (a := a) (i := i) (bs := bs) (zs := zs) (z := z) hG)
  replace hs0 := Lib.hid hs0
  replace hs1 := Lib.hid hs1
  replace hr := Lib.hid hr
  replace hG := Lib.hid hG
  clear b0 b1 b2 hB0 hs2
  have p1 : W0.heap.size = w.heap.size + 1 := hs0.out
  have p2 : W1.heap.size = w.heap.size + 2 := hs1.out
  go_enter Try.func51, Try.ntmps51
  go_wp2_with fail
  rw [← hW0]
  clear hW0
  go_wp2_with fail
  rw [← hW1, ← hW2]
  clear hW1 hW2 hmk l0 p1 p2
  go_loopw [7] (fun v wr => ∃ (bs : List Bool) (zs : List Nat), Hid (ReachI n a i (fun _ _ => False) bs zs) ∧ Hid (unseen bs + zs.length ≤ n + 1) ∧ Hid (StR w n A c v bs zs wr)) (fun v wr => unseenW wr (w.heap.size + 1) + qlen v)
  case atStart => exact ⟨_, _, hR, hU, hSt⟩
  case round =>
    clear hR hU hSt
    obtain ⟨bs, zs, hR, hU, hSt⟩ := hrel
    cases zs with
    | nil =>
      obtain ⟨g, off, cap, rfl⟩ := hSt.out.q.nil
      have hall := Lib.hid hR.out.all
      have hbl := Lib.hid hR.out.len
      have hB := Lib.hid hSt.out.b
      have hMm := Lib.hid hSt.out.m
      have hbel := Lib.hid hSt.out.bel
      have hbig := Lib.hid hSt.out.big
      clear hR hU hSt
      go_wp2_with fail
      go_loopw [5, 10] (fun l t wi => ∃ j : Nat, j ≤ n ∧ t = .int .i64 j ∧ Hid (wi.ownsRow (w.heap.size + 2) 3 1 l (reachL bs j).length ((reachL bs j).map natv)) ∧ Hid (Blk wi (w.heap.size + 1) 4 (bs.map .bool)) ∧ Hid (MatB wi w.heap.size 39 n A n c) ∧ Hid (Below w.heap.size w wi) ∧ Hid (w.heap.size + 2 ≤ wi.heap.size)) (fun _ t _ => n - (intOf t).toNat)
      case atStart => exact ⟨0, Nat.zero_le _, rfl, Lib.hid (World.ownsRow_nil _ _ _ _), hB, hMm, hbel, hbig⟩
      case round =>
        clear hB hMm hbel hbig
        obtain ⟨j, hj, rfl, hown, hB, hMm, hbel, hbig⟩ := hrel
        have l0 := hMm.out.c0
        by_cases hlt : j < n
        · obtain ⟨bj, hbj⟩ : ∃ b, bs[j]? = some b := ⟨_, List.getElem?_eq_getElem (by rw [hbl.out]; exact hlt)⟩
          have cb := Blk.cell hB.out j
          rw [List.getElem?_map, hbj, Option.map_some] at cb
          have hj0 : (0 : Int) ≤ (j : Int) := by omega
          have hjn : (j : Int) < (n : Int) := by omega
          have hrl := reachL_len bs j
          cases bj with
          | true =>
            have hy := Lib.hid (reachL_yes hbj)
            replace hbj := Lib.hid hbj
            go_wp2_with (at_builtin; refine wpList_append_lies _ rfl (.tmp 58) (.tmp 60) _ rfl (w.heap.size + 2) 3 i0 _ 1 8 Try.underlying23 hi.out hz0.out hz1.out hz2.out rfl (by omega) _ _ _ (by rfl) (hown.out.alloc _) ⟨wr.heap.size, 0, none⟩ 1 1 [.int .i64 (j : Int)] rfl rfl (cell_one_new _ _ _) (by simp [Value.oneCell']) (by omega) (by unfold maxLen; omega) (by omega) (by have := hbig.out; simp; omega) _ rfl ?_; intro g2 cap2 w1 hown1 hgrow hat hlt1)
            have hB1 := Lib.hid (Blk.grown (hB.out.alloc _) hgrow (fun e => by have := own_lt_block hown.out _ e.symm; omega))
            have hM1 := Lib.hid (Blk.grown (Blk.alloc hMm.out _) hgrow (fun e => by have := own_lt_block hown.out _ e.symm; omega))
            have hb1 := Lib.hid ((hbel.out.alloc hbel.out.size _).grown hgrow (by have := hbel.out.size; simp; omega) (fun k hk => by have := own_lt_block hown.out k hk; omega))
            have hg1 : Hid (w.heap.size + 2 ≤ w1.heap.size) := Lib.hid (by have := hgrow.size; have := hbig.out; simp at *; omega)
            clear hgrow hat hlt1 cb l0
            go_roundw
            case rel =>
              refine ⟨j + 1, by omega, by go_num, Lib.hid ?_, hB1, hM1, hb1, hg1⟩
              rw [hy.out, List.length_append, List.map_append]
              exact hown1
            case measure => simp [intOf]; omega
          | false =>
            have hy := Lib.hid (reachL_no hbj)
            replace hbj := Lib.hid hbj
            go_wp2_with fail
            go_roundw
            case rel => exact ⟨j + 1, by omega, by go_num, Lib.hid (by rw [hy.out]; exact hown.out), hB, hMm, hbel, hbig⟩
            case measure => simp [intOf]; omega
        · obtain rfl : j = n := by omega
          have hfr := Lib.hid (fun k hk => own_lt_block hown.out k hk)
          obtain ⟨A', c', rfl, hI⟩ := own_ints hown.out (fun x hx => by have := ((reachL_mem _ _ _).1 hx).1; omega)
          replace hI := Lib.hid hI
          clear hown
          go_wp2_with fail
          go_ret
          exact ⟨_, _, _, reachL bs j, rfl, hI.out, fun x => by
            rw [reachL_mem, hall.out], reachL_len _ _, fun ad e => by subst e; have := hfr.out ad.block rfl; omega, hbel.out⟩
    | cons z zs =>
      obtain ⟨g, off, cap, rfl, hcz, hcap, hq1, hq2⟩ := hSt.out.q.pop
      have hM : Hid (unseenW wr (w.heap.size + 1) = unseen bs) := Lib.hid (unseenW_blk hSt.out.b)
      have hz := Lib.hid (hR.out.todo z (List.mem_cons_self ..))
      have hRp := Lib.hid hR.out.pop
      have hzl : 0 < zs.length + 1 := by omega
      replace hq1 := Lib.hid hq1
      replace hq2 := Lib.hid hq2
      have hc1 : 1 ≤ cap := by omega
      clear hR
      go_wp2_with fail
      · have hS : Hid (StR w n A c (.slice (some ⟨g, off, none⟩) zs.length 0) bs zs wr) := Lib.hid { q := hq1.out (by first | rfl | assumption), b := hSt.out.b, m := hSt.out.m, bel := hSt.out.bel, big := hSt.out.big }
        clear hcz hSt hq1 hq2
        go_loopw [7, 9] (fun v t wi => ∃ (j : Nat) (bs' : List Bool) (zs' : List Nat), j ≤ n ∧ t = .int .i64 j ∧ Hid (ReachI n a i (fun x y => x = z ∧ j ≤ y) bs' zs') ∧ Hid (unseen bs' + zs'.length + 1 ≤ unseen bs + (zs.length + 1)) ∧ Hid (StR w n A c v bs' zs' wi)) (fun _ t _ => n - (intOf t).toNat)
        case atStart => exact ⟨0, bs, zs, Nat.zero_le _, rfl, hRp, Lib.hid (by omega), hS⟩
        case round =>
          obtain ⟨j, bs', zs', hj, rfl, hR', hU', hS'⟩ := hrel
          clear hS
          have l0 := hS'.out.m.c0
          have l1 := hS'.out.m.c1
          by_cases hlt : j < n
          · have hC := Lib.hid (hH.out z j wr (hr.out.below hS'.out.bel))
            go_wp2_with fail
            refine hC.out.mono ?_; rintro e w1 ⟨rfl, hb1⟩
            replace hS' := Lib.hid (hS'.out.later hb1)
            clear hb1 hC l0 l1
            cases hh : hasM a (z : Int) (j : Int) with
            | false =>
              have hR2 := Lib.hid (hR'.out.skip (.inl (by unfold Rel; rw [hh]; simp)))
              go_wp2_with fail
              go_roundw
              case rel => exact ⟨j + 1, bs', zs', by omega, by go_num, hR2, hU', hS'⟩
              case measure => simp [intOf]; omega
            | true =>
              have hbl : bs'.length = n := hR'.out.len
              obtain ⟨bj, hbj⟩ : ∃ b, bs'[j]? = some b := ⟨_, List.getElem?_eq_getElem (by omega)⟩
              have cb := Blk.cell hS'.out.b j
              rw [List.getElem?_map, hbj, Option.map_some] at cb
              have hj0 : (0 : Int) ≤ (j : Int) := by omega
              have hjn : (j : Int) < (n : Int) := by omega
              replace hbl := Lib.hid hbl
              cases bj with
              | true =>
                have hR2 := Lib.hid (hR'.out.skip (.inr hbj))
                replace hbj := Lib.hid hbj
                go_wp2_with fail
                go_roundw
                case rel => exact ⟨j + 1, bs', zs', by omega, by go_num, hR2, hU', hS'⟩
                case measure => simp [intOf]; omega
              | false =>
                have hR2 := Lib.hid (hR'.out.push hz.out.2 (by unfold Rel; exact hh) hlt)
                have hun := Lib.hid (unseen_set hbj)
                have fz := Blk.frozen hS'.out.b j
                have hzs : zs'.length ≤ 1073741824 := by have := hU'.out; have := hU.out; simp at this; omega
                have hqw := Lib.hid (hS'.out.q.far (p := ⟨w.heap.size + 1, j, none⟩) (fun e => by have := (hS'.out.q.lt _ e).1; simp at this) (.bool true))
                replace hbj := Lib.hid hbj
                go_wp2_with (at_builtin; refine wpList_append_q _ rfl (.tmp 44) (.tmp 46) _ rfl (w.heap.size + 2) 3 i0 _ Try.underlying23 hi.out hz0.out hz1.out hz2.out rfl (by rfl) (hqw.out.below (below_alloc _ _)) ⟨w1.heap.size, 0, none⟩ 1 j rfl (by have h := Blk.cell (Blk.new (w1.setCell ⟨w.heap.size + 1, j, none⟩ (.bool true)) 3 [.int .i64 (j : Int)]) 0; simpa using h) hzs (by have := hS'.out.big; simp; omega) ?_; intro v' w2 hq' hgrow)
                have hS2 : Hid (StR w n A c v' (bs'.set j true) (zs' ++ [j]) w2) := Lib.hid
                  { q := hq'
                    b := by
                      rw [List.map_set]
                      exact Blk.grown (((hS'.out.b.set_ j (.bool true))).alloc _) hgrow (fun e => by have := (hqw.out.lt _ e.symm).1; omega)
                    m := Blk.grown (((Blk.far hS'.out.m (p := ⟨w.heap.size + 1, j, none⟩) (by simp) (.bool true))).alloc _) hgrow (fun e => by have := (hqw.out.lt _ e.symm).1; omega)
                    bel := ((hS'.out.bel.setCell (p := ⟨w.heap.size + 1, j, none⟩) (by simp) (.bool true)).alloc (by have := hS'.out.big; simp; omega) _).grown hgrow (by have := hS'.out.big; simp; omega) (fun k hk => by have := (hqw.out.lt k hk).1; omega)
                    big := by have := hgrow.size; have := hS'.out.big; simp at *; omega }
                clear hq' hgrow hqw cb fz
                go_roundw
                case rel => exact ⟨j + 1, bs'.set j true, zs' ++ [j], by omega, by go_num, hR2, Lib.hid (by have := hun.out; have := hU'.out; simp; omega), hS2⟩
                case measure => simp [intOf]; omega
          · obtain rfl : j = n := by omega
            have hR2 := Lib.hid (hn1.out z bs' zs' hR'.out)
            have hU2 : Hid (unseen bs' + zs'.length ≤ j + 1) := Lib.hid (by have := hU'.out; have := hU.out; simp at this; omega)
            go_wp2_with fail
            go_roundw
            case rel => exact ⟨bs', zs', hR2, hU2, hS'⟩
            case measure =>
              have h1 := unseenW_blk hS'.out.b
              have h2 := hS'.out.q.qlen_
              have h3 := hU'.out
              rw [h1, h2, hM.out]
              simp only [qlen]
              omega
      · have hS : Hid (StR w n A c (.slice (some ⟨g, off + 1, none⟩) zs.length (cap - 1)) bs zs wr) := Lib.hid { q := hq2.out (by assumption), b := hSt.out.b, m := hSt.out.m, bel := hSt.out.bel, big := hSt.out.big }
        clear hcz hSt hq1 hq2
        go_loopw [7, 9] (fun v t wi => ∃ (j : Nat) (bs' : List Bool) (zs' : List Nat), j ≤ n ∧ t = .int .i64 j ∧ Hid (ReachI n a i (fun x y => x = z ∧ j ≤ y) bs' zs') ∧ Hid (unseen bs' + zs'.length + 1 ≤ unseen bs + (zs.length + 1)) ∧ Hid (StR w n A c v bs' zs' wi)) (fun _ t _ => n - (intOf t).toNat)
        case atStart => exact ⟨0, bs, zs, Nat.zero_le _, rfl, hRp, Lib.hid (by omega), hS⟩
        case round =>
          obtain ⟨j, bs', zs', hj, rfl, hR', hU', hS'⟩ := hrel
          clear hS
          have l0 := hS'.out.m.c0
          have l1 := hS'.out.m.c1
          by_cases hlt : j < n
          · have hC := Lib.hid (hH.out z j wr (hr.out.below hS'.out.bel))
            go_wp2_with fail
            refine hC.out.mono ?_; rintro e w1 ⟨rfl, hb1⟩
            replace hS' := Lib.hid (hS'.out.later hb1)
            clear hb1 hC l0 l1
            cases hh : hasM a (z : Int) (j : Int) with
            | false =>
              have hR2 := Lib.hid (hR'.out.skip (.inl (by unfold Rel; rw [hh]; simp)))
              go_wp2_with fail
              go_roundw
              case rel => exact ⟨j + 1, bs', zs', by omega, by go_num, hR2, hU', hS'⟩
              case measure => simp [intOf]; omega
            | true =>
              have hbl : bs'.length = n := hR'.out.len
              obtain ⟨bj, hbj⟩ : ∃ b, bs'[j]? = some b := ⟨_, List.getElem?_eq_getElem (by omega)⟩
              have cb := Blk.cell hS'.out.b j
              rw [List.getElem?_map, hbj, Option.map_some] at cb
              have hj0 : (0 : Int) ≤ (j : Int) := by omega
              have hjn : (j : Int) < (n : Int) := by omega
              replace hbl := Lib.hid hbl
              cases bj with
              | true =>
                have hR2 := Lib.hid (hR'.out.skip (.inr hbj))
                replace hbj := Lib.hid hbj
                go_wp2_with fail
                go_roundw
                case rel => exact ⟨j + 1, bs', zs', by omega, by go_num, hR2, hU', hS'⟩
                case measure => simp [intOf]; omega
              | false =>
                have hR2 := Lib.hid (hR'.out.push hz.out.2 (by unfold Rel; exact hh) hlt)
                have hun := Lib.hid (unseen_set hbj)
                have fz := Blk.frozen hS'.out.b j
                have hzs : zs'.length ≤ 1073741824 := by have := hU'.out; have := hU.out; simp at this; omega
                have hqw := Lib.hid (hS'.out.q.far (p := ⟨w.heap.size + 1, j, none⟩) (fun e => by have := (hS'.out.q.lt _ e).1; simp at this) (.bool true))
                replace hbj := Lib.hid hbj
                go_wp2_with (at_builtin; refine wpList_append_q _ rfl (.tmp 44) (.tmp 46) _ rfl (w.heap.size + 2) 3 i0 _ Try.underlying23 hi.out hz0.out hz1.out hz2.out rfl (by rfl) (hqw.out.below (below_alloc _ _)) ⟨w1.heap.size, 0, none⟩ 1 j rfl (by have h := Blk.cell (Blk.new (w1.setCell ⟨w.heap.size + 1, j, none⟩ (.bool true)) 3 [.int .i64 (j : Int)]) 0; simpa using h) hzs (by have := hS'.out.big; simp; omega) ?_; intro v' w2 hq' hgrow)
                have hS2 : Hid (StR w n A c v' (bs'.set j true) (zs' ++ [j]) w2) := Lib.hid
                  { q := hq'
                    b := by
                      rw [List.map_set]
                      exact Blk.grown (((hS'.out.b.set_ j (.bool true))).alloc _) hgrow (fun e => by have := (hqw.out.lt _ e.symm).1; omega)
                    m := Blk.grown (((Blk.far hS'.out.m (p := ⟨w.heap.size + 1, j, none⟩) (by simp) (.bool true))).alloc _) hgrow (fun e => by have := (hqw.out.lt _ e.symm).1; omega)
                    bel := ((hS'.out.bel.setCell (p := ⟨w.heap.size + 1, j, none⟩) (by simp) (.bool true)).alloc (by have := hS'.out.big; simp; omega) _).grown hgrow (by have := hS'.out.big; simp; omega) (fun k hk => by have := (hqw.out.lt k hk).1; omega)
                    big := by have := hgrow.size; have := hS'.out.big; simp at *; omega }
                clear hq' hgrow hqw cb fz
                go_roundw
                case rel => exact ⟨j + 1, bs'.set j true, zs' ++ [j], by omega, by go_num, hR2, Lib.hid (by have := hun.out; have := hU'.out; simp; omega), hS2⟩
                case measure => simp [intOf]; omega
          · obtain rfl : j = n := by omega
            have hR2 := Lib.hid (hn1.out z bs' zs' hR'.out)
            have hU2 : Hid (unseen bs' + zs'.length ≤ j + 1) := Lib.hid (by have := hU'.out; have := hU.out; simp at this; omega)
            go_wp2_with fail
            go_roundw
            case rel => exact ⟨bs', zs', hR2, hU2, hS'⟩
            case measure =>
              have h1 := unseenW_blk hS'.out.b
              have h2 := hS'.out.q.qlen_
              have h3 := hU'.out
              rw [h1, h2, hM.out]
              simp only [qlen]
              omega

end Go.Proofs.Ytfeomhoicnjgpaa

namespace Go.Proofs.Ytfeomhoicnjgpaa
open Go.RowKit
set_option linter.unusedVariables false

theorem RowsAt.farK {w : World} {C : Option Addr} {p g : Nat} {t : TypeId} {xss : List (List Nat)} {N : Int} {A : Option Addr} {n c : Nat} {yss : List (List Nat)} (h : RowsAt w C p xss) (hM : MatK w g t N A n c yss) (hn : 0 < n) : 0 < p → ∀ ad, C = some ad → ad.block ≠ g := by
  intro h0 ad e
  obtain ⟨b, off, B, m, d, xs, e2, _, hx, hc, hr⟩ := h.at_ h0
  rw [e] at e2
  cases e2
  intro hb
  have hb' : b = g := hb
  subst hb'
  rw [Blk.cell hM.1] at hc
  match off + 0, hc with
  | 0, hc => simp at hc
  | 1, hc =>
    simp at hc
    obtain ⟨rfl, rfl, rfl⟩ := hc
    obtain ⟨b3, o3, x, e3, _, _, _, h3⟩ := hr.at_ hn
    obtain ⟨b4, o4, B4, m4, d4, xs4, e4, _, _, h4, _⟩ := hM.2.at_ hn
    rw [e3] at e4
    cases e4
    rw [h3] at h4
    cases h4
  | k + 2, hc => simp at hc
theorem MatK.put2 {w : World} {g : Nat} {t : TypeId} {N : Int} {A : Option Addr} {n c : Nat} (h : MatB w g t N A n c) {G : Nat} {t' : TypeId} {M : Int} {B : Option Addr} {m d : Nat} {yss : List (List Nat)} (k : MatK w G t' M B m d yss) (hne : G ≠ g) (hb : 0 < m → ∀ ad, B = some ad → ad.block ≠ g) (x y : Value) : MatK ((w.setCell ⟨g, 0, none⟩ x).setCell ⟨g, 1, none⟩ y) G t' M B m d yss :=
  ⟨(k.1.farB (p := ⟨g, 0, none⟩) (by simpa using hne) _).farB (p := ⟨g, 1, none⟩) (by simpa using hne) _, k.2.putB h hb _ _⟩
theorem Ints.setCell {w : World} {A : Option Addr} {n : Nat} {zs : List Int} {p : Addr} (h : Ints w A n zs) (hne : ∀ ad, A = some ad → ad.block ≠ p.block) (u : Value) : Ints (w.setCell p u) A n zs := ⟨h.1.setCell hne u, h.2⟩
theorem Conn.lt {n : Nat} {a : List (List Nat)} (hG : Good n a) {i j : Nat} (h : Conn (Rel a) i j) : i < n ∧ j < n := by
  induction h with
  | one h => exact hG.has_lt h
  | step _ h ih => exact ⟨ih.1, (hG.has_lt h).2⟩
/-- what is laid so far: the rows ahead of i, and some of row i -/
def CloseR (n : Nat) (a : List (List Nat)) (i : Nat) (l : List Nat) (X : List (List Nat)) : Prop := Good n X ∧ ∀ x y : Nat, Rel X x y ↔ (x < i ∧ Conn (Rel a) x y) ∨ (x = i ∧ y ∈ l)
section
variable {n : Nat} {a X : List (List Nat)} {i : Nat} {l : List Nat}
theorem CloseR.start (hn : n ≤ 4096) : CloseR n a 0 [] (newM n) := ⟨Good.new hn, fun x y => by
  unfold Rel
  rw [newM_has]
  constructor
  · intro h; cases h
  · rintro (⟨h, _⟩ | ⟨_, h⟩)
    · omega
    · cases h⟩
theorem CloseR.set (h : CloseR n a i l X) {y : Nat} (hi : i < n) (hy : y < n) : CloseR n a i (l ++ [y]) (setM X (i : Int) (y : Int)) := ⟨h.1.set hi hy, fun u v => by
  rw [rel_set h.1 hi hy, h.2]
  simp only [List.mem_append, List.mem_singleton]
  constructor
  · rintro ((h1 | ⟨h1, h2⟩) | ⟨h1, h2⟩)
    · exact .inl h1
    · exact .inr ⟨h1, .inl h2⟩
    · exact .inr ⟨h1, .inr h2⟩
  · rintro (h1 | ⟨h1, h2 | h2⟩)
    · exact .inl (.inl h1)
    · exact .inl (.inr ⟨h1, h2⟩)
    · exact .inr ⟨h1, h2⟩⟩
theorem CloseR.next (h : CloseR n a i l X) (hG : Good n a) (hl : ∀ x : Nat, x ∈ l ↔ x < n ∧ Conn (Rel a) i x) : CloseR n a (i + 1) [] X := ⟨h.1, fun u v => by
  rw [h.2, hl]
  constructor
  · rintro (⟨h1, h2⟩ | ⟨rfl, _, h2⟩)
    · exact .inl ⟨by omega, h2⟩
    · exact .inl ⟨by omega, h2⟩
  · rintro (⟨h1, h2⟩ | ⟨_, h2⟩)
    · rcases Nat.lt_succ_iff_lt_or_eq.1 h1 with h3 | h3
      · exact .inl ⟨h3, h2⟩
      · subst h3
        exact .inr ⟨rfl, (Conn.lt hG h2).2, h2⟩
    · cases h2⟩
theorem CloseR.all (h : CloseR n a n [] X) (hG : Good n a) : X = closeK a n :=
  IsHull.unique (r := Rel a) ⟨h.1, fun u v => by
    rw [h.2]
    constructor
    · rintro (⟨_, h2⟩ | ⟨_, h2⟩)
      · exact h2
      · cases h2
    · intro h2
      exact .inl ⟨(Conn.lt hG h2).1, h2⟩⟩ (closeK_hull hG) fun _ _ => Iff.rfl
end
/-- a matrix all of whose blocks are the call's own -/
def RetMat1G (N : Int) (xss : List (List Nat)) (w : World) (e : Ending) (w' : World) : Prop :=
  ∃ A n c, e = .returned (.agg #[.int .i64 N, .slice A n c]) ∧ RowsG w.heap.size w' A n xss ∧ n ≤ c ∧ Below w.heap.size w w'
set_option maxRecDepth 100000 in
set_option maxHeartbeats 4000000 in
theorem ref4_CloseG (A : Option Addr) (n c : Nat) (a : List (List Nat)) (w : World) (hr : RowsAt w A n a) (hG : Good n a) (hn64 : n < 64) :
    Calls Try.prog 26 #[.agg #[.int .i64 (n : Int), .slice A n c]] w (RetMat1G (n : Int) (closeK a n) w) := by
  have hnn : n ≤ 4096 := hG.le
  obtain ⟨W0, hW0⟩ : ∃ W0, W0 = (w.alloc (.cells #[.int .i64 n, .slice A n c] 39)).alloc (.cells #[.int .i64 0, .slice none 0 0] 39) := ⟨_, rfl⟩
  have bb := Lib.hid (show Below w.heap.size w W0 by rw [hW0]; exact ((Below.refl _ _).alloc (Nat.le_refl _) _).alloc (by simp) _)
  have k1 := Lib.hid (show MatK W0 w.heap.size 39 n A n c a by rw [hW0]; exact (MatK.new w _ hr).below (below_alloc _ _))
  have m2 := Lib.hid (show MatB W0 (w.heap.size + 1) 39 0 none 0 0 by rw [hW0]; exact MatB.new1 w _ _)
  have cN := Lib.hid (fun W => ref3_NewG n hnn W)
  have cR := Lib.hid (fun (i : Nat) (hi : i < n) W (hW : RowsAt W A n a) => ref4_Reach A n c a i W hW hG hi)
  have cS := Lib.hid (fun (i y : Nat) (hi : i < n) (hy : y < n) C d X (hX : Good n X) W (hW : RowsG w.heap.size W C n X) (hs : w.heap.size ≤ W.heap.size) => ref3_SetG w.heap.size (n : Int) C n d X (i : Int) (y : Int) W hW hs rfl hnn (fun xs hx => by have := hX.small xs hx; omega) (by unfold inM; simp; omega))
  replace hG := Lib.hid hG
  clear hr
  have qk10 := k1.out.1.c0
  have qk11 := k1.out.1.c1
  go_enter Try.func26, Try.ntmps26
  go_wp2_with fail
  rw [← hW0]
  clear hW0
  go_wp2_with fail
  refine (cN.out W0).mono ?_; rintro e w1 ⟨A3, n3, c3, rfl, s3, hc3, b, -⟩
  have r3 := s3.at
  obtain rfl : n = n3 := by have := r3.len; simp [newM] at this; omega
  replace s3 := s3.mono (show w.heap.size ≤ W0.heap.size from bb.out.size)
  replace m2 := Lib.hid (m2.out.below b)
  obtain ⟨W1, hW1⟩ : ∃ W1, W1 = w1.alloc (.cells #[.int .i64 n, .slice A3 n c3] 39) := ⟨_, rfl⟩
  obtain ⟨G3, hG3⟩ : ∃ G, G = w1.heap.size := ⟨_, rfl⟩
  have ba : Below w1.heap.size w1 W1 := by rw [hW1]; exact below_alloc _ _
  have k3 := Lib.hid (show MatK W1 G3 39 n A3 n c3 (newM n) from ⟨by rw [hW1, hG3]; exact MatB.new _ _, r3.below ba⟩)
  replace s3 := Lib.hid (s3.below ba)
  have hlt := m2.out.lt
  have h23 : w.heap.size + 1 < G3 := by omega
  replace m2 := Lib.hid (m2.out.below ba)
  replace b := below_trans2 b ba
  replace k1 := Lib.hid (k1.out.below b)
  replace qk10 := k1.out.1.c0
  replace qk11 := k1.out.1.c1
  replace bb := Lib.hid (below_trans2 bb.out b)
  clear b
  rw [hW1] at qk10 qk11
  clear ba r3 hlt
  go_wp2_with fail
  rw [← hW1, ← hG3]
  clear hW1 hG3 qk10 qk11
  go_loopw [5] (fun t wr => ∃ (i : Nat) (A3 : Option Addr) (c3 : Nat) (X : List (List Nat)), i ≤ n ∧ t = .int .i64 i ∧ Hid (CloseR n a i [] X) ∧ Hid (n ≤ c3) ∧ Hid (MatK wr w.heap.size 39 n A n c a) ∧ Hid (MatB wr (w.heap.size + 1) 39 0 none 0 0) ∧ Hid (MatK wr G3 39 n A3 n c3 X) ∧ Hid (RowsG w.heap.size wr A3 n X) ∧ Hid (Below w.heap.size w wr)) (fun t _ => n - (intOf t).toNat)
  case atStart => exact ⟨0, A3, c3, newM n, Nat.zero_le _, rfl, Lib.hid (CloseR.start hnn), Lib.hid hc3, k1, m2, k3, s3, bb⟩
  case round =>
    clear k1 m2 k3 s3 bb
    obtain ⟨i, A3, c3, X, hi, rfl, hX, hc3', k1, m2, k3, s3, bb⟩ := hrel
    have qk10 := k1.out.1.c0
    have qk11 := k1.out.1.c1
    by_cases hlt : i < n
    · have cRi := Lib.hid (cR.out i hlt wr k1.out.2)
      go_wp2_with fail
      refine cRi.out.mono ?_; rintro e w2 ⟨B, m, d, l, rfl, hl, hmem, hll, hfr, b⟩
      have hlm : l.length = m := by have := hl.len; simpa using this
      have h3 : G3 < wr.heap.size := k3.out.1.lt
      have hfr3 : Hid (∀ ad, B = some ad → ad.block ≠ G3) := Lib.hid (fun ad e => by have := hfr ad e; omega)
      replace m2 := Lib.hid (m2.out.below b)
      replace s3 := Lib.hid (s3.out.below b)
      replace k1 := Lib.hid (k1.out.below b)
      replace qk10 := k1.out.1.c0
      replace qk11 := k1.out.1.c1
      replace k3 := Lib.hid (k3.out.below b)
      replace qk30 := k3.out.1.c0
      replace qk31 := k3.out.1.c1
      replace bb := Lib.hid (below_trans2 bb.out b)
      clear b
      replace hl := Lib.hid hl
      replace hmem := Lib.hid hmem
      have hm64 : m ≤ 64 := by omega
      replace hlm := Lib.hid hlm
      clear cRi hfr h3 hll
      go_wp2_with fail
      clear qk10 qk11 qk30 qk31
      go_loopw [7] (fun t wr => ∃ (k : Nat) (A3 : Option Addr) (c3 : Nat) (X : List (List Nat)), k ≤ m ∧ t = .int .i64 k ∧ Hid (CloseR n a i (l.take k) X) ∧ Hid (n ≤ c3) ∧ Hid (MatK wr w.heap.size 39 n A n c a) ∧ Hid (MatB wr (w.heap.size + 1) 39 0 none 0 0) ∧ Hid (MatK wr G3 39 n A3 n c3 X) ∧ Hid (RowsG w.heap.size wr A3 n X) ∧ Hid (Below w.heap.size w wr) ∧ Hid (Ints wr B m (l.map Int.ofNat))) (fun t _ => m - (intOf t).toNat)
      case atStart => exact ⟨0, A3, c3, X, Nat.zero_le _, rfl, hX, hc3', k1, m2, k3, s3, bb, hl⟩
      case round =>
        clear hX hc3' k1 m2 k3 s3 bb hl
        obtain ⟨k, A3, c3, X, hk, rfl, hX, hc3', k1, m2, k3, s3, bb, hl⟩ := hrel
        by_cases hkm : k < m
        · obtain ⟨b4, o4, x, rfl, hb4, hx, hx64, c4⟩ := hl.out.at_ hkm
          obtain ⟨y, hy, rfl⟩ : ∃ y : Nat, l[k]? = some y ∧ (y : Int) = x := by
            rw [List.getElem?_map] at hx
            cases hh : l[k]? with
            | none => rw [hh] at hx; cases hx
            | some y => rw [hh] at hx; exact ⟨y, rfl, by simpa using hx⟩
          have hyn : y < n := ((hmem.out y).1 (List.mem_of_getElem? hy)).1
          have cSk := Lib.hid (cS.out i y hlt hyn A3 c3 X hX.out.1)
          have hX2 := Lib.hid (hX.out.set hlt hyn)
          rw [show l.take k ++ [y] = l.take (k + 1) by rw [List.take_succ_eq_append_getElem (List.getElem?_eq_some_iff.1 hy).1, (List.getElem?_eq_some_iff.1 hy).2]] at hX2
          have hk0 : (0 : Int) ≤ (k : Int) := by omega
          have hkm' : (k : Int) < (m : Int) := by omega
          clear hx hx64 hy
          have qk30 := k3.out.1.c0
          have qk31 := k3.out.1.c1
          go_wp2_with fail
          refine wp_region_planT 8 [(true, 0), (true, 1), (true, 2), (true, 3), (true, 4), (true, 5), (false, 6), (true, 7)] 10 [8, 9] (by kernel_rfl) (by kernel_rfl) (fun W1 hW1 => ?_)
          replace k1 := Lib.hid (show MatK W1 w.heap.size 39 n A n c a by rw [hW1.out]; exact k1.out.drew)
          replace s3 := Lib.hid (show RowsG w.heap.size W1 A3 n X by rw [hW1.out]; exact s3.out.below (Below.refl _ _).drew)
          replace k3 := Lib.hid (show MatK W1 G3 39 n A3 n c3 X by rw [hW1.out]; exact k3.out.drew)
          replace m2 := Lib.hid (show MatB W1 (w.heap.size + 1) 39 0 none 0 0 by rw [hW1.out]; exact Blk.drew m2.out)
          replace bb := Lib.hid (show Below w.heap.size w W1 by rw [hW1.out]; exact bb.out.drew)
          replace hl := Lib.hid (show Ints W1 (some ⟨b4, o4, none⟩) m (l.map Int.ofNat) by rw [hW1.out]; exact hl.out)
          replace c4 : W1.cell? ⟨b4, o4 + k, none⟩ = some (.int .i64 (y : Int)) := by rw [hW1.out]; exact c4
          clear hW1 qk30 qk31
          simp only [List.drop_succ_cons, List.drop_zero]
          have qk30 := k3.out.1.c0
          have qk31 := k3.out.1.c1
          iterate 6
            refine wpPlanE_float (v := ?_) rfl (by rfl) (fun w' hw' => ?_) (fun K hK => ?_)
            rotate_left
            · (go_simp; try with_reducible rfl)
            go_simp
            refine hK _ ?_
            clear hK K
          clear c4 qk30 qk31
          refine wpPlanE_only rfl (by rfl) (fun K hK => ?_)
          go_simp
          refine (cSk.out W1 s3.out bb.out.size).mono ?_
          rintro e w3 ⟨D, nn, dd, rfl, sD, hcD, b, -⟩
          have rD := sD.at
          obtain rfl : n = nn := by have := rD.len; have := hX2.out.1.len; omega
          refine hK _ _ b ?_
          clear hK K cSk
          replace m2 := Lib.hid (m2.out.below b)
          replace hl := Lib.hid (hl.out.below b)
          replace k1 := Lib.hid (k1.out.below b)
          replace k3 := Lib.hid (k3.out.below b)
          replace bb := Lib.hid (below_trans2 bb.out b)
          replace rD := Lib.hid rD
          replace sD := Lib.hid sD
          clear s3
          replace hcD := Lib.hid hcD
          clear b
          iterate 1
            refine wpPlanE_float (v := ?_) rfl (by rfl) (fun w' hw' => ?_) (fun K hK => ?_)
            rotate_left
            · (go_simp; try with_reducible rfl)
            go_simp
            refine hK _ ?_
            clear hK K
          refine wpPlanE_nil ?_
          iterate 2
            refine wpPlanT_float (v := ?_) rfl (by rfl) (fun w' => ?_) (fun K hK => ?_)
            rotate_left
            · (go_simp; try with_reducible rfl)
            go_simp
            refine hK _ ?_
            clear hK K
          refine wpPlanT_nil ?_
          have qk30 := k3.out.1.c0
          have qk31 := k3.out.1.c1
          have f0 := k3.out.1.frozen 0
          have f1 := k3.out.1.frozen 1
          go_wp2_with fail
          refine NoPanic.normal ?_
          clear f0 f1 qk30 qk31
          obtain ⟨Wz, hWz⟩ : ∃ X : World, X = (w3.setCell ⟨G3, 0, none⟩ (.int .i64 n)).setCell ⟨G3, 1, none⟩ (.slice D n dd) := ⟨_, rfl⟩
          rw [← hWz]
          have hn0 : 0 < n := by omega
          have k3' := Lib.hid (show MatK Wz G3 39 n D n dd (setM X (i : Int) (y : Int)) by rw [hWz]; exact ⟨k3.out.1.put n D n dd, rD.out.putB k3.out.1 (rD.out.farK k3.out hn0) _ _⟩)
          have s3' := Lib.hid (show RowsG w.heap.size Wz D n (setM X (i : Int) (y : Int)) by rw [hWz]; exact sD.out.putB k3.out.1 (rD.out.farK k3.out hn0) _ _)
          have k1' := Lib.hid (show MatK Wz w.heap.size 39 n A n c a by rw [hWz]; exact MatK.put2 k3.out.1 k1.out (by omega) (k1.out.2.farK k3.out hn0) _ _)
          have m2' := Lib.hid (show MatB Wz (w.heap.size + 1) 39 0 none 0 0 by rw [hWz]; exact (m2.out.farB (p := ⟨G3, 0, none⟩) (by simp <;> omega) _).farB (p := ⟨G3, 1, none⟩) (by simp <;> omega) _)
          have hl' := Lib.hid (show Ints Wz (some ⟨b4, o4, none⟩) m (l.map Int.ofNat) by rw [hWz]; exact (hl.out.setCell (p := ⟨G3, 0, none⟩) (fun ad e => hfr3.out ad e) _).setCell (p := ⟨G3, 1, none⟩) (fun ad e => hfr3.out ad e) _)
          replace bb := Lib.hid (show Below w.heap.size w Wz by rw [hWz]; exact (bb.out.setCell (p := ⟨G3, 0, none⟩) (by simp <;> omega) _).setCell (p := ⟨G3, 1, none⟩) (by simp <;> omega) _)
          clear hWz k1 k3 m2 hl rD sD
          go_wp2_with fail
          go_roundw
          case rel => exact ⟨k + 1, D, dd, _, by omega, by go_num, hX2, hcD, k1', m2', k3', s3', bb, hl'⟩
          case measure => simp [intOf]; omega
        · obtain rfl : k = m := by omega
          rw [List.take_of_length_le (by rw [hlm.out]; exact Nat.le_refl _)] at hX
          have hX2 := Lib.hid (hX.out.next hG.out hmem.out)
          clear hl
          go_wp2_with fail
          go_roundw
          case rel => exact ⟨i + 1, A3, c3, X, by omega, by go_num, hX2, hc3', k1, m2, k3, s3, bb⟩
          case measure => simp [intOf]; omega
    · obtain rfl : i = n := by omega
      have he := hX.out.all hG.out
      have hone := hX.out.1.one hn64
      replace he := Lib.hid he
      replace hone := Lib.hid hone
      have qk30 := k3.out.1.c0
      have qk31 := k3.out.1.c1
      have f0 := m2.out.c0
      have f1 := m2.out.c1
      have g0 := m2.out.frozen 0
      have g1 := m2.out.frozen 1
      clear hX
      go_wp2_with fail
      have hcc := m2.out.two (.int .i64 i) (.slice A3 i c3)
      have hc1 := hcc.1
      have hc2 := hcc.2
      clear hcc f0 f1 g0 g1
      refine bodyPost_ret (v := .agg #[.int .i64 i, .slice A3 i c3]) (by simp [results, Try.results26, go_sem, hc1, hc2]) rfl ⟨_, _, _, rfl, ?_, hc3'.out, ?_⟩
      · rw [← he.out]
        exact s3.out.putB m2.out (k3.out.2.farM m2.out hone.out) _ _
      · exact (bb.out.setCell (p := ⟨w.heap.size + 1, 0, none⟩) (by simp) _).setCell (p := ⟨w.heap.size + 1, 1, none⟩) (by simp) _
theorem ref4_Close (A : Option Addr) (n c : Nat) (a : List (List Nat)) (w : World) (hr : RowsAt w A n a) (hG : Good n a) (hn64 : n < 64) :
    Calls Try.prog 26 #[.agg #[.int .i64 (n : Int), .slice A n c]] w (RetMat1 (n : Int) (closeK a n) w) :=
  (ref4_CloseG A n c a w hr hG hn64).mono fun _ _ ⟨A', n', c', h1, h2, h3, h4⟩ => ⟨A', n', c', h1, h2.at, h3, h4⟩

end Go.Proofs.Ytfeomhoicnjgpaa
