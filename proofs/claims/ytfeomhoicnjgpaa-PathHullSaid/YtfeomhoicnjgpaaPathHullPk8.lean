/- Layer 14's law PathHull, walked. Arguments opened: a slice of pairs ('[][2]int'), and the rows of a matrix. An argument opened: a matrix, with its capacity. Arguments opened: a matrix by its cells, inside a struct. Arguments opened: a history (a slice of slices of operations), and what the bound of an '..Upto' statement says of it. Arguments opened: slices of anything that has an encoding; facts. An argument opened: a struct of a matrix, a number, a history, numbers, a number. -/
import Derived.Test.YtfeomhoicnjgpaaPathHullPk7
import Derived.Test.YtfeomhoicnjgpaaPathHullPk2
import Derived.Test.YtfeomhoicnjgpaaPathHullPk1
import Derived.Deep.Slices
import Derived.Deep.Matrix
import Derived.OpenShut
import Derived.ChangeArms
import Derived.Lib.SmallJoins
import Derived.Test.YtfeomhoicnjgpaaRows
import Derived.Test.YtfeomhoicnjgpaaPathHullPk5
import Derived.WalkKit
import Derived.ProofKit
namespace Go.Proofs.Ytfeomhoicnjgpaa
open Go.RowKit
set_option linter.unusedVariables false
theorem tmod_small14 (x n : Nat) (h : x < 256) : (IntKind.i64.wrap (x : Int)).tmod (n : Int) = ((x % n : Nat) : Int) := by
  rw [show IntKind.i64.wrap (x : Int) = (x : Int) from by rw [IntKind.wrap_i64]; omega]
  exact (Int.ofNat_tmod x n).symm
theorem wrap_sm14 {z : Int} (h0 : -9223372036854775808 ≤ z) (h1 : z < 9223372036854775808) : wrap64 z = z := by unfold wrap64; omega
set_option maxRecDepth 100000 in
set_option maxHeartbeats 4000000 in
theorem law14_PathHull (N : Int) (A : Option Addr) (n c : Nat) (a : List (List Nat)) (ia ja : Int) (w : World)
    (hr : RowsAt w A n a) (hn : n ≤ 9223372036854775807) (hl : ∀ (k : Nat) (xs : List Nat), a[k]? = some xs → xs.length ≤ 9223372036854775807) (hw64 : ∀ r ∈ a, ∀ x ∈ r, x < 18446744073709551616) (i0 : 0 ≤ ia) (i1 : ia < 256) (j0 : 0 ≤ ja) (j1 : ja < 256) :
    Calls Try.prog 5 #[.agg #[.int .i64 N, .slice A n c], .int .u8 ia, .int .u8 ja] w (RetBool true w) := by
  obtain ⟨xN, rfl⟩ := Int.eq_ofNat_of_zero_le i0
  obtain ⟨yN, rfl⟩ := Int.eq_ofNat_of_zero_le j0
  have hM0 := Lib.hid (MatK.new (N := N) (c := c) w 39 hr)
  obtain ⟨g, hg⟩ : ∃ g, g = w.heap.size := ⟨_, rfl⟩
  obtain ⟨W0, hW0⟩ : ∃ W, W = w.alloc (.cells #[.int .i64 N, .slice A n c] 39) := ⟨_, rfl⟩
  rw [← hW0, ← hg] at hM0
  have bo := Lib.hid (show Below w.heap.size w W0 from by rw [hW0]; exact below_alloc _ _)
  have hla := hr.len
  have cS := Lib.hid (law14_may N A n c a W0 hM0.out.2 hn hl)
  replace hl := Lib.hid hl
  replace hw64 := Lib.hid hw64
  have m0 := hM0.out.1.c0
  have m1 := hM0.out.1.c1
  clear hr
  go_enter Try.func5, Try.ntmps5
  go_wp2_with (rw [← hW0, ← hg]; clear hW0; replace hg := Lib.hid hg)
  refine cS.out.mono ?_; rintro e w1 ⟨rfl, b⟩
  replace hM0 := Lib.hid (hM0.out.below b)
  replace bo := Lib.hid (below_trans2 bo.out b)
  clear m0 m1 b cS
  cases hsm : (smallM a 16 && rightM N a) with
  | false =>
    clear hsm
    go_wp2_with fail
    refine (law14_awake w1).mono ?_; rintro e w9 ⟨rfl, b9⟩
    go_wp2_with fail
    go_ret
    exact ⟨rfl, below_trans2 bo.out b9⟩
  | true =>
    rw [Bool.and_eq_true] at hsm
    obtain ⟨s1, s2⟩ := smallM_len hsm.1
    obtain ⟨p, rfl, hGa⟩ := Good.of hsm.2 hw64.out
    obtain rfl : n = p := by have := hGa.len; omega
    replace hsm := Lib.hid hsm
    have m0 := hM0.out.1.c0
    have m1 := hM0.out.1.c1
    replace s2 := Lib.hid s2
    by_cases hn0 : n = 0
    · have e0 : ((n : Int) == 0) = true := by simp [hn0]
      replace hn0 := Lib.hid hn0
      go_wp2_with fail
      refine (law14_awake w1).mono ?_; rintro e w9 ⟨rfl, b9⟩
      go_wp2_with fail
      go_ret
      exact ⟨rfl, below_trans2 bo.out b9⟩
    · have e0 : ((n : Int) == 0) = false := by simp [hn0]
      have hn16 : n ≤ 16 := by omega
      have hrl : Hid (∀ i j, Rel a i j → i < n ∧ j < n) := Lib.hid (fun i j h => hGa.has_lt h)
      obtain ⟨x, hx⟩ : ∃ x, x = xN % n := ⟨_, rfl⟩
      obtain ⟨y, hy⟩ : ∃ y, y = yN % n := ⟨_, rfl⟩
      have hxn : x < n := by rw [hx]; exact Nat.mod_lt _ (by omega)
      have hyn : y < n := by rw [hy]; exact Nat.mod_lt _ (by omega)
      have hxk := Lib.hid (tmod_small14 xN n (by omega))
      have hyk := Lib.hid (tmod_small14 yN n (by omega))
      rw [← hx] at hxk
      rw [← hy] at hyk
      obtain ⟨cM, hcM⟩ : ∃ m, m = closeK a n := ⟨_, rfl⟩
      have hH := closeK_hull hGa
      have gC := hH.1
      have cC := fun W hW => ref4_Close A n c a W hW hGa (by omega)
      have hcn : Hid (hasM cM (x : Int) (y : Int) = true ↔ Conn (Rel a) x y) := Lib.hid (by rw [hcM]; exact hH.2 x y)
      rw [← hcM] at gC cC
      replace cC := Lib.hid cC
      have hcl := Lib.hid gC.len
      replace hx := Lib.hid hx
      replace hy := Lib.hid hy
      replace hxn := Lib.hid hxn
      replace hyn := Lib.hid hyn
      replace hcM := Lib.hid hcM
      clear hH
      go_wp2_with fail
      refine wp_region_plan 12 [(true, 0), (true, 1), (true, 2), (true, 3), (true, 4), (true, 5), (true, 6), (true, 7), (true, 8), (true, 9), (true, 10), (true, 11)] (by kernel_rfl) (by kernel_rfl) (fun X hX => ?_)
      have hX' : Below w1.heap.size w1 X := by rw [hX.out]; exact (Below.refl _ _).drew
      replace hM0 := Lib.hid (hM0.out.below hX')
      replace bo := Lib.hid (below_trans2 bo.out hX')
      clear hX hX' m0 m1
      have m0 := hM0.out.1.c0
      have m1 := hM0.out.1.c1
      simp only [List.drop_succ_cons, List.drop_nil]
      iterate 12
        refine wpPlan_float (v := ?_) rfl (by rfl) (fun w' hw' => ?_) (fun K hK => ?_)
        rotate_left
        · (go_simp; try with_reducible rfl)
        go_simp
        refine hK _ ?_
        clear hK K
      rw [hxk.out, hyk.out]
      refine wpPlan_nil (NoPanic.normal ?_)
      have cF := Lib.hid (path_Find A n c a (x : Int) (y : Int) X hM0.out.2 hGa)
      go_wp2_with fail
      refine cF.out.mono ?_; rintro e w2 ⟨D, m, d, l, ok, rfl, hL, hmd, hdm, hP, b⟩
      obtain ⟨hok, hno, hyes⟩ := hP.list hrl.out hxn.out hyn.out
      have hoh : hasM cM (x : Int) (y : Int) = ok := by
        rw [Bool.eq_iff_iff, hcn.out]; exact hok.symm
      replace hM0 := Lib.hid (hM0.out.below b)
      replace bo := Lib.hid (below_trans2 bo.out b)
      replace hL := Lib.hid hL
      clear hP hok b cF m0 m1
      have m0 := hM0.out.1.c0
      have m1 := hM0.out.1.c1
      go_wp2_with fail
      refine (cC.out w2 hM0.out.2).mono ?_; rintro e w3 ⟨A2, n2, c2, rfl, hR2, hn2, b⟩
      obtain rfl : n2 = n := by rw [← hR2.len]; exact hcl.out
      replace hM0 := Lib.hid (hM0.out.below b)
      replace bo := Lib.hid (below_trans2 bo.out b)
      replace hL := Lib.hid (hL.out.below b)
      have cH := ref3_HasG A2 n2 c2 cM gC (x : Int) (y : Int) w3 hR2
      rw [hoh] at cH
      replace cH := Lib.hid cH
      replace hoh := Lib.hid hoh
      clear b m0 m1 hR2
      go_wp2_with fail
      refine cH.out.mono ?_; rintro e w4 ⟨rfl, b⟩
      replace hM0 := Lib.hid (hM0.out.below b)
      replace bo := Lib.hid (below_trans2 bo.out b)
      replace hL := Lib.hid (hL.out.below b)
      clear b cH cC
      have m0 := hM0.out.1.c0
      have m1 := hM0.out.1.c1
      have eok : (ok != ok) = false := by simp
      cases ok with
      | false =>
        have hl0 := hno rfl
        subst hl0
        obtain rfl : m = 0 := hL.out.len.symm
        clear hno hyes hL
        go_wp2_with fail
        refine (law14_awake w4).mono ?_; rintro e w9 ⟨rfl, b9⟩
        go_wp2_with fail
        go_ret
        exact ⟨rfl, below_trans2 bo.out b9⟩
      | true =>
        have hPL := hyes rfl
        have hml : l.length = m := hL.out.len
        rw [hml] at hPL
        have hm2 := hPL.two
        have hmm := hPL.most
        have cI := path_Is A n2 c a D m d l w4 hM0.out.2 hGa hL.out (by omega)
        rw [hPL.is] at cI
        replace cI := Lib.hid cI
        clear hno hyes
        replace hPL := Lib.hid hPL
        replace hml := Lib.hid hml
        go_wp2_with fail
        refine cI.out.mono ?_; rintro e w5 ⟨rfl, b⟩
        replace hM0 := Lib.hid (hM0.out.below b)
        replace bo := Lib.hid (below_trans2 bo.out b)
        replace hL := Lib.hid (hL.out.below b)
        clear b cI m0 m1
        have m0 := hM0.out.1.c0
        have m1 := hM0.out.1.c1
        have cI := ref14_Is A n2 c a D m d l w5 hM0.out.2 hGa hL.out (by omega)
        rw [hPL.out.is] at cI
        replace cI := Lib.hid cI
        go_wp2_with fail
        refine cI.out.mono ?_; rintro e w6 ⟨rfl, b⟩
        replace hM0 := Lib.hid (hM0.out.below b)
        replace bo := Lib.hid (below_trans2 bo.out b)
        replace hL := Lib.hid (hL.out.below b)
        clear b cI m0 m1
        have m0 := hM0.out.1.c0
        obtain ⟨lb, lo, z, hD, hlb, hz, -, k0⟩ := hL.out.int (show 0 < m by omega)
        obtain ⟨lb2, lo2, z2, hD2, hlb2, hz2, -, k1⟩ := hL.out.int (show m - 1 < m by omega)
        rw [hPL.out.head] at hz
        rw [hPL.out.last] at hz2
        injection hz with hz
        injection hz2 with hz2
        subst hz; subst hz2; subst hD
        injection hD2 with hD2
        injection hD2 with hD3 hD4
        subst hD3; subst hD4
        obtain ⟨mi, hmi⟩ : ∃ mi : Int, mi = (m : Int) - 1 := ⟨_, rfl⟩
        have hmt : mi.toNat = m - 1 := by omega
        rw [← hmt] at k1
        have w1' : wrap64 ((m : Int) - 1) = mi := by unfold wrap64; omega
        have w2' : IntKind.i64.wrap ((m : Int) - 1) = mi := by rw [IntKind.wrap_i64]; omega
        have bm : 0 ≤ mi ∧ mi < (m : Int) := by omega
        have b00 : (0 : Int) < (m : Int) := by omega
        rw [Nat.add_zero] at k0
        replace hmi := Lib.hid hmi
        replace hmt := Lib.hid hmt
        clear hlb hlb2
        go_wp2_with fail
        clear m0 k0 k1
        go_loopw [11] (fun t wr => ∃ q : Nat, q ≤ m ∧ t = .int .i64 (q : Int) ∧ Hid (Below w6.heap.size w6 wr)) (fun t _ => m - (intOf t).toNat)
        case atStart => exact ⟨0, Nat.zero_le _, rfl, Lib.hid (Below.refl _ _)⟩
        case round =>
          obtain ⟨q, hq, rfl, hb⟩ := hrel
          by_cases hqm : q < m
          · have hqm' : (q : Int) < (m : Int) := by omega
            replace hqm := Lib.hid hqm
            obtain ⟨Wo, rfl⟩ : ∃ Wo, Wo = wr := ⟨_, rfl⟩
            go_wp2_with fail
            go_loopw [12] (fun t wr => ∃ p : Nat, p ≤ q ∧ t = .int .i64 (p : Int) ∧ Hid (Below Wo.heap.size Wo wr)) (fun t _ => q - (intOf t).toNat)
            case atStart => exact ⟨0, Nat.zero_le _, rfl, Lib.hid (Below.refl _ _)⟩
            case round =>
              obtain ⟨p, hp, rfl, hb'⟩ := hrel
              by_cases hpq : p < q
              · have hLr := (hL.out.below hb.out).below hb'.out
                obtain ⟨lb3, lo3, zq, hD, hlb3, hzq, -, k1⟩ := hLr.int hqm.out
                obtain ⟨lb4, lo4, zp, hD2, hlb4, hzp, -, k2⟩ := hLr.int (show p < m by have := hqm.out; omega)
                injection hD with hD
                injection hD with hD3 hD4
                subst hD3; subst hD4
                injection hD2 with hD2
                injection hD2 with hD3 hD4
                subst hD3; subst hD4
                have honce : zp = zq → p = 0 ∧ q = m - 1 := fun e => hPL.out.once p q hpq hqm.out (by rw [getD_of hzp, getD_of hzq, e])
                have hmi' := hmi.out
                obtain ⟨qi, hqi⟩ : ∃ qi : Int, qi = (q : Int) := ⟨_, rfl⟩
                obtain ⟨pi, hpi⟩ : ∃ pi : Int, pi = (p : Int) := ⟨_, rfl⟩
                have hqt : qi.toNat = q := by omega
                have hpt : pi.toNat = p := by omega
                rw [← hqt] at k1
                rw [← hpt] at k2
                have hpq' : pi < qi := by omega
                rw [← hqi] at hqm' ⊢
                rw [← hpi]
                have bq : 0 ≤ qi ∧ qi < (m : Int) := by omega
                have bp : 0 ≤ pi ∧ pi < (m : Int) := by omega
                have hw1 : wrap64 (pi + 1) = ((p + 1 : Nat) : Int) := by rw [wrap_sm14 (by clear w1' w2'; omega) (by clear w1' w2'; omega)]; clear w1' w2'; omega
                have hw2 : pi + 1 = ((p + 1 : Nat) : Int) := by omega
                have hmeas : q - (p + 1) < q - pi.toNat := by omega
                by_cases hz : zq = zp
                · obtain ⟨h1, h2⟩ := honce hz.symm
                  have ez : (zq == zp) = true := by simp [hz]
                  have dp : decide (0 < pi) = false := decide_eq_false (by omega)
                  have dq : decide (qi < mi) = false := decide_eq_false (by omega)
                  replace hz := Lib.hid hz
                  replace h1 := Lib.hid h1
                  replace h2 := Lib.hid h2
                  replace hqi := Lib.hid hqi
                  replace hpi := Lib.hid hpi
                  replace hqt := Lib.hid hqt
                  replace hpt := Lib.hid hpt
                  replace hmi' := Lib.hid hmi'
                  replace hw2 := Lib.hid hw2
                  replace hmeas := Lib.hid hmeas
                  clear honce hzp hzq hlb3 hlb4 hLr
                  go_wp2_with fail
                  go_quiet (fail)
                  go_wp2_with fail
                  exact ⟨⟨p + 1, by have := hpq; omega, congrArg (Value.int .i64) (by have := hw2.out; omega), Lib.hid (below_trans2 hb'.out (below_drewN (Below.refl _ _) nq))⟩, by have := hmeas.out; have := hpi.out; have := hqi.out; simp [intOf] <;> omega⟩
                · have ez : (zq == zp) = false := by simpa using hz
                  replace hz := Lib.hid hz
                  replace hqi := Lib.hid hqi
                  replace hpi := Lib.hid hpi
                  replace hqt := Lib.hid hqt
                  replace hpt := Lib.hid hpt
                  replace hmi' := Lib.hid hmi'
                  replace hw2 := Lib.hid hw2
                  replace hmeas := Lib.hid hmeas
                  clear honce hzp hzq hlb3 hlb4 hLr
                  go_wp2_with fail
                  go_quiet (fail)
                  go_wp2_with fail
                  exact ⟨⟨p + 1, by have := hpq; omega, congrArg (Value.int .i64) (by have := hw2.out; omega), Lib.hid (below_trans2 hb'.out (below_drewN (Below.refl _ _) nq))⟩, by have := hmeas.out; have := hpi.out; have := hqi.out; simp [intOf] <;> omega⟩
              · have hpq' : ¬ (p : Int) < (q : Int) := by omega
                clear hpq
                go_wp2_with fail
                exact ⟨⟨q + 1, by have := hqm.out; omega, by go_num, Lib.hid (below_trans2 hb.out hb'.out)⟩, by simp [intOf]; have := hqm.out; omega⟩
          · have hqm' : ¬ (q : Int) < (m : Int) := by omega
            clear hqm
            have dm : decide ((m : Int) ≤ (n2 : Int) + 1) = true := decide_eq_true (by clear w1' w2'; omega)
            have hw3 : wrap64 ((n2 : Int) + 1) = (n2 : Int) + 1 := wrap_sm14 (by clear w1' w2'; omega) (by clear w1' w2'; omega)
            go_wp2_with fail
            refine (law14_awake wr).mono ?_; rintro e w9 ⟨rfl, b9⟩
            have hM9 := (hM0.out.below hb.out).below b9
            have m0 := hM9.1.c0
            clear hM9
            go_wp2_with fail
            go_ret
            exact ⟨rfl, below_trans2 (below_trans2 bo.out hb.out) b9⟩
end Go.Proofs.Ytfeomhoicnjgpaa

namespace Go.Proofs.Ytfeomhoicnjgpaa
open Go.RowKit Go.ChangeShapes Go.WideShapes Go.Deep Go.Joins
set_option linter.unusedVariables false

theorem addr_add (b off j : Nat) : (⟨b, off, none⟩ : Addr).add j = ⟨b, off + j, none⟩ := by unfold Addr.add; split <;> simp_all

section
variable {H : Type} {enc : TypeId × Value → H} {P : Program} {w : World} {base : Nat} {spare : Nat → Bool} {held : Bool}
theorem row_of_ints {a' : Option Addr} {L C : Nat} {zs : List Int} (hl : L ≤ C) (hm : C ≤ maxLen) (hz : zs.length = C) (hwz : ∀ n ∈ zs, (Lit.int .u64 n).wf = true) (hnil : a' = none → C = 0)
    (hcell : ∀ x, a' = some x → ∀ c, c < C → w.cell? (x.add c) = some (.int .u64 (zs.getD c 0))) : ∃ xs, Row w a' L xs ∧ L ≤ 9223372036854775807 := by
  cases a' with
  | none =>
    have := hnil rfl
    obtain rfl : L = 0 := by omega
    exact ⟨[], Row.nil _ _, by omega⟩
  | some x => exact row_of_is (c := C) (zs := zs) (.inr ⟨x, rfl, hl, hm, hz, fun i hi => hcell x rfl i (by omega), hwz⟩)
theorem open_mat {t e q : TypeId} {fuel : Nat} {A : Option Addr} {len cap : Nat} {x : DataW H × List MemPlace} (ht : P.underlying t = some (.slice e)) (he : P.underlying e = some (.slice q)) (hq : P.underlying q = some (.int .u64))
    (ce : P.cellsOf e = 1) (cq : P.cellsOf q = 1) (h : DataW.trod enc P w base (fun _ => true) held fuel t [.slice A len cap] = some x) :
    ∃ xss, RowsAt w A len xss ∧ len ≤ 9223372036854775807 ∧ ∀ (k : Nat) (xs : List Nat), xss[k]? = some xs → xs.length ≤ 9223372036854775807 := by
  rcases open_int_rows ht he hq ce cq h with ⟨hcs, _⟩ | ⟨⟨b, off, spot⟩, l, c, B, L, C, Z, hcs, hb, hl, hm, hx, hrow⟩
  · injection hcs with hcs
    injection hcs with h1 h2 h3
    subst h1 h2 h3
    exact ⟨[], RowsAt.nil _ _, by omega, fun k xs hx => by simp at hx⟩
  · injection hcs with hcs
    injection hcs with h1 h2 h3
    subst h1 h2 h3
    have hlm : len ≤ 9223372036854775807 := by unfold maxLen at hm; omega
    have hrow' : ∀ k, k < len → ∃ xs, Row w (B k) (L k) xs ∧ L k ≤ 9223372036854775807 := fun k hk => by
      obtain ⟨_, h1, h2, h3, h4, h5, h6⟩ := hrow k (by omega)
      exact row_of_ints h1 h2 h3 h4 h5 (fun x e c hc => (h6 x e).2 c hc)
    by_cases h0 : len = 0
    · subst h0
      exact ⟨[], RowsAt.nil _ _, by omega, fun k xs hx => by simp at hx⟩
    · have hc0 := (hrow 0 (by omega)).1
      have hspot : spot = none := by
        have h := World.cell?_spot hc0
        cases spot with
        | none => rfl
        | some s => unfold Addr.add at h; simp at h
      subst hspot
      have hblt : b < w.heap.size := by
        have := World.block_lt_of_cell? w _ hc0
        rwa [addr_add] at this
      have hall : ∀ k, k ≤ len → ∃ xss : List (List Nat), RowsC w ((List.range k).map fun i => .slice (B i) (L i) (C i)) xss ∧ ∀ (j : Nat) (xs : List Nat), xss[j]? = some xs → xs.length ≤ 9223372036854775807 := by
        intro k
        induction k with
        | zero => exact fun _ => ⟨[], RowsC.nil _, fun j xs h => by simp at h⟩
        | succ k ih =>
          intro hk
          obtain ⟨xss, p1, p2⟩ := ih (by omega)
          obtain ⟨xs, hx1, hx2⟩ := hrow' k (by omega)
          refine ⟨xss ++ [xs], ?_, fun j ys hj => ?_⟩
          · rw [List.range_succ, List.map_append]
            exact p1.snoc ⟨_, _, _, rfl, hx1⟩
          · rcases Nat.lt_or_ge j xss.length with hlt | hge
            · rw [List.getElem?_append_left hlt] at hj; exact p2 j ys hj
            · rw [List.getElem?_append_right hge] at hj
              have hj' := List.mem_of_getElem? hj
              rw [List.mem_singleton.1 hj', hx1.len]; exact hx2
      obtain ⟨xss, p1, p2⟩ := hall len (Nat.le_refl _)
      refine ⟨xss, ⟨_, ⟨by simp, fun _ => ⟨b, off, rfl, hblt, fun j u hu => ?_⟩⟩, p1⟩, hlm, p2⟩
      have hj : j < len := by have := (List.getElem?_eq_some_iff.1 hu).1; simpa using this
      rw [List.getElem?_map, List.getElem?_range hj, Option.map_some] at hu
      have h1 := (hrow j (by omega)).1
      rw [addr_add] at h1
      rw [h1]; exact hu
theorem open_matV {r : Reach} {b0 : Nat} {t e q : TypeId} {f0 f1 : Field} {v : Value} {d : DataW H} {p : List MemPlace} (ht : P.underlying t = some (.struct #[f0, f1])) (hone : oneCellFields P #[f0, f1] = true) (cT : P.cellsOf t = 2)
    (hi : P.underlying f0.type = some (.int .i64)) (hr : P.underlying f1.type = some (.slice e)) (he : P.underlying e = some (.slice q)) (hq : P.underlying q = some (.int .u64)) (ce : P.cellsOf e = 1) (cq : P.cellsOf q = 1)
    (hv : Value.okWide P w r b0 t v) (h : DataW.Trod enc P w base (fun _ => true) held t v d p) :
    ∃ (N : Int) (A : Option Addr) (n c : Nat) (xss : List (List Nat)), v = .agg #[.int .i64 N, .slice A n c] ∧ (-9223372036854775808 ≤ N ∧ N ≤ 9223372036854775807) ∧ RowsAt w A n xss ∧ n ≤ 9223372036854775807 ∧
      ∀ (k : Nat) (xs : List Nat), xss[k]? = some xs → xs.length ≤ 9223372036854775807 := by
  obtain ⟨v0, v1, y0, y1, m, rfl, _, _, h0, h1⟩ := open_agg2 ht hone cT hv h
  obtain ⟨N, e0, _, hw⟩ := DataW.trod_int hi h0
  injection e0 with e0
  subst e0
  obtain ⟨A, n, c, rfl⟩ : ∃ A n c, v1 = .slice A n c := by
    rcases open_int_rows hr he hq ce cq h1 with ⟨hcs, _⟩ | ⟨a, l, c, B, L, C, Z, hcs, _⟩
    · injection hcs with hcs; exact ⟨_, _, _, hcs⟩
    · injection hcs with hcs; exact ⟨_, _, _, hcs⟩
  obtain ⟨xss, hx1, hx2, hx3⟩ := open_mat hr he hq ce cq h1
  exact ⟨N, A, n, c, xss, rfl, bounds_i64 hw, hx1, hx2, hx3⟩
end

end Go.Proofs.Ytfeomhoicnjgpaa

namespace Go.Proofs.Ytfeomhoicnjgpaa
open Go.RowKit Go.ChangeShapes Go.WideShapes Go.Deep Go.Joins
set_option linter.unusedVariables false
section
variable {H : Type} {enc : TypeId × Value → H} {P : Program} {w : World} {base : Nat} {held : Bool}
theorem open_cap {t e q : TypeId} {fuel : Nat} {A : Option Addr} {len cap : Nat} {x : DataW H × List MemPlace} (ht : P.underlying t = some (.slice e)) (he : P.underlying e = some (.slice q)) (hq : P.underlying q = some (.int .u64))
    (ce : P.cellsOf e = 1) (cq : P.cellsOf q = 1) (h : DataW.trod enc P w base (fun _ => true) held fuel t [.slice A len cap] = some x) : len ≤ cap := by
  rcases open_int_rows ht he hq ce cq h with ⟨hcs, _⟩ | ⟨a, l, c, B, L, C, Z, hcs, hb, hl, hm, hx, hrow⟩
  · injection hcs with hcs
    injection hcs with h1 h2 h3
    omega
  · injection hcs with hcs
    injection hcs with h1 h2 h3
    omega
theorem open_matV_cap {r : Reach} {b0 : Nat} {t e q : TypeId} {f0 f1 : Field} {N : Int} {A : Option Addr} {n c : Nat} {d : DataW H} {p : List MemPlace} (ht : P.underlying t = some (.struct #[f0, f1])) (hone : oneCellFields P #[f0, f1] = true) (cT : P.cellsOf t = 2)
    (hr : P.underlying f1.type = some (.slice e)) (he : P.underlying e = some (.slice q)) (hq : P.underlying q = some (.int .u64)) (ce : P.cellsOf e = 1) (cq : P.cellsOf q = 1)
    (hv : Value.okWide P w r b0 t (.agg #[.int .i64 N, .slice A n c])) (h : DataW.Trod enc P w base (fun _ => true) held t (.agg #[.int .i64 N, .slice A n c]) d p) : n ≤ c := by
  obtain ⟨v0, v1, y0, y1, m, e1, _, _, h0, h1⟩ := open_agg2 ht hone cT hv h
  injection e1 with e1
  simp at e1
  obtain ⟨_, rfl⟩ := e1
  exact open_cap hr he hq ce cq h1
end
end Go.Proofs.Ytfeomhoicnjgpaa

namespace Go.Proofs.Ytfeomhoicnjgpaa
open Go.RowKit Go.ChangeShapes Go.WideShapes Go.Deep Go.Joins
set_option linter.unusedVariables false
section
variable {H : Type} {enc : TypeId × Value → H} {P : Program} {w : World} {base : Nat} {held : Bool}
end
end Go.Proofs.Ytfeomhoicnjgpaa

namespace Go.Proofs.Ytfeomhoicnjgpaa
open Go.RowKit Go.ChangeShapes Go.WideShapes Go.Deep
set_option linter.unusedVariables false

section
variable {H : Type} {enc : TypeId × Value → H} {P : Program} {w : World} {base : Nat} {held : Bool}
end
end Go.Proofs.Ytfeomhoicnjgpaa

namespace Go.Proofs.Ytfeomhoicnjgpaa
open Go.RowKit Go.ChangeShapes Go.WideShapes Go.Deep
set_option linter.unusedVariables false

section
variable {H : Type} {enc : TypeId × Value → H} {P : Program} {w : World} {base : Nat} {held : Bool}
end
end Go.Proofs.Ytfeomhoicnjgpaa

namespace Go.Proofs.Ytfeomhoicnjgpaa
open Go.RowKit Go.ChangeShapes Go.WideShapes Go.Deep Go.Joins
set_option linter.unusedVariables false
section
variable {H : Type} {enc : TypeId × Value → H} {P : Program} {w : World} {base : Nat} {held : Bool}
end
end Go.Proofs.Ytfeomhoicnjgpaa
