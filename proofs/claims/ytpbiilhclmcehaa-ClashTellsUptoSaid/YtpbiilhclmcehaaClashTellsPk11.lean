/- Layer 17's example and its matrices, walked. Layer 17's law ClashTells, walked (where what comes in is of no more than 2^40 operations). Arguments opened: a history (a slice of slices of operations), and what the bound of an '..Upto' statement says of it. Arguments opened: a slice of pairs ('[][2]int'), and the rows of a matrix. An argument opened: a matrix, with its capacity. Arguments opened: a matrix by its cells, inside a struct. An argument opened: a list of pairs of bytes. -/
import Derived.Test.YtpbiilhclmcehaaClashTellsPk10
import Derived.Test.YtpbiilhclmcehaaClashTellsPk4
import Derived.Test.YtpbiilhclmcehaaClashTellsPk5
import Derived.Test.YtpbiilhclmcehaaRows
import Derived.Test.YtpbiilhclmcehaaClashTellsPk1
import Derived.Deep.Slices
import Derived.OpenShut
import Derived.ChangeArms
import Derived.WalkKit
import Derived.ProofKit
import Derived.Test.YtpbiilhclmcehaaClashTellsPk3
import Derived.Test.YtpbiilhclmcehaaClashTellsPk2
import Derived.Deep.Matrix
import Derived.Lib.SmallJoins
namespace Go.Proofs.Ytpbiilhclmcehaa
open Go.RowKit
set_option linter.unusedVariables false
theorem tmod_small17 (x n : Nat) (h : x < 256) : (IntKind.i64.wrap (x : Int)).tmod (n : Int) = ((x % n : Nat) : Int) := by
  rw [show IntKind.i64.wrap (x : Int) = (x : Int) from by rw [IntKind.wrap_i64]; omega]
  exact (Int.ofNat_tmod x n).symm
set_option maxRecDepth 100000 in
set_option maxHeartbeats 4000000 in
theorem law17_order (v : FV) (f : Fac) (B : Option Addr) (m d : Nat) (ps : List (Nat × Nat)) (w : World) (hF : FactsAt w v f) (hP : Pairs8 w B m ps) (hv : v.m < 64) (hw : WholeF f) (hm : m ≤ 1099511627776) :
    Calls Try.prog 9 #[.agg #[.slice v.A v.n v.c, .slice v.B v.m v.d, .slice v.C v.k v.e], .slice B m d] w (RetMat1 (v.m : Int) (ordM v.m (coM f) ps) w) := by
  have hil := hF.is.len
  have gC := (coM_hull hw (by omega)).1
  rw [hil] at gC
  have cE := fun W hW => ref13_Co v f W hW hv hw
  obtain ⟨cm, hcm⟩ : ∃ m, m = coM f := ⟨_, rfl⟩
  rw [← hcm] at cE gC ⊢
  have hgq : Hid (∀ q, Good v.m (ordM v.m cm (ps.take q))) := Lib.hid (fun q => ordM_good gC _)
  have hcl := Lib.hid gC.len
  replace cE := Lib.hid cE
  replace gC := Lib.hid gC
  clear hil hw hcm
  -- a call with facts v: they are boxed at g, the world is W0 then
  have hB0 := Lib.hid (FBox.new hF)
  obtain ⟨g, hg⟩ : ∃ g, g = w.heap.size := ⟨_, rfl⟩
  obtain ⟨W0, hW0⟩ : ∃ W, W = w.alloc (.cells #[.slice v.A v.n v.c, .slice v.B v.m v.d, .slice v.C v.k v.e] 30) := ⟨_, rfl⟩
  rw [← hW0, ← hg] at hB0
  clear hF
  obtain ⟨gr, hgr⟩ : ∃ g, g = W0.heap.size := ⟨_, rfl⟩
  obtain ⟨W1, hW1⟩ : ∃ W, W = W0.alloc (.cells #[.int .i64 0, .slice none 0 0] 35) := ⟨_, rfl⟩
  have b1 : Below W0.heap.size W0 W1 := by rw [hW1]; exact (Below.refl _ _).alloc (Nat.le_refl _) _
  have kR := Lib.hid (show MatB W1 gr 35 0 none 0 0 from by rw [hW1, hgr]; exact MatB.new W0 _)
  have hB1 := Lib.hid (hB0.out.later b1)
  have hgw := Lib.hid (show w.heap.size ≤ gr from by rw [hgr]; exact hB0.out.o.size)
  have p0 := hB1.out.c0
  have p1 := hB1.out.c1
  have p2 := hB1.out.c2
  clear b1 hB0
  go_enter Try.func9, Try.ntmps9
  go_wp2_with (first | (rw [← hW0, ← hg]; clear hW0 hg) | (rw [← hW1, ← hgr]; clear hW1; replace hgr := Lib.hid hgr))
  refine (cE.out _ hB1.out.f).mono ?_; rintro e w2 ⟨A1, n1, c1, rfl, r1, hc1, b2⟩
  obtain rfl : n1 = v.m := by rw [← r1.len]; exact hcl.out
  have kR2 := Lib.hid (kR.out.below_ b2)
  have hbo := Lib.hid (below_trans2 hB1.out.o b2)
  have hP2 := Lib.hid (hP.below (below_trans2 hB1.out.o b2))
  obtain ⟨gn, hgn⟩ : ∃ g, g = w2.heap.size := ⟨_, rfl⟩
  obtain ⟨W4, hW4⟩ : ∃ W, W = w2.alloc (.cells #[.int .i64 (v.m : Int), .slice A1 v.m c1] 35) := ⟨_, rfl⟩
  have b4 : Below w2.heap.size w2 W4 := by rw [hW4]; exact below_alloc _ _
  have hT := Lib.hid (show MV W4 gn v.m A1 c1 cm from ⟨by rw [hW4, hgn]; exact MatB.new w2 _, r1.below b4, hc1, fun h0 ad e => by have := r1.block_lt h0 ad e; omega⟩)
  have hg3 : w2.heap.size ≤ gn := by omega
  have hbb := Lib.hid b4
  clear p0 p1 p2 b4 b2 r1 hc1 hB1 kR cE hP
  go_wp2_with (rw [← hW4, ← hgn]; clear hW4; replace hgn := Lib.hid hgn)
  go_loopw [6] (fun t wr => ∃ (q : Nat) (A2 : Option Addr) (d2 : Nat) (X : List (List Nat)), q ≤ m ∧ t = .int .i64 (q : Int) ∧ Hid (X = ordM v.m cm (ps.take q)) ∧ Hid (Below w2.heap.size w2 wr) ∧ Hid (MV wr gn v.m A2 d2 X)) (fun t _ => m - (intOf t).toNat)
  case atStart => exact ⟨0, _, _, _, Nat.zero_le _, rfl, Lib.hid (ordM_nil _ _).symm, hbb, hT⟩
  case round =>
    clear hT hbb
    obtain ⟨q, A2, d2, X, hq, rfl, hX, hbb, hT⟩ := hrel
    have hgX := hgq.out q
    rw [← hX.out] at hgX
    replace hgX := Lib.hid hgX
    by_cases hql : q < m
    · have hqI : (q : Int) < (m : Int) := by omega
      have hqd : decide ((q : Int) < (m : Int)) = true := decide_eq_true hqI
      by_cases h0 : 0 < v.m
      · have h0I : (0 : Int) < (v.m : Int) := by omega
        have h0d : decide ((0 : Int) < (v.m : Int)) = true := decide_eq_true h0I
        have hm0 : ¬ v.m = 0 := by omega
        obtain ⟨b, off, px, py, hB8, hbl, hpx, ⟨hx8, hy8⟩, c0, c1⟩ := (hP2.out.below hbb.out).at_ hql
        have hxk := Lib.hid (tmod_small17 px v.m hx8)
        have hyk := Lib.hid (tmod_small17 py v.m hy8)
        have hxl := Nat.mod_lt px h0
        have hyl := Nat.mod_lt py h0
        have hXn := ordM_succ h0 (M := cm) hpx
        rw [← hX.out] at hXn
        have hgN := hgq.out (q + 1)
        rw [hXn] at hgN
        replace hXn := Lib.hid hXn.symm
        replace hgN := Lib.hid hgN
        have cS := Lib.hid (fun W (hW : RowsAt W A2 v.m X) => ref3_SetF (v.m : Int) A2 v.m d2 X ((px % v.m : Nat) : Int) ((py % v.m : Nat) : Int) W hW rfl (by omega) (fun xs hx => Nat.le_trans (hgX.out.small xs hx) (by decide)) (by unfold inM; simp only [Bool.and_eq_true, decide_eq_true_eq]; omega))
        clear hpx hbl
        subst hB8
        have t0 := hT.out.loc.c0
        go_wp2_with fail
        refine wp_region_planT 21 [(true, 0), (true, 1), (true, 2), (true, 3), (true, 4), (true, 5), (true, 6), (true, 7), (true, 8), (true, 9), (true, 10), (true, 11), (true, 12), (true, 13), (true, 14), (true, 15), (true, 16), (true, 17), (true, 18), (false, 19), (true, 20)] 23 [21, 22] (by kernel_rfl) (by kernel_rfl) (fun U hU => ?_)
        have hU' : Below wr.heap.size wr U := by rw [hU.out]; exact (Below.refl _ _).drew
        replace hbb := Lib.hid (below_trans2 hbb.out hU')
        replace hT := Lib.hid (hT.out.later hU')
        replace c0 : U.cell? ⟨b, off + q * 2, none⟩ = some (.int .u8 (px : Int)) := by rw [hU.out]; exact c0
        replace c1 : U.cell? ⟨b, off + q * 2 + 1, none⟩ = some (.int .u8 (py : Int)) := by rw [hU.out]; exact c1
        clear hU hU' t0
        simp only [List.drop_succ_cons, List.drop_zero]
        have t0 := hT.out.loc.c0
        have t1 := hT.out.loc.c1
        iterate 19
          refine wpPlanE_float (v := ?_) rfl (by rfl) (fun w' hw' => ?_) (fun K hK => ?_)
          rotate_left
          · (go_simp; try with_reducible rfl)
          go_simp
          refine hK _ ?_
          clear hK K
        rw [hxk.out, hyk.out]
        clear c0 c1 t0 t1
        refine wpPlanE_only rfl (by rfl) (fun K hK => ?_)
        go_simp
        refine (cS.out U hT.out.rows).mono ?_
        rintro e w8 ⟨C2, n2, c2, rfl, hrows2, hcap2, b4, hfar2⟩
        obtain rfl : n2 = v.m := by rw [← hrows2.len]; exact hgN.out.len
        refine hK _ _ b4 ?_
        clear hK K
        have hT4 := Lib.hid (hT.out.put b4 hrows2 hcap2 hfar2)
        have kM := hT.out.loc.below_ b4
        have hbb4 := Lib.hid (((below_trans2 hbb.out b4).setCell (p := ⟨gn, 0, none⟩) hg3 (.int .i64 (v.m : Int))).setCell (p := ⟨gn, 1, none⟩) hg3 (.slice C2 v.m c2))
        clear cS hrows2 hfar2 b4
        iterate 1
          refine wpPlanE_float (v := ?_) rfl (by rfl) (fun w' hw' => ?_) (fun K hK => ?_)
          rotate_left
          · (go_simp; try with_reducible rfl)
          go_simp
          refine hK _ ?_
          clear hK K
        refine wpPlanE_nil ?_
        iterate 2
          refine wpPlanT_float (v := ?_) rfl (by rfl) (fun w' => ?_) (fun K hK => ?_)
          rotate_left
          · (go_simp; try with_reducible rfl)
          go_simp
          refine hK _ ?_
          clear hK K
        refine wpPlanT_nil ?_
        have m0 := kM.c0
        have m1 := kM.c1
        have g0 := kM.frozen 0
        have g1 := kM.frozen 1
        clear kM
        go_wp2_with fail
        refine NoPanic.normal ?_
        go_wp2_with fail
        go_roundw
        case rel => exact ⟨q + 1, C2, c2, _, by omega, by go_num, hXn, hbb4, hT4⟩
        case measure => simp [intOf]; omega
      · have h0I : ¬ (0 : Int) < (v.m : Int) := by omega
        have h0d : decide ((0 : Int) < (v.m : Int)) = false := decide_eq_false h0I
        have hXe : Hid (X = ordM v.m cm ps) := Lib.hid (by rw [hX.out]; unfold ordM; rw [if_pos (by omega), if_pos (by omega)])
        clear h0
        -- behind the loop: the matrix in gn, world wr; the result's variable gr
        have kR4 := kR2.out.below_ hbb.out
        have t0 := hT.out.loc.c0
        have t1 := hT.out.loc.c1
        have f0 := kR4.c0
        have f1 := kR4.c1
        have g0 := kR4.frozen 0
        have g1 := kR4.frozen 1
        have hcc := kR4.two (.int .i64 (v.m : Int)) (.slice A2 v.m d2)
        have hd1 := Lib.hid hcc.1
        have hd2 := Lib.hid hcc.2
        have hrf := Lib.hid (hT.out.rows.putB kR4 (fun h0 => hT.out.rows.farZ kR4 (rows_len_pos hgX.out h0) h0) (.int .i64 (v.m : Int)) (.slice A2 v.m d2))
        have hbf := Lib.hid (((below_trans2 hbo.out hbb.out).setCell (p := ⟨gr, 0, none⟩) hgw.out (.int .i64 (v.m : Int))).setCell (p := ⟨gr, 1, none⟩) hgw.out (.slice A2 v.m d2))
        have hcap := Lib.hid hT.out.cap
        clear hcc kR4
        go_wp2_with fail
        exact bodyPost_ret (v := .agg #[.int .i64 (v.m : Int), .slice A2 v.m d2]) (by simp [results, Try.results9, go_sem, hd1.out, hd2.out]) rfl ⟨A2, v.m, d2, rfl, by rw [← hXe.out]; exact hrf.out, hcap.out, hbf.out⟩
    · have hqI : ¬ (q : Int) < (m : Int) := by omega
      have hqd : decide ((q : Int) < (m : Int)) = false := decide_eq_false hqI
      have hXe : Hid (X = ordM v.m cm ps) := Lib.hid (by rw [hX.out, List.take_of_length_le (by rw [hP2.out.1]; omega)])
      clear hql
      -- behind the loop: the matrix in gn, world wr; the result's variable gr
      have kR4 := kR2.out.below_ hbb.out
      have t0 := hT.out.loc.c0
      have t1 := hT.out.loc.c1
      have f0 := kR4.c0
      have f1 := kR4.c1
      have g0 := kR4.frozen 0
      have g1 := kR4.frozen 1
      have hcc := kR4.two (.int .i64 (v.m : Int)) (.slice A2 v.m d2)
      have hd1 := Lib.hid hcc.1
      have hd2 := Lib.hid hcc.2
      have hrf := Lib.hid (hT.out.rows.putB kR4 (fun h0 => hT.out.rows.farZ kR4 (rows_len_pos hgX.out h0) h0) (.int .i64 (v.m : Int)) (.slice A2 v.m d2))
      have hbf := Lib.hid (((below_trans2 hbo.out hbb.out).setCell (p := ⟨gr, 0, none⟩) hgw.out (.int .i64 (v.m : Int))).setCell (p := ⟨gr, 1, none⟩) hgw.out (.slice A2 v.m d2))
      have hcap := Lib.hid hT.out.cap
      clear hcc kR4
      go_wp2_with fail
      exact bodyPost_ret (v := .agg #[.int .i64 (v.m : Int), .slice A2 v.m d2]) (by simp [results, Try.results9, go_sem, hd1.out, hd2.out]) rfl ⟨A2, v.m, d2, rfl, by rw [← hXe.out]; exact hrf.out, hcap.out, hbf.out⟩
set_option maxRecDepth 100000 in
set_option maxHeartbeats 4000000 in
theorem law17_awake (w : World) : Calls Try.prog 7 #[] w (RetBool true w) := by
  -- the example's facts: walked to the variable f: hB : FBox w g x fx17 V
  obtain ⟨Z1, hZ1⟩ : ∃ W, W = w.alloc (.cells #[.bool true, .string ⟨#[120]⟩, .int .i64 1] 60) := ⟨_, rfl⟩
  obtain ⟨a1, ha1⟩ : ∃ g, g = w.heap.size := ⟨_, rfl⟩
  obtain ⟨Z2, hZ2⟩ : ∃ W, W = Z1.alloc (.cells #[.bool true, .string ⟨#[120]⟩, .int .i64 2, .bool false, .string ⟨#[120]⟩, .int .i64 1] 60) := ⟨_, rfl⟩
  obtain ⟨a2, ha2⟩ : ∃ g, g = Z1.heap.size := ⟨_, rfl⟩
  obtain ⟨Z3, hZ3⟩ : ∃ W, W = Z2.alloc (.cells #[.slice (some ⟨a1, 0, none⟩) 1 1, .slice (some ⟨a2, 0, none⟩) 2 2] 57) := ⟨_, rfl⟩
  obtain ⟨a3, ha3⟩ : ∃ g, g = Z2.heap.size := ⟨_, rfl⟩
  have b1 : Below w.heap.size w Z1 := by rw [hZ1]; exact (Below.refl _ w).alloc (Nat.le_refl _) _
  have b2 : Below Z1.heap.size Z1 Z2 := by rw [hZ2]; exact (Below.refl _ _).alloc (Nat.le_refl _) _
  have b3 : Below Z2.heap.size Z2 Z3 := by rw [hZ3]; exact (Below.refl _ _).alloc (Nat.le_refl _) _
  have hH : HistAt Z3 (some ⟨a3, 0, none⟩) 2 [ex17A, ex17B] := by
    have h1 : Blk Z1 a1 60 (cellsO ex17A) := by rw [hZ1, ha1]; exact Blk.new w _ _
    have h2 : Blk Z2 a2 60 (cellsO ex17B) := by rw [hZ2, ha2]; exact Blk.new Z1 _ _
    have h3 : Blk Z3 a3 57 [.slice (some ⟨a1, 0, none⟩) 1 1, .slice (some ⟨a2, 0, none⟩) 2 2] := by rw [hZ3, ha3]; exact Blk.new Z2 _ _
    have h1' := (h1.below b2 h1.lt).below b3 (h1.below b2 h1.lt).lt
    exact HistAt.two h3 (OpsAt.of_blk h1' ok17A rfl) (OpsAt.of_blk (h2.below b3 h2.lt) ok17B rfl) (by omega) (by omega) (by omega) (by omega)
  have c1 := Lib.hid (ref11_Of _ 2 2 [ex17A, ex17B] Z3 hH (by omega) (by decide))
  have bW := Lib.hid (below_trans2 (below_trans2 b1 b2) b3)
  clear hH b1 b2 b3
  go_enter Try.func7, Try.ntmps7
  go_wp2_with (first | (rw [← hZ1, ← ha1]; clear hZ1; replace ha1 := Lib.hid ha1) | (rw [← hZ2, ← ha2]; clear hZ2; replace ha2 := Lib.hid ha2) | (rw [← hZ3, ← ha3]; clear hZ3; replace ha3 := Lib.hid ha3))
  refine c1.out.mono ?_; rintro e w3 ⟨x, rfl, hG, b3⟩
  replace hG := hG ex17_facts.1
  rw [ex17_facts.2] at hG
  rw [ex17_facts.1]
  have hB := Lib.hid ((FBox.new hG).from_ (below_trans2 bW.out b3))
  have hxm : x.m = 3 := by rw [← hG.is.len]; rfl
  obtain ⟨V, hV⟩ : ∃ W, W = w3.alloc (.cells #[.slice x.A x.n x.c, .slice x.B x.m x.d, .slice x.C x.k x.e] 30) := ⟨_, rfl⟩
  obtain ⟨g, hg⟩ : ∃ g, g = w3.heap.size := ⟨_, rfl⟩
  rw [← hV, ← hg] at hB
  replace hxm := Lib.hid hxm
  clear b3 c1 hG bW
  have cP := fun W hW => ref13_Co x fx17 W hW (by rw [hxm.out]; decide) ex17_whole
  have cE : Hid (∀ (A : Option Addr) (c : Nat) (W : World), FactsAt W x fx17 → RowsAt W A 3 [[4], [4], [0]] → 3 ≤ c → Calls Try.prog 13 #[.agg #[.slice x.A x.n x.c, .slice x.B x.m x.d, .slice x.C x.k x.e], .agg #[.int .i64 3, .slice A 3 c]] W (RetEL [⟨1, 0, 2⟩] W)) := Lib.hid (fun A c W hW hR hc => by
    have h := clash_Edges x fx17 A c [[4], [4], [0]] W hW (by rw [hxm.out]; exact hR) (by rw [hxm.out]; exact ex17_good) (by rw [hxm.out]; decide) (by rw [hxm.out]; exact hc) ex17_whole ex17_frm
    rw [ex17_edges.1] at h
    rw [hxm.out] at h ⊢
    exact h)
  have cF : Hid (∀ (A : Option Addr) (c : Nat) (W : World), FactsAt W x fx17 → RowsAt W A 3 [[4], [4], [0]] → 3 ≤ c → Calls Try.prog 10 #[.agg #[.slice x.A x.n x.c, .slice x.B x.m x.d, .slice x.C x.k x.e], .agg #[.int .i64 3, .slice A 3 c]] W (RetMat 3 [[4], [5], [0]] 0 W)) := Lib.hid (fun A c W hW hR hc => by
    have h := clash_Cf x fx17 A c [[4], [4], [0]] W hW (by rw [hxm.out]; exact hR) (by rw [hxm.out]; exact ex17_good) (by rw [hxm.out]; decide) (by rw [hxm.out]; exact hc) ex17_whole ex17_frm
    rw [ex17_edges.2.1, ex17_edges.2.2.1, ex17_edges.2.2.2] at h
    rw [hxm.out] at h ⊢
    exact h)
  rw [ex17_mat, show ((x.m : Nat) : Int) = 3 from by rw [hxm.out]; rfl] at cP
  replace cP := Lib.hid cP
  have hpos : Hid (∀ xs ∈ ([[4], [5], [0]] : List (List Nat)), 0 < xs.length) := Lib.hid (by decide)
  have p0 := hB.out.c0
  have p1 := hB.out.c1
  have p2 := hB.out.c2
  go_wp2_with (rw [← hV, ← hg]; clear hV; replace hg := Lib.hid hg)
  clear p0 p1 p2
  refine wp_region_plan 5 [(true, 0), (true, 1), (false, 2), (false, 3), (true, 4)] (by kernel_rfl) (by kernel_rfl) (fun U hU => ?_)
  replace hB := Lib.hid (show FBox w g x fx17 U from by rw [hU.out]; exact hB.out.later (Below.refl _ _).drew)
  clear hU
  simp only [List.drop_succ_cons, List.drop_nil]
  have p0 := hB.out.c0
  have p1 := hB.out.c1
  have p2 := hB.out.c2
  iterate 2
    refine wpPlan_float (v := ?_) rfl (by rfl) (fun w' hw' => ?_) (fun K hK => ?_)
    rotate_left
    · (go_simp; try with_reducible rfl)
    go_simp
    refine hK _ ?_
    clear hK K
  clear p0 p1 p2
  refine wpPlan_only rfl (by rfl) (fun K hK => ?_)
  go_simp
  refine (cP.out U hB.out.f).mono ?_
  rintro e v1 ⟨A1, n1, c1, rfl, r1, hc1, b⟩
  obtain rfl : n1 = 3 := by have := r1.len; simpa using this.symm
  refine hK _ _ b ?_
  clear hK K
  replace hB := Lib.hid (hB.out.later b)
  clear b
  refine wpPlan_only rfl (by rfl) (fun K hK => ?_)
  go_simp
  refine (cE.out A1 c1 v1 hB.out.f r1 hc1).mono ?_
  rintro e v2 ⟨E, ne, ce, rfl, hL, hnc, hcm, b⟩
  obtain rfl : ne = 1 := by have := hL.len; simpa using this.symm
  refine hK _ _ b ?_
  clear hK K
  replace hB := Lib.hid (hB.out.later b)
  replace hL := Lib.hid hL
  clear b r1 hc1 cE
  iterate 1
    refine wpPlan_float (v := ?_) rfl (by rfl) (fun w' hw' => ?_) (fun K hK => ?_)
    rotate_left
    · (go_simp; try with_reducible rfl)
    go_simp
    refine hK _ ?_
    clear hK K
  refine wpPlan_nil (NoPanic.normal ?_)
  go_wp2_with fail
  refine wp_region_tree (.flt 0 (.flt 1 (.two 2 7 (.two 3 7 (.flt 4 (.flt 5 (.flt 6 (.one 7 (.one 8 (.flt 9 .done)))))) (.one 3 (.flt 4 (.flt 5 (.flt 6 (.one 8 (.flt 9 .done))))))) (.one 2 (.one 3 (.flt 4 (.flt 5 (.flt 6 (.one 8 (.flt 9 .done)))))))))) (by kernel_rfl) (by kernel_rfl) (fun U2 hU => ?_)
  replace hL := Lib.hid (show LAt encE U2 E 1 [⟨1, 0, 2⟩] from by rw [hU.out]; exact hL.out.below (Below.refl _ _).drew)
  replace hB := Lib.hid (show FBox w g x fx17 U2 from by rw [hU.out]; exact hB.out.later (Below.refl _ _).drew)
  clear hU
  have bW : Below U2.heap.size U2 U2 := Below.refl _ _
  have p0 := hB.out.c0
  have p1 := hB.out.c1
  have p2 := hB.out.c2
  iterate 2
    refine wpPT_float (v := ?_) rfl (by rfl) (fun w' hw' => ?_) (fun K hK => ?_)
    rotate_left
    · (go_simp; try with_reducible rfl)
    go_simp
    refine hK _ ?_
    clear hK K
  clear p0 p1 p2
  refine wpPT_two rfl (by rfl) rfl (by rfl) (fun K hK => ?_) (fun K hK => ?_)
  · skip
    go_simp
    refine (cP.out U2 (hB.out.later bW).f).mono ?_; rintro e v3 ⟨A1, n1, c1, rfl, r1, hc1, b⟩
    obtain rfl : n1 = 3 := by have := r1.len; simpa using this.symm
    replace bW := below_trans2 bW b
    refine hK _ _ bW ?_
    clear hK K
    refine wpPT_two rfl (by rfl) rfl (by rfl) (fun K hK => ?_) (fun K hK => ?_)
    · skip
      go_simp
      refine (cF.out A1 c1 v3 (hB.out.later bW).f r1 hc1).mono ?_; rintro e v4 ⟨A3, n3, d3, rfl, r3, hc3, b⟩
      obtain rfl : n3 = 3 := by have := r3.len; simpa using this.symm
      replace bW := below_trans2 bW b
      refine hK _ _ bW ?_
      clear hK K
      iterate 3
        refine wpPT_float (v := ?_) rfl (by rfl) (fun w' hw' => ?_) (fun K hK => ?_)
        rotate_left
        · (go_simp; try with_reducible rfl)
        go_simp
        refine hK _ ?_
        clear hK K
      refine wpPT_one rfl (by rfl) (fun K hK => ?_)
      go_simp
      obtain ⟨M, hM⟩ : ∃ M, M = (World.heap v4).size := ⟨_, rfl⟩
      obtain ⟨v5, hw⟩ : ∃ X : World, X = World.alloc v4 (.cells #[.int .i64 0, .slice none 0 0] 35) := ⟨_, rfl⟩
      rw [← hw, ← hM]
      have b : Below (World.heap v4).size v4 v5 := by rw [hw]; exact below_alloc _ _
      have hUM : U2.heap.size ≤ M := by rw [hM]; exact bW.size
      replace bW := below_trans2 bW b
      refine hK _ _ bW ?_
      clear hK K
      have kM := Lib.hid (show MatB v5 M 35 0 none 0 0 from by rw [hw, hM]; exact MatB.new _ _)
      have hne : ∀ ad, A3 = some ad → ad.block ≠ M := fun ad e => by have := r3.block_lt (by omega) ad e; omega
      replace r3 := r3.below b
      clear hM hw
      have f0 := kM.out.c0
      have f1 := kM.out.c1
      have g0 := kM.out.frozen 0
      have g1 := kM.out.frozen 1
      refine wpPT_one rfl (by rfl) (fun K hK => ?_)
      go_simp
      obtain ⟨wz, hw⟩ : ∃ X : World, X = (World.setCell v5 ⟨M, 0, none⟩ (.int .i64 3)).setCell ⟨M, 1, none⟩ (.slice A3 3 d3) := ⟨_, rfl⟩
      rw [← hw]
      have r4 := Lib.hid (show RowsAt wz A3 3 [[4], [5], [0]] from by rw [hw]; exact r3.putB kM.out (fun _ => hne) _ _)
      have k4 := Lib.hid (show MatB wz M 35 3 A3 3 d3 from by rw [hw]; exact kM.out.put _ _ _ _)
      replace bW : Below U2.heap.size U2 wz := by rw [hw]; exact (bW.setCell (p := ⟨M, 0, none⟩) hUM _).setCell (p := ⟨M, 1, none⟩) hUM _
      refine hK _ _ bW ?_
      clear hK K f0 f1 g0 g1 hw r3 kM hne
      iterate 1
        refine wpPT_float (v := ?_) rfl (by rfl) (fun w' hw' => ?_) (fun K hK => ?_)
        rotate_left
        · (go_simp; try with_reducible rfl)
        go_simp
        refine hK _ ?_
        clear hK K
      refine wpPT_done (NoPanic.normal ?_)
      replace hL := Lib.hid (hL.out.below bW)
      -- m holds [[4], [5], [0]] at M; the conflicts at E
      obtain ⟨eb, eo, y, hE, -, hy, -, y0, y1, y2⟩ := hL.out.edge (show 0 < 1 by omega)
      obtain rfl : y = ⟨1, 0, 2⟩ := by simpa using hy.symm
      subst hE
      simp only [Nat.zero_mul, Nat.add_zero] at y0 y1 y2
      have m0 := k4.out.c0
      have m1 := k4.out.c1
      have cH := ref3_Has A3 3 d3 [[4], [5], [0]] 1 0 wz r4.out (by decide) (fun k xs hx => by
        have := List.mem_of_getElem? hx
        simp only [List.mem_cons, List.not_mem_nil, or_false] at this
        rcases this with rfl | rfl | rfl <;> decide)
      rw [show (inM ((3 : Nat) : Int) 1 0 && hasM [[4], [5], [0]] 1 0) = true from by decide] at cH
      replace cH := Lib.hid cH
      clear hy
      go_wp2_with fail
      refine cH.out.mono ?_; rintro e w9 ⟨rfl, b9⟩
      go_wp2_with fail
      go_ret
      exact ⟨rfl, below_trans2 hB.out.o (below_trans2 bW b9)⟩
    · skip
      go_simp
      obtain ⟨M, hM⟩ : ∃ M, M = (World.heap v3).size := ⟨_, rfl⟩
      obtain ⟨v6, hw⟩ : ∃ X : World, X = World.alloc v3 (.cells #[.int .i64 0, .slice none 0 0] 35) := ⟨_, rfl⟩
      rw [← hw, ← hM]
      have b : Below (World.heap v3).size v3 v6 := by rw [hw]; exact below_alloc _ _
      have hUM : U2.heap.size ≤ M := by rw [hM]; exact bW.size
      replace bW := below_trans2 bW b
      refine hK _ _ bW ?_
      clear hK K
      have kM := Lib.hid (show MatB v6 M 35 0 none 0 0 from by rw [hw, hM]; exact MatB.new _ _)
      replace r1 := r1.below b
      clear hM hw
      refine wpPT_one rfl (by rfl) (fun K hK => ?_)
      go_simp
      refine (cF.out A1 c1 v6 (hB.out.later bW).f r1 hc1).mono ?_; rintro e v7 ⟨A3, n3, d3, rfl, r3, hc3, b⟩
      obtain rfl : n3 = 3 := by have := r3.len; simpa using this.symm
      replace bW := below_trans2 bW b
      refine hK _ _ bW ?_
      clear hK K
      replace kM := Lib.hid (kM.out.below_ b)
      have hne : ∀ ad, A3 = some ad → ad.block ≠ M := r3.farZ kM.out hpos.out (by omega)
      iterate 3
        refine wpPT_float (v := ?_) rfl (by rfl) (fun w' hw' => ?_) (fun K hK => ?_)
        rotate_left
        · (go_simp; try with_reducible rfl)
        go_simp
        refine hK _ ?_
        clear hK K
      have f0 := kM.out.c0
      have f1 := kM.out.c1
      have g0 := kM.out.frozen 0
      have g1 := kM.out.frozen 1
      refine wpPT_one rfl (by rfl) (fun K hK => ?_)
      go_simp
      obtain ⟨wz, hw⟩ : ∃ X : World, X = (World.setCell v7 ⟨M, 0, none⟩ (.int .i64 3)).setCell ⟨M, 1, none⟩ (.slice A3 3 d3) := ⟨_, rfl⟩
      rw [← hw]
      have r4 := Lib.hid (show RowsAt wz A3 3 [[4], [5], [0]] from by rw [hw]; exact r3.putB kM.out (fun _ => hne) _ _)
      have k4 := Lib.hid (show MatB wz M 35 3 A3 3 d3 from by rw [hw]; exact kM.out.put _ _ _ _)
      replace bW : Below U2.heap.size U2 wz := by rw [hw]; exact (bW.setCell (p := ⟨M, 0, none⟩) hUM _).setCell (p := ⟨M, 1, none⟩) hUM _
      refine hK _ _ bW ?_
      clear hK K f0 f1 g0 g1 hw r3 kM hne
      iterate 1
        refine wpPT_float (v := ?_) rfl (by rfl) (fun w' hw' => ?_) (fun K hK => ?_)
        rotate_left
        · (go_simp; try with_reducible rfl)
        go_simp
        refine hK _ ?_
        clear hK K
      refine wpPT_done (NoPanic.normal ?_)
      replace hL := Lib.hid (hL.out.below bW)
      -- m holds [[4], [5], [0]] at M; the conflicts at E
      obtain ⟨eb, eo, y, hE, -, hy, -, y0, y1, y2⟩ := hL.out.edge (show 0 < 1 by omega)
      obtain rfl : y = ⟨1, 0, 2⟩ := by simpa using hy.symm
      subst hE
      simp only [Nat.zero_mul, Nat.add_zero] at y0 y1 y2
      have m0 := k4.out.c0
      have m1 := k4.out.c1
      have cH := ref3_Has A3 3 d3 [[4], [5], [0]] 1 0 wz r4.out (by decide) (fun k xs hx => by
        have := List.mem_of_getElem? hx
        simp only [List.mem_cons, List.not_mem_nil, or_false] at this
        rcases this with rfl | rfl | rfl <;> decide)
      rw [show (inM ((3 : Nat) : Int) 1 0 && hasM [[4], [5], [0]] 1 0) = true from by decide] at cH
      replace cH := Lib.hid cH
      clear hy
      go_wp2_with fail
      refine cH.out.mono ?_; rintro e w9 ⟨rfl, b9⟩
      go_wp2_with fail
      go_ret
      exact ⟨rfl, below_trans2 hB.out.o (below_trans2 bW b9)⟩
  · skip
    go_simp
    obtain ⟨M, hM⟩ : ∃ M, M = (World.heap U2).size := ⟨_, rfl⟩
    obtain ⟨v8, hw⟩ : ∃ X : World, X = World.alloc U2 (.cells #[.int .i64 0, .slice none 0 0] 35) := ⟨_, rfl⟩
    rw [← hw, ← hM]
    have b : Below (World.heap U2).size U2 v8 := by rw [hw]; exact below_alloc _ _
    have hUM : U2.heap.size ≤ M := by rw [hM]; exact bW.size
    replace bW := below_trans2 bW b
    refine hK _ _ bW ?_
    clear hK K
    have kM := Lib.hid (show MatB v8 M 35 0 none 0 0 from by rw [hw, hM]; exact MatB.new _ _)
    clear hM hw
    refine wpPT_one rfl (by rfl) (fun K hK => ?_)
    go_simp
    refine (cP.out v8 (hB.out.later bW).f).mono ?_; rintro e v9 ⟨A1, n1, c1, rfl, r1, hc1, b⟩
    obtain rfl : n1 = 3 := by have := r1.len; simpa using this.symm
    replace bW := below_trans2 bW b
    refine hK _ _ bW ?_
    clear hK K
    replace kM := Lib.hid (kM.out.below_ b)
    refine wpPT_one rfl (by rfl) (fun K hK => ?_)
    go_simp
    refine (cF.out A1 c1 v9 (hB.out.later bW).f r1 hc1).mono ?_; rintro e v10 ⟨A3, n3, d3, rfl, r3, hc3, b⟩
    obtain rfl : n3 = 3 := by have := r3.len; simpa using this.symm
    replace bW := below_trans2 bW b
    refine hK _ _ bW ?_
    clear hK K
    replace kM := Lib.hid (kM.out.below_ b)
    have hne : ∀ ad, A3 = some ad → ad.block ≠ M := r3.farZ kM.out hpos.out (by omega)
    iterate 3
      refine wpPT_float (v := ?_) rfl (by rfl) (fun w' hw' => ?_) (fun K hK => ?_)
      rotate_left
      · (go_simp; try with_reducible rfl)
      go_simp
      refine hK _ ?_
      clear hK K
    have f0 := kM.out.c0
    have f1 := kM.out.c1
    have g0 := kM.out.frozen 0
    have g1 := kM.out.frozen 1
    refine wpPT_one rfl (by rfl) (fun K hK => ?_)
    go_simp
    obtain ⟨wz, hw⟩ : ∃ X : World, X = (World.setCell v10 ⟨M, 0, none⟩ (.int .i64 3)).setCell ⟨M, 1, none⟩ (.slice A3 3 d3) := ⟨_, rfl⟩
    rw [← hw]
    have r4 := Lib.hid (show RowsAt wz A3 3 [[4], [5], [0]] from by rw [hw]; exact r3.putB kM.out (fun _ => hne) _ _)
    have k4 := Lib.hid (show MatB wz M 35 3 A3 3 d3 from by rw [hw]; exact kM.out.put _ _ _ _)
    replace bW : Below U2.heap.size U2 wz := by rw [hw]; exact (bW.setCell (p := ⟨M, 0, none⟩) hUM _).setCell (p := ⟨M, 1, none⟩) hUM _
    refine hK _ _ bW ?_
    clear hK K f0 f1 g0 g1 hw r3 kM hne
    iterate 1
      refine wpPT_float (v := ?_) rfl (by rfl) (fun w' hw' => ?_) (fun K hK => ?_)
      rotate_left
      · (go_simp; try with_reducible rfl)
      go_simp
      refine hK _ ?_
      clear hK K
    refine wpPT_done (NoPanic.normal ?_)
    replace hL := Lib.hid (hL.out.below bW)
    -- m holds [[4], [5], [0]] at M; the conflicts at E
    obtain ⟨eb, eo, y, hE, -, hy, -, y0, y1, y2⟩ := hL.out.edge (show 0 < 1 by omega)
    obtain rfl : y = ⟨1, 0, 2⟩ := by simpa using hy.symm
    subst hE
    simp only [Nat.zero_mul, Nat.add_zero] at y0 y1 y2
    have m0 := k4.out.c0
    have m1 := k4.out.c1
    have cH := ref3_Has A3 3 d3 [[4], [5], [0]] 1 0 wz r4.out (by decide) (fun k xs hx => by
      have := List.mem_of_getElem? hx
      simp only [List.mem_cons, List.not_mem_nil, or_false] at this
      rcases this with rfl | rfl | rfl <;> decide)
    rw [show (inM ((3 : Nat) : Int) 1 0 && hasM [[4], [5], [0]] 1 0) = true from by decide] at cH
    replace cH := Lib.hid cH
    clear hy
    go_wp2_with fail
    refine cH.out.mono ?_; rintro e w9 ⟨rfl, b9⟩
    go_wp2_with fail
    go_ret
    exact ⟨rfl, below_trans2 hB.out.o (below_trans2 bW b9)⟩
end Go.Proofs.Ytpbiilhclmcehaa

namespace Go.Proofs.Ytpbiilhclmcehaa
open Go.RowKit
set_option linter.unusedVariables false
theorem cfR_dim {f : Fac} {a : List (List Nat)} (hG : Good f.items.length a) (h : f.items.length < 64) : (cfR f a).length ≤ 64 ∧ ∀ (k : Nat) (xs : List Nat), (cfR f a)[k]? = some xs → xs.length ≤ 1024 := by
  unfold cfR
  split
  · exact ⟨by simp, fun k xs hx => by simp at hx⟩
  · have hg := (cfM_hull hG).1
    exact ⟨by rw [hg.len]; omega, fun k xs hx => Nat.le_trans (hg.small xs (List.mem_of_getElem? hx)) (by decide)⟩
set_option maxRecDepth 100000 in
set_option maxHeartbeats 4000000 in
theorem law17_ClashTells (A B : Option Addr) (n c m d : Nat) (hs : List (List OpT)) (ps : List (Nat × Nat)) (w : World) (hX : HistAt w A n hs) (hP : Pairs8 w B m ps) (hm63 : m ≤ 9223372036854775807) (hnc : n ≤ c) (hc : c ≤ 1099511627776) (hF : (allO hs).length ≤ 1099511627776) :
    Calls Try.prog 3 #[.slice A n c, .slice B m d] w (RetBool true w) := by
  by_cases hm40 : m ≤ 20
  · have hml : decide ((20 : Int) < (m : Int)) = false := decide_eq_false (by omega)
    have hmlt : ¬ (20 : Int) < (m : Int) := by omega
    -- a law of one history hs (at A n c) that guards itself by Small 20, then asks for whole facts: walked to where they lie (hB : FBox w g x f V, V not yet named: hV, hg); f's hf, hw, hm30
    have hXl := Lib.hid hX.len
    have cS := Lib.hid (ref6_Small A n c 20 hs w hX (by omega) (by omega))
    replace hX := Lib.hid hX
    cases hsa : smallL hs 20 with
    | false =>
      rw [hsa] at cS
      clear hsa
      go_enter Try.func3, Try.ntmps3
      go_wp2_with fail
      refine cS.out.mono ?_; rintro e w1 ⟨rfl, b1⟩
      go_wp2_with fail
      refine (law17_awake w1).mono ?_; rintro e w9 ⟨rfl, b9⟩
      go_wp2_with fail
      go_ret
      exact ⟨rfl, below_trans2 b1 b9⟩
    | true =>
      rw [hsa] at cS
      obtain ⟨hnx, hFx, hnm8⟩ := smallL_says hsa
      rw [hXl.out] at hnx
      replace hnm8 := Lib.hid hnm8
      clear hsa
      go_enter Try.func3, Try.ntmps3
      go_wp2_with fail
      refine cS.out.mono ?_; rintro e w1 ⟨rfl, b1⟩
      replace hX := Lib.hid (hX.out.below b1)
      have c1 := Lib.hid (ref11_Of A n c hs w1 hX.out (by omega) (by omega))
      go_wp2_with fail
      refine c1.out.mono ?_; rintro e w3 ⟨x, rfl, hG, b3⟩
      obtain ⟨V, hV⟩ : ∃ W, W = w3.alloc (.cells #[.slice x.A x.n x.c, .slice x.B x.m x.d, .slice x.C x.k x.e] 30) := ⟨_, rfl⟩
      obtain ⟨g, hg⟩ : ∃ g, g = w3.heap.size := ⟨_, rfl⟩
      have bV : Below w3.heap.size w3 V := by rw [hV]; exact (Below.refl _ _).alloc (Nat.le_refl _) _
      cases hok : okO11 hs with
      | false =>
        have bb := Lib.hid (below_trans2 (below_trans2 b1 b3) bV)
        clear hG b1 b3 bV hok c1 cS
        go_wp2_with (rw [← hV, ← hg]; clear hV; replace hg := Lib.hid hg)
        refine (law17_awake V).mono ?_; rintro e w9 ⟨rfl, b9⟩
        go_wp2_with fail
        go_ret
        exact ⟨rfl, below_trans2 bb.out b9⟩
      | true =>
        obtain ⟨f, hf⟩ : ∃ f : Fac, f = fillF (facO hs) := ⟨_, rfl⟩
        have hGf := hG hok
        rw [← hf] at hGf
        have hw : WholeF f := by rw [hf]; exact fillF_whole _
        have hff : f.frm = fromF f.items := by rw [hf]; rfl
        have hm30 : x.m ≤ 20 := by
          rw [← hGf.is.len, hf]
          show (hisF hs).2.length ≤ 20
          rw [hisF_len]; omega
        have hB := Lib.hid ((FBox.new hGf).from_ (below_trans2 b1 b3))
        rw [← hV, ← hg] at hB
        replace hX := Lib.hid ((hX.out.below b3).below bV)
        replace hok := Lib.hid hok
        replace hf := Lib.hid hf
        clear hG hGf b1 b3 bV c1 cS
        clear hX
        replace hml := Lib.hid hml
        replace hmlt := Lib.hid hmlt
        replace hP := Lib.hid (show Pairs8 V B m ps from hP.below hB.out.o)
        have hil := hB.out.f.is.len
        obtain ⟨M, hMe⟩ : ∃ M, M = ordM x.m (coM f) ps := ⟨_, rfl⟩
        have gM : Good x.m M := by rw [hMe]; exact ordM_good (by rw [← hil]; exact (coM_hull hw (by omega)).1) ps
        have hMl := Lib.hid gM.len
        have cO := fun W hW hP => law17_order x f B m d ps W hW hP (by omega) hw (by omega)
        rw [← hMe] at cO
        have cP := fun A c W hW hR hc => clash_Cf x f A c M W hW hR gM (by omega) hc hw hff
        have cQ := fun A c W hW hR hc => ref17_Cf x f A c M W hW hR gM (by omega) hc hw
        have cE := fun A c W hW hR hc => clash_Edges x f A c M W hW hR gM (by omega) hc hw hff
        have cR := fun A c W hW hR => ref17_Edges x f A c M W hW hR gM (by omega) hw
        have hd := cfR_dim (f := f) (a := M) (by rw [hil]; exact gM) (by omega)
        obtain ⟨N, hN⟩ : ∃ N, N = cfN f M := ⟨_, rfl⟩
        obtain ⟨R, hRe⟩ : ∃ R, R = cfR f M := ⟨_, rfl⟩
        obtain ⟨er, her⟩ : ∃ N, N = cfE f M := ⟨_, rfl⟩
        obtain ⟨es, hes⟩ : ∃ l, l = edgesF f M := ⟨_, rfl⟩
        rw [← hN, ← hRe, ← her] at cP cQ
        rw [← hRe] at hd
        rw [← hes] at cE cR
        replace cO := Lib.hid cO
        replace cP := Lib.hid cP
        replace cQ := Lib.hid cQ
        replace cE := Lib.hid cE
        replace cR := Lib.hid cR
        replace hd := Lib.hid hd
        clear hN hRe her hes hMe hil gM
        have p0 := hB.out.c0
        have p1 := hB.out.c1
        have p2 := hB.out.c2
        go_wp2_with (rw [← hV, ← hg]; clear hV; replace hg := Lib.hid hg)
        refine (cO.out V hB.out.f hP.out).mono ?_; rintro e w5 ⟨A1, n1, d1, rfl, hR, hc1, b⟩
        obtain rfl : n1 = x.m := by rw [← hR.len]; exact hMl.out
        -- a call's matrix (N A n c x, hR) laid into a variable: W, g; kM : MatK W g ..
        obtain ⟨W1, hW1⟩ : ∃ W, W = World.alloc w5 (.cells #[.int .i64 (x.m : Int), .slice A1 x.m d1] 35) := ⟨_, rfl⟩
        obtain ⟨gm, hgm⟩ : ∃ g, g = (World.heap w5).size := ⟨_, rfl⟩
        have bW1 : Below (World.heap w5).size w5 W1 := by rw [hW1]; exact below_alloc _ _
        have kM := Lib.hid (show MatK W1 gm 35 (x.m : Int) A1 x.m d1 M from by rw [hW1, hgm]; exact MatK.new w5 _ hR)
        replace hB := Lib.hid ((hB.out.later b).later bW1)
        clear bW1 hR b p0 p1 p2 cO hP
        have p0 := hB.out.c0
        have p1 := hB.out.c1
        have p2 := hB.out.c2
        have m0 := kM.out.1.c0
        have m1 := kM.out.1.c1
        go_wp2_with (rw [← hW1, ← hgm]; clear hW1; replace hgm := Lib.hid hgm)
        refine (cP.out A1 d1 W1 hB.out.f kM.out.2 hc1).mono ?_; rintro e w6 ⟨A2, n2, d2, rfl, hR, hc2, b⟩
        have hn2 := Lib.hid hR.len
        -- a call's matrix (N A n c x, hR) laid into a variable: W, g; kA : MatK W g ..
        obtain ⟨W2, hW2⟩ : ∃ W, W = World.alloc w6 (.cells #[.int .i64 N, .slice A2 n2 d2] 35) := ⟨_, rfl⟩
        obtain ⟨ga, hga⟩ : ∃ g, g = (World.heap w6).size := ⟨_, rfl⟩
        have bW2 : Below (World.heap w6).size w6 W2 := by rw [hW2]; exact below_alloc _ _
        have kA := Lib.hid (show MatK W2 ga 35 N A2 n2 d2 R from by rw [hW2, hga]; exact MatK.new w6 _ hR)
        replace hB := Lib.hid ((hB.out.later b).later bW2)
        replace kM := Lib.hid ((kM.out.below b).below bW2)
        clear bW2 hR b p0 p1 p2 m0 m1 cP
        have p0 := hB.out.c0
        have p1 := hB.out.c1
        have p2 := hB.out.c2
        have m0 := kM.out.1.c0
        have m1 := kM.out.1.c1
        go_wp2_with (rw [← hW2, ← hga]; clear hW2; replace hga := Lib.hid hga)
        refine (cQ.out A1 d1 W2 hB.out.f kM.out.2 hc1).mono ?_; rintro e w7 ⟨A3, n3, d3, rfl, hR, hc3, b⟩
        have hn3 := Lib.hid hR.len
        -- a call's matrix (N A n c x, hR) laid into a variable: W, g; kC : MatK W g ..
        obtain ⟨W3, hW3⟩ : ∃ W, W = World.alloc w7 (.cells #[.int .i64 N, .slice A3 n3 d3] 35) := ⟨_, rfl⟩
        obtain ⟨gc, hgc⟩ : ∃ g, g = (World.heap w7).size := ⟨_, rfl⟩
        have bW3 : Below (World.heap w7).size w7 W3 := by rw [hW3]; exact below_alloc _ _
        have kC := Lib.hid (show MatK W3 gc 35 N A3 n3 d3 R from by rw [hW3, hgc]; exact MatK.new w7 _ hR)
        replace hB := Lib.hid ((hB.out.later b).later bW3)
        replace kM := Lib.hid ((kM.out.below b).below bW3)
        replace kA := Lib.hid ((kA.out.below b).below bW3)
        clear bW3 hR b p0 p1 p2 m0 m1 cQ
        go_wp2_with (rw [← hW3, ← hgc]; clear hW3; replace hgc := Lib.hid hgc)
        refine wp_region_plan 21 [(false, 0), (true, 1), (true, 2), (true, 3), (true, 5), (true, 6), (false, 4), (false, 7), (false, 8), (true, 9), (true, 10), (true, 11), (true, 12), (false, 13), (true, 14), (true, 15), (true, 16), (true, 17), (true, 18), (true, 19), (true, 20)] (by kernel_rfl) (by kernel_rfl) (fun U hU => ?_)
        have hU' : Below W3.heap.size W3 U := by rw [hU.out]; exact (Below.refl _ _).drew
        replace hB := Lib.hid (hB.out.later hU')
        replace kM := Lib.hid (kM.out.below hU')
        replace kA := Lib.hid (kA.out.below hU')
        replace kC := Lib.hid (kC.out.below hU')
        clear hU hU'
        simp only [List.drop_succ_cons, List.drop_nil]
        refine wpPlan_only rfl (by rfl) (fun K hK => ?_)
        go_simp
        refine (law17_awake U).mono ?_
        rintro e x0 ⟨rfl, b⟩
        refine hK _ _ b ?_
        clear hK K
        replace hB := Lib.hid (hB.out.later b)
        replace kM := Lib.hid (kM.out.below b)
        replace kA := Lib.hid (kA.out.below b)
        replace kC := Lib.hid (kC.out.below b)
        clear b
        have p0 := hB.out.c0
        have p1 := hB.out.c1
        have p2 := hB.out.c2
        have m0 := kM.out.1.c0
        have m1 := kM.out.1.c1
        iterate 5
          refine wpPlan_float (v := ?_) rfl (by rfl) (fun w' hw' => ?_) (fun K hK => ?_)
          rotate_left
          · (go_simp; try with_reducible rfl)
          go_simp
          refine hK _ ?_
          clear hK K
        clear p0 p1 p2 m0 m1
        refine wpPlan_only rfl (by rfl) (fun K hK => ?_)
        go_simp
        refine (cE.out A1 d1 x0 hB.out.f kM.out.2 hc1).mono ?_
        rintro e x1 ⟨E1, k1, e1, rfl, hL1, hk1, he1, b⟩
        refine hK _ _ b ?_
        clear hK K
        replace hB := Lib.hid (hB.out.later b)
        replace kM := Lib.hid (kM.out.below b)
        replace kA := Lib.hid (kA.out.below b)
        replace kC := Lib.hid (kC.out.below b)
        clear b
        refine wpPlan_only rfl (by rfl) (fun K hK => ?_)
        go_simp
        refine (cR.out A1 d1 x1 hB.out.f kM.out.2).mono ?_
        rintro e x2 ⟨E2, k2, e2, rfl, hL2, hk2, he2, b⟩
        refine hK _ _ b ?_
        clear hK K
        replace hB := Lib.hid (hB.out.later b)
        replace kM := Lib.hid (kM.out.below b)
        replace kA := Lib.hid (kA.out.below b)
        replace kC := Lib.hid (kC.out.below b)
        have cS := Lib.hid (ref17_Same E1 E2 k1 e1 k2 e2 es es x2 (hL1.below b) hL2 (by omega) (by omega))
        clear b hL1 hL2
        refine wpPlan_only rfl (by rfl) (fun K hK => ?_)
        go_simp
        refine cS.out.mono ?_
        rintro e x3 ⟨rfl, q3, rfl⟩
        have b := below_drewN (Below.refl x2.heap.size x2) q3
        rw [show decide (es = es) = true from decide_eq_true rfl]
        refine hK _ _ b ?_
        clear hK K
        replace hB := Lib.hid (hB.out.later b)
        replace kM := Lib.hid (kM.out.below b)
        replace kA := Lib.hid (kA.out.below b)
        replace kC := Lib.hid (kC.out.below b)
        clear b cS
        have m0 := kA.out.1.c0
        have m1 := kA.out.1.c1
        have k0 := kC.out.1.c0
        have k1' := kC.out.1.c1
        obtain ⟨X3, hX3⟩ : ∃ W, W = x2.drewN q3 := ⟨_, rfl⟩
        rw [← hX3] at hB kM kA kC m0 m1 k0 k1' ⊢
        clear hX3
        iterate 4
          refine wpPlan_float (v := ?_) rfl (by rfl) (fun w' hw' => ?_) (fun K hK => ?_)
          rotate_left
          · (go_simp; try with_reducible rfl)
          go_simp
          refine hK _ ?_
          clear hK K
        clear m0 m1 k0 k1'
        have cT := ref3_Equal N N A2 A3 n2 n3 d2 d3 R R X3 kA.out.2 kC.out.2 (by have := hd.out.1; have := hn2.out; omega) (by have := hd.out.1; have := hn3.out; omega) (fun k xs hx => Nat.le_trans (hd.out.2 k xs hx) (by decide)) (fun k xs hx => Nat.le_trans (hd.out.2 k xs hx) (by decide))
        rw [show equalM N N R R = true from by simp [equalM, sameM]] at cT
        replace cT := Lib.hid cT
        refine wpPlan_only rfl (by rfl) (fun K hK => ?_)
        go_simp
        refine cT.out.mono ?_
        rintro e x4 ⟨rfl, b⟩
        refine hK _ _ b ?_
        clear hK K
        replace hB := Lib.hid (hB.out.later b)
        replace kM := Lib.hid (kM.out.below b)
        replace kA := Lib.hid (kA.out.below b)
        replace kC := Lib.hid (kC.out.below b)
        clear b cT
        have hee : (er == er) = true := by simp
        iterate 7
          refine wpPlan_float (v := ?_) rfl (by rfl) (fun w' hw' => ?_) (fun K hK => ?_)
          rotate_left
          · (go_simp; try with_reducible rfl)
          go_simp
          refine hK _ ?_
          clear hK K
        refine wpPlan_nil (NoPanic.normal ?_)
        go_wp2_with fail
        go_ret
        exact ⟨rfl, hB.out.o⟩
  · have hml : decide ((20 : Int) < (m : Int)) = true := decide_eq_true (by omega)
    have hmlt : (20 : Int) < (m : Int) := by omega
    clear hm40
    -- a law of (h, l) with more than 20 pairs: hml, hmlt say so
    have cS := ref6_Small A n c 20 hs w hX (by omega) (by omega)
    clear hX hP
    obtain ⟨sb, hsb⟩ : ∃ b, b = smallL hs 20 := ⟨_, rfl⟩
    rw [← hsb] at cS
    replace cS := Lib.hid cS
    clear hsb
    cases sb with
    | false =>
      go_enter Try.func3, Try.ntmps3
      go_wp2_with fail
      refine cS.out.mono ?_; rintro e w1 ⟨rfl, b1⟩
      go_wp2_with fail
      refine (law17_awake w1).mono ?_; rintro e w9 ⟨rfl, b9⟩
      go_wp2_with fail
      go_ret
      exact ⟨rfl, below_trans2 b1 b9⟩
    | true =>
      go_enter Try.func3, Try.ntmps3
      go_wp2_with fail
      refine cS.out.mono ?_; rintro e w1 ⟨rfl, b1⟩
      go_wp2_with fail
      refine (law17_awake w1).mono ?_; rintro e w9 ⟨rfl, b9⟩
      go_wp2_with fail
      go_ret
      exact ⟨rfl, below_trans2 b1 b9⟩
end Go.Proofs.Ytpbiilhclmcehaa

namespace Go.Proofs.Ytpbiilhclmcehaa
open Go.RowKit Go.ChangeShapes Go.WideShapes Go.Deep
set_option linter.unusedVariables false

theorem bulk_append {H : Type} (l r : List (DataW H)) : Rows.uptoBulkAll (l ++ r) = Rows.uptoBulkAll l + Rows.uptoBulkAll r := by
  induction l with
  | nil => simp [Rows.uptoBulkAll]
  | cons x l ih => rw [List.cons_append, Rows.uptoBulkAll, Rows.uptoBulkAll, ih]; omega
theorem bulk_pos {H : Type} (d : DataW H) : 1 ≤ Rows.uptoBulk d := by
  cases d with
  | lit l => cases l <;> simp [Rows.uptoBulk]
  | nil => simp [Rows.uptoBulk]
  | ptr d => simp [Rows.uptoBulk]
  | slice elems spare => simp [Rows.uptoBulk]
  | agg parts => simp [Rows.uptoBulk]
  | iface t d => simp [Rows.uptoBulk]
  | map entries => simp [Rows.uptoBulk]
  | held h => simp [Rows.uptoBulk]
theorem bulk_len {H : Type} (l : List (DataW H)) : l.length ≤ Rows.uptoBulkAll l := by
  induction l with
  | nil => simp
  | cons x r ih => have := bulk_pos x; rw [Rows.uptoBulkAll, List.length_cons]; omega
theorem bulk_slice {H : Type} (a b : List (DataW H)) : Rows.uptoBulk (.slice a b) = Rows.uptoBulkAll a + Rows.uptoBulkAll b + 1 := by rw [Rows.uptoBulk]
theorem addr_plus (b off j : Nat) : (⟨b, off, none⟩ : Addr).add j = ⟨b, off + j, none⟩ := by unfold Addr.add; split <;> simp_all

section
variable {H : Type} {enc : TypeId × Value → H} {P : Program} {w : World} {base : Nat} {held : Bool}
theorem open_ops {t e : TypeId} {f0 f1 f2 : Field} {fuel : Nat} {A : Option Addr} {len cap : Nat} {x : DataW H × List MemPlace} (ht : P.underlying t = some (.slice e)) (he : P.underlying e = some (.struct #[f0, f1, f2])) (ce : P.cellsOf e = 3)
    (o0 : f0.offset = 0) (o1 : f1.offset = 1) (o2 : f2.offset = 2) (k0 : P.cellsOf f0.type = 1) (k1 : P.cellsOf f1.type = 1) (k2 : P.cellsOf f2.type = 1)
    (u0 : P.underlying f0.type = some .bool) (u1 : P.underlying f1.type = some .string) (u2 : P.underlying f2.type = some (.int .i64))
    (h : DataW.trod enc P w base (fun _ => true) held fuel t [.slice A len cap] = some x) : ∃ os, OpsAt w A len os ∧ len ≤ cap ∧ cap ≤ 9223372036854775807 ∧ cap ≤ Rows.uptoBulk x.1 := by
  rcases open_slice ht h with ⟨hcs, hx⟩ | ⟨⟨b, off, spot⟩, l, c, m, n, D, Pl, hcs, hb, hl, hm, hmm, hx, hel⟩
  · injection hcs with hcs
    injection hcs with h1 h2 h3
    subst h1 h2 h3
    exact ⟨[], OpsAt.nil _ _, by omega, by omega, by omega⟩
  · injection hcs with hcs
    injection hcs with h1 h2 h3
    subst h1 h2 h3
    rw [if_pos rfl] at hmm
    subst hmm
    have hbulk : m ≤ Rows.uptoBulk x.1 := by
      rw [hx, bulk_slice]
      have := bulk_len ((List.range len).map D)
      have := bulk_len ((List.range (m - len)).map fun j => D (len + j))
      simp only [List.length_map, List.length_range] at *
      omega
    have hmm : m ≤ 9223372036854775807 := by unfold maxLen at hm; omega
    have hat : ∀ k, k < len → ∃ o : OpT, ((-9223372036854775808 ≤ o.2.2 ∧ o.2.2 < 9223372036854775808) ∧ o.2.1.size ≤ 9223372036854775807) ∧
        w.cell? ((⟨b, off, spot⟩ : Addr).add (k * 3)) = some (.bool o.1) ∧ w.cell? (((⟨b, off, spot⟩ : Addr).add (k * 3)).add 1) = some (.string o.2.1) ∧ w.cell? (((⟨b, off, spot⟩ : Addr).add (k * 3)).add 2) = some (.int .i64 o.2.2) := by
      intro k hk
      obtain ⟨cs', hc, ht'⟩ := hel k (by omega)
      rw [ce] at hc
      obtain ⟨_, hcl, hcat⟩ := World.cells?_some hc
      obtain ⟨xs, m', _, _, _, hxl, hf⟩ := DataW.trod_struct he ht'
      match cs', hcl with
      | [p, q, r], _ =>
        match xs, hxl with
        | [y0, y1, y2], _ =>
          have f0' := hf 0 f0 rfl
          have f1' := hf 1 f1 rfl
          have f2' := hf 2 f2 rfl
          rw [o0, k0] at f0'
          rw [o1, k1] at f1'
          rw [o2, k2] at f2'
          simp at f0' f1' f2'
          obtain ⟨bv, e0, _⟩ := DataW.trod_bool u0 f0'
          obtain ⟨sv, e1, _, ws⟩ := DataW.trod_string u1 f1'
          obtain ⟨iv, e2, _, wi⟩ := DataW.trod_int u2 f2'
          injection e0 with e0
          injection e1 with e1
          injection e2 with e2
          subst e0; subst e1; subst e2
          have c0 := hcat 0 (by omega)
          have c1 := hcat 1 (by omega)
          have c2 := hcat 2 (by omega)
          have hz : ∀ a : Addr, a.add 0 = a := fun a => by obtain ⟨b, o, s⟩ := a; unfold Addr.add; split <;> simp_all
          rw [hz] at c0
          have hb := bounds_i64 wi
          exact ⟨(bv, sv, iv), ⟨⟨hb.1, by have := hb.2; show iv < _; omega⟩, by unfold maxLen at ws; exact ws⟩, by simpa using c0, by simpa using c1, by simpa using c2⟩
    by_cases h0 : len = 0
    · subst h0
      exact ⟨[], OpsAt.nil _ _, by omega, hmm, hbulk⟩
    · obtain ⟨_, _, hc0, _, _⟩ := hat 0 (by omega)
      have hspot : spot = none := by
        have h := World.cell?_spot hc0
        cases spot with
        | none => rfl
        | some s => unfold Addr.add at h; simp at h
      subst hspot
      have hblt : b < w.heap.size := by
        have := World.block_lt_of_cell? w _ hc0
        rwa [addr_plus] at this
      have hall : ∀ k, k ≤ len → ∃ os : List OpT, os.length = k ∧ OkO os ∧ ∀ (j : Nat) (u : Value), (cellsO os)[j]? = some u → w.cell? ⟨b, off + j, none⟩ = some u := by
        intro k
        induction k with
        | zero => exact fun _ => ⟨[], rfl, fun o h => by simp at h, fun j u h => by simp [cellsO] at h⟩
        | succ k ih =>
          intro hk
          obtain ⟨os, p1, p2, p3⟩ := ih (by omega)
          obtain ⟨o, hok, c0, c1, c2⟩ := hat k (by omega)
          rw [addr_plus] at c0 c1 c2
          rw [addr_plus] at c1 c2
          refine ⟨os ++ [o], by simp [p1], okO_append p2 (fun o' h => by rw [List.mem_singleton.1 h]; exact hok), fun j u hj => ?_⟩
          rw [cellsO_append] at hj
          rcases Nat.lt_or_ge j (cellsO os).length with hlt | hge
          · rw [List.getElem?_append_left hlt] at hj; exact p3 j u hj
          · rw [List.getElem?_append_right hge] at hj
            have hlk : (cellsO os).length = k * 3 := by rw [cellsO_len, p1]
            obtain ⟨r, rfl⟩ : ∃ r, j = k * 3 + r := ⟨j - k * 3, by omega⟩
            rw [hlk, Nat.add_sub_cancel_left] at hj
            match r, hj with
            | 0, hj =>
              have : u = .bool o.1 := by simpa [cellsO] using hj.symm
              rw [this]; exact c0
            | 1, hj =>
              have : u = .string o.2.1 := by simpa [cellsO] using hj.symm
              rw [this, ← Nat.add_assoc]; exact c1
            | 2, hj =>
              have : u = .int .i64 o.2.2 := by simpa [cellsO] using hj.symm
              rw [this, ← Nat.add_assoc]; exact c2
            | r + 3, hj => simp [cellsO] at hj
      obtain ⟨os, p1, p2, p3⟩ := hall len (Nat.le_refl _)
      exact ⟨os, ⟨p1, p2, fun _ => ⟨b, off, rfl, hblt, p3⟩⟩, hl, hmm, hbulk⟩
theorem open_hist {th t e : TypeId} {f0 f1 f2 : Field} {fuel : Nat} {v : Value} {x : DataW H × List MemPlace} (hth : P.underlying th = some (.slice t)) (ct : P.cellsOf t = 1) (ht : P.underlying t = some (.slice e)) (he : P.underlying e = some (.struct #[f0, f1, f2])) (ce : P.cellsOf e = 3)
    (o0 : f0.offset = 0) (o1 : f1.offset = 1) (o2 : f2.offset = 2) (k0 : P.cellsOf f0.type = 1) (k1 : P.cellsOf f1.type = 1) (k2 : P.cellsOf f2.type = 1)
    (u0 : P.underlying f0.type = some .bool) (u1 : P.underlying f1.type = some .string) (u2 : P.underlying f2.type = some (.int .i64))
    (h : DataW.trod enc P w base (fun _ => true) held fuel th [v] = some x) : ∃ A len cap hs, v = .slice A len cap ∧ HistAt w A len hs ∧ len ≤ cap ∧ cap ≤ 9223372036854775807 ∧ cap ≤ Rows.uptoBulk x.1 ∧ (allO hs).length ≤ Rows.uptoBulk x.1 := by
  rcases open_slice1 hth ct h with ⟨hcs, hx⟩ | ⟨⟨b, off, spot⟩, len, cap, m, n, V, D, Pl, hcs, hb, hl, hm, hmm, hx, hel⟩
  · injection hcs with hcs
    exact ⟨none, 0, 0, [], hcs, HistAt.nil _ _, by omega, by omega, by omega, by simp [allO]⟩
  · injection hcs with hcs
    rw [if_pos rfl] at hmm
    subst hmm
    have hmm : m ≤ 9223372036854775807 := by unfold maxLen at hm; omega
    have hbulk : m ≤ Rows.uptoBulk x.1 ∧ Rows.uptoBulkAll ((List.range len).map D) ≤ Rows.uptoBulk x.1 := by
      rw [hx, bulk_slice]
      have := bulk_len ((List.range len).map D)
      have := bulk_len ((List.range (m - len)).map fun j => D (len + j))
      simp only [List.length_map, List.length_range] at *
      omega
    have hat : ∀ k, k < len → ∃ os, SessV w (V k) os ∧ os.length ≤ Rows.uptoBulk (D k) := by
      intro k hk
      obtain ⟨_, hk2⟩ := hel k (by omega)
      obtain ⟨A', n', c', e'⟩ : ∃ A' n' c', V k = .slice A' n' c' := by
        rcases open_slice ht hk2 with ⟨hcs, _⟩ | ⟨a, l, c, m, n, D, Pl, hcs, _⟩
        · injection hcs with hcs; exact ⟨_, _, _, hcs⟩
        · injection hcs with hcs; exact ⟨_, _, _, hcs⟩
      rw [e'] at hk2
      obtain ⟨os, h1, h2, h3, h4⟩ := open_ops ht he ce o0 o1 o2 k0 k1 k2 u0 u1 u2 hk2
      exact ⟨os, ⟨A', n', c', e', h2, by omega, h1⟩, by rw [h1.len]; exact Nat.le_trans h2 h4⟩
    by_cases h0 : len = 0
    · subst h0
      exact ⟨_, 0, m, [], hcs, HistAt.nil _ _, by omega, hmm, hbulk.1, by simp [allO]⟩
    · have hc0 := (hel 0 (by omega)).1
      have hspot : spot = none := by
        have h := World.cell?_spot hc0
        cases spot with
        | none => rfl
        | some s => unfold Addr.add at h; simp at h
      subst hspot
      have hblt : b < w.heap.size := by
        have := World.block_lt_of_cell? w _ hc0
        rwa [addr_plus] at this
      have hall : ∀ k, k ≤ len → ∃ hs : List (List OpT), hs.length = k ∧ (∀ (i : Nat) (v : Value) (os : List OpT), ((List.range k).map V)[i]? = some v → hs[i]? = some os → SessV w v os) ∧ (allO hs).length ≤ Rows.uptoBulkAll ((List.range k).map D) := by
        intro k
        induction k with
        | zero => exact fun _ => ⟨[], rfl, fun i v os h => by simp at h, by simp [allO]⟩
        | succ k ih =>
          intro hk
          obtain ⟨hs, p1, p2, p3⟩ := ih (by omega)
          obtain ⟨os, q1, q2⟩ := hat k (by omega)
          refine ⟨hs ++ [os], by simp [p1], fun i v o hv ho => ?_, ?_⟩
          · rw [List.range_succ, List.map_append] at hv
            rcases Nat.lt_or_ge i k with hlt | hge
            · rw [List.getElem?_append_left (by simpa using hlt)] at hv
              rw [List.getElem?_append_left (by omega)] at ho
              exact p2 i v o hv ho
            · rw [List.getElem?_append_right (by simpa using hge)] at hv
              rw [List.getElem?_append_right (by omega)] at ho
              have hv' := List.mem_of_getElem? hv
              have ho' := List.mem_of_getElem? ho
              simp at hv' ho'
              subst hv'; subst ho'
              exact q1
          · rw [allO_append, List.range_succ, List.map_append, bulk_append, List.length_append]
            have e1 : (allO [os]).length = os.length := by simp [allO]
            have e2 : Rows.uptoBulkAll (List.map D [k]) = Rows.uptoBulk (D k) := by simp [Rows.uptoBulkAll]
            omega
      obtain ⟨hs, p1, p2, p3⟩ := hall len (Nat.le_refl _)
      refine ⟨_, len, m, hs, hcs, ⟨(List.range len).map V, ⟨by simp, fun _ => ⟨b, off, rfl, hblt, fun j u hu => ?_⟩⟩, by simp [p1], p2⟩, hl, hmm, hbulk.1, by omega⟩
      have hj : j < len := by have := (List.getElem?_eq_some_iff.1 hu).1; simpa using this
      rw [List.getElem?_map, List.getElem?_range hj, Option.map_some] at hu
      have h1 := (hel j (by omega)).1
      rw [addr_plus] at h1
      rw [h1]; exact hu
end
end Go.Proofs.Ytpbiilhclmcehaa

namespace Go.Proofs.Ytpbiilhclmcehaa
open Go.RowKit Go.ChangeShapes Go.WideShapes Go.Deep Go.Joins
set_option linter.unusedVariables false

theorem addr_add (b off j : Nat) : (⟨b, off, none⟩ : Addr).add j = ⟨b, off + j, none⟩ := by unfold Addr.add; split <;> simp_all

section
variable {H : Type} {enc : TypeId × Value → H} {P : Program} {w : World} {base : Nat} {spare : Nat → Bool} {held : Bool}
end

end Go.Proofs.Ytpbiilhclmcehaa

namespace Go.Proofs.Ytpbiilhclmcehaa
open Go.RowKit Go.ChangeShapes Go.WideShapes Go.Deep Go.Joins
set_option linter.unusedVariables false
section
variable {H : Type} {enc : TypeId × Value → H} {P : Program} {w : World} {base : Nat} {held : Bool}
end
end Go.Proofs.Ytpbiilhclmcehaa

namespace Go.Proofs.Ytpbiilhclmcehaa
open Go.RowKit Go.ChangeShapes Go.WideShapes Go.Deep Go.Joins
set_option linter.unusedVariables false
section
variable {H : Type} {enc : TypeId × Value → H} {P : Program} {w : World} {base : Nat} {held : Bool}
end
end Go.Proofs.Ytpbiilhclmcehaa

namespace Go.Proofs.Ytpbiilhclmcehaa
open Go.RowKit Go.ChangeShapes Go.WideShapes Go.Deep Go.Joins
set_option linter.unusedVariables false

section
open Go.ChangeShapes Go.WideShapes Go.Deep Go.Joins
variable {H : Type} {enc : TypeId × Value → H} {P : Program} {w : World} {base : Nat} {spare : Nat → Bool} {held : Bool}
theorem open_pairs8 {t e i : TypeId} {fuel : Nat} {A : Option Addr} {len cap : Nat} {x : DataW H × List MemPlace} (ht : P.underlying t = some (.slice e)) (he : P.underlying e = some (.array 2 i)) (hi : P.underlying i = some (.int .u8))
    (ce : P.cellsOf e = 2) (ci : P.cellsOf i = 1) (h : DataW.trod enc P w base spare held fuel t [.slice A len cap] = some x) : ∃ ps, Pairs8 w A len ps ∧ len ≤ 9223372036854775807 := by
  rcases open_slice ht h with ⟨hcs, _⟩ | ⟨⟨b, off, spot⟩, l, c, m, n, D, Pl, hcs, hb, hl, hm, hmm, hx, hel⟩
  · injection hcs with hcs
    injection hcs with h1 h2 h3
    subst h1 h2 h3
    exact ⟨[], ⟨rfl, by simp, fun h => absurd h (by omega)⟩, by omega⟩
  · injection hcs with hcs
    injection hcs with h1 h2 h3
    subst h1 h2 h3
    have hlm : len ≤ m := by rw [hmm]; split <;> omega
    have hat : ∀ k, k < len → ∃ x y : Nat, w.cell? ((⟨b, off, spot⟩ : Addr).add (k * 2)) = some (.int .u8 (x : Int)) ∧ w.cell? (((⟨b, off, spot⟩ : Addr).add (k * 2)).add 1) = some (.int .u8 (y : Int)) ∧ x < 256 ∧ y < 256 := by
      intro k hk
      obtain ⟨cs', hc, ht'⟩ := hel k (by omega)
      rw [ce] at hc
      obtain ⟨_, hcl, hcat⟩ := World.cells?_some hc
      obtain ⟨xs, m', _, _, _, hxl, hf⟩ := DataW.trod_array he ht'
      match cs', hcl with
      | [u, v], _ =>
        have f0 := hf 0 (by omega)
        have f1 := hf 1 (by omega)
        rw [ci] at f0 f1
        rw [List.getElem?_eq_getElem (by omega)] at f0 f1
        obtain ⟨n0, e0, _, w0⟩ := DataW.trod_int hi f0
        obtain ⟨n1, e1, _, w1⟩ := DataW.trod_int hi f1
        simp at e0 e1
        subst e0 e1
        have c0 := hcat 0 (by omega)
        have c1 := hcat 1 (by omega)
        have b0 := bounds_u8 w0
        have b1 := bounds_u8 w1
        obtain ⟨x0, rfl⟩ := Int.eq_ofNat_of_zero_le b0.1
        obtain ⟨x1, rfl⟩ := Int.eq_ofNat_of_zero_le b1.1
        refine ⟨x0, x1, ?_, by simpa using c1, by omega, by omega⟩
        have hz : ∀ a : Addr, a.add 0 = a := fun a => by obtain ⟨b, o, s⟩ := a; unfold Addr.add; split <;> simp_all
        rw [hz] at c0
        simpa using c0
    by_cases h0 : len = 0
    · subst h0
      exact ⟨[], ⟨rfl, by simp, fun h => absurd h (by omega)⟩, by omega⟩
    · obtain ⟨_, _, hc0, _, _, _⟩ := hat 0 (by omega)
      have hspot : spot = none := by
        have h := World.cell?_spot hc0
        cases spot with
        | none => rfl
        | some s => unfold Addr.add at h; simp at h
      subst hspot
      have hblt : b < w.heap.size := by
        have := World.block_lt_of_cell? w _ hc0
        rwa [addr_add] at this
      have hall : ∀ k, k ≤ len → ∃ ps : List (Nat × Nat), ps.length = k ∧ (∀ p ∈ ps, p.1 < 256 ∧ p.2 < 256) ∧
          ∀ (j : Nat) (p : Nat × Nat), ps[j]? = some p → w.cell? ⟨b, off + j * 2, none⟩ = some (.int .u8 (p.1 : Int)) ∧ w.cell? ⟨b, off + j * 2 + 1, none⟩ = some (.int .u8 (p.2 : Int)) := by
        intro k
        induction k with
        | zero => exact fun _ => ⟨[], rfl, by simp, fun j p h => by simp at h⟩
        | succ k ih =>
          intro hk
          obtain ⟨ps, p1, p2, p3⟩ := ih (by omega)
          obtain ⟨x, y, cx, cy, wx, wy⟩ := hat k (by omega)
          rw [addr_add] at cx cy
          rw [addr_add] at cy
          refine ⟨ps ++ [(x, y)], by simp [p1], fun p hp => ?_, fun j p hj => ?_⟩
          · rcases List.mem_append.1 hp with hp | hp
            · exact p2 p hp
            · rw [List.mem_singleton.1 hp]; exact ⟨wx, wy⟩
          · rcases Nat.lt_or_ge j ps.length with hlt | hge
            · rw [List.getElem?_append_left hlt] at hj; exact p3 j p hj
            · rw [List.getElem?_append_right hge] at hj
              have hjk : j = k := by
                have := (List.getElem?_eq_some_iff.1 hj).1
                simp at this; omega
              subst hjk
              rw [p1, Nat.sub_self] at hj
              simp at hj
              subst hj
              exact ⟨cx, cy⟩
      obtain ⟨ps, p1, p2, p3⟩ := hall len (Nat.le_refl _)
      exact ⟨ps, ⟨p1, p2, fun _ => ⟨b, off, rfl, hblt, p3⟩⟩, by unfold maxLen at hm; omega⟩
end
end Go.Proofs.Ytpbiilhclmcehaa
