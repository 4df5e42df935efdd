/- Layer 11's example, and the facts that its laws look at. -/
import Derived.Test.YtcdfpodhiogpiaaInternRefB
import Derived.Test.YtcdfpodhiogpiaaOrigin
namespace Go.Proofs.Ytcdfpodhiogpiaa
open Go.RowKit
set_option linter.unusedVariables false
theorem hisF_vars (hs : List (List OpT)) : (hisF hs).1.length ≤ (allO hs).length := by
  rw [← hisF_len]
  induction hs using snoc_ind with
  | h0 => simp [hisF_nil]
  | h1 hs os ih =>
    rw [hisF_snoc]
    have := sesF_len hs.length os (hisF hs)
    omega
def ex11 : List OpT := [(true, ⟨#[120]⟩, 1), (false, ⟨#[120]⟩, 1), (false, ⟨#[120]⟩, 0), (false, ⟨#[120]⟩, 2)]
theorem ok11 : OkO ex11 := fun o ho => by
  simp only [ex11, List.mem_cons, List.not_mem_nil, or_false] at ho
  rcases ho with rfl | rfl | rfl | rfl <;> exact ⟨⟨by decide, by decide⟩, by decide⟩
def fx11 : Fac := ⟨[⟨#[120]⟩], [⟨0, 0, true, 0, 1⟩, ⟨0, 1, false, 0, 1⟩, ⟨0, 2, false, 0, 0⟩, ⟨0, 3, false, 0, 2⟩], []⟩
theorem ex11_facts : rightL [ex11] = true ∧ facO [ex11] = fx11 ∧ fromF fx11.items = [-3, 0, -1, -2] ∧ readF [-3, 0, -1, -2] 0 4 = [1] := by decide
set_option maxRecDepth 100000 in
set_option maxHeartbeats 2000000 in
theorem law11_awake (w : World) : Calls Try.prog 7 #[] w (RetBool true w) := by
  obtain ⟨W, hW⟩ : ∃ W, W = (w.alloc (.cells #[.bool true, .string ⟨#[120]⟩, .int .i64 1, .bool false, .string ⟨#[120]⟩, .int .i64 1, .bool false, .string ⟨#[120]⟩, .int .i64 0, .bool false, .string ⟨#[120]⟩, .int .i64 2] 47)).alloc (.cells #[.slice (some ⟨w.heap.size, 0, none⟩) 4 4] 48) := ⟨_, rfl⟩
  have bW : Below w.heap.size w W := by rw [hW]; exact ((Below.refl _ w).alloc (Nat.le_refl _) _).alloc (by simp) _
  have hH : HistAt W (some ⟨w.heap.size + 1, 0, none⟩) 1 [ex11] := by
    have h1 := (Blk.new w 47 (cellsO ex11)).alloc (.cells #[.slice (some ⟨w.heap.size, 0, none⟩) 4 4] 48)
    have h2 := Blk.new (w.alloc (.cells #[.bool true, .string ⟨#[120]⟩, .int .i64 1, .bool false, .string ⟨#[120]⟩, .int .i64 1, .bool false, .string ⟨#[120]⟩, .int .i64 0, .bool false, .string ⟨#[120]⟩, .int .i64 2] 47)) 48 [.slice (some ⟨w.heap.size, 0, none⟩) 4 4]
    rw [World.size_alloc] at h2
    rw [hW]
    exact HistAt.one h2 (OpsAt.of_blk h1 ok11 rfl) (by omega) (by omega)
  have c1 := ref9_Of _ 1 1 [ex11] W hH (by omega) (by decide)
  rw [ex11_facts.1, if_pos rfl, if_pos rfl, ex11_facts.2.1] at c1
  replace c1 := Lib.hid c1
  replace bW := Lib.hid bW
  clear hH
  go_enter Try.func7, Try.ntmps7
  go_wp2_with fail
  rw [← hW]
  clear hW
  refine c1.out.mono ?_; rintro e w3 ⟨x, rfl, hG, b3⟩
  have hB := Lib.hid ((FBox.new hG).from_ (below_trans2 bW.out b3))
  have hxm : x.m = 4 := by rw [← hG.is.len]; rfl
  have hxn := Lib.hid (show x.n = 1 from by rw [← hG.vs.len]; rfl)
  obtain ⟨V, hV⟩ : ∃ W, W = w3.alloc (.cells #[.slice x.A x.n x.c, .slice x.B x.m x.d, .slice x.C x.k x.e] 27) := ⟨_, rfl⟩
  obtain ⟨g, hg⟩ : ∃ g, g = w3.heap.size := ⟨_, rfl⟩
  rw [← hV, ← hg] at hB
  replace hxm := Lib.hid hxm
  clear b3 c1 hG bW
  have p0 := hB.out.c0
  have p1 := hB.out.c1
  have p2 := hB.out.c2
  have cF := Lib.hid (origin_Fill x fx11 V hB.out.f (by rw [hxm.out]; decide) (by rw [hxn.out]; decide) (by decide))
  go_wp2_with (rw [← hV, ← hg]; clear hV; replace hg := Lib.hid hg)
  refine cF.out.mono ?_; rintro e w4 ⟨y, rfl, hY, b4⟩
  replace hB := Lib.hid (hB.out.later b4)
  have hym : y.m = 4 := by rw [← hY.is.len]; rfl
  have hyk : y.k = 4 := by rw [← hY.fs.len]; show (fromF fx11.items).length = 4; rw [ex11_facts.2.2.1]; rfl
  have hff : (fillF fx11).frm = [-3, 0, -1, -2] := ex11_facts.2.2.1
  have hZ := Lib.hid (FBox.new hY)
  obtain ⟨Z, hZ'⟩ : ∃ W, W = w4.alloc (.cells #[.slice y.A y.n y.c, .slice y.B y.m y.d, .slice y.C y.k y.e] 27) := ⟨_, rfl⟩
  obtain ⟨gz, hgz⟩ : ∃ g, g = w4.heap.size := ⟨_, rfl⟩
  have bZ : Below w4.heap.size w4 Z := by rw [hZ']; exact (Below.refl _ _).alloc (Nat.le_refl _) _
  rw [← hZ', ← hgz] at hZ
  replace hB := Lib.hid (hB.out.later bZ)
  clear b4 cF hY bZ p0 p1 p2
  have z0 := hZ.out.c0
  have z1 := hZ.out.c1
  have z2 := hZ.out.c2
  -- a literal of numbers [-3,0,-1,-2] (cells .int .i64 (-3), .int .i64 0, .int .i64 (-1), .int .i64 (-2)) in the world Z: the world L1, the slice at gl
  obtain ⟨L1, hL1⟩ : ∃ W, W = World.alloc Z (.cells #[.int .i64 (-3), .int .i64 0, .int .i64 (-1), .int .i64 (-2)] 3) := ⟨_, rfl⟩
  obtain ⟨gl, hgl⟩ : ∃ g, g = (World.heap Z).size := ⟨_, rfl⟩
  have bL1 : Below (World.heap Z).size Z L1 := by rw [hL1]; exact (Below.refl _ _).alloc (Nat.le_refl _) _
  have lL1 := Lib.hid (show LAt encI L1 (some ⟨gl, 0, none⟩) 4 [-3,0,-1,-2] from by rw [hL1, hgl]; exact LAt.of_blk (t := 3) (Blk.new Z _ (encI.all [-3,0,-1,-2])) (fun x hx => by simp only [List.mem_cons, List.not_mem_nil, or_false] at hx; rcases hx with rfl | rfl | rfl | rfl <;> exact ⟨by decide, by decide⟩) rfl)
  replace hZ := Lib.hid (hZ.out.later bL1)
  replace hB := Lib.hid (hB.out.later bL1)
  have hyk' := Lib.hid hyk
  have hym' := Lib.hid hym
  replace hff := Lib.hid hff
  have cI := ref2_IntsL y.C (some ⟨gl, 0, none⟩) y.k y.e 4 4 (fillF fx11).frm [-3, 0, -1, -2] L1 hZ.out.f.fs lL1.out (by omega) (by omega)
  rw [hff.out, decide_eq_true rfl] at cI
  replace cI := Lib.hid cI
  clear hyk hym
  go_wp2_with (first | (rw [← hZ', ← hgz]; clear hZ'; replace hgz := Lib.hid hgz) | (rw [← hL1, ← hgl]; clear hL1; replace hgl := Lib.hid hgl))
  refine cI.out.mono ?_; rintro e w5 ⟨rfl, q, rfl⟩
  obtain ⟨w5, hw5⟩ : ∃ W, W = L1.drewN q := ⟨_, rfl⟩
  replace hZ := Lib.hid (show FBox w4 gz y (fillF fx11) w5 from by rw [hw5]; exact hZ.out.drewN q)
  replace hB := Lib.hid (show FBox w g x fx11 w5 from by rw [hw5]; exact hB.out.drewN q)
  rw [← hw5]
  clear hw5 z0 z1 z2 bL1 cI lL1
  have z0 := hZ.out.c0
  have z1 := hZ.out.c1
  have z2 := hZ.out.c2
  have cW := origin_Whole y (fillF fx11) w5 hZ.out.f (by rw [hym'.out]; decide) (by decide)
  rw [show decide ((fillF fx11).frm = fromF (fillF fx11).items) = true from decide_eq_true rfl] at cW
  replace cW := Lib.hid cW
  go_wp2_with fail
  refine cW.out.mono ?_; rintro e w6 ⟨rfl, b⟩
  replace hZ := Lib.hid (hZ.out.later b)
  replace hB := Lib.hid (hB.out.later b)
  clear b z0 z1 z2 cW
  have p0 := hB.out.c0
  have p1 := hB.out.c1
  have p2 := hB.out.c2
  have cW := origin_Whole x fx11 w6 hB.out.f (by rw [hxm.out]; decide) (by decide)
  rw [show decide (fx11.frm = fromF fx11.items) = false from by rw [ex11_facts.2.2.1]; decide] at cW
  replace cW := Lib.hid cW
  go_wp2_with fail
  refine cW.out.mono ?_; rintro e w7 ⟨rfl, b⟩
  replace hZ := Lib.hid (hZ.out.later b)
  replace hB := Lib.hid (hB.out.later b)
  clear b p0 p1 p2 cW
  have z0 := hZ.out.c0
  have z1 := hZ.out.c1
  have z2 := hZ.out.c2
  have cR := origin_Readers y (fillF fx11) 0 w7 hZ.out.f (by rw [hym'.out]; decide) rfl
  rw [hff.out, show (fillF fx11).items.length = 4 from rfl, ex11_facts.2.2.2] at cR
  replace cR := Lib.hid cR
  go_wp2_with fail
  refine cR.out.mono ?_; rintro e w8 ⟨A, n, c, rfl, hL, hnc, hcm, b⟩
  replace hB := Lib.hid (hB.out.later b)
  clear b z0 z1 z2 cR hZ
  -- a literal of numbers [1] (cells .int .i64 1) in the world w8: the world L2, the slice at gm
  obtain ⟨L2, hL2⟩ : ∃ W, W = World.alloc w8 (.cells #[.int .i64 1] 3) := ⟨_, rfl⟩
  obtain ⟨gm, hgm⟩ : ∃ g, g = (World.heap w8).size := ⟨_, rfl⟩
  have bL2 : Below (World.heap w8).size w8 L2 := by rw [hL2]; exact (Below.refl _ _).alloc (Nat.le_refl _) _
  have lL2 := Lib.hid (show LAt encI L2 (some ⟨gm, 0, none⟩) 1 [1] from by rw [hL2, hgm]; exact LAt.of_blk (t := 3) (Blk.new w8 _ (encI.all [1])) (fun x hx => by simp only [List.mem_cons, List.not_mem_nil, or_false] at hx; rcases hx with rfl <;> exact ⟨by decide, by decide⟩) rfl)
  replace hB := Lib.hid (hB.out.later bL2)
  have cI := ref2_IntsL A (some ⟨gm, 0, none⟩) n c 1 1 [1] [1] L2 (hL.below bL2) lL2.out (by omega) (by omega)
  rw [decide_eq_true rfl] at cI
  replace cI := Lib.hid cI
  replace hL := Lib.hid hL
  go_wp2_with (rw [← hL2, ← hgm]; clear hL2; replace hgm := Lib.hid hgm)
  refine cI.out.mono ?_; rintro e w9 ⟨rfl, q, rfl⟩
  go_wp2_with fail
  go_ret
  exact ⟨rfl, (hB.out.drewN q).o⟩
/-- is a history looked at? -/
def okF11 (hs : List (List OpT)) : Bool := smallL hs 40 && (rightL hs && decide ((checkF (facO hs).items).2.2 = 0))
def RetF11 (hs : List (List OpT)) (w : World) (e : Ending) (w' : World) : Prop := ∃ x : FV, e = .returned (.tuple #[.agg #[.slice x.A x.n x.c, .slice x.B x.m x.d, .slice x.C x.k x.e], .bool (okF11 hs)]) ∧ (okF11 hs = true → FactsAt w' x (facO hs)) ∧ Below w.heap.size w w'
theorem okF11_says {hs : List (List OpT)} (h : okF11 hs = true) : smallL hs 40 = true ∧ rightL hs = true ∧ (checkF (facO hs).items).2.2 = 0 := by
  unfold okF11 at h
  rw [Bool.and_eq_true, Bool.and_eq_true, decide_eq_true_eq] at h
  exact ⟨h.1, h.2.1, h.2.2⟩
set_option maxRecDepth 100000 in
set_option maxHeartbeats 2000000 in
theorem law11_facts (A : Option Addr) (n c : Nat) (hs : List (List OpT)) (w : World) (hX : HistAt w A n hs) (hnc : n ≤ c) (hc : c ≤ 1099511627776) (hF : (allO hs).length ≤ 1099511627776) :
    Calls Try.prog 6 #[.slice A n c] w (RetF11 hs w) := by
  obtain ⟨gr, hgr⟩ : ∃ g, g = w.heap.size := ⟨_, rfl⟩
  obtain ⟨W1, hW1⟩ : ∃ W, W = w.alloc (.cells #[.slice none 0 0, .slice none 0 0, .slice none 0 0] 27) := ⟨_, rfl⟩
  have b0 : Below w.heap.size w W1 := by rw [hW1]; exact (Below.refl _ _).alloc (Nat.le_refl _) _
  have kR : Blk W1 gr 27 [.slice none 0 0, .slice none 0 0, .slice none 0 0] := by rw [hW1, hgr]; exact Blk.new w _ _
  have hgw : Hid (w.heap.size ≤ gr) := Lib.hid (by rw [hgr]; exact Nat.le_refl _)
  have hXl := Lib.hid hX.len
  replace hX := Lib.hid (hX.below b0)
  have cS := Lib.hid (ref6_Small A n c 40 hs W1 hX.out (by omega) (by omega))
  cases hsa : smallL hs 40 with
  | false =>
    have hno := Lib.hid (show okF11 hs = false from by unfold okF11; rw [hsa]; rfl)
    rw [hsa] at cS
    clear hsa
    go_enter Try.func6, Try.ntmps6
    go_wp2_with (rw [← hW1, ← hgr]; clear hW1; replace hgr := Lib.hid hgr)
    refine cS.out.mono ?_; rintro e w1 ⟨rfl, b1⟩
    replace kR := kR.below b1 kR.lt
    have bb := below_trans2 b0 b1
    clear b0 b1
    -- not looked at: zero facts; bb : Below w.heap.size w w1, kR : the result's variable in w1
    have e0 := (((kR.set_ 0 (.slice none 0 0)).set_ 1 (.slice none 0 0)).set_ 2 (.slice none 0 0)).cell 0
    have e1 := (((kR.set_ 0 (.slice none 0 0)).set_ 1 (.slice none 0 0)).set_ 2 (.slice none 0 0)).cell 1
    have e2 := (((kR.set_ 0 (.slice none 0 0)).set_ 1 (.slice none 0 0)).set_ 2 (.slice none 0 0)).cell 2
    have c0 := Blk.cell kR 0
    have c1 := Blk.cell kR 1
    have c2 := Blk.cell kR 2
    have f0 := Blk.frozen kR 0
    have f1 := Blk.frozen kR 1
    have f2 := Blk.frozen kR 2
    have hb3 := Lib.hid (((bb.setCell (p := ⟨gr, 0, none⟩) hgw.out (.slice none 0 0)).setCell (p := ⟨gr, 1, none⟩) hgw.out (.slice none 0 0)).setCell (p := ⟨gr, 2, none⟩) hgw.out (.slice none 0 0))
    clear kR
    go_wp2_with fail
    exact bodyPost_ret (v := .tuple #[.agg #[.slice none 0 0, .slice none 0 0, .slice none 0 0], .bool false]) (by simp [results, Try.results6, go_sem, e0, e1, e2]) rfl ⟨⟨none, 0, 0, none, 0, 0, none, 0, 0⟩, by rw [hno.out], (fun h => by rw [hno.out] at h; cases h), hb3.out⟩
  | true =>
    rw [hsa] at cS
    obtain ⟨hnx, hFx, -⟩ := smallL_says hsa
    rw [hXl.out] at hnx
    replace hsa := Lib.hid hsa
    go_enter Try.func6, Try.ntmps6
    go_wp2_with (rw [← hW1, ← hgr]; clear hW1; replace hgr := Lib.hid hgr)
    refine cS.out.mono ?_; rintro e w1 ⟨rfl, b1⟩
    replace hX := Lib.hid (hX.out.below b1)
    replace kR := kR.below b1 kR.lt
    have bb := below_trans2 b0 b1
    clear b0 b1 cS
    have cR := Lib.hid (ref6_Right A n c hs w1 hX.out (by omega) (by omega))
    cases hri : rightL hs with
    | false =>
      have hno := Lib.hid (show okF11 hs = false from by unfold okF11; rw [hsa.out, hri]; rfl)
      rw [hri] at cR
      clear hri
      go_wp2_with fail
      refine cR.out.mono ?_; rintro e w2 ⟨rfl, b2⟩
      replace kR := kR.below b2 kR.lt
      replace bb := below_trans2 bb b2
      clear b2
      -- not looked at: zero facts; bb : Below w.heap.size w w2, kR : the result's variable in w2
      have e0 := (((kR.set_ 0 (.slice none 0 0)).set_ 1 (.slice none 0 0)).set_ 2 (.slice none 0 0)).cell 0
      have e1 := (((kR.set_ 0 (.slice none 0 0)).set_ 1 (.slice none 0 0)).set_ 2 (.slice none 0 0)).cell 1
      have e2 := (((kR.set_ 0 (.slice none 0 0)).set_ 1 (.slice none 0 0)).set_ 2 (.slice none 0 0)).cell 2
      have c0 := Blk.cell kR 0
      have c1 := Blk.cell kR 1
      have c2 := Blk.cell kR 2
      have f0 := Blk.frozen kR 0
      have f1 := Blk.frozen kR 1
      have f2 := Blk.frozen kR 2
      have hb3 := Lib.hid (((bb.setCell (p := ⟨gr, 0, none⟩) hgw.out (.slice none 0 0)).setCell (p := ⟨gr, 1, none⟩) hgw.out (.slice none 0 0)).setCell (p := ⟨gr, 2, none⟩) hgw.out (.slice none 0 0))
      clear kR
      go_wp2_with fail
      exact bodyPost_ret (v := .tuple #[.agg #[.slice none 0 0, .slice none 0 0, .slice none 0 0], .bool false]) (by simp [results, Try.results6, go_sem, e0, e1, e2]) rfl ⟨⟨none, 0, 0, none, 0, 0, none, 0, 0⟩, by rw [hno.out], (fun h => by rw [hno.out] at h; cases h), hb3.out⟩
    | true =>
      rw [hri] at cR
      have hri' := Lib.hid hri
      clear hri
      go_wp2_with fail
      refine cR.out.mono ?_; rintro e w2 ⟨rfl, b2⟩
      replace hX := Lib.hid (hX.out.below b2)
      replace kR := kR.below b2 kR.lt
      replace bb := below_trans2 bb b2
      clear b2 cR
      obtain ⟨f, hf⟩ : ∃ f : Fac, f = facO hs := ⟨_, rfl⟩
      have c1 := ref9_Of A n c hs w2 hX.out (by omega) hF
      rw [hri'.out, if_pos rfl, if_pos rfl, ← hf] at c1
      replace c1 := Lib.hid c1
      replace hf := Lib.hid hf
      go_wp2_with fail
      refine c1.out.mono ?_; rintro e w3 ⟨x, rfl, hG, b3⟩
      have hB := Lib.hid ((FBox.new hG).from_ (below_trans2 bb b3))
      obtain ⟨V, hV⟩ : ∃ W, W = w3.alloc (.cells #[.slice x.A x.n x.c, .slice x.B x.m x.d, .slice x.C x.k x.e] 27) := ⟨_, rfl⟩
      obtain ⟨g, hg⟩ : ∃ g, g = w3.heap.size := ⟨_, rfl⟩
      replace kR := Lib.hid (show Blk V gr 27 [.slice none 0 0, .slice none 0 0, .slice none 0 0] from by rw [hV]; exact (kR.below b3 kR.lt).alloc _)
      rw [← hV, ← hg] at hB
      clear b3 c1 hG bb hX
      have p0 := hB.out.c0
      have p1 := hB.out.c1
      have p2 := hB.out.c2
      obtain ⟨⟨r1, r2, r3⟩, hr⟩ : ∃ r, r = checkF f.items := ⟨_, rfl⟩
      have cC := ref10_Check x f V hB.out.f
      rw [← hr] at cC
      replace cC := Lib.hid cC
      have hok : okF11 hs = (r3 == 0) := by
        unfold okF11
        rw [hsa.out, hri'.out, ← hf.out, ← hr, Bool.true_and, Bool.true_and, Bool.eq_iff_iff]
        simp
      obtain ⟨ob, hob⟩ : ∃ b, b = (r3 == 0) := ⟨_, rfl⟩
      rw [← hob] at hok
      replace hok := Lib.hid hok
      replace hr := Lib.hid hr
      go_wp2_with (rw [← hV, ← hg]; clear hV; replace hg := Lib.hid hg)
      refine cC.out.mono ?_; rintro e w4 ⟨rfl, b4⟩
      replace hB := Lib.hid (hB.out.later b4)
      replace kR := kR.out.below b4 kR.out.lt
      clear p0 p1 p2 b4 cC
      have p0 := hB.out.c0
      have p1 := hB.out.c1
      have p2 := hB.out.c2
      have hY3 := Lib.hid (hB.out.f.put kR (fun u hu => by simp only [List.mem_cons, List.not_mem_nil, or_false] at hu; rcases hu with rfl | rfl | rfl <;> exact ⟨_, _, _, rfl⟩))
      have e0 := (((kR.set_ 0 (.slice x.A x.n x.c)).set_ 1 (.slice x.B x.m x.d)).set_ 2 (.slice x.C x.k x.e)).cell 0
      have e1 := (((kR.set_ 0 (.slice x.A x.n x.c)).set_ 1 (.slice x.B x.m x.d)).set_ 2 (.slice x.C x.k x.e)).cell 1
      have e2 := (((kR.set_ 0 (.slice x.A x.n x.c)).set_ 1 (.slice x.B x.m x.d)).set_ 2 (.slice x.C x.k x.e)).cell 2
      have c0 := Blk.cell kR 0
      have c1 := Blk.cell kR 1
      have c2 := Blk.cell kR 2
      have f0 := Blk.frozen kR 0
      have f1 := Blk.frozen kR 1
      have f2 := Blk.frozen kR 2
      have hb3 := Lib.hid (((hB.out.o.setCell (p := ⟨gr, 0, none⟩) hgw.out (.slice x.A x.n x.c)).setCell (p := ⟨gr, 1, none⟩) hgw.out (.slice x.B x.m x.d)).setCell (p := ⟨gr, 2, none⟩) hgw.out (.slice x.C x.k x.e))
      clear kR
      go_wp2_with fail
      rw [hf.out] at hY3
      exact bodyPost_ret (v := .tuple #[.agg #[.slice x.A x.n x.c, .slice x.B x.m x.d, .slice x.C x.k x.e], .bool ob]) (by simp [results, Try.results6, go_sem, e0, e1, e2, hob]) rfl ⟨x, by rw [hok.out], (fun _ => hY3.out), hb3.out⟩
/-- what the laws of layer 11 keep: the facts, and those that are filled -/
structure OI (w : World) (g : Nat) (v : FV) (f : Fac) (h : Nat) (y : FV) (wr : World) : Prop where
  b : FBox w g v f wr
  y : InVar wr h y (fillF f)
theorem OI.later {w : World} {g : Nat} {v : FV} {f : Fac} {h : Nat} {y : FV} {wr w' : World} (i : OI w g v f h y wr) (hb : Below wr.heap.size wr w') : OI w g v f h y w' := ⟨i.b.later hb, i.y.below hb⟩
end Go.Proofs.Ytcdfpodhiogpiaa
