/- The contract of the document's own answer of layer 11: Of (whole facts of a history). Layer 13's example, walked. Plain mathematics of layer 13: one more read at the end. Nothing of the program is named. Words for memory: histories put together. No function of the program is named here. Words for memory: slices of operations of a call's own, each in a block of its own. No function of the program is named here. The contract of the document's own answer of layer 9: Back. A region that draws its order, walked by a tree of orders, where what was there before an earlier world B stays (PlanS: before the region's own start): so a row of the call's own may be appended to in place. No function of the program is named here. -/
import Derived.Test.YtmgockkjoogcaaaCauseMorePk3
import Derived.Test.YtmgockkjoogcaaaCauseMorePk5
import Derived.Test.YtmgockkjoogcaaaCauseMorePk6
import Derived.Test.YtmgockkjoogcaaaCauseMorePk4
import Derived.Test.YtmgockkjoogcaaaCauseMorePk1
import Derived.OneCell
namespace Go.Proofs.Ytmgockkjoogcaaa
open Go.RowKit
set_option linter.unusedVariables false
/-- has a history whole facts? -/
def okO11 (hs : List (List OpT)) : Bool := rightL hs && decide ((checkF (facO hs).items).2.2 = 0)
def RetO11 (hs : List (List OpT)) (w : World) (e : Ending) (w' : World) : Prop := ∃ x : FV, e = .returned (.tuple #[.agg #[.slice x.A x.n x.c, .slice x.B x.m x.d, .slice x.C x.k x.e], .bool (okO11 hs)]) ∧ (okO11 hs = true → FactsAt w' x (fillF (facO hs))) ∧ Below w.heap.size w w'
set_option maxRecDepth 100000 in
set_option maxHeartbeats 2000000 in
theorem ref11_Of (A : Option Addr) (n c : Nat) (hs : List (List OpT)) (w : World) (hX : HistAt w A n hs) (hn : n ≤ 1099511627776) (hF : (allO hs).length ≤ 1048576) :
    Calls Try.prog 8 #[.slice A n c] w (RetO11 hs w) := by
  obtain ⟨gr, hgr⟩ : ∃ g, g = w.heap.size := ⟨_, rfl⟩
  obtain ⟨W1, hW1⟩ : ∃ W, W = w.alloc (.cells #[.slice none 0 0, .slice none 0 0, .slice none 0 0] 29) := ⟨_, rfl⟩
  have b0 : Below w.heap.size w W1 := by rw [hW1]; exact (Below.refl _ _).alloc (Nat.le_refl _) _
  have kR : Blk W1 gr 29 [.slice none 0 0, .slice none 0 0, .slice none 0 0] := by rw [hW1, hgr]; exact Blk.new w _ _
  have hgw : Hid (w.heap.size ≤ gr) := Lib.hid (by rw [hgr]; exact Nat.le_refl _)
  have c1 := ref9_Of A n c hs W1 (hX.below b0) hn (by omega)
  clear hX
  cases hri : rightL hs with
  | false =>
    have hno := Lib.hid (show okO11 hs = false from by unfold okO11; rw [hri]; rfl)
    rw [hri, if_neg (by simp), if_neg (by simp)] at c1
    replace c1 := Lib.hid c1
    clear hri
    go_enter Try.func8, Try.ntmps8
    go_wp2_with (rw [← hW1, ← hgr]; clear hW1; replace hgr := Lib.hid hgr)
    refine c1.out.mono ?_; rintro e w3 ⟨x, rfl, -, b3⟩
    obtain ⟨V, hV⟩ : ∃ W, W = w3.alloc (.cells #[.slice x.A x.n x.c, .slice x.B x.m x.d, .slice x.C x.k x.e] 29) := ⟨_, rfl⟩
    obtain ⟨g, hg⟩ : ∃ g, g = w3.heap.size := ⟨_, rfl⟩
    have bV : Below w3.heap.size w3 V := by rw [hV]; exact (Below.refl _ _).alloc (Nat.le_refl _) _
    replace kR := (kR.below b3 kR.lt)
    replace kR := (kR.below bV kR.lt)
    have bb := below_trans2 (below_trans2 b0 b3) bV
    clear b0 b3 bV c1
    have e0 := (((kR.set_ 0 (.slice none 0 0)).set_ 1 (.slice none 0 0)).set_ 2 (.slice none 0 0)).cell 0
    have e1 := (((kR.set_ 0 (.slice none 0 0)).set_ 1 (.slice none 0 0)).set_ 2 (.slice none 0 0)).cell 1
    have e2 := (((kR.set_ 0 (.slice none 0 0)).set_ 1 (.slice none 0 0)).set_ 2 (.slice none 0 0)).cell 2
    have c0 := Blk.cell kR 0
    have c1 := Blk.cell kR 1
    have c2 := Blk.cell kR 2
    have f0 := Blk.frozen kR 0
    have f1 := Blk.frozen kR 1
    have f2 := Blk.frozen kR 2
    have hb3 := Lib.hid (((bb.setCell (p := ⟨gr, 0, none⟩) hgw.out (.slice none 0 0)).setCell (p := ⟨gr, 1, none⟩) hgw.out (.slice none 0 0)).setCell (p := ⟨gr, 2, none⟩) hgw.out (.slice none 0 0))
    clear kR
    go_wp2_with (rw [← hV, ← hg]; clear hV; replace hg := Lib.hid hg)
    exact bodyPost_ret (v := .tuple #[.agg #[.slice none 0 0, .slice none 0 0, .slice none 0 0], .bool false]) (by simp [results, Try.results8, go_sem, e0, e1, e2]) rfl ⟨⟨none, 0, 0, none, 0, 0, none, 0, 0⟩, by rw [hno.out], (fun h => by rw [hno.out] at h; cases h), hb3.out⟩
  | true =>
    rw [hri, if_pos rfl, if_pos rfl] at c1
    obtain ⟨f, hf⟩ : ∃ f : Fac, f = facO hs := ⟨_, rfl⟩
    rw [← hf] at c1
    have hri' := Lib.hid hri
    replace c1 := Lib.hid c1
    clear hri
    replace hf := Lib.hid hf
    go_enter Try.func8, Try.ntmps8
    go_wp2_with (rw [← hW1, ← hgr]; clear hW1; replace hgr := Lib.hid hgr)
    refine c1.out.mono ?_; rintro e w3 ⟨x, rfl, hG, b3⟩
    have hB := Lib.hid ((FBox.new hG).from_ (below_trans2 b0 b3))
    obtain ⟨V, hV⟩ : ∃ W, W = w3.alloc (.cells #[.slice x.A x.n x.c, .slice x.B x.m x.d, .slice x.C x.k x.e] 29) := ⟨_, rfl⟩
    obtain ⟨g, hg⟩ : ∃ g, g = w3.heap.size := ⟨_, rfl⟩
    replace kR := Lib.hid (show Blk V gr 29 [.slice none 0 0, .slice none 0 0, .slice none 0 0] from by rw [hV]; exact (kR.below b3 kR.lt).alloc _)
    rw [← hV, ← hg] at hB
    clear b3 c1 hG b0
    have hxm : x.m ≤ 1048576 := by
      rw [← hB.out.f.is.len, hf.out]
      show (hisF hs).2.length ≤ _
      rw [hisF_len]; omega
    have p0 := hB.out.c0
    have p1 := hB.out.c1
    have p2 := hB.out.c2
    obtain ⟨⟨r1, r2, r3⟩, hr⟩ : ∃ r, r = checkF f.items := ⟨_, rfl⟩
    have cC := ref10_Check x f V hB.out.f
    rw [← hr] at cC
    replace cC := Lib.hid cC
    have hok : okO11 hs = decide (r3 = 0) := by
      unfold okO11
      rw [hri'.out, ← hf.out, ← hr, Bool.true_and]
    replace hr := Lib.hid hr
    replace hok := Lib.hid hok
    go_wp2_with (rw [← hV, ← hg]; clear hV; replace hg := Lib.hid hg)
    refine cC.out.mono ?_; rintro e w4 ⟨rfl, b4⟩
    replace hB := Lib.hid (hB.out.later b4)
    replace kR := kR.out.below b4 kR.out.lt
    clear p0 p1 p2 b4 cC
    by_cases h3 : r3 = 0
    · have hyes := Lib.hid (show okO11 hs = true from by rw [hok.out]; exact decide_eq_true h3)
      have e3 : (r3 != 0) = false := by rw [h3]; rfl
      replace h3 := Lib.hid h3
      have p0 := hB.out.c0
      have p1 := hB.out.c1
      have p2 := hB.out.c2
      have cF := Lib.hid (ref11_Fill x f w4 hB.out.f hxm)
      go_wp2_with fail
      refine cF.out.mono ?_; rintro e w5 ⟨y, rfl, hY, b5⟩
      replace hB := Lib.hid (hB.out.later b5)
      replace kR := kR.below b5 kR.lt
      clear p0 p1 p2 b5 cF
      have hY3 := Lib.hid (hY.put kR (fun u hu => by simp only [List.mem_cons, List.not_mem_nil, or_false] at hu; rcases hu with rfl | rfl | rfl <;> exact ⟨_, _, _, rfl⟩))
      have e0 := (((kR.set_ 0 (.slice y.A y.n y.c)).set_ 1 (.slice y.B y.m y.d)).set_ 2 (.slice y.C y.k y.e)).cell 0
      have e1 := (((kR.set_ 0 (.slice y.A y.n y.c)).set_ 1 (.slice y.B y.m y.d)).set_ 2 (.slice y.C y.k y.e)).cell 1
      have e2 := (((kR.set_ 0 (.slice y.A y.n y.c)).set_ 1 (.slice y.B y.m y.d)).set_ 2 (.slice y.C y.k y.e)).cell 2
      have c0 := Blk.cell kR 0
      have c1 := Blk.cell kR 1
      have c2 := Blk.cell kR 2
      have f0 := Blk.frozen kR 0
      have f1 := Blk.frozen kR 1
      have f2 := Blk.frozen kR 2
      have hb3 := Lib.hid (((hB.out.o.setCell (p := ⟨gr, 0, none⟩) hgw.out (.slice y.A y.n y.c)).setCell (p := ⟨gr, 1, none⟩) hgw.out (.slice y.B y.m y.d)).setCell (p := ⟨gr, 2, none⟩) hgw.out (.slice y.C y.k y.e))
      clear kR
      go_wp2_with fail
      rw [hf.out] at hY3
      exact bodyPost_ret (v := .tuple #[.agg #[.slice y.A y.n y.c, .slice y.B y.m y.d, .slice y.C y.k y.e], .bool true]) (by simp [results, Try.results8, go_sem, e0, e1, e2]) rfl ⟨y, by rw [hyes.out], (fun _ => hY3.out), hb3.out⟩
    · have hno := Lib.hid (show okO11 hs = false from by rw [hok.out]; exact decide_eq_false h3)
      have e3 : (r3 != 0) = true := by simpa using h3
      have bb := hB.out.o
      replace h3 := Lib.hid h3
      -- no facts: bb : Below w.heap.size w w4, kR : the result's variable in w4
      have e0 := (((kR.set_ 0 (.slice none 0 0)).set_ 1 (.slice none 0 0)).set_ 2 (.slice none 0 0)).cell 0
      have e1 := (((kR.set_ 0 (.slice none 0 0)).set_ 1 (.slice none 0 0)).set_ 2 (.slice none 0 0)).cell 1
      have e2 := (((kR.set_ 0 (.slice none 0 0)).set_ 1 (.slice none 0 0)).set_ 2 (.slice none 0 0)).cell 2
      have c0 := Blk.cell kR 0
      have c1 := Blk.cell kR 1
      have c2 := Blk.cell kR 2
      have f0 := Blk.frozen kR 0
      have f1 := Blk.frozen kR 1
      have f2 := Blk.frozen kR 2
      have hb3 := Lib.hid (((bb.setCell (p := ⟨gr, 0, none⟩) hgw.out (.slice none 0 0)).setCell (p := ⟨gr, 1, none⟩) hgw.out (.slice none 0 0)).setCell (p := ⟨gr, 2, none⟩) hgw.out (.slice none 0 0))
      clear kR
      go_wp2_with fail
      exact bodyPost_ret (v := .tuple #[.agg #[.slice none 0 0, .slice none 0 0, .slice none 0 0], .bool false]) (by simp [results, Try.results8, go_sem, e0, e1, e2]) rfl ⟨⟨none, 0, 0, none, 0, 0, none, 0, 0⟩, by rw [hno.out], (fun h => by rw [hno.out] at h; cases h), hb3.out⟩
end Go.Proofs.Ytmgockkjoogcaaa

namespace Go.Proofs.Ytmgockkjoogcaaa
open Go.RowKit
set_option linter.unusedVariables false
def ex13A : List OpT := [(true, ⟨#[120]⟩, 1)]
def ex13B : List OpT := [(false, ⟨#[120]⟩, 1), (true, ⟨#[121]⟩, 1)]
theorem ok13A : OkO ex13A := fun o ho => by
  simp only [ex13A, List.mem_cons, List.not_mem_nil, or_false] at ho
  subst ho; exact ⟨⟨by decide, by decide⟩, by decide⟩
theorem ok13B : OkO ex13B := fun o ho => by
  simp only [ex13B, List.mem_cons, List.not_mem_nil, or_false] at ho
  rcases ho with rfl | rfl <;> exact ⟨⟨by decide, by decide⟩, by decide⟩
def fx13 : Fac := ⟨[⟨#[120]⟩, ⟨#[121]⟩], [⟨0, 0, true, 0, 1⟩, ⟨1, 0, false, 0, 1⟩, ⟨1, 1, true, 1, 1⟩], [-3, 0, -3]⟩
theorem ex13_facts : okO11 [ex13A, ex13B] = true ∧ fillF (facO [ex13A, ex13B]) = fx13 := by decide
theorem ex13_mat : edgeM fx13 = [[2], [4], [0]] ∧ coM fx13 = [[6], [4], [0]] := by decide
theorem ex13_whole : WholeF fx13 := by rw [← ex13_facts.2]; exact fillF_whole _
theorem nbr13 : Nbr fx13.items := by rw [← ex13_facts.2]; exact nbr_hist [ex13A, ex13B]
set_option maxRecDepth 100000 in
set_option maxHeartbeats 2000000 in
theorem law13_awake (w : World) : Calls Try.prog 7 #[] w (RetBool true w) := by
  obtain ⟨Z1, hZ1⟩ : ∃ W, W = w.alloc (.cells #[.bool true, .string ⟨#[120]⟩, .int .i64 1] 50) := ⟨_, rfl⟩
  obtain ⟨a1, ha1⟩ : ∃ g, g = w.heap.size := ⟨_, rfl⟩
  obtain ⟨Z2, hZ2⟩ : ∃ W, W = Z1.alloc (.cells #[.bool false, .string ⟨#[120]⟩, .int .i64 1, .bool true, .string ⟨#[121]⟩, .int .i64 1] 50) := ⟨_, rfl⟩
  obtain ⟨a2, ha2⟩ : ∃ g, g = Z1.heap.size := ⟨_, rfl⟩
  obtain ⟨Z3, hZ3⟩ : ∃ W, W = Z2.alloc (.cells #[.slice (some ⟨a1, 0, none⟩) 1 1, .slice (some ⟨a2, 0, none⟩) 2 2] 47) := ⟨_, rfl⟩
  obtain ⟨a3, ha3⟩ : ∃ g, g = Z2.heap.size := ⟨_, rfl⟩
  have b1 : Below w.heap.size w Z1 := by rw [hZ1]; exact (Below.refl _ w).alloc (Nat.le_refl _) _
  have b2 : Below Z1.heap.size Z1 Z2 := by rw [hZ2]; exact (Below.refl _ _).alloc (Nat.le_refl _) _
  have b3 : Below Z2.heap.size Z2 Z3 := by rw [hZ3]; exact (Below.refl _ _).alloc (Nat.le_refl _) _
  have hH : HistAt Z3 (some ⟨a3, 0, none⟩) 2 [ex13A, ex13B] := by
    have h1 : Blk Z1 a1 50 (cellsO ex13A) := by rw [hZ1, ha1]; exact Blk.new w _ _
    have h2 : Blk Z2 a2 50 (cellsO ex13B) := by rw [hZ2, ha2]; exact Blk.new Z1 _ _
    have h3 : Blk Z3 a3 47 [.slice (some ⟨a1, 0, none⟩) 1 1, .slice (some ⟨a2, 0, none⟩) 2 2] := by rw [hZ3, ha3]; exact Blk.new Z2 _ _
    have h1' := (h1.below b2 h1.lt).below b3 (h1.below b2 h1.lt).lt
    exact HistAt.two h3 (OpsAt.of_blk h1' ok13A rfl) (OpsAt.of_blk (h2.below b3 h2.lt) ok13B rfl) (by omega) (by omega) (by omega) (by omega)
  have c1 := Lib.hid (ref11_Of _ 2 2 [ex13A, ex13B] Z3 hH (by omega) (by decide))
  have bW := Lib.hid (below_trans2 (below_trans2 b1 b2) b3)
  clear hH b1 b2 b3
  go_enter Try.func7, Try.ntmps7
  go_wp2_with (first | (rw [← hZ1, ← ha1]; clear hZ1; replace ha1 := Lib.hid ha1) | (rw [← hZ2, ← ha2]; clear hZ2; replace ha2 := Lib.hid ha2) | (rw [← hZ3, ← ha3]; clear hZ3; replace ha3 := Lib.hid ha3))
  refine c1.out.mono ?_; rintro e w3 ⟨x, rfl, hG, b3⟩
  replace hG := hG ex13_facts.1
  rw [ex13_facts.2] at hG
  rw [ex13_facts.1]
  have hB := Lib.hid ((FBox.new hG).from_ (below_trans2 bW.out b3))
  have hxm : x.m = 3 := by rw [← hG.is.len]; rfl
  obtain ⟨V, hV⟩ : ∃ W, W = w3.alloc (.cells #[.slice x.A x.n x.c, .slice x.B x.m x.d, .slice x.C x.k x.e] 29) := ⟨_, rfl⟩
  obtain ⟨g, hg⟩ : ∃ g, g = w3.heap.size := ⟨_, rfl⟩
  rw [← hV, ← hg] at hB
  replace hxm := Lib.hid hxm
  clear b3 c1 hG bW
  have p0 := hB.out.c0
  have p1 := hB.out.c1
  have p2 := hB.out.c2
  have cP := cause_Co x fx13 V hB.out.f (by rw [hxm.out]; decide) ex13_whole nbr13
  rw [ex13_mat.2, show ((x.m : Nat) : Int) = 3 from by rw [hxm.out]; rfl] at cP
  replace cP := Lib.hid cP
  go_wp2_with (rw [← hV, ← hg]; clear hV; replace hg := Lib.hid hg)
  refine cP.out.mono ?_; rintro e w4 ⟨A, n, c, rfl, hR, hnc, b4⟩
  have hn3 : n = 3 := by rw [← hR.len]; rfl
  subst hn3
  replace hB := Lib.hid (hB.out.later b4)
  obtain ⟨M, hM⟩ : ∃ G, G = w4.heap.size := ⟨_, rfl⟩
  obtain ⟨W, hW⟩ : ∃ W, W = w4.alloc (.cells #[.int .i64 3, .slice A 3 c] 35) := ⟨_, rfl⟩
  have bM : Below w4.heap.size w4 W := by rw [hW]; exact (Below.refl _ _).alloc (Nat.le_refl _) _
  have kM := Lib.hid (show MatB W M 35 3 A 3 c from by rw [hW, hM]; exact MatB.new w4 _)
  replace hR := Lib.hid (hR.below bM)
  replace hB := Lib.hid (hB.out.later bM)
  have hlen : ∀ (k : Nat) (xs : List Nat), ([[6], [4], [0]] : List (List Nat))[k]? = some xs → xs.length ≤ 1024 := fun k xs hx => by
    have := List.mem_of_getElem? hx
    simp only [List.mem_cons, List.not_mem_nil, or_false] at this
    rcases this with rfl | rfl | rfl <;> decide
  have cH1 := fun W' hW' => ref3_Has A 3 c [[6], [4], [0]] 0 1 W' hW' (by decide) hlen
  have cH2 := fun W' hW' => ref3_Has A 3 c [[6], [4], [0]] 0 2 W' hW' (by decide) hlen
  have cH3 := fun W' hW' => ref3_Has A 3 c [[6], [4], [0]] 2 0 W' hW' (by decide) hlen
  rw [show (inM ((3 : Nat) : Int) 0 1 && hasM [[6], [4], [0]] 0 1) = true from by decide] at cH1
  rw [show (inM ((3 : Nat) : Int) 0 2 && hasM [[6], [4], [0]] 0 2) = true from by decide] at cH2
  rw [show (inM ((3 : Nat) : Int) 2 0 && hasM [[6], [4], [0]] 2 0) = false from by decide] at cH3
  replace cH1 := Lib.hid cH1
  replace cH2 := Lib.hid cH2
  replace cH3 := Lib.hid cH3
  have m0 := kM.out.c0
  have m1 := kM.out.c1
  clear hlen b4 bM p0 p1 p2 cP
  go_wp2_with (rw [← hW, ← hM]; clear hW; replace hM := Lib.hid hM)
  refine (cH1.out W hR.out).mono ?_; rintro e w5 ⟨rfl, b⟩
  replace hR := Lib.hid (hR.out.below b)
  replace hB := Lib.hid (hB.out.later b)
  replace kM := Lib.hid (kM.out.below_ b)
  clear m0 m1 b
  have m0 := kM.out.c0
  have m1 := kM.out.c1
  go_wp2_with fail
  refine (cH2.out w5 hR.out).mono ?_; rintro e w6 ⟨rfl, b⟩
  replace hR := Lib.hid (hR.out.below b)
  replace hB := Lib.hid (hB.out.later b)
  replace kM := Lib.hid (kM.out.below_ b)
  clear m0 m1 b
  have m0 := kM.out.c0
  have m1 := kM.out.c1
  go_wp2_with fail
  refine (cH3.out w6 hR.out).mono ?_; rintro e w7 ⟨rfl, b⟩
  replace hB := Lib.hid (hB.out.later b)
  clear m0 m1 b
  have p0 := hB.out.c0
  have p1 := hB.out.c1
  have p2 := hB.out.c2
  have cE := cause_Edges x fx13 w7 hB.out.f (by rw [hxm.out]; decide) ex13_whole nbr13
  rw [ex13_mat.1, show ((x.m : Nat) : Int) = 3 from by rw [hxm.out]; rfl] at cE
  replace cE := Lib.hid cE
  go_wp2_with fail
  refine cE.out.mono ?_; rintro e w8 ⟨A2, n2, c2, rfl, hR2, hnc2, b⟩
  have hn3 : n2 = 3 := by rw [← hR2.len]; rfl
  subst hn3
  replace hB := Lib.hid (hB.out.later b)
  clear p0 p1 p2 b cE
  have cH4 := ref3_Has A2 3 c2 [[2], [4], [0]] 0 2 w8 hR2 (by decide) (fun k xs hx => by
    have := List.mem_of_getElem? hx
    simp only [List.mem_cons, List.not_mem_nil, or_false] at this
    rcases this with rfl | rfl | rfl <;> decide)
  rw [show (inM ((3 : Nat) : Int) 0 2 && hasM [[2], [4], [0]] 0 2) = false from by decide] at cH4
  replace cH4 := Lib.hid cH4
  clear hR2
  go_wp2_with fail
  refine cH4.out.mono ?_; rintro e w9 ⟨rfl, b⟩
  replace hB := Lib.hid (hB.out.later b)
  go_wp2_with fail
  go_ret
  exact ⟨rfl, hB.out.o⟩
end Go.Proofs.Ytmgockkjoogcaaa

namespace Go.Proofs.Ytmgockkjoogcaaa
set_option linter.unusedVariables false

theorem hisF_more (init : List (List OpT)) (os : List OpT) (o : OpT) : ∃ x : It, (hisF (init ++ [os ++ [o]])).2 = (hisF (init ++ [os])).2 ++ [x] ∧ x.wr = o.1 := by
  rw [hisF_snoc, hisF_snoc, sesF_snoc]
  exact ⟨_, rfl, rfl⟩
theorem writeF_snoc {is : List It} {x : It} (hx : x.wr = false) (v val : Int) : writeF (is ++ [x]) v val = writeF is v val := by
  cases h : writeF is v val with
  | some k => exact writeF_append h
  | none =>
    unfold writeF at h ⊢
    rw [List.findIdx?_eq_none_iff] at h ⊢
    intro y hy
    rcases List.mem_append.1 hy with h1 | h1
    · exact h y h1
    · rw [List.mem_singleton.1 h1]; simp [hitW, hx]
theorem fromOne_snoc {is : List It} {x : It} (hx : x.wr = false) (y : It) : fromOne (is ++ [x]) y = fromOne is y := by
  unfold fromOne; rw [writeF_snoc hx]
theorem fromF_snoc {is : List It} {x : It} (hx : x.wr = false) : fromF (is ++ [x]) = fromF is ++ [fromOne is x] := by
  unfold fromF
  rw [List.map_append, List.map_singleton, fromOne_snoc hx]
  congr 1
  exact List.map_congr_left fun y _ => fromOne_snoc hx y
theorem checkF_snoc {is : List It} {x : It} (hx : x.wr = false) : (checkF (is ++ [x])).2.2 = 0 ↔ (checkF is).2.2 = 0 := by
  rcases checkF_append is [x] with ⟨h0, h1⟩ | ⟨h0, h1⟩
  · refine ⟨fun _ => h0, fun _ => ?_⟩
    rcases h1 with h1 | h1
    · exact h1
    · rcases checkF_cases (is ++ [x]) with ⟨_, e⟩ | ⟨j, r, hs, hn, e⟩
      · rw [e]
      · obtain ⟨i, a, b, ha, hb, _, hj, _, hbw, _⟩ := stepC_some hs
        rw [e, hj] at h1
        have hlt := (List.getElem?_eq_some_iff.1 hb).1
        rw [List.length_append] at hlt
        have : j = is.length := by simp at hlt; omega
        subst this
        rw [List.getElem?_append_right (Nat.le_refl _)] at hb
        simp at hb
        rw [← hb, hx] at hbw
        cases hbw
  · rw [h1]
theorem allO_more (init : List (List OpT)) (os : List OpT) (o : OpT) : allO (init ++ [os ++ [o]]) = allO (init ++ [os]) ++ [o] := by
  simp [allO]
theorem rightL_more {init : List (List OpT)} {os : List OpT} {o : OpT} (hl : (allO (init ++ [os])).length ≤ 60) (ho : nameL o.2.1.data.toList = true) : rightL (init ++ [os ++ [o]]) = rightL (init ++ [os]) := by
  unfold rightL
  rw [allO_more, List.all_append, decide_eq_true (by rw [List.length_append]; simp; omega : (allO (init ++ [os]) ++ [o]).length ≤ 4096), decide_eq_true (by omega : (allO (init ++ [os])).length ≤ 4096)]
  simp [ho]
theorem conn_last {r s : Nat → Nat → Prop} {n : Nat} (hE : ∀ i j, i < n → j < n → (r i j ↔ s i j)) (hN : ∀ j, ¬ r n j) (hL : ∀ i j, r i j → i < n + 1) (hs : ∀ i j, s i j → i < n ∧ j < n) {i j : Nat} (hi : i < n) (hj : j < n) : Conn r i j ↔ Conn s i j := by
  constructor
  · intro h
    induction h with
    | one h => exact .one ((hE _ _ hi hj).1 h)
    | step h h2 ih =>
      rename_i m k
      have h3 := hL _ _ h2
      have h4 : m ≠ n := fun e => by rw [e] at h2; exact hN _ h2
      exact .step (ih (by omega)) ((hE _ _ (by omega) hj).1 h2)
  · intro h
    induction h with
    | one h => exact .one ((hE _ _ hi hj).2 h)
    | step h h2 ih => exact .step (ih (hs _ _ h2).1) ((hE _ _ (hs _ _ h2).1 hj).2 h2)
theorem conn_none {r : Nat → Nat → Prop} {n j : Nat} (hN : ∀ j, ¬ r n j) (h : Conn r n j) : False := by
  induction h with
  | one h => exact hN _ h
  | step h h2 ih => exact ih
/-- causal order with one more read at the end -/
structure MoreF (f k : Fac) : Prop where
  len : k.items.length = f.items.length + 1
  same : ∀ i j : Nat, i < f.items.length → j < f.items.length → hasM (coM k) (i : Int) (j : Int) = hasM (coM f) (i : Int) (j : Int)
  none : ∀ i : Nat, i < f.items.length → hasM (coM k) (f.items.length : Int) (i : Int) = false
theorem coM_more {init : List (List OpT)} {os : List OpT} {o : OpT} (hl : (allO (init ++ [os])).length ≤ 60) (ho : o.1 = false) : MoreF (fillF (facO (init ++ [os]))) (fillF (facO (init ++ [os ++ [o]]))) := by
  obtain ⟨x, hx, hxw⟩ := hisF_more init os o
  rw [ho] at hxw
  obtain ⟨f, hf⟩ : ∃ f, f = fillF (facO (init ++ [os])) := ⟨_, rfl⟩
  obtain ⟨k, hk⟩ : ∃ k, k = fillF (facO (init ++ [os ++ [o]])) := ⟨_, rfl⟩
  have hwf : WholeF f := by rw [hf]; exact fillF_whole _
  have hwk : WholeF k := by rw [hk]; exact fillF_whole _
  have hfi : f.items = (hisF (init ++ [os])).2 := by rw [hf]; rfl
  have hki : k.items = f.items ++ [x] := by rw [hfi, ← hx, hk]; rfl
  have hfr : f.frm = fromF f.items := by rw [hf]; rfl
  have hkr : k.frm = f.frm ++ [fromOne f.items x] := by rw [hfr, ← fromF_snoc hxw, ← hki, hk]; rfl
  have hfl : f.items.length = (allO (init ++ [os])).length := by rw [hfi, hisF_len]
  have hlen : k.items.length = f.items.length + 1 := by rw [hki]; simp
  rw [← hf, ← hk]
  have gF := edgeM_good hwf (by omega)
  have gK := edgeM_good hwk (by omega)
  have cF := coM_hull hwf (by omega)
  have cK := coM_hull hwk (by omega)
  have hcf := (checkF f.items)
  have hah : ∀ i j : Nat, i < f.items.length → j < f.items.length → aheadF k.items i j = aheadF f.items i j := fun i j hi hj => by
    unfold aheadF
    rw [hki, Int.toNat_natCast, Int.toNat_natCast, List.getElem?_append_left hi, List.getElem?_append_left hj]
  have hN : ∀ j, ¬ Rel (edgeM k) f.items.length j := fun j hr => by
    rcases (gK.2 _ _).1 hr with h1 | ⟨h1, h2⟩
    · have hin := aheadF_in h1
      have hjl : j < (allO (init ++ [os ++ [o]])).length := by rw [allO_more, List.length_append, ← hfl]; simp; omega
      have hnl : f.items.length < (allO (init ++ [os ++ [o]])).length := by rw [allO_more, List.length_append, ← hfl]; simp
      obtain ⟨s, p, _, e1, _, _, _, e2, _⟩ := items_at hjl
      have := ahead_hist hnl hjl e1 e2
      rw [show (hisF (init ++ [os ++ [o]])).2 = k.items from by rw [hk]; rfl, h1] at this
      have := (of_decide_eq_true this.symm).2
      omega
    · rw [hkr, List.getD_eq_getElem?_getD] at h2
      have hfml := hwf.len
      rcases Nat.lt_or_ge j f.items.length with h3 | h3
      · rw [List.getElem?_append_left (by omega), List.getElem?_eq_getElem (by omega)] at h2
        have := hwf.lt _ (List.getElem_mem (show j < f.frm.length by omega))
        simp only [Option.getD_some] at h2
        omega
      · rw [List.getElem?_append_right (by omega), show j - f.frm.length = 0 by omega] at h2
        simp only [List.getElem?_cons_zero, Option.getD_some] at h2
        have := (fromOne_range f.items x).2
        omega
  have hE : ∀ i j, i < f.items.length → j < f.items.length → (Rel (edgeM k) i j ↔ Rel (edgeM f) i j) := fun i j hi hj => by
    rw [gK.2, gF.2, hah i j hi hj, hkr, List.getD_eq_getElem?_getD, List.getD_eq_getElem?_getD, List.getElem?_append_left (by have := hwf.len; omega)]
    constructor
    · rintro (h | ⟨_, h⟩)
      · exact .inl h
      · exact .inr ⟨hj, h⟩
    · rintro (h | ⟨_, h⟩)
      · exact .inl h
      · exact .inr ⟨by omega, h⟩
  have hL : ∀ i j, Rel (edgeM k) i j → i < f.items.length + 1 := fun i j h => by
    have := (gK.1.has_lt h).1; omega
  refine ⟨hlen, fun i j hi hj => ?_, fun i hi => ?_⟩
  · have h1 : hasM (coM k) (i : Int) (j : Int) = true ↔ Conn (Rel (edgeM k)) i j := cK.2 i j
    have h2 : hasM (coM f) (i : Int) (j : Int) = true ↔ Conn (Rel (edgeM f)) i j := cF.2 i j
    have h3 := conn_last hE hN hL (fun i j h => gF.1.has_lt h) hi hj
    rw [Bool.eq_iff_iff, h1, h2, h3]
  · cases h : hasM (coM k) (f.items.length : Int) (i : Int) with
    | false => rfl
    | true => exact (conn_none hN ((cK.2 _ _).1 h)).elim
end Go.Proofs.Ytmgockkjoogcaaa

namespace Go.Proofs.Ytmgockkjoogcaaa
open Go.RowKit
set_option linter.unusedVariables false

theorem HistAt.rd {w : World} {A : Option Addr} {n : Nat} {hs : List (List OpT)} (h : HistAt w A n hs) : ∃ vs, Rd w A n vs ∧ vs.length = hs.length ∧ (∀ u ∈ vs, u.oneCell' = true) ∧ ∀ (i : Nat) (v : Value) (os : List OpT), vs[i]? = some v → hs[i]? = some os → SessV w v os := by
  obtain ⟨vs, h1, h2, h3⟩ := h
  refine ⟨vs, h1, h2, fun u hu => ?_, h3⟩
  obtain ⟨i, hi⟩ := List.getElem?_of_mem hu
  have hl : i < hs.length := by rw [← h2]; exact (List.getElem?_eq_some_iff.1 hi).1
  obtain ⟨A', n', c', e, _⟩ := h3 i u hs[i] hi (List.getElem?_eq_getElem hl)
  rw [e]; rfl
theorem HistAt.okO {w : World} {A : Option Addr} {n : Nat} {hs : List (List OpT)} (h : HistAt w A n hs) : OkO (allO hs) := fun o ho => by
  obtain ⟨os, hos, ho'⟩ := List.mem_flatten.1 ho
  obtain ⟨i, hi⟩ := List.getElem?_of_mem hos
  obtain ⟨vs, h1, h2, h3⟩ := h
  have hl : i < vs.length := by rw [h2]; exact (List.getElem?_eq_some_iff.1 hi).1
  obtain ⟨_, _, _, _, _, _, hO⟩ := h3 i vs[i] os (List.getElem?_eq_getElem hl) hi
  exact hO.2.1 o ho'
theorem HistAt.joined {w : World} {base : Nat} {e : TypeId} {v : Value} {n m : Nat} {vs us : List Value} {xs ys : List (List OpT)} (h : w.ownsRow base e 1 v (n + m) (vs ++ us)) (hn : vs.length = n) (hm : us.length = m) (hx : vs.length = xs.length) (hy : us.length = ys.length)
    (h1 : ∀ (i : Nat) (v : Value) (os : List OpT), vs[i]? = some v → xs[i]? = some os → SessV w v os) (h2 : ∀ (i : Nat) (v : Value) (os : List OpT), us[i]? = some v → ys[i]? = some os → SessV w v os) : ∃ A c, v = .slice A (n + m) c ∧ n + m ≤ c ∧ c ≤ 9223372036854775807 ∧ HistAt w A (n + m) (xs ++ ys) := by
  obtain ⟨A, c, e, hr⟩ := Rd.of_own h
  subst e
  refine ⟨A, c, rfl, OwnsRow.cap_le h, OwnsRow.cap_max h, vs ++ us, hr, by rw [List.length_append, List.length_append, hx, hy], fun i v os hv ho => ?_⟩
  by_cases hi : i < vs.length
  · rw [List.getElem?_append_left hi] at hv
    rw [List.getElem?_append_left (by omega)] at ho
    exact h1 i v os hv ho
  · rw [List.getElem?_append_right (by omega)] at hv
    rw [List.getElem?_append_right (by omega), ← hx] at ho
    exact h2 _ v os hv ho
/-- what a law over two histories keeps: both histories, and what was there -/
structure JoinI (w : World) (A : Option Addr) (n : Nat) (xs : List (List OpT)) (B : Option Addr) (m : Nat) (ys : List (List OpT)) (wr : World) : Prop where
  x : HistAt wr A n xs
  y : HistAt wr B m ys
  b : Below w.heap.size w wr
theorem JoinI.later {w : World} {A : Option Addr} {n : Nat} {xs : List (List OpT)} {B : Option Addr} {m : Nat} {ys : List (List OpT)} {wr w' : World} (h : JoinI w A n xs B m ys wr) (hb : Below wr.heap.size wr w') : JoinI w A n xs B m ys w' := ⟨h.x.below hb, h.y.below hb, below_trans2 h.b hb⟩
theorem rightL_append {xs ys : List (List OpT)} (hx : (allO xs).length ≤ 60) (hy : (allO ys).length ≤ 60) : rightL (xs ++ ys) = (rightL xs && rightL ys) := by
  unfold rightL
  rw [allO_append, List.all_append, decide_eq_true (by rw [List.length_append]; omega : (allO xs ++ allO ys).length ≤ 4096), decide_eq_true (by omega : (allO xs).length ≤ 4096), decide_eq_true (by omega : (allO ys).length ≤ 4096)]
  simp

end Go.Proofs.Ytmgockkjoogcaaa

namespace Go.Proofs.Ytmgockkjoogcaaa
open Go.RowKit
set_option linter.unusedVariables false

theorem Blk.not_row' {w : World} {g : Nat} {t e : TypeId} {cs : List Value} {base size n : Nat} {v : Value} {xs : List Value} (h : Blk w g t cs) (hte : t ≠ e) (hr : w.ownsRow base e size v n xs) : v.ownBlock ≠ some g := by
  rcases hr.2 with ⟨rfl, _⟩ | ⟨k, cap, cur, rfl, _, hk, _⟩
  · intro h; cases h
  · intro he
    have : k = g := by simpa [Value.ownBlock] using he
    subst this
    rw [show w.heap[k]? = _ from h] at hk
    injection hk with hk
    injection hk with _ h2 _
    exact hte h2
theorem rows_apart {w : World} {b1 b2 s1 s2 n1 n2 : Nat} {e1 e2 : TypeId} {v1 v2 : Value} {xs1 xs2 : List Value} (h1 : w.ownsRow b1 e1 s1 v1 n1 xs1) (h2 : w.ownsRow b2 e2 s2 v2 n2 xs2) (hne : e1 ≠ e2) {b : Nat} (hb : v1.ownBlock = some b) : v2.ownBlock ≠ some b := by
  rcases h1.2 with ⟨rfl, _⟩ | ⟨g, cap, cur, rfl, _, hg, _⟩
  · cases hb
  · have : g = b := by simpa [Value.ownBlock] using hb
    subst this
    rcases h2.2 with ⟨rfl, _⟩ | ⟨k, cap2, cur2, rfl, _, hk, _⟩
    · intro h; cases h
    · intro he
      have : k = g := by simpa [Value.ownBlock] using he
      subst this
      rw [hg] at hk
      injection hk with hk
      injection hk with _ h2 _
      exact hne h2
/-- the i-th cell of an own row of one-cell elements is put -/
theorem own_put {w : World} {base g n c : Nat} {e : TypeId} {vs : List Value} (h : w.ownsRow base e 1 (.slice (some ⟨g, 0, none⟩) n c) n vs) {i : Nat} (hi : i < n) (u : Value) :
    (w.setCell ⟨g, i, none⟩ u).ownsRow base e 1 (.slice (some ⟨g, 0, none⟩) n c) n (vs.set i u) := by
  refine ⟨by rw [List.length_set]; exact h.1, ?_⟩
  rcases h.2 with ⟨h1, _⟩ | ⟨k, cap, cur, hv, hb, hk, hnc, hcm, hcs, ht⟩
  · cases h1
  · injection hv with h1 h2 h3
    injection h1 with h1
    injection h1 with h1
    subst h1; subst h3
    refine .inr ⟨g, c, cur.set! i u, rfl, hb, ?_, hnc, hcm, by simpa using hcs, ?_⟩
    · simp [World.setCell, Array.getElem?_modify, hk]
    · rw [Array.set!_eq_setIfInBounds, Array.toList_setIfInBounds, ← ht, List.take_set]
/-- sessions of a call's own -/
structure OwnS (T : TypeId) (w : World) (base : Nat) (vs : List Value) (hs : List (List OpT)) : Prop where
  len : vs.length = hs.length
  row : ∀ (i : Nat) (v : Value) (os : List OpT), vs[i]? = some v → hs[i]? = some os → OkO os ∧ w.ownsRow base T 3 v os.length (cellsO os)
  dis : ∀ (i j : Nat) (v u : Value) (b : Nat), vs[i]? = some v → vs[j]? = some u → v.ownBlock = some b → u.ownBlock = some b → i = j
section
variable {T e : TypeId} {w w' : World} {base b2 : Nat} {vs : List Value} {hs : List (List OpT)}
theorem OwnS.nil (T : TypeId) (w : World) (base : Nat) : OwnS T w base [] [] := ⟨rfl, fun i v os h => by simp at h, fun i j v u b h => by simp at h⟩
theorem OwnS.below (h : OwnS T w base vs hs) (hb : Below w.heap.size w w') : OwnS T w' base vs hs :=
  ⟨h.len, fun i v os h1 h2 => ⟨(h.row i v os h1 h2).1, own_below (h.row i v os h1 h2).2 hb⟩, h.dis⟩
theorem OwnS.grown {n : Nat} {v : Value} {xs : List Value} (h : OwnS T w base vs hs) (h2 : w.ownsRow b2 e 1 v n xs) (hne : T ≠ e) (hg : w.grownBy w' v.ownBlock) : OwnS T w' base vs hs :=
  ⟨h.len, fun i v os h1 h3 => ⟨(h.row i v os h1 h3).1, own_grown (h.row i v os h1 h3).2 h2 hne hg⟩, h.dis⟩
theorem OwnS.snoc (h : OwnS T w base vs hs) : OwnS T w base (vs ++ [.slice none 0 0]) (hs ++ [[]]) := by
  refine ⟨by simp [h.len], fun i v os h1 h2 => ?_, fun i j v u b h1 h2 hv hu => ?_⟩
  · by_cases hi : i < vs.length
    · rw [List.getElem?_append_left hi] at h1
      rw [List.getElem?_append_left (by rw [← h.len]; exact hi)] at h2
      exact h.row i v os h1 h2
    · rw [List.getElem?_append_right (by omega)] at h1
      rw [List.getElem?_append_right (by rw [← h.len]; omega)] at h2
      have e1 := List.mem_of_getElem? h1
      have e2 := List.mem_of_getElem? h2
      simp at e1 e2
      subst e1; subst e2
      exact ⟨fun o ho => by simp at ho, World.ownsRow_nil _ _ _ _⟩
  · have hin : ∀ (k : Nat) (x : Value), (vs ++ [Value.slice none 0 0])[k]? = some x → x.ownBlock = some b → vs[k]? = some x := by
      intro k x hk hx
      by_cases hkl : k < vs.length
      · rwa [List.getElem?_append_left hkl] at hk
      · rw [List.getElem?_append_right (by omega)] at hk
        have e1 := List.mem_of_getElem? hk
        simp at e1
        subst e1; cases hx
    exact h.dis i j v u b (hin i v h1 hv) (hin j u h2 hu) hv hu
/-- one session has grown -/
theorem OwnS.put {i : Nat} {v v' : Value} {os os' : List OpT} (h : OwnS T w base vs hs) (hv : vs[i]? = some v) (ho : hs[i]? = some os) (hg : w.grownBy w' v.ownBlock) (hr : w'.ownsRow base T 3 v' os'.length (cellsO os')) (hok : OkO os')
    (hb : v'.ownBlock = v.ownBlock ∨ v'.ownBlock = some w.heap.size) : OwnS T w' base (vs.set i v') (hs.set i os') := by
  have hil : i < vs.length := (List.getElem?_eq_some_iff.1 hv).1
  have hfresh : ∀ (k : Nat) (x : Value) (b : Nat), vs[k]? = some x → x.ownBlock = some b → b < w.heap.size := by
    intro k x b hk hx
    have hkl : k < hs.length := by rw [← h.len]; exact (List.getElem?_eq_some_iff.1 hk).1
    exact ((h.row k x hs[k] hk (List.getElem?_eq_getElem hkl)).2.lt b hx).2
  refine ⟨by simp [h.len], fun k x ps h1 h2 => ?_, fun k j x u b h1 h2 hx hu => ?_⟩
  · by_cases hk : i = k
    · subst hk
      rw [List.getElem?_set_self hil] at h1
      rw [List.getElem?_set_self (by rw [← h.len]; exact hil)] at h2
      injection h1 with h1; injection h2 with h2
      subst h1; subst h2
      exact ⟨hok, hr⟩
    · rw [List.getElem?_set_ne hk] at h1 h2
      obtain ⟨h3, h4⟩ := h.row k x ps h1 h2
      refine ⟨h3, h4.kept hg ?_⟩
      cases hxb : x.ownBlock with
      | none => exact .inl rfl
      | some b => exact .inr (fun e => hk (h.dis i k v x b hv h1 (by rw [← e]) hxb))
  · have key : ∀ (k : Nat) (x : Value), k ≠ i → (vs.set i v')[k]? = some x → vs[k]? = some x := fun k x hk h => by rwa [List.getElem?_set_ne (fun e => hk e.symm)] at h
    have self : ∀ (x : Value), (vs.set i v')[i]? = some x → x = v' := fun x h => by rw [List.getElem?_set_self hil] at h; injection h with h; exact h.symm
    by_cases hk : k = i
    · by_cases hj : j = i
      · rw [hk, hj]
      · subst hk
        have e1 := self x h1
        subst e1
        have h2' := key j u hj h2
        rcases hb with hb | hb
        · exact (h.dis k j v u b hv h2' (by rw [← hb]; exact hx) hu)
        · have := hfresh j u b h2' hu
          rw [hb] at hx; injection hx with hx
          omega
    · have h1' := key k x hk h1
      by_cases hj : j = i
      · subst hj
        have e1 := self u h2
        subst e1
        rcases hb with hb | hb
        · exact (h.dis k j x v b h1' hv hx (by rw [← hb]; exact hu))
        · have := hfresh k x b h1' hx
          rw [hb] at hu; injection hu with hu
          omega
      · exact h.dis k j x u b h1' (key j u hj h2) hx hu
/-- a store into the row of the sessions themselves -/
theorem OwnS.far {g n c : Nat} {us : List Value} (h : OwnS T w base vs hs) (ho : w.ownsRow b2 e 1 (.slice (some ⟨g, 0, none⟩) n c) n us) (hne : T ≠ e) (i : Nat) (u : Value) : OwnS T (w.setCell ⟨g, i, none⟩ u) base vs hs :=
  ⟨h.len, fun k v os h1 h2 => ⟨(h.row k v os h1 h2).1, ownsRow_setCell_other (a := ⟨g, i, none⟩) (h.row k v os h1 h2).2 (rows_apart ho (h.row k v os h1 h2).2 (fun e => hne e.symm) rfl) u⟩, h.dis⟩
theorem OwnS.hist {n : Nat} {v : Value} (h : OwnS T w base vs hs) (hv : w.ownsRow b2 e 1 v n vs) (hn : vs.length = n) : ∃ A c, v = .slice A n c ∧ n ≤ c ∧ c ≤ 9223372036854775807 ∧ HistAt w A n hs := by
  obtain ⟨A, c, e, hr⟩ := Rd.of_own hv
  subst e
  refine ⟨A, c, rfl, OwnsRow.cap_le hv, OwnsRow.cap_max hv, vs, hr, h.len, fun i u os h1 h2 => ?_⟩
  obtain ⟨ho, hu⟩ := h.row i u os h1 h2
  obtain ⟨A', c', e', hO⟩ := OpsAt.of_own hu ho rfl
  subst e'
  have := OwnsRow.cap_max hu
  have := OwnsRow.cap_le hu
  exact ⟨A', _, c', rfl, OwnsRow.cap_le hu, by unfold maxLen at *; omega, hO⟩
end
end Go.Proofs.Ytmgockkjoogcaaa

namespace Go.Proofs.Ytmgockkjoogcaaa
open Go.RowKit
set_option linter.unusedVariables false

def encO : Enc OpT := { cells := fun o => [.bool o.1, .string o.2.1, .int .i64 o.2.2], sz := 3, pos := by decide, len := fun _ => rfl, one := fun x u h => by simp only [List.mem_cons, List.not_mem_nil, or_false] at h; rcases h with rfl | rfl | rfl <;> rfl, ok := fun o => (-9223372036854775808 ≤ o.2.2 ∧ o.2.2 < 9223372036854775808) ∧ o.2.1.size ≤ 9223372036854775807 }
theorem wp_append_L {α : Type} {E : Enc α} {P : Program} {w : World} {o : Oper} {a : Act} {K : Act → World → Prop} {Q : Exit → Act → World → Prop} (s x : Operand) (t : TypeId)
    (ho : o.op = .call { callee := .builtin .append, args := #[s, x], argTypes := #[t, t] })
    (base : Nat) (e : TypeId) (i : TypeInfo) (z : Value) (by_ : Nat) (ht : P.underlying t = some (.slice e)) (hi : P.info? e = some i) (hz : i.zero = some z)
    (hsize : i.size = E.sz) (hby : i.bytes = by_) (hzs : z.cells.size = E.sz)
    (v : Value) (n : Nat) (os : List α) (hs : a.eval s = v) (hown : w.ownsRow base e E.sz v n (E.all os))
    (A : Option Addr) (m c : Nat) (news : List α) (hx : a.eval x = .slice A m c) (hr : LAt E w A m news)
    (hb : n + m ≤ maxLen) (hbytes : (n + m) * by_ ≤ 140737488355328) (hbase : base ≤ w.heap.size)
    (h : ∀ v' w', w'.ownsRow base e E.sz v' (n + m) (E.all (os ++ news)) → Below base w w' → w.grownBy w' v.ownBlock → (v'.ownBlock = v.ownBlock ∨ v'.ownBlock = some w.heap.size) → K (a.put o.dst v') w') :
    o.wp P a w K Q := by
  obtain ⟨v', w', hrun, h2, h3, h4, h5⟩ := run_append_L (P := P) w base t o.type e i z by_ ht hi hz hsize hby hzs v n os hown A m c news hr hb hbytes hbase
  unfold Oper.wp execOp
  simp only [ho, resolve, invoke, builtin, Sem.run_bind, Sem.run_pure, Result.andThen_ok, List.map_toArray, List.map_cons, List.map_nil, hs, hx, hrun]
  exact h v' w' h2 h3 h4 h5
def lenOf : Value → Nat | .slice _ n _ => n | _ => 0
theorem putH_set {h : List (List OpT)} {i : Nat} {s : List OpT} (hi : h[i]? = some s) (o : OpT) : putH h i o = h.set i (s ++ [o]) := by
  apply List.ext_getElem?
  intro j
  rw [putH_at]
  by_cases hj : i = j
  · subst hj
    rw [List.getElem?_set_self (List.getElem?_eq_some_iff.1 hi).1, hi]; simp
  · rw [List.getElem?_set_ne hj]
    cases h[j]? <;> simp [hj]

end Go.Proofs.Ytmgockkjoogcaaa

namespace Go.Proofs.Ytmgockkjoogcaaa
open Go.RowKit
set_option linter.unusedVariables false
section
variable {P : Program} {ops : Array Oper} {Q : Exit → Act → World → Prop}
theorem wp_region_treeB {id : Nat} {a : Act} {w : World} {l : List Oper} (B : Nat) (t : PT) (hm : P.follows .mixedOrders = true) (hB : (Region.noSelect l.toArray && decide (t.depth = l.toArray.size) && t.ok .any l.toArray (Array.replicate l.toArray.size false)) = true)
    (h : ∀ W : World, Hid (W = w.drew) → wpPT (fun x => Below B W x) P l.toArray (NoPanic Q) t a W) : (Code.region id l.toArray true).wp P Q a w := by
  refine wp_region_noPanic ?_
  have hQ : ∀ c a d v w, NoPanic Q (.panic c) (a.put d v) w → NoPanic Q (.panic c) a w := fun _ _ _ _ _ h => h
  simp only [Bool.and_eq_true, decide_eq_true_eq] at hB
  obtain ⟨⟨hsel, hd⟩, hok⟩ := hB
  refine wp_region_any hm ?_
  have H := wpAny_of_S _ _ _ _ (wpAnyS_tree (md := .any) hsel hQ t _ a w.drew (Below.refl _ _) hok (h w.drew (Lib.hid rfl)))
  rw [hd] at H
  exact H
variable {W : World} {t u : PT} {a : Act} {w : World} {i j B : Nat} {o : Oper}
/-- a value that is the same in every world that has what was there before B -/
theorem wpPTB_float {v : Value} (hi : ops[i]? = some o) (hw : Region.wanted o (yielded ops a.tmps) = true)
    (hy : ∀ w' : World, Below B W w' → (execOp a.eval o).run P w' = .ok (.value v) w') (h : ∀ K : Act → Prop, (∀ a', wpPT (fun x => Below B W x) P ops Q t a' w → K a') → K (a.put o.dst v)) : wpPT (fun x => Below B W x) P ops Q (.flt i t) a w :=
  ⟨o, v, hi, .inl ⟨hw, hy⟩, h _ (fun _ h => h)⟩
end
end Go.Proofs.Ytmgockkjoogcaaa
