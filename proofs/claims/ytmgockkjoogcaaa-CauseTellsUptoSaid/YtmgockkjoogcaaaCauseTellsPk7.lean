/- The contract of the document's own answer of layer 11: Of (whole facts of a history). Layer 13's example, walked. Layer 13's law CauseTells, walked (where what comes in is of no more than 2^40 operations). Arguments opened: a history (a slice of slices of operations), and what the bound of an '..Upto' statement says of it. -/
import Derived.Test.YtmgockkjoogcaaaCauseTellsPk3
import Derived.Test.YtmgockkjoogcaaaCauseTellsPk5
import Derived.Test.YtmgockkjoogcaaaCauseTellsPk6
import Derived.Test.YtmgockkjoogcaaaCauseTellsPk4
import Derived.Test.YtmgockkjoogcaaaCauseTellsPk2
import Derived.Test.YtmgockkjoogcaaaRows
import Derived.Test.YtmgockkjoogcaaaCauseTellsPk1
import Derived.Deep.Slices
import Derived.OpenShut
import Derived.ChangeArms
import Derived.WalkKit
import Derived.ProofKit
namespace Go.Proofs.Ytmgockkjoogcaaa
open Go.RowKit
set_option linter.unusedVariables false
/-- has a history whole facts? -/
def okO11 (hs : List (List OpT)) : Bool := rightL hs && decide ((checkF (facO hs).items).2.2 = 0)
def RetO11 (hs : List (List OpT)) (w : World) (e : Ending) (w' : World) : Prop := ∃ x : FV, e = .returned (.tuple #[.agg #[.slice x.A x.n x.c, .slice x.B x.m x.d, .slice x.C x.k x.e], .bool (okO11 hs)]) ∧ (okO11 hs = true → FactsAt w' x (fillF (facO hs))) ∧ Below w.heap.size w w'
set_option maxRecDepth 100000 in
set_option maxHeartbeats 2000000 in
theorem ref11_Of (A : Option Addr) (n c : Nat) (hs : List (List OpT)) (w : World) (hX : HistAt w A n hs) (hn : n ≤ 1099511627776) (hF : (allO hs).length ≤ 1048576) :
    Calls Try.prog 8 #[.slice A n c] w (RetO11 hs w) := by
  obtain ⟨gr, hgr⟩ : ∃ g, g = w.heap.size := ⟨_, rfl⟩
  obtain ⟨W1, hW1⟩ : ∃ W, W = w.alloc (.cells #[.slice none 0 0, .slice none 0 0, .slice none 0 0] 29) := ⟨_, rfl⟩
  have b0 : Below w.heap.size w W1 := by rw [hW1]; exact (Below.refl _ _).alloc (Nat.le_refl _) _
  have kR : Blk W1 gr 29 [.slice none 0 0, .slice none 0 0, .slice none 0 0] := by rw [hW1, hgr]; exact Blk.new w _ _
  have hgw : Hid (w.heap.size ≤ gr) := Lib.hid (by rw [hgr]; exact Nat.le_refl _)
  have c1 := ref9_Of A n c hs W1 (hX.below b0) hn (by omega)
  clear hX
  cases hri : rightL hs with
  | false =>
    have hno := Lib.hid (show okO11 hs = false from by unfold okO11; rw [hri]; rfl)
    rw [hri, if_neg (by simp), if_neg (by simp)] at c1
    replace c1 := Lib.hid c1
    clear hri
    go_enter Try.func8, Try.ntmps8
    go_wp2_with (rw [← hW1, ← hgr]; clear hW1; replace hgr := Lib.hid hgr)
    refine c1.out.mono ?_; rintro e w3 ⟨x, rfl, -, b3⟩
    obtain ⟨V, hV⟩ : ∃ W, W = w3.alloc (.cells #[.slice x.A x.n x.c, .slice x.B x.m x.d, .slice x.C x.k x.e] 29) := ⟨_, rfl⟩
    obtain ⟨g, hg⟩ : ∃ g, g = w3.heap.size := ⟨_, rfl⟩
    have bV : Below w3.heap.size w3 V := by rw [hV]; exact (Below.refl _ _).alloc (Nat.le_refl _) _
    replace kR := (kR.below b3 kR.lt)
    replace kR := (kR.below bV kR.lt)
    have bb := below_trans2 (below_trans2 b0 b3) bV
    clear b0 b3 bV c1
    have e0 := (((kR.set_ 0 (.slice none 0 0)).set_ 1 (.slice none 0 0)).set_ 2 (.slice none 0 0)).cell 0
    have e1 := (((kR.set_ 0 (.slice none 0 0)).set_ 1 (.slice none 0 0)).set_ 2 (.slice none 0 0)).cell 1
    have e2 := (((kR.set_ 0 (.slice none 0 0)).set_ 1 (.slice none 0 0)).set_ 2 (.slice none 0 0)).cell 2
    have c0 := Blk.cell kR 0
    have c1 := Blk.cell kR 1
    have c2 := Blk.cell kR 2
    have f0 := Blk.frozen kR 0
    have f1 := Blk.frozen kR 1
    have f2 := Blk.frozen kR 2
    have hb3 := Lib.hid (((bb.setCell (p := ⟨gr, 0, none⟩) hgw.out (.slice none 0 0)).setCell (p := ⟨gr, 1, none⟩) hgw.out (.slice none 0 0)).setCell (p := ⟨gr, 2, none⟩) hgw.out (.slice none 0 0))
    clear kR
    go_wp2_with (rw [← hV, ← hg]; clear hV; replace hg := Lib.hid hg)
    exact bodyPost_ret (v := .tuple #[.agg #[.slice none 0 0, .slice none 0 0, .slice none 0 0], .bool false]) (by simp [results, Try.results8, go_sem, e0, e1, e2]) rfl ⟨⟨none, 0, 0, none, 0, 0, none, 0, 0⟩, by rw [hno.out], (fun h => by rw [hno.out] at h; cases h), hb3.out⟩
  | true =>
    rw [hri, if_pos rfl, if_pos rfl] at c1
    obtain ⟨f, hf⟩ : ∃ f : Fac, f = facO hs := ⟨_, rfl⟩
    rw [← hf] at c1
    have hri' := Lib.hid hri
    replace c1 := Lib.hid c1
    clear hri
    replace hf := Lib.hid hf
    go_enter Try.func8, Try.ntmps8
    go_wp2_with (rw [← hW1, ← hgr]; clear hW1; replace hgr := Lib.hid hgr)
    refine c1.out.mono ?_; rintro e w3 ⟨x, rfl, hG, b3⟩
    have hB := Lib.hid ((FBox.new hG).from_ (below_trans2 b0 b3))
    obtain ⟨V, hV⟩ : ∃ W, W = w3.alloc (.cells #[.slice x.A x.n x.c, .slice x.B x.m x.d, .slice x.C x.k x.e] 29) := ⟨_, rfl⟩
    obtain ⟨g, hg⟩ : ∃ g, g = w3.heap.size := ⟨_, rfl⟩
    replace kR := Lib.hid (show Blk V gr 29 [.slice none 0 0, .slice none 0 0, .slice none 0 0] from by rw [hV]; exact (kR.below b3 kR.lt).alloc _)
    rw [← hV, ← hg] at hB
    clear b3 c1 hG b0
    have hxm : x.m ≤ 1048576 := by
      rw [← hB.out.f.is.len, hf.out]
      show (hisF hs).2.length ≤ _
      rw [hisF_len]; omega
    have p0 := hB.out.c0
    have p1 := hB.out.c1
    have p2 := hB.out.c2
    obtain ⟨⟨r1, r2, r3⟩, hr⟩ : ∃ r, r = checkF f.items := ⟨_, rfl⟩
    have cC := ref10_Check x f V hB.out.f
    rw [← hr] at cC
    replace cC := Lib.hid cC
    have hok : okO11 hs = decide (r3 = 0) := by
      unfold okO11
      rw [hri'.out, ← hf.out, ← hr, Bool.true_and]
    replace hr := Lib.hid hr
    replace hok := Lib.hid hok
    go_wp2_with (rw [← hV, ← hg]; clear hV; replace hg := Lib.hid hg)
    refine cC.out.mono ?_; rintro e w4 ⟨rfl, b4⟩
    replace hB := Lib.hid (hB.out.later b4)
    replace kR := kR.out.below b4 kR.out.lt
    clear p0 p1 p2 b4 cC
    by_cases h3 : r3 = 0
    · have hyes := Lib.hid (show okO11 hs = true from by rw [hok.out]; exact decide_eq_true h3)
      have e3 : (r3 != 0) = false := by rw [h3]; rfl
      replace h3 := Lib.hid h3
      have p0 := hB.out.c0
      have p1 := hB.out.c1
      have p2 := hB.out.c2
      have cF := Lib.hid (ref11_Fill x f w4 hB.out.f hxm)
      go_wp2_with fail
      refine cF.out.mono ?_; rintro e w5 ⟨y, rfl, hY, b5⟩
      replace hB := Lib.hid (hB.out.later b5)
      replace kR := kR.below b5 kR.lt
      clear p0 p1 p2 b5 cF
      have hY3 := Lib.hid (hY.put kR (fun u hu => by simp only [List.mem_cons, List.not_mem_nil, or_false] at hu; rcases hu with rfl | rfl | rfl <;> exact ⟨_, _, _, rfl⟩))
      have e0 := (((kR.set_ 0 (.slice y.A y.n y.c)).set_ 1 (.slice y.B y.m y.d)).set_ 2 (.slice y.C y.k y.e)).cell 0
      have e1 := (((kR.set_ 0 (.slice y.A y.n y.c)).set_ 1 (.slice y.B y.m y.d)).set_ 2 (.slice y.C y.k y.e)).cell 1
      have e2 := (((kR.set_ 0 (.slice y.A y.n y.c)).set_ 1 (.slice y.B y.m y.d)).set_ 2 (.slice y.C y.k y.e)).cell 2
      have c0 := Blk.cell kR 0
      have c1 := Blk.cell kR 1
      have c2 := Blk.cell kR 2
      have f0 := Blk.frozen kR 0
      have f1 := Blk.frozen kR 1
      have f2 := Blk.frozen kR 2
      have hb3 := Lib.hid (((hB.out.o.setCell (p := ⟨gr, 0, none⟩) hgw.out (.slice y.A y.n y.c)).setCell (p := ⟨gr, 1, none⟩) hgw.out (.slice y.B y.m y.d)).setCell (p := ⟨gr, 2, none⟩) hgw.out (.slice y.C y.k y.e))
      clear kR
      go_wp2_with fail
      rw [hf.out] at hY3
      exact bodyPost_ret (v := .tuple #[.agg #[.slice y.A y.n y.c, .slice y.B y.m y.d, .slice y.C y.k y.e], .bool true]) (by simp [results, Try.results8, go_sem, e0, e1, e2]) rfl ⟨y, by rw [hyes.out], (fun _ => hY3.out), hb3.out⟩
    · have hno := Lib.hid (show okO11 hs = false from by rw [hok.out]; exact decide_eq_false h3)
      have e3 : (r3 != 0) = true := by simpa using h3
      have bb := hB.out.o
      replace h3 := Lib.hid h3
      -- no facts: bb : Below w.heap.size w w4, kR : the result's variable in w4
      have e0 := (((kR.set_ 0 (.slice none 0 0)).set_ 1 (.slice none 0 0)).set_ 2 (.slice none 0 0)).cell 0
      have e1 := (((kR.set_ 0 (.slice none 0 0)).set_ 1 (.slice none 0 0)).set_ 2 (.slice none 0 0)).cell 1
      have e2 := (((kR.set_ 0 (.slice none 0 0)).set_ 1 (.slice none 0 0)).set_ 2 (.slice none 0 0)).cell 2
      have c0 := Blk.cell kR 0
      have c1 := Blk.cell kR 1
      have c2 := Blk.cell kR 2
      have f0 := Blk.frozen kR 0
      have f1 := Blk.frozen kR 1
      have f2 := Blk.frozen kR 2
      have hb3 := Lib.hid (((bb.setCell (p := ⟨gr, 0, none⟩) hgw.out (.slice none 0 0)).setCell (p := ⟨gr, 1, none⟩) hgw.out (.slice none 0 0)).setCell (p := ⟨gr, 2, none⟩) hgw.out (.slice none 0 0))
      clear kR
      go_wp2_with fail
      exact bodyPost_ret (v := .tuple #[.agg #[.slice none 0 0, .slice none 0 0, .slice none 0 0], .bool false]) (by simp [results, Try.results8, go_sem, e0, e1, e2]) rfl ⟨⟨none, 0, 0, none, 0, 0, none, 0, 0⟩, by rw [hno.out], (fun h => by rw [hno.out] at h; cases h), hb3.out⟩
end Go.Proofs.Ytmgockkjoogcaaa

namespace Go.Proofs.Ytmgockkjoogcaaa
open Go.RowKit
set_option linter.unusedVariables false
def ex13A : List OpT := [(true, ⟨#[120]⟩, 1)]
def ex13B : List OpT := [(false, ⟨#[120]⟩, 1), (true, ⟨#[121]⟩, 1)]
theorem ok13A : OkO ex13A := fun o ho => by
  simp only [ex13A, List.mem_cons, List.not_mem_nil, or_false] at ho
  subst ho; exact ⟨⟨by decide, by decide⟩, by decide⟩
theorem ok13B : OkO ex13B := fun o ho => by
  simp only [ex13B, List.mem_cons, List.not_mem_nil, or_false] at ho
  rcases ho with rfl | rfl <;> exact ⟨⟨by decide, by decide⟩, by decide⟩
def fx13 : Fac := ⟨[⟨#[120]⟩, ⟨#[121]⟩], [⟨0, 0, true, 0, 1⟩, ⟨1, 0, false, 0, 1⟩, ⟨1, 1, true, 1, 1⟩], [-3, 0, -3]⟩
theorem ex13_facts : okO11 [ex13A, ex13B] = true ∧ fillF (facO [ex13A, ex13B]) = fx13 := by decide
theorem ex13_mat : edgeM fx13 = [[2], [4], [0]] ∧ coM fx13 = [[6], [4], [0]] := by decide
theorem ex13_whole : WholeF fx13 := by rw [← ex13_facts.2]; exact fillF_whole _
theorem nbr13 : Nbr fx13.items := by rw [← ex13_facts.2]; exact nbr_hist [ex13A, ex13B]
set_option maxRecDepth 100000 in
set_option maxHeartbeats 2000000 in
theorem law13_awake (w : World) : Calls Try.prog 7 #[] w (RetBool true w) := by
  obtain ⟨Z1, hZ1⟩ : ∃ W, W = w.alloc (.cells #[.bool true, .string ⟨#[120]⟩, .int .i64 1] 50) := ⟨_, rfl⟩
  obtain ⟨a1, ha1⟩ : ∃ g, g = w.heap.size := ⟨_, rfl⟩
  obtain ⟨Z2, hZ2⟩ : ∃ W, W = Z1.alloc (.cells #[.bool false, .string ⟨#[120]⟩, .int .i64 1, .bool true, .string ⟨#[121]⟩, .int .i64 1] 50) := ⟨_, rfl⟩
  obtain ⟨a2, ha2⟩ : ∃ g, g = Z1.heap.size := ⟨_, rfl⟩
  obtain ⟨Z3, hZ3⟩ : ∃ W, W = Z2.alloc (.cells #[.slice (some ⟨a1, 0, none⟩) 1 1, .slice (some ⟨a2, 0, none⟩) 2 2] 47) := ⟨_, rfl⟩
  obtain ⟨a3, ha3⟩ : ∃ g, g = Z2.heap.size := ⟨_, rfl⟩
  have b1 : Below w.heap.size w Z1 := by rw [hZ1]; exact (Below.refl _ w).alloc (Nat.le_refl _) _
  have b2 : Below Z1.heap.size Z1 Z2 := by rw [hZ2]; exact (Below.refl _ _).alloc (Nat.le_refl _) _
  have b3 : Below Z2.heap.size Z2 Z3 := by rw [hZ3]; exact (Below.refl _ _).alloc (Nat.le_refl _) _
  have hH : HistAt Z3 (some ⟨a3, 0, none⟩) 2 [ex13A, ex13B] := by
    have h1 : Blk Z1 a1 50 (cellsO ex13A) := by rw [hZ1, ha1]; exact Blk.new w _ _
    have h2 : Blk Z2 a2 50 (cellsO ex13B) := by rw [hZ2, ha2]; exact Blk.new Z1 _ _
    have h3 : Blk Z3 a3 47 [.slice (some ⟨a1, 0, none⟩) 1 1, .slice (some ⟨a2, 0, none⟩) 2 2] := by rw [hZ3, ha3]; exact Blk.new Z2 _ _
    have h1' := (h1.below b2 h1.lt).below b3 (h1.below b2 h1.lt).lt
    exact HistAt.two h3 (OpsAt.of_blk h1' ok13A rfl) (OpsAt.of_blk (h2.below b3 h2.lt) ok13B rfl) (by omega) (by omega) (by omega) (by omega)
  have c1 := Lib.hid (ref11_Of _ 2 2 [ex13A, ex13B] Z3 hH (by omega) (by decide))
  have bW := Lib.hid (below_trans2 (below_trans2 b1 b2) b3)
  clear hH b1 b2 b3
  go_enter Try.func7, Try.ntmps7
  go_wp2_with (first | (rw [← hZ1, ← ha1]; clear hZ1; replace ha1 := Lib.hid ha1) | (rw [← hZ2, ← ha2]; clear hZ2; replace ha2 := Lib.hid ha2) | (rw [← hZ3, ← ha3]; clear hZ3; replace ha3 := Lib.hid ha3))
  refine c1.out.mono ?_; rintro e w3 ⟨x, rfl, hG, b3⟩
  replace hG := hG ex13_facts.1
  rw [ex13_facts.2] at hG
  rw [ex13_facts.1]
  have hB := Lib.hid ((FBox.new hG).from_ (below_trans2 bW.out b3))
  have hxm : x.m = 3 := by rw [← hG.is.len]; rfl
  obtain ⟨V, hV⟩ : ∃ W, W = w3.alloc (.cells #[.slice x.A x.n x.c, .slice x.B x.m x.d, .slice x.C x.k x.e] 29) := ⟨_, rfl⟩
  obtain ⟨g, hg⟩ : ∃ g, g = w3.heap.size := ⟨_, rfl⟩
  rw [← hV, ← hg] at hB
  replace hxm := Lib.hid hxm
  clear b3 c1 hG bW
  have p0 := hB.out.c0
  have p1 := hB.out.c1
  have p2 := hB.out.c2
  have cP := cause_Co x fx13 V hB.out.f (by rw [hxm.out]; decide) ex13_whole nbr13
  rw [ex13_mat.2, show ((x.m : Nat) : Int) = 3 from by rw [hxm.out]; rfl] at cP
  replace cP := Lib.hid cP
  go_wp2_with (rw [← hV, ← hg]; clear hV; replace hg := Lib.hid hg)
  refine cP.out.mono ?_; rintro e w4 ⟨A, n, c, rfl, hR, hnc, b4⟩
  have hn3 : n = 3 := by rw [← hR.len]; rfl
  subst hn3
  replace hB := Lib.hid (hB.out.later b4)
  obtain ⟨M, hM⟩ : ∃ G, G = w4.heap.size := ⟨_, rfl⟩
  obtain ⟨W, hW⟩ : ∃ W, W = w4.alloc (.cells #[.int .i64 3, .slice A 3 c] 35) := ⟨_, rfl⟩
  have bM : Below w4.heap.size w4 W := by rw [hW]; exact (Below.refl _ _).alloc (Nat.le_refl _) _
  have kM := Lib.hid (show MatB W M 35 3 A 3 c from by rw [hW, hM]; exact MatB.new w4 _)
  replace hR := Lib.hid (hR.below bM)
  replace hB := Lib.hid (hB.out.later bM)
  have hlen : ∀ (k : Nat) (xs : List Nat), ([[6], [4], [0]] : List (List Nat))[k]? = some xs → xs.length ≤ 1024 := fun k xs hx => by
    have := List.mem_of_getElem? hx
    simp only [List.mem_cons, List.not_mem_nil, or_false] at this
    rcases this with rfl | rfl | rfl <;> decide
  have cH1 := fun W' hW' => ref3_Has A 3 c [[6], [4], [0]] 0 1 W' hW' (by decide) hlen
  have cH2 := fun W' hW' => ref3_Has A 3 c [[6], [4], [0]] 0 2 W' hW' (by decide) hlen
  have cH3 := fun W' hW' => ref3_Has A 3 c [[6], [4], [0]] 2 0 W' hW' (by decide) hlen
  rw [show (inM ((3 : Nat) : Int) 0 1 && hasM [[6], [4], [0]] 0 1) = true from by decide] at cH1
  rw [show (inM ((3 : Nat) : Int) 0 2 && hasM [[6], [4], [0]] 0 2) = true from by decide] at cH2
  rw [show (inM ((3 : Nat) : Int) 2 0 && hasM [[6], [4], [0]] 2 0) = false from by decide] at cH3
  replace cH1 := Lib.hid cH1
  replace cH2 := Lib.hid cH2
  replace cH3 := Lib.hid cH3
  have m0 := kM.out.c0
  have m1 := kM.out.c1
  clear hlen b4 bM p0 p1 p2 cP
  go_wp2_with (rw [← hW, ← hM]; clear hW; replace hM := Lib.hid hM)
  refine (cH1.out W hR.out).mono ?_; rintro e w5 ⟨rfl, b⟩
  replace hR := Lib.hid (hR.out.below b)
  replace hB := Lib.hid (hB.out.later b)
  replace kM := Lib.hid (kM.out.below_ b)
  clear m0 m1 b
  have m0 := kM.out.c0
  have m1 := kM.out.c1
  go_wp2_with fail
  refine (cH2.out w5 hR.out).mono ?_; rintro e w6 ⟨rfl, b⟩
  replace hR := Lib.hid (hR.out.below b)
  replace hB := Lib.hid (hB.out.later b)
  replace kM := Lib.hid (kM.out.below_ b)
  clear m0 m1 b
  have m0 := kM.out.c0
  have m1 := kM.out.c1
  go_wp2_with fail
  refine (cH3.out w6 hR.out).mono ?_; rintro e w7 ⟨rfl, b⟩
  replace hB := Lib.hid (hB.out.later b)
  clear m0 m1 b
  have p0 := hB.out.c0
  have p1 := hB.out.c1
  have p2 := hB.out.c2
  have cE := cause_Edges x fx13 w7 hB.out.f (by rw [hxm.out]; decide) ex13_whole nbr13
  rw [ex13_mat.1, show ((x.m : Nat) : Int) = 3 from by rw [hxm.out]; rfl] at cE
  replace cE := Lib.hid cE
  go_wp2_with fail
  refine cE.out.mono ?_; rintro e w8 ⟨A2, n2, c2, rfl, hR2, hnc2, b⟩
  have hn3 : n2 = 3 := by rw [← hR2.len]; rfl
  subst hn3
  replace hB := Lib.hid (hB.out.later b)
  clear p0 p1 p2 b cE
  have cH4 := ref3_Has A2 3 c2 [[2], [4], [0]] 0 2 w8 hR2 (by decide) (fun k xs hx => by
    have := List.mem_of_getElem? hx
    simp only [List.mem_cons, List.not_mem_nil, or_false] at this
    rcases this with rfl | rfl | rfl <;> decide)
  rw [show (inM ((3 : Nat) : Int) 0 2 && hasM [[2], [4], [0]] 0 2) = false from by decide] at cH4
  replace cH4 := Lib.hid cH4
  clear hR2
  go_wp2_with fail
  refine cH4.out.mono ?_; rintro e w9 ⟨rfl, b⟩
  replace hB := Lib.hid (hB.out.later b)
  go_wp2_with fail
  go_ret
  exact ⟨rfl, hB.out.o⟩
end Go.Proofs.Ytmgockkjoogcaaa

namespace Go.Proofs.Ytmgockkjoogcaaa
open Go.RowKit
set_option linter.unusedVariables false
set_option maxRecDepth 100000 in
set_option maxHeartbeats 4000000 in
theorem law13_CauseTells (A : Option Addr) (n c : Nat) (hs : List (List OpT)) (w : World) (hX : HistAt w A n hs) (hnc : n ≤ c) (hc : c ≤ 1099511627776) (hF : (allO hs).length ≤ 1099511627776) :
    Calls Try.prog 3 #[.slice A n c] w (RetBool true w) := by
  -- a law of one history hs (at A n c) that guards itself by Small 30, then asks for whole facts: walked to where they lie (hB : FBox w g x f V, V not yet named: hV, hg); f's hf, hw, hm30
  have hXl := Lib.hid hX.len
  have cS := Lib.hid (ref6_Small A n c 30 hs w hX (by omega) (by omega))
  replace hX := Lib.hid hX
  cases hsa : smallL hs 30 with
  | false =>
    rw [hsa] at cS
    clear hsa
    go_enter Try.func3, Try.ntmps3
    go_wp2_with fail
    refine cS.out.mono ?_; rintro e w1 ⟨rfl, b1⟩
    go_wp2_with fail
    refine (law13_awake w1).mono ?_; rintro e w9 ⟨rfl, b9⟩
    go_wp2_with fail
    go_ret
    exact ⟨rfl, below_trans2 b1 b9⟩
  | true =>
    rw [hsa] at cS
    obtain ⟨hnx, hFx, hnm8⟩ := smallL_says hsa
    rw [hXl.out] at hnx
    replace hnm8 := Lib.hid hnm8
    clear hsa
    go_enter Try.func3, Try.ntmps3
    go_wp2_with fail
    refine cS.out.mono ?_; rintro e w1 ⟨rfl, b1⟩
    replace hX := Lib.hid (hX.out.below b1)
    have c1 := Lib.hid (ref11_Of A n c hs w1 hX.out (by omega) (by omega))
    go_wp2_with fail
    refine c1.out.mono ?_; rintro e w3 ⟨x, rfl, hG, b3⟩
    obtain ⟨V, hV⟩ : ∃ W, W = w3.alloc (.cells #[.slice x.A x.n x.c, .slice x.B x.m x.d, .slice x.C x.k x.e] 29) := ⟨_, rfl⟩
    obtain ⟨g, hg⟩ : ∃ g, g = w3.heap.size := ⟨_, rfl⟩
    have bV : Below w3.heap.size w3 V := by rw [hV]; exact (Below.refl _ _).alloc (Nat.le_refl _) _
    cases hok : okO11 hs with
    | false =>
      have bb := Lib.hid (below_trans2 (below_trans2 b1 b3) bV)
      clear hG b1 b3 bV hok c1 cS
      go_wp2_with (rw [← hV, ← hg]; clear hV; replace hg := Lib.hid hg)
      refine (law13_awake V).mono ?_; rintro e w9 ⟨rfl, b9⟩
      go_wp2_with fail
      go_ret
      exact ⟨rfl, below_trans2 bb.out b9⟩
    | true =>
      obtain ⟨f, hf⟩ : ∃ f : Fac, f = fillF (facO hs) := ⟨_, rfl⟩
      have hGf := hG hok
      rw [← hf] at hGf
      have hw : WholeF f := by rw [hf]; exact fillF_whole _
      have hm30 : x.m ≤ 30 := by
        rw [← hGf.is.len, hf]
        show (hisF hs).2.length ≤ 30
        rw [hisF_len]; omega
      have hB := Lib.hid ((FBox.new hGf).from_ (below_trans2 b1 b3))
      rw [← hV, ← hg] at hB
      replace hX := Lib.hid ((hX.out.below b3).below bV)
      replace hok := Lib.hid hok
      replace hf := Lib.hid hf
      clear hG hGf b1 b3 bV c1 cS
      clear hX
      have hil := hB.out.f.is.len
      have hdim : ∀ m : List (List Nat), Good f.items.length m → Hid (m.length = x.m ∧ ∀ (k : Nat) (xs : List Nat), m[k]? = some xs → xs.length ≤ 1073741824) := fun m hm => Lib.hid (by
        rw [hil] at hm
        exact ⟨hm.len, fun k xs hx => Nat.le_trans (hm.small xs (List.mem_of_getElem? hx)) (by decide)⟩)
      obtain ⟨rm, hrm⟩ : ∃ m, m = rfM f.items.length f.frm := ⟨_, rfl⟩
      obtain ⟨em, hem⟩ : ∃ m, m = edgeM f := ⟨_, rfl⟩
      obtain ⟨cm, hcm⟩ : ∃ m, m = coM f := ⟨_, rfl⟩
      have hd1 := hdim rm (by rw [hrm]; exact (rfM_good hw (by omega)).1)
      have hd2 := hdim em (by rw [hem]; exact (edgeM_good hw (by omega)).1)
      have hd3 := hdim cm (by rw [hcm]; exact (coM_hull hw (by omega)).1)
      have hNb : Nbr f.items := by rw [hf.out]; exact nbr_hist hs
      have cP1 := fun W hW => cause_Rf x f W hW (by omega) hw
      have cQ1 := fun W hW => ref13_Rf x f W hW (by omega) hw
      have cP2 := fun W hW => cause_Edges x f W hW (by omega) hw hNb
      have cQ2 := fun W hW => ref13_Edges x f W hW (by omega) hw
      have cP3 := fun W hW => cause_Co x f W hW (by omega) hw hNb
      have cQ3 := fun W hW => ref13_Co x f W hW (by omega) hw
      rw [← hrm] at cP1 cQ1
      rw [← hem] at cP2 cQ2
      rw [← hcm] at cP3 cQ3
      replace cP1 := Lib.hid cP1
      replace cQ1 := Lib.hid cQ1
      replace cP2 := Lib.hid cP2
      replace cQ2 := Lib.hid cQ2
      replace cP3 := Lib.hid cP3
      replace cQ3 := Lib.hid cQ3
      clear hdim hrm hem hcm hil
      go_wp2_with (rw [← hV, ← hg]; clear hV; replace hg := Lib.hid hg)
      refine wp_region_plan 23 [(false, 0), (true, 1), (true, 2), (true, 4), (false, 3), (false, 5), (false, 6), (true, 7), (true, 8), (true, 9), (true, 11), (false, 10), (false, 12), (false, 13), (true, 14), (true, 15), (true, 16), (true, 18), (false, 17), (false, 19), (false, 20), (true, 21), (true, 22)] (by kernel_rfl) (by kernel_rfl) (fun U hU => ?_)
      replace hB := Lib.hid (show FBox w g x f U from by rw [hU.out]; exact hB.out.later (Below.refl _ _).drew)
      clear hU
      simp only [List.drop_succ_cons, List.drop_nil]
      refine wpPlan_only rfl (by rfl) (fun K hK => ?_)
      go_simp
      refine (law13_awake U).mono ?_
      rintro e x0 ⟨rfl, b⟩
      refine hK _ _ b ?_
      clear hK K
      replace hB := Lib.hid (hB.out.later b)
      clear b
      have p0 := hB.out.c0
      have p1 := hB.out.c1
      have p2 := hB.out.c2
      iterate 3
        refine wpPlan_float (v := ?_) rfl (by rfl) (fun w' hw' => ?_) (fun K hK => ?_)
        rotate_left
        · (go_simp; try with_reducible rfl)
        go_simp
        refine hK _ ?_
        clear hK K
      clear p0 p1 p2
      refine wpPlan_only rfl (by rfl) (fun K hK => ?_)
      go_simp
      refine (cP1.out x0 hB.out.f).mono ?_
      rintro e x1 ⟨A1, n1, c1, rfl, hR1, hn1, b⟩
      refine hK _ _ b ?_
      clear hK K
      replace hB := Lib.hid (hB.out.later b)
      clear b
      refine wpPlan_only rfl (by rfl) (fun K hK => ?_)
      go_simp
      refine (cQ1.out x1 hB.out.f).mono ?_
      rintro e x2 ⟨A2, n2, c2, rfl, hR2, hn2, b, -⟩
      refine hK _ _ b ?_
      clear hK K
      replace hB := Lib.hid (hB.out.later b)
      have hl1 := hR1.len
      have hl2 := hR2.len
      have cE := ref3_Equal (x.m : Int) (x.m : Int) A1 A2 n1 n2 c1 c2 rm rm x2 (hR1.below b) hR2 (by have := hd1.out.1; omega) (by have := hd1.out.1; omega) hd1.out.2 hd1.out.2
      rw [show equalM (x.m : Int) (x.m : Int) rm rm = true from by simp [equalM, sameM]] at cE
      replace cE := Lib.hid cE
      clear b hR1 hR2 hl1 hl2
      refine wpPlan_only rfl (by rfl) (fun K hK => ?_)
      go_simp
      refine cE.out.mono ?_
      rintro e x3 ⟨rfl, b⟩
      refine hK _ _ b ?_
      clear hK K
      replace hB := Lib.hid (hB.out.later b)
      clear b cE
      have p0 := hB.out.c0
      have p1 := hB.out.c1
      have p2 := hB.out.c2
      iterate 4
        refine wpPlan_float (v := ?_) rfl (by rfl) (fun w' hw' => ?_) (fun K hK => ?_)
        rotate_left
        · (go_simp; try with_reducible rfl)
        go_simp
        refine hK _ ?_
        clear hK K
      clear p0 p1 p2
      refine wpPlan_only rfl (by rfl) (fun K hK => ?_)
      go_simp
      refine (cP2.out x3 hB.out.f).mono ?_
      rintro e x4 ⟨A1, n1, c1, rfl, hR1, hn1, b⟩
      refine hK _ _ b ?_
      clear hK K
      replace hB := Lib.hid (hB.out.later b)
      clear b
      refine wpPlan_only rfl (by rfl) (fun K hK => ?_)
      go_simp
      refine (cQ2.out x4 hB.out.f).mono ?_
      rintro e x5 ⟨A2, n2, c2, rfl, hR2, hn2, b, -⟩
      refine hK _ _ b ?_
      clear hK K
      replace hB := Lib.hid (hB.out.later b)
      have hl1 := hR1.len
      have hl2 := hR2.len
      have cE := ref3_Equal (x.m : Int) (x.m : Int) A1 A2 n1 n2 c1 c2 em em x5 (hR1.below b) hR2 (by have := hd2.out.1; omega) (by have := hd2.out.1; omega) hd2.out.2 hd2.out.2
      rw [show equalM (x.m : Int) (x.m : Int) em em = true from by simp [equalM, sameM]] at cE
      replace cE := Lib.hid cE
      clear b hR1 hR2 hl1 hl2
      refine wpPlan_only rfl (by rfl) (fun K hK => ?_)
      go_simp
      refine cE.out.mono ?_
      rintro e x6 ⟨rfl, b⟩
      refine hK _ _ b ?_
      clear hK K
      replace hB := Lib.hid (hB.out.later b)
      clear b cE
      have p0 := hB.out.c0
      have p1 := hB.out.c1
      have p2 := hB.out.c2
      iterate 4
        refine wpPlan_float (v := ?_) rfl (by rfl) (fun w' hw' => ?_) (fun K hK => ?_)
        rotate_left
        · (go_simp; try with_reducible rfl)
        go_simp
        refine hK _ ?_
        clear hK K
      clear p0 p1 p2
      refine wpPlan_only rfl (by rfl) (fun K hK => ?_)
      go_simp
      refine (cP3.out x6 hB.out.f).mono ?_
      rintro e x7 ⟨A1, n1, c1, rfl, hR1, hn1, b⟩
      refine hK _ _ b ?_
      clear hK K
      replace hB := Lib.hid (hB.out.later b)
      clear b
      refine wpPlan_only rfl (by rfl) (fun K hK => ?_)
      go_simp
      refine (cQ3.out x7 hB.out.f).mono ?_
      rintro e x8 ⟨A2, n2, c2, rfl, hR2, hn2, b⟩
      refine hK _ _ b ?_
      clear hK K
      replace hB := Lib.hid (hB.out.later b)
      have hl1 := hR1.len
      have hl2 := hR2.len
      have cE := ref3_Equal (x.m : Int) (x.m : Int) A1 A2 n1 n2 c1 c2 cm cm x8 (hR1.below b) hR2 (by have := hd3.out.1; omega) (by have := hd3.out.1; omega) hd3.out.2 hd3.out.2
      rw [show equalM (x.m : Int) (x.m : Int) cm cm = true from by simp [equalM, sameM]] at cE
      replace cE := Lib.hid cE
      clear b hR1 hR2 hl1 hl2
      refine wpPlan_only rfl (by rfl) (fun K hK => ?_)
      go_simp
      refine cE.out.mono ?_
      rintro e x9 ⟨rfl, b⟩
      refine hK _ _ b ?_
      clear hK K
      replace hB := Lib.hid (hB.out.later b)
      clear b cE
      iterate 2
        refine wpPlan_float (v := ?_) rfl (by rfl) (fun w' hw' => ?_) (fun K hK => ?_)
        rotate_left
        · (go_simp; try with_reducible rfl)
        go_simp
        refine hK _ ?_
        clear hK K
      refine wpPlan_nil (NoPanic.normal ?_)
      go_wp2_with fail
      go_ret
      exact ⟨rfl, hB.out.o⟩
end Go.Proofs.Ytmgockkjoogcaaa

namespace Go.Proofs.Ytmgockkjoogcaaa
open Go.RowKit Go.ChangeShapes Go.WideShapes Go.Deep
set_option linter.unusedVariables false

theorem bulk_append {H : Type} (l r : List (DataW H)) : Rows.uptoBulkAll (l ++ r) = Rows.uptoBulkAll l + Rows.uptoBulkAll r := by
  induction l with
  | nil => simp [Rows.uptoBulkAll]
  | cons x l ih => rw [List.cons_append, Rows.uptoBulkAll, Rows.uptoBulkAll, ih]; omega
theorem bulk_pos {H : Type} (d : DataW H) : 1 ≤ Rows.uptoBulk d := by
  cases d with
  | lit l => cases l <;> simp [Rows.uptoBulk]
  | nil => simp [Rows.uptoBulk]
  | ptr d => simp [Rows.uptoBulk]
  | slice elems spare => simp [Rows.uptoBulk]
  | agg parts => simp [Rows.uptoBulk]
  | iface t d => simp [Rows.uptoBulk]
  | map entries => simp [Rows.uptoBulk]
  | held h => simp [Rows.uptoBulk]
theorem bulk_len {H : Type} (l : List (DataW H)) : l.length ≤ Rows.uptoBulkAll l := by
  induction l with
  | nil => simp
  | cons x r ih => have := bulk_pos x; rw [Rows.uptoBulkAll, List.length_cons]; omega
theorem bulk_slice {H : Type} (a b : List (DataW H)) : Rows.uptoBulk (.slice a b) = Rows.uptoBulkAll a + Rows.uptoBulkAll b + 1 := by rw [Rows.uptoBulk]
theorem bulk_agg {H : Type} (a : List (DataW H)) : Rows.uptoBulk (.agg a) = Rows.uptoBulkAll a + 1 := by rw [Rows.uptoBulk]
theorem addr_plus (b off j : Nat) : (⟨b, off, none⟩ : Addr).add j = ⟨b, off + j, none⟩ := by unfold Addr.add; split <;> simp_all

section
variable {H : Type} {enc : TypeId × Value → H} {P : Program} {w : World} {base : Nat} {held : Bool}
theorem open_ops {t e : TypeId} {f0 f1 f2 : Field} {fuel : Nat} {A : Option Addr} {len cap : Nat} {x : DataW H × List MemPlace} (ht : P.underlying t = some (.slice e)) (he : P.underlying e = some (.struct #[f0, f1, f2])) (ce : P.cellsOf e = 3)
    (o0 : f0.offset = 0) (o1 : f1.offset = 1) (o2 : f2.offset = 2) (k0 : P.cellsOf f0.type = 1) (k1 : P.cellsOf f1.type = 1) (k2 : P.cellsOf f2.type = 1)
    (u0 : P.underlying f0.type = some .bool) (u1 : P.underlying f1.type = some .string) (u2 : P.underlying f2.type = some (.int .i64))
    (h : DataW.trod enc P w base (fun _ => true) held fuel t [.slice A len cap] = some x) : ∃ os, OpsAt w A len os ∧ len ≤ cap ∧ cap ≤ 9223372036854775807 ∧ cap ≤ Rows.uptoBulk x.1 := by
  rcases open_slice ht h with ⟨hcs, hx⟩ | ⟨⟨b, off, spot⟩, l, c, m, n, D, Pl, hcs, hb, hl, hm, hmm, hx, hel⟩
  · injection hcs with hcs
    injection hcs with h1 h2 h3
    subst h1 h2 h3
    exact ⟨[], OpsAt.nil _ _, by omega, by omega, by omega⟩
  · injection hcs with hcs
    injection hcs with h1 h2 h3
    subst h1 h2 h3
    rw [if_pos rfl] at hmm
    subst hmm
    have hbulk : m ≤ Rows.uptoBulk x.1 := by
      rw [hx, bulk_slice]
      have := bulk_len ((List.range len).map D)
      have := bulk_len ((List.range (m - len)).map fun j => D (len + j))
      simp only [List.length_map, List.length_range] at *
      omega
    have hmm : m ≤ 9223372036854775807 := by unfold maxLen at hm; omega
    have hat : ∀ k, k < len → ∃ o : OpT, ((-9223372036854775808 ≤ o.2.2 ∧ o.2.2 < 9223372036854775808) ∧ o.2.1.size ≤ 9223372036854775807) ∧
        w.cell? ((⟨b, off, spot⟩ : Addr).add (k * 3)) = some (.bool o.1) ∧ w.cell? (((⟨b, off, spot⟩ : Addr).add (k * 3)).add 1) = some (.string o.2.1) ∧ w.cell? (((⟨b, off, spot⟩ : Addr).add (k * 3)).add 2) = some (.int .i64 o.2.2) := by
      intro k hk
      obtain ⟨cs', hc, ht'⟩ := hel k (by omega)
      rw [ce] at hc
      obtain ⟨_, hcl, hcat⟩ := World.cells?_some hc
      obtain ⟨xs, m', _, _, _, hxl, hf⟩ := DataW.trod_struct he ht'
      match cs', hcl with
      | [p, q, r], _ =>
        match xs, hxl with
        | [y0, y1, y2], _ =>
          have f0' := hf 0 f0 rfl
          have f1' := hf 1 f1 rfl
          have f2' := hf 2 f2 rfl
          rw [o0, k0] at f0'
          rw [o1, k1] at f1'
          rw [o2, k2] at f2'
          simp at f0' f1' f2'
          obtain ⟨bv, e0, _⟩ := DataW.trod_bool u0 f0'
          obtain ⟨sv, e1, _, ws⟩ := DataW.trod_string u1 f1'
          obtain ⟨iv, e2, _, wi⟩ := DataW.trod_int u2 f2'
          injection e0 with e0
          injection e1 with e1
          injection e2 with e2
          subst e0; subst e1; subst e2
          have c0 := hcat 0 (by omega)
          have c1 := hcat 1 (by omega)
          have c2 := hcat 2 (by omega)
          have hz : ∀ a : Addr, a.add 0 = a := fun a => by obtain ⟨b, o, s⟩ := a; unfold Addr.add; split <;> simp_all
          rw [hz] at c0
          have hb := bounds_i64 wi
          exact ⟨(bv, sv, iv), ⟨⟨hb.1, by have := hb.2; show iv < _; omega⟩, by unfold maxLen at ws; exact ws⟩, by simpa using c0, by simpa using c1, by simpa using c2⟩
    by_cases h0 : len = 0
    · subst h0
      exact ⟨[], OpsAt.nil _ _, by omega, hmm, hbulk⟩
    · obtain ⟨_, _, hc0, _, _⟩ := hat 0 (by omega)
      have hspot : spot = none := by
        have h := World.cell?_spot hc0
        cases spot with
        | none => rfl
        | some s => unfold Addr.add at h; simp at h
      subst hspot
      have hblt : b < w.heap.size := by
        have := World.block_lt_of_cell? w _ hc0
        rwa [addr_plus] at this
      have hall : ∀ k, k ≤ len → ∃ os : List OpT, os.length = k ∧ OkO os ∧ ∀ (j : Nat) (u : Value), (cellsO os)[j]? = some u → w.cell? ⟨b, off + j, none⟩ = some u := by
        intro k
        induction k with
        | zero => exact fun _ => ⟨[], rfl, fun o h => by simp at h, fun j u h => by simp [cellsO] at h⟩
        | succ k ih =>
          intro hk
          obtain ⟨os, p1, p2, p3⟩ := ih (by omega)
          obtain ⟨o, hok, c0, c1, c2⟩ := hat k (by omega)
          rw [addr_plus] at c0 c1 c2
          rw [addr_plus] at c1 c2
          refine ⟨os ++ [o], by simp [p1], okO_append p2 (fun o' h => by rw [List.mem_singleton.1 h]; exact hok), fun j u hj => ?_⟩
          rw [cellsO_append] at hj
          rcases Nat.lt_or_ge j (cellsO os).length with hlt | hge
          · rw [List.getElem?_append_left hlt] at hj; exact p3 j u hj
          · rw [List.getElem?_append_right hge] at hj
            have hlk : (cellsO os).length = k * 3 := by rw [cellsO_len, p1]
            obtain ⟨r, rfl⟩ : ∃ r, j = k * 3 + r := ⟨j - k * 3, by omega⟩
            rw [hlk, Nat.add_sub_cancel_left] at hj
            match r, hj with
            | 0, hj =>
              have : u = .bool o.1 := by simpa [cellsO] using hj.symm
              rw [this]; exact c0
            | 1, hj =>
              have : u = .string o.2.1 := by simpa [cellsO] using hj.symm
              rw [this, ← Nat.add_assoc]; exact c1
            | 2, hj =>
              have : u = .int .i64 o.2.2 := by simpa [cellsO] using hj.symm
              rw [this, ← Nat.add_assoc]; exact c2
            | r + 3, hj => simp [cellsO] at hj
      obtain ⟨os, p1, p2, p3⟩ := hall len (Nat.le_refl _)
      exact ⟨os, ⟨p1, p2, fun _ => ⟨b, off, rfl, hblt, p3⟩⟩, hl, hmm, hbulk⟩
theorem open_hist {th t e : TypeId} {f0 f1 f2 : Field} {fuel : Nat} {v : Value} {x : DataW H × List MemPlace} (hth : P.underlying th = some (.slice t)) (ct : P.cellsOf t = 1) (ht : P.underlying t = some (.slice e)) (he : P.underlying e = some (.struct #[f0, f1, f2])) (ce : P.cellsOf e = 3)
    (o0 : f0.offset = 0) (o1 : f1.offset = 1) (o2 : f2.offset = 2) (k0 : P.cellsOf f0.type = 1) (k1 : P.cellsOf f1.type = 1) (k2 : P.cellsOf f2.type = 1)
    (u0 : P.underlying f0.type = some .bool) (u1 : P.underlying f1.type = some .string) (u2 : P.underlying f2.type = some (.int .i64))
    (h : DataW.trod enc P w base (fun _ => true) held fuel th [v] = some x) : ∃ A len cap hs, v = .slice A len cap ∧ HistAt w A len hs ∧ len ≤ cap ∧ cap ≤ 9223372036854775807 ∧ cap ≤ Rows.uptoBulk x.1 ∧ (allO hs).length ≤ Rows.uptoBulk x.1 := by
  rcases open_slice1 hth ct h with ⟨hcs, hx⟩ | ⟨⟨b, off, spot⟩, len, cap, m, n, V, D, Pl, hcs, hb, hl, hm, hmm, hx, hel⟩
  · injection hcs with hcs
    exact ⟨none, 0, 0, [], hcs, HistAt.nil _ _, by omega, by omega, by omega, by simp [allO]⟩
  · injection hcs with hcs
    rw [if_pos rfl] at hmm
    subst hmm
    have hmm : m ≤ 9223372036854775807 := by unfold maxLen at hm; omega
    have hbulk : m ≤ Rows.uptoBulk x.1 ∧ Rows.uptoBulkAll ((List.range len).map D) ≤ Rows.uptoBulk x.1 := by
      rw [hx, bulk_slice]
      have := bulk_len ((List.range len).map D)
      have := bulk_len ((List.range (m - len)).map fun j => D (len + j))
      simp only [List.length_map, List.length_range] at *
      omega
    have hat : ∀ k, k < len → ∃ os, SessV w (V k) os ∧ os.length ≤ Rows.uptoBulk (D k) := by
      intro k hk
      obtain ⟨_, hk2⟩ := hel k (by omega)
      obtain ⟨A', n', c', e'⟩ : ∃ A' n' c', V k = .slice A' n' c' := by
        rcases open_slice ht hk2 with ⟨hcs, _⟩ | ⟨a, l, c, m, n, D, Pl, hcs, _⟩
        · injection hcs with hcs; exact ⟨_, _, _, hcs⟩
        · injection hcs with hcs; exact ⟨_, _, _, hcs⟩
      rw [e'] at hk2
      obtain ⟨os, h1, h2, h3, h4⟩ := open_ops ht he ce o0 o1 o2 k0 k1 k2 u0 u1 u2 hk2
      exact ⟨os, ⟨A', n', c', e', h2, by omega, h1⟩, by rw [h1.len]; exact Nat.le_trans h2 h4⟩
    by_cases h0 : len = 0
    · subst h0
      exact ⟨_, 0, m, [], hcs, HistAt.nil _ _, by omega, hmm, hbulk.1, by simp [allO]⟩
    · have hc0 := (hel 0 (by omega)).1
      have hspot : spot = none := by
        have h := World.cell?_spot hc0
        cases spot with
        | none => rfl
        | some s => unfold Addr.add at h; simp at h
      subst hspot
      have hblt : b < w.heap.size := by
        have := World.block_lt_of_cell? w _ hc0
        rwa [addr_plus] at this
      have hall : ∀ k, k ≤ len → ∃ hs : List (List OpT), hs.length = k ∧ (∀ (i : Nat) (v : Value) (os : List OpT), ((List.range k).map V)[i]? = some v → hs[i]? = some os → SessV w v os) ∧ (allO hs).length ≤ Rows.uptoBulkAll ((List.range k).map D) := by
        intro k
        induction k with
        | zero => exact fun _ => ⟨[], rfl, fun i v os h => by simp at h, by simp [allO]⟩
        | succ k ih =>
          intro hk
          obtain ⟨hs, p1, p2, p3⟩ := ih (by omega)
          obtain ⟨os, q1, q2⟩ := hat k (by omega)
          refine ⟨hs ++ [os], by simp [p1], fun i v o hv ho => ?_, ?_⟩
          · rw [List.range_succ, List.map_append] at hv
            rcases Nat.lt_or_ge i k with hlt | hge
            · rw [List.getElem?_append_left (by simpa using hlt)] at hv
              rw [List.getElem?_append_left (by omega)] at ho
              exact p2 i v o hv ho
            · rw [List.getElem?_append_right (by simpa using hge)] at hv
              rw [List.getElem?_append_right (by omega)] at ho
              have hv' := List.mem_of_getElem? hv
              have ho' := List.mem_of_getElem? ho
              simp at hv' ho'
              subst hv'; subst ho'
              exact q1
          · rw [allO_append, List.range_succ, List.map_append, bulk_append, List.length_append]
            have e1 : (allO [os]).length = os.length := by simp [allO]
            have e2 : Rows.uptoBulkAll (List.map D [k]) = Rows.uptoBulk (D k) := by simp [Rows.uptoBulkAll]
            omega
      obtain ⟨hs, p1, p2, p3⟩ := hall len (Nat.le_refl _)
      refine ⟨_, len, m, hs, hcs, ⟨(List.range len).map V, ⟨by simp, fun _ => ⟨b, off, rfl, hblt, fun j u hu => ?_⟩⟩, by simp [p1], p2⟩, hl, hmm, hbulk.1, by omega⟩
      have hj : j < len := by have := (List.getElem?_eq_some_iff.1 hu).1; simpa using this
      rw [List.getElem?_map, List.getElem?_range hj, Option.map_some] at hu
      have h1 := (hel j (by omega)).1
      rw [addr_plus] at h1
      rw [h1]; exact hu
/-- a struct of three one-cell fields and a struct of two cells -/
theorem open_askH {r : Reach} {b0 : Nat} {t : TypeId} {f0 f1 f2 f3 : Field} {v : Value} {d : DataW H} {p : List MemPlace} (hs : P.underlying t = some (.struct #[f0, f1, f2, f3])) (hC : P.cellsOf t = 5)
    (o0 : f0.offset = 0) (o1 : f1.offset = 1) (o2 : f2.offset = 2) (o3 : f3.offset = 3) (k0 : P.cellsOf f0.type = 1) (k1 : P.cellsOf f1.type = 1) (k2 : P.cellsOf f2.type = 1) (k3 : P.cellsOf f3.type = 2)
    (hv : Value.okWide P w r b0 t v) (h : DataW.Trod enc P w base (fun _ => true) held t v d p) :
    ∃ (v0 v1 v2 v3 v4 : Value) (y0 y1 y2 y3 : DataW H × List MemPlace) (n : Nat), v = .agg #[v0, v1, v2, v3, v4] ∧ d = .agg [y0.1, y1.1, y2.1, y3.1] ∧
      DataW.trod enc P w base (fun _ => true) held n f0.type [v0] = some y0 ∧ DataW.trod enc P w base (fun _ => true) held n f1.type [v1] = some y1 ∧ DataW.trod enc P w base (fun _ => true) held n f2.type [v2] = some y2 ∧ DataW.trod enc P w base (fun _ => true) held n f3.type [v3, v4] = some y3 := by
  obtain ⟨cs, rfl, hsz⟩ := okWide_struct hs hv
  obtain ⟨l⟩ := cs
  match l, hsz.trans hC with
  | [c0, c1, c2, c3, c4], _ =>
    obtain ⟨fuel, hf⟩ := h
    obtain ⟨xs, n, _, hx, _, hlen, hg⟩ := DataW.trod_struct hs hf
    match xs, hlen with
    | [y0, y1, y2, y3], _ =>
      injection hx with hx1 hx2
      exact ⟨c0, c1, c2, c3, c4, y0, y1, y2, y3, n, rfl, hx1, by simpa [Value.cells, o0, k0] using hg 0 f0 rfl, by simpa [Value.cells, o1, k1] using hg 1 f1 rfl, by simpa [Value.cells, o2, k2] using hg 2 f2 rfl, by simpa [Value.cells, o3, k3] using hg 3 f3 rfl⟩
/-- a struct of two numbers -/
theorem open_two {t : TypeId} {f0 f1 : Field} {fuel : Nat} {c0 c1 : Value} {x : DataW H × List MemPlace} (hs : P.underlying t = some (.struct #[f0, f1])) (o0 : f0.offset = 0) (o1 : f1.offset = 1) (k0 : P.cellsOf f0.type = 1) (k1 : P.cellsOf f1.type = 1)
    (u0 : P.underlying f0.type = some (.int .i64)) (u1 : P.underlying f1.type = some (.int .i64)) (h : DataW.trod enc P w base (fun _ => true) held fuel t [c0, c1] = some x) :
    ∃ a b : Int, c0 = .int .i64 a ∧ c1 = .int .i64 b ∧ (-9223372036854775808 ≤ a ∧ a < 9223372036854775808) ∧ (-9223372036854775808 ≤ b ∧ b < 9223372036854775808) := by
  obtain ⟨xs, n, _, hx, _, hlen, hg⟩ := DataW.trod_struct hs h
  match xs, hlen with
  | [y0, y1], _ =>
    have h0 := hg 0 f0 rfl
    have h1 := hg 1 f1 rfl
    rw [o0, k0] at h0
    rw [o1, k1] at h1
    simp at h0 h1
    obtain ⟨a, e0, _, w0⟩ := DataW.trod_int u0 h0
    obtain ⟨b, e1, _, w1⟩ := DataW.trod_int u1 h1
    injection e0 with e0
    injection e1 with e1
    have b0 := bounds_i64 w0
    have b1 := bounds_i64 w1
    exact ⟨a, b, e0, e1, ⟨b0.1, by omega⟩, ⟨b1.1, by omega⟩⟩
/-- an operation, by value -/
theorem open_opV {r : Reach} {b0 : Nat} {t : TypeId} {f0 f1 f2 : Field} {v : Value} {d : DataW H} {p : List MemPlace} (hs : P.underlying t = some (.struct #[f0, f1, f2])) (hC : P.cellsOf t = 3)
    (o0 : f0.offset = 0) (o1 : f1.offset = 1) (o2 : f2.offset = 2) (k0 : P.cellsOf f0.type = 1) (k1 : P.cellsOf f1.type = 1) (k2 : P.cellsOf f2.type = 1)
    (u0 : P.underlying f0.type = some .bool) (u1 : P.underlying f1.type = some .string) (u2 : P.underlying f2.type = some (.int .i64))
    (hv : Value.okWide P w r b0 t v) (h : DataW.Trod enc P w base (fun _ => true) held t v d p) :
    ∃ (x : Bool) (y : ByteArray) (z : Int), v = .agg #[.bool x, .string y, .int .i64 z] ∧ (-9223372036854775808 ≤ z ∧ z < 9223372036854775808) ∧ y.size ≤ 9223372036854775807 := by
  obtain ⟨cs, rfl, hsz⟩ := okWide_struct hs hv
  obtain ⟨l⟩ := cs
  match l, hsz.trans hC with
  | [c0, c1, c2], _ =>
    obtain ⟨fuel, hf⟩ := h
    obtain ⟨xs, n, _, hx, _, hlen, hg⟩ := DataW.trod_struct hs hf
    match xs, hlen with
    | [y0, y1, y2], _ =>
      have h0 : DataW.trod enc P w base (fun _ => true) held n f0.type [c0] = some y0 := by simpa [Value.cells, o0, k0] using hg 0 f0 rfl
      have h1 : DataW.trod enc P w base (fun _ => true) held n f1.type [c1] = some y1 := by simpa [Value.cells, o1, k1] using hg 1 f1 rfl
      have h2 : DataW.trod enc P w base (fun _ => true) held n f2.type [c2] = some y2 := by simpa [Value.cells, o2, k2] using hg 2 f2 rfl
      obtain ⟨bv, e0, _⟩ := DataW.trod_bool u0 h0
      obtain ⟨sv, e1, _, ws⟩ := DataW.trod_string u1 h1
      obtain ⟨iv, e2, _, wi⟩ := DataW.trod_int u2 h2
      injection e0 with e0
      injection e1 with e1
      injection e2 with e2
      subst e0; subst e1; subst e2
      have hb := bounds_i64 wi
      exact ⟨bv, sv, iv, rfl, ⟨hb.1, by omega⟩, by unfold maxLen at ws; exact ws⟩
end
end Go.Proofs.Ytmgockkjoogcaaa
