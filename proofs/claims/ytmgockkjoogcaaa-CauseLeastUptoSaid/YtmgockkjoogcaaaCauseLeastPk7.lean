/- The contract of the document's own answer of layer 11: Of (whole facts of a history). Layer 13's example, walked. Plain mathematics of layer 13: causal order is within the hull of any matrix that has the edges. Nothing of the program is named. Lists of pairs of bytes in memory. Layer 13's law CauseLeast, walked (where what comes in is of no more than 2^40 operations). Arguments opened: a history (a slice of slices of operations), and what the bound of an '..Upto' statement says of it. Arguments opened: a slice of pairs ('[][2]int'), and the rows of a matrix. An argument opened: a matrix, with its capacity. Arguments opened: a matrix by its cells, inside a struct. An argument opened: a list of pairs of bytes. -/
import Derived.Test.YtmgockkjoogcaaaCauseLeastPk3
import Derived.Test.YtmgockkjoogcaaaCauseLeastPk5
import Derived.Test.YtmgockkjoogcaaaCauseLeastPk6
import Derived.Test.YtmgockkjoogcaaaCauseLeastPk4
import Derived.Test.YtmgockkjoogcaaaCauseLeastPk2
import Derived.Test.YtmgockkjoogcaaaRows
import Derived.Test.YtmgockkjoogcaaaCauseLeastPk1
import Derived.Deep.Slices
import Derived.OpenShut
import Derived.ChangeArms
import Derived.WalkKit
import Derived.ProofKit
import Derived.Deep.Matrix
import Derived.Lib.SmallJoins
namespace Go.Proofs.Ytmgockkjoogcaaa
open Go.RowKit
set_option linter.unusedVariables false
/-- has a history whole facts? -/
def okO11 (hs : List (List OpT)) : Bool := rightL hs && decide ((checkF (facO hs).items).2.2 = 0)
def RetO11 (hs : List (List OpT)) (w : World) (e : Ending) (w' : World) : Prop := ∃ x : FV, e = .returned (.tuple #[.agg #[.slice x.A x.n x.c, .slice x.B x.m x.d, .slice x.C x.k x.e], .bool (okO11 hs)]) ∧ (okO11 hs = true → FactsAt w' x (fillF (facO hs))) ∧ Below w.heap.size w w'
set_option maxRecDepth 100000 in
set_option maxHeartbeats 2000000 in
theorem ref11_Of (A : Option Addr) (n c : Nat) (hs : List (List OpT)) (w : World) (hX : HistAt w A n hs) (hn : n ≤ 1099511627776) (hF : (allO hs).length ≤ 1048576) :
    Calls Try.prog 8 #[.slice A n c] w (RetO11 hs w) := by
  obtain ⟨gr, hgr⟩ : ∃ g, g = w.heap.size := ⟨_, rfl⟩
  obtain ⟨W1, hW1⟩ : ∃ W, W = w.alloc (.cells #[.slice none 0 0, .slice none 0 0, .slice none 0 0] 29) := ⟨_, rfl⟩
  have b0 : Below w.heap.size w W1 := by rw [hW1]; exact (Below.refl _ _).alloc (Nat.le_refl _) _
  have kR : Blk W1 gr 29 [.slice none 0 0, .slice none 0 0, .slice none 0 0] := by rw [hW1, hgr]; exact Blk.new w _ _
  have hgw : Hid (w.heap.size ≤ gr) := Lib.hid (by rw [hgr]; exact Nat.le_refl _)
  have c1 := ref9_Of A n c hs W1 (hX.below b0) hn (by omega)
  clear hX
  cases hri : rightL hs with
  | false =>
    have hno := Lib.hid (show okO11 hs = false from by unfold okO11; rw [hri]; rfl)
    rw [hri, if_neg (by simp), if_neg (by simp)] at c1
    replace c1 := Lib.hid c1
    clear hri
    go_enter Try.func8, Try.ntmps8
    go_wp2_with (rw [← hW1, ← hgr]; clear hW1; replace hgr := Lib.hid hgr)
    refine c1.out.mono ?_; rintro e w3 ⟨x, rfl, -, b3⟩
    obtain ⟨V, hV⟩ : ∃ W, W = w3.alloc (.cells #[.slice x.A x.n x.c, .slice x.B x.m x.d, .slice x.C x.k x.e] 29) := ⟨_, rfl⟩
    obtain ⟨g, hg⟩ : ∃ g, g = w3.heap.size := ⟨_, rfl⟩
    have bV : Below w3.heap.size w3 V := by rw [hV]; exact (Below.refl _ _).alloc (Nat.le_refl _) _
    replace kR := (kR.below b3 kR.lt)
    replace kR := (kR.below bV kR.lt)
    have bb := below_trans2 (below_trans2 b0 b3) bV
    clear b0 b3 bV c1
    have e0 := (((kR.set_ 0 (.slice none 0 0)).set_ 1 (.slice none 0 0)).set_ 2 (.slice none 0 0)).cell 0
    have e1 := (((kR.set_ 0 (.slice none 0 0)).set_ 1 (.slice none 0 0)).set_ 2 (.slice none 0 0)).cell 1
    have e2 := (((kR.set_ 0 (.slice none 0 0)).set_ 1 (.slice none 0 0)).set_ 2 (.slice none 0 0)).cell 2
    have c0 := Blk.cell kR 0
    have c1 := Blk.cell kR 1
    have c2 := Blk.cell kR 2
    have f0 := Blk.frozen kR 0
    have f1 := Blk.frozen kR 1
    have f2 := Blk.frozen kR 2
    have hb3 := Lib.hid (((bb.setCell (p := ⟨gr, 0, none⟩) hgw.out (.slice none 0 0)).setCell (p := ⟨gr, 1, none⟩) hgw.out (.slice none 0 0)).setCell (p := ⟨gr, 2, none⟩) hgw.out (.slice none 0 0))
    clear kR
    go_wp2_with (rw [← hV, ← hg]; clear hV; replace hg := Lib.hid hg)
    exact bodyPost_ret (v := .tuple #[.agg #[.slice none 0 0, .slice none 0 0, .slice none 0 0], .bool false]) (by simp [results, Try.results8, go_sem, e0, e1, e2]) rfl ⟨⟨none, 0, 0, none, 0, 0, none, 0, 0⟩, by rw [hno.out], (fun h => by rw [hno.out] at h; cases h), hb3.out⟩
  | true =>
    rw [hri, if_pos rfl, if_pos rfl] at c1
    obtain ⟨f, hf⟩ : ∃ f : Fac, f = facO hs := ⟨_, rfl⟩
    rw [← hf] at c1
    have hri' := Lib.hid hri
    replace c1 := Lib.hid c1
    clear hri
    replace hf := Lib.hid hf
    go_enter Try.func8, Try.ntmps8
    go_wp2_with (rw [← hW1, ← hgr]; clear hW1; replace hgr := Lib.hid hgr)
    refine c1.out.mono ?_; rintro e w3 ⟨x, rfl, hG, b3⟩
    have hB := Lib.hid ((FBox.new hG).from_ (below_trans2 b0 b3))
    obtain ⟨V, hV⟩ : ∃ W, W = w3.alloc (.cells #[.slice x.A x.n x.c, .slice x.B x.m x.d, .slice x.C x.k x.e] 29) := ⟨_, rfl⟩
    obtain ⟨g, hg⟩ : ∃ g, g = w3.heap.size := ⟨_, rfl⟩
    replace kR := Lib.hid (show Blk V gr 29 [.slice none 0 0, .slice none 0 0, .slice none 0 0] from by rw [hV]; exact (kR.below b3 kR.lt).alloc _)
    rw [← hV, ← hg] at hB
    clear b3 c1 hG b0
    have hxm : x.m ≤ 1048576 := by
      rw [← hB.out.f.is.len, hf.out]
      show (hisF hs).2.length ≤ _
      rw [hisF_len]; omega
    have p0 := hB.out.c0
    have p1 := hB.out.c1
    have p2 := hB.out.c2
    obtain ⟨⟨r1, r2, r3⟩, hr⟩ : ∃ r, r = checkF f.items := ⟨_, rfl⟩
    have cC := ref10_Check x f V hB.out.f
    rw [← hr] at cC
    replace cC := Lib.hid cC
    have hok : okO11 hs = decide (r3 = 0) := by
      unfold okO11
      rw [hri'.out, ← hf.out, ← hr, Bool.true_and]
    replace hr := Lib.hid hr
    replace hok := Lib.hid hok
    go_wp2_with (rw [← hV, ← hg]; clear hV; replace hg := Lib.hid hg)
    refine cC.out.mono ?_; rintro e w4 ⟨rfl, b4⟩
    replace hB := Lib.hid (hB.out.later b4)
    replace kR := kR.out.below b4 kR.out.lt
    clear p0 p1 p2 b4 cC
    by_cases h3 : r3 = 0
    · have hyes := Lib.hid (show okO11 hs = true from by rw [hok.out]; exact decide_eq_true h3)
      have e3 : (r3 != 0) = false := by rw [h3]; rfl
      replace h3 := Lib.hid h3
      have p0 := hB.out.c0
      have p1 := hB.out.c1
      have p2 := hB.out.c2
      have cF := Lib.hid (ref11_Fill x f w4 hB.out.f hxm)
      go_wp2_with fail
      refine cF.out.mono ?_; rintro e w5 ⟨y, rfl, hY, b5⟩
      replace hB := Lib.hid (hB.out.later b5)
      replace kR := kR.below b5 kR.lt
      clear p0 p1 p2 b5 cF
      have hY3 := Lib.hid (hY.put kR (fun u hu => by simp only [List.mem_cons, List.not_mem_nil, or_false] at hu; rcases hu with rfl | rfl | rfl <;> exact ⟨_, _, _, rfl⟩))
      have e0 := (((kR.set_ 0 (.slice y.A y.n y.c)).set_ 1 (.slice y.B y.m y.d)).set_ 2 (.slice y.C y.k y.e)).cell 0
      have e1 := (((kR.set_ 0 (.slice y.A y.n y.c)).set_ 1 (.slice y.B y.m y.d)).set_ 2 (.slice y.C y.k y.e)).cell 1
      have e2 := (((kR.set_ 0 (.slice y.A y.n y.c)).set_ 1 (.slice y.B y.m y.d)).set_ 2 (.slice y.C y.k y.e)).cell 2
      have c0 := Blk.cell kR 0
      have c1 := Blk.cell kR 1
      have c2 := Blk.cell kR 2
      have f0 := Blk.frozen kR 0
      have f1 := Blk.frozen kR 1
      have f2 := Blk.frozen kR 2
      have hb3 := Lib.hid (((hB.out.o.setCell (p := ⟨gr, 0, none⟩) hgw.out (.slice y.A y.n y.c)).setCell (p := ⟨gr, 1, none⟩) hgw.out (.slice y.B y.m y.d)).setCell (p := ⟨gr, 2, none⟩) hgw.out (.slice y.C y.k y.e))
      clear kR
      go_wp2_with fail
      rw [hf.out] at hY3
      exact bodyPost_ret (v := .tuple #[.agg #[.slice y.A y.n y.c, .slice y.B y.m y.d, .slice y.C y.k y.e], .bool true]) (by simp [results, Try.results8, go_sem, e0, e1, e2]) rfl ⟨y, by rw [hyes.out], (fun _ => hY3.out), hb3.out⟩
    · have hno := Lib.hid (show okO11 hs = false from by rw [hok.out]; exact decide_eq_false h3)
      have e3 : (r3 != 0) = true := by simpa using h3
      have bb := hB.out.o
      replace h3 := Lib.hid h3
      -- no facts: bb : Below w.heap.size w w4, kR : the result's variable in w4
      have e0 := (((kR.set_ 0 (.slice none 0 0)).set_ 1 (.slice none 0 0)).set_ 2 (.slice none 0 0)).cell 0
      have e1 := (((kR.set_ 0 (.slice none 0 0)).set_ 1 (.slice none 0 0)).set_ 2 (.slice none 0 0)).cell 1
      have e2 := (((kR.set_ 0 (.slice none 0 0)).set_ 1 (.slice none 0 0)).set_ 2 (.slice none 0 0)).cell 2
      have c0 := Blk.cell kR 0
      have c1 := Blk.cell kR 1
      have c2 := Blk.cell kR 2
      have f0 := Blk.frozen kR 0
      have f1 := Blk.frozen kR 1
      have f2 := Blk.frozen kR 2
      have hb3 := Lib.hid (((bb.setCell (p := ⟨gr, 0, none⟩) hgw.out (.slice none 0 0)).setCell (p := ⟨gr, 1, none⟩) hgw.out (.slice none 0 0)).setCell (p := ⟨gr, 2, none⟩) hgw.out (.slice none 0 0))
      clear kR
      go_wp2_with fail
      exact bodyPost_ret (v := .tuple #[.agg #[.slice none 0 0, .slice none 0 0, .slice none 0 0], .bool false]) (by simp [results, Try.results8, go_sem, e0, e1, e2]) rfl ⟨⟨none, 0, 0, none, 0, 0, none, 0, 0⟩, by rw [hno.out], (fun h => by rw [hno.out] at h; cases h), hb3.out⟩
end Go.Proofs.Ytmgockkjoogcaaa

namespace Go.Proofs.Ytmgockkjoogcaaa
open Go.RowKit
set_option linter.unusedVariables false
def ex13A : List OpT := [(true, ⟨#[120]⟩, 1)]
def ex13B : List OpT := [(false, ⟨#[120]⟩, 1), (true, ⟨#[121]⟩, 1)]
theorem ok13A : OkO ex13A := fun o ho => by
  simp only [ex13A, List.mem_cons, List.not_mem_nil, or_false] at ho
  subst ho; exact ⟨⟨by decide, by decide⟩, by decide⟩
theorem ok13B : OkO ex13B := fun o ho => by
  simp only [ex13B, List.mem_cons, List.not_mem_nil, or_false] at ho
  rcases ho with rfl | rfl <;> exact ⟨⟨by decide, by decide⟩, by decide⟩
def fx13 : Fac := ⟨[⟨#[120]⟩, ⟨#[121]⟩], [⟨0, 0, true, 0, 1⟩, ⟨1, 0, false, 0, 1⟩, ⟨1, 1, true, 1, 1⟩], [-3, 0, -3]⟩
theorem ex13_facts : okO11 [ex13A, ex13B] = true ∧ fillF (facO [ex13A, ex13B]) = fx13 := by decide
theorem ex13_mat : edgeM fx13 = [[2], [4], [0]] ∧ coM fx13 = [[6], [4], [0]] := by decide
theorem ex13_whole : WholeF fx13 := by rw [← ex13_facts.2]; exact fillF_whole _
theorem nbr13 : Nbr fx13.items := by rw [← ex13_facts.2]; exact nbr_hist [ex13A, ex13B]
set_option maxRecDepth 100000 in
set_option maxHeartbeats 2000000 in
theorem law13_awake (w : World) : Calls Try.prog 7 #[] w (RetBool true w) := by
  obtain ⟨Z1, hZ1⟩ : ∃ W, W = w.alloc (.cells #[.bool true, .string ⟨#[120]⟩, .int .i64 1] 50) := ⟨_, rfl⟩
  obtain ⟨a1, ha1⟩ : ∃ g, g = w.heap.size := ⟨_, rfl⟩
  obtain ⟨Z2, hZ2⟩ : ∃ W, W = Z1.alloc (.cells #[.bool false, .string ⟨#[120]⟩, .int .i64 1, .bool true, .string ⟨#[121]⟩, .int .i64 1] 50) := ⟨_, rfl⟩
  obtain ⟨a2, ha2⟩ : ∃ g, g = Z1.heap.size := ⟨_, rfl⟩
  obtain ⟨Z3, hZ3⟩ : ∃ W, W = Z2.alloc (.cells #[.slice (some ⟨a1, 0, none⟩) 1 1, .slice (some ⟨a2, 0, none⟩) 2 2] 47) := ⟨_, rfl⟩
  obtain ⟨a3, ha3⟩ : ∃ g, g = Z2.heap.size := ⟨_, rfl⟩
  have b1 : Below w.heap.size w Z1 := by rw [hZ1]; exact (Below.refl _ w).alloc (Nat.le_refl _) _
  have b2 : Below Z1.heap.size Z1 Z2 := by rw [hZ2]; exact (Below.refl _ _).alloc (Nat.le_refl _) _
  have b3 : Below Z2.heap.size Z2 Z3 := by rw [hZ3]; exact (Below.refl _ _).alloc (Nat.le_refl _) _
  have hH : HistAt Z3 (some ⟨a3, 0, none⟩) 2 [ex13A, ex13B] := by
    have h1 : Blk Z1 a1 50 (cellsO ex13A) := by rw [hZ1, ha1]; exact Blk.new w _ _
    have h2 : Blk Z2 a2 50 (cellsO ex13B) := by rw [hZ2, ha2]; exact Blk.new Z1 _ _
    have h3 : Blk Z3 a3 47 [.slice (some ⟨a1, 0, none⟩) 1 1, .slice (some ⟨a2, 0, none⟩) 2 2] := by rw [hZ3, ha3]; exact Blk.new Z2 _ _
    have h1' := (h1.below b2 h1.lt).below b3 (h1.below b2 h1.lt).lt
    exact HistAt.two h3 (OpsAt.of_blk h1' ok13A rfl) (OpsAt.of_blk (h2.below b3 h2.lt) ok13B rfl) (by omega) (by omega) (by omega) (by omega)
  have c1 := Lib.hid (ref11_Of _ 2 2 [ex13A, ex13B] Z3 hH (by omega) (by decide))
  have bW := Lib.hid (below_trans2 (below_trans2 b1 b2) b3)
  clear hH b1 b2 b3
  go_enter Try.func7, Try.ntmps7
  go_wp2_with (first | (rw [← hZ1, ← ha1]; clear hZ1; replace ha1 := Lib.hid ha1) | (rw [← hZ2, ← ha2]; clear hZ2; replace ha2 := Lib.hid ha2) | (rw [← hZ3, ← ha3]; clear hZ3; replace ha3 := Lib.hid ha3))
  refine c1.out.mono ?_; rintro e w3 ⟨x, rfl, hG, b3⟩
  replace hG := hG ex13_facts.1
  rw [ex13_facts.2] at hG
  rw [ex13_facts.1]
  have hB := Lib.hid ((FBox.new hG).from_ (below_trans2 bW.out b3))
  have hxm : x.m = 3 := by rw [← hG.is.len]; rfl
  obtain ⟨V, hV⟩ : ∃ W, W = w3.alloc (.cells #[.slice x.A x.n x.c, .slice x.B x.m x.d, .slice x.C x.k x.e] 29) := ⟨_, rfl⟩
  obtain ⟨g, hg⟩ : ∃ g, g = w3.heap.size := ⟨_, rfl⟩
  rw [← hV, ← hg] at hB
  replace hxm := Lib.hid hxm
  clear b3 c1 hG bW
  have p0 := hB.out.c0
  have p1 := hB.out.c1
  have p2 := hB.out.c2
  have cP := cause_Co x fx13 V hB.out.f (by rw [hxm.out]; decide) ex13_whole nbr13
  rw [ex13_mat.2, show ((x.m : Nat) : Int) = 3 from by rw [hxm.out]; rfl] at cP
  replace cP := Lib.hid cP
  go_wp2_with (rw [← hV, ← hg]; clear hV; replace hg := Lib.hid hg)
  refine cP.out.mono ?_; rintro e w4 ⟨A, n, c, rfl, hR, hnc, b4⟩
  have hn3 : n = 3 := by rw [← hR.len]; rfl
  subst hn3
  replace hB := Lib.hid (hB.out.later b4)
  obtain ⟨M, hM⟩ : ∃ G, G = w4.heap.size := ⟨_, rfl⟩
  obtain ⟨W, hW⟩ : ∃ W, W = w4.alloc (.cells #[.int .i64 3, .slice A 3 c] 35) := ⟨_, rfl⟩
  have bM : Below w4.heap.size w4 W := by rw [hW]; exact (Below.refl _ _).alloc (Nat.le_refl _) _
  have kM := Lib.hid (show MatB W M 35 3 A 3 c from by rw [hW, hM]; exact MatB.new w4 _)
  replace hR := Lib.hid (hR.below bM)
  replace hB := Lib.hid (hB.out.later bM)
  have hlen : ∀ (k : Nat) (xs : List Nat), ([[6], [4], [0]] : List (List Nat))[k]? = some xs → xs.length ≤ 1024 := fun k xs hx => by
    have := List.mem_of_getElem? hx
    simp only [List.mem_cons, List.not_mem_nil, or_false] at this
    rcases this with rfl | rfl | rfl <;> decide
  have cH1 := fun W' hW' => ref3_Has A 3 c [[6], [4], [0]] 0 1 W' hW' (by decide) hlen
  have cH2 := fun W' hW' => ref3_Has A 3 c [[6], [4], [0]] 0 2 W' hW' (by decide) hlen
  have cH3 := fun W' hW' => ref3_Has A 3 c [[6], [4], [0]] 2 0 W' hW' (by decide) hlen
  rw [show (inM ((3 : Nat) : Int) 0 1 && hasM [[6], [4], [0]] 0 1) = true from by decide] at cH1
  rw [show (inM ((3 : Nat) : Int) 0 2 && hasM [[6], [4], [0]] 0 2) = true from by decide] at cH2
  rw [show (inM ((3 : Nat) : Int) 2 0 && hasM [[6], [4], [0]] 2 0) = false from by decide] at cH3
  replace cH1 := Lib.hid cH1
  replace cH2 := Lib.hid cH2
  replace cH3 := Lib.hid cH3
  have m0 := kM.out.c0
  have m1 := kM.out.c1
  clear hlen b4 bM p0 p1 p2 cP
  go_wp2_with (rw [← hW, ← hM]; clear hW; replace hM := Lib.hid hM)
  refine (cH1.out W hR.out).mono ?_; rintro e w5 ⟨rfl, b⟩
  replace hR := Lib.hid (hR.out.below b)
  replace hB := Lib.hid (hB.out.later b)
  replace kM := Lib.hid (kM.out.below_ b)
  clear m0 m1 b
  have m0 := kM.out.c0
  have m1 := kM.out.c1
  go_wp2_with fail
  refine (cH2.out w5 hR.out).mono ?_; rintro e w6 ⟨rfl, b⟩
  replace hR := Lib.hid (hR.out.below b)
  replace hB := Lib.hid (hB.out.later b)
  replace kM := Lib.hid (kM.out.below_ b)
  clear m0 m1 b
  have m0 := kM.out.c0
  have m1 := kM.out.c1
  go_wp2_with fail
  refine (cH3.out w6 hR.out).mono ?_; rintro e w7 ⟨rfl, b⟩
  replace hB := Lib.hid (hB.out.later b)
  clear m0 m1 b
  have p0 := hB.out.c0
  have p1 := hB.out.c1
  have p2 := hB.out.c2
  have cE := cause_Edges x fx13 w7 hB.out.f (by rw [hxm.out]; decide) ex13_whole nbr13
  rw [ex13_mat.1, show ((x.m : Nat) : Int) = 3 from by rw [hxm.out]; rfl] at cE
  replace cE := Lib.hid cE
  go_wp2_with fail
  refine cE.out.mono ?_; rintro e w8 ⟨A2, n2, c2, rfl, hR2, hnc2, b⟩
  have hn3 : n2 = 3 := by rw [← hR2.len]; rfl
  subst hn3
  replace hB := Lib.hid (hB.out.later b)
  clear p0 p1 p2 b cE
  have cH4 := ref3_Has A2 3 c2 [[2], [4], [0]] 0 2 w8 hR2 (by decide) (fun k xs hx => by
    have := List.mem_of_getElem? hx
    simp only [List.mem_cons, List.not_mem_nil, or_false] at this
    rcases this with rfl | rfl | rfl <;> decide)
  rw [show (inM ((3 : Nat) : Int) 0 2 && hasM [[2], [4], [0]] 0 2) = false from by decide] at cH4
  replace cH4 := Lib.hid cH4
  clear hR2
  go_wp2_with fail
  refine cH4.out.mono ?_; rintro e w9 ⟨rfl, b⟩
  replace hB := Lib.hid (hB.out.later b)
  go_wp2_with fail
  go_ret
  exact ⟨rfl, hB.out.o⟩
end Go.Proofs.Ytmgockkjoogcaaa

namespace Go.Proofs.Ytmgockkjoogcaaa
set_option linter.unusedVariables false

/-- a matrix that has the pairs of Po, and the writes of the first k reads -/
structure HasE (f : Fac) (k : Nat) (X : List (List Nat)) : Prop where
  good : Good f.items.length X
  po : ∀ i j : Nat, aheadF f.items i j = true → Rel X i j
  rf : ∀ i j : Nat, j < k → f.frm.getD j 0 = (i : Int) → Rel X i j
theorem HasE.start {f : Fac} (h : f.items.length ≤ 4096) : HasE f 0 (poM f.items) := ⟨(poM_good h).1, fun i j hij => by unfold Rel; rw [(poM_good h).2]; exact hij, fun i j hj => by omega⟩
theorem HasE.more {f : Fac} {k : Nat} {X : List (List Nat)} (h : HasE f k X) {a b : Nat} (ha : a < f.items.length) (hb : b < f.items.length) : HasE f k (setM X (a : Int) (b : Int)) :=
  ⟨h.good.set ha hb, fun i j hij => (rel_set h.good ha hb i j).2 (.inl (h.po i j hij)), fun i j hj hf => (rel_set h.good ha hb i j).2 (.inl (h.rf i j hj hf))⟩
theorem HasE.next {f : Fac} {k : Nat} {X : List (List Nat)} (h : HasE f k X) {a : Nat} (ha : a < f.items.length) (hk : k < f.items.length) (hf : f.frm.getD k 0 = (a : Int)) : HasE f (k + 1) (setM X (a : Int) (k : Int)) :=
  ⟨h.good.set ha hk, fun i j hij => (rel_set h.good ha hk i j).2 (.inl (h.po i j hij)), fun i j hj hfj => (rel_set h.good ha hk i j).2 (by
    rcases Nat.lt_or_ge j k with h1 | h1
    · exact .inl (h.rf i j h1 hfj)
    · have : j = k := by omega
      subst this
      rw [hf] at hfj
      exact .inr ⟨by omega, rfl⟩)⟩
theorem HasE.skip {f : Fac} {k : Nat} {X : List (List Nat)} (h : HasE f k X) (hf : f.frm.getD k 0 < 0) : HasE f (k + 1) X :=
  ⟨h.good, h.po, fun i j hj hfj => by
    rcases Nat.lt_or_ge j k with h1 | h1
    · exact h.rf i j h1 hfj
    · have : j = k := by omega
      subst this
      rw [hfj] at hf; omega⟩
theorem HasE.least {f : Fac} {X : List (List Nat)} (hw : WholeF f) (h0 : f.items.length ≤ 4096) (h : HasE f f.items.length X) : subM (coM f) (closeK X f.items.length) = true := by
  have he := edgeM_good hw h0
  have hX := closeK_hull h.good
  refine IsHull.least he.1 (coM_hull hw h0) hX.1 hX.closed ((sub_rel he.1 hX.1).2 fun i j hij => (hX.2 i j).2 (.one ?_))
  rcases (he.2 i j).1 hij with h1 | ⟨h1, h2⟩
  · exact h.po i j h1
  · exact h.rf i j h1 h2
/-- causal order has the edges -/
theorem coM_po {f : Fac} (hw : WholeF f) (h0 : f.items.length ≤ 4096) : subM (poM f.items) (coM f) = true :=
  (sub_rel (poM_good h0).1 (coM_hull hw h0).1).2 fun i j hij => ((coM_hull hw h0).2 i j).2 (.one (((edgeM_good hw h0).2 i j).2 (.inl (by unfold Rel at hij; rw [(poM_good h0).2] at hij; exact hij))))
theorem coM_rf {f : Fac} (hw : WholeF f) (h0 : f.items.length ≤ 4096) {i j : Nat} (hj : j < f.items.length) (hf : f.frm.getD j 0 = (i : Int)) : hasM (coM f) (i : Int) (j : Int) = true :=
  ((coM_hull hw h0).2 i j).2 (.one (((edgeM_good hw h0).2 i j).2 (.inr ⟨hj, hf⟩)))
theorem coM_closed {f : Fac} (hw : WholeF f) (h0 : f.items.length ≤ 4096) : closedB (coM f) = true := (closedB_iff (coM_hull hw h0).1).2 (coM_hull hw h0).closed
end Go.Proofs.Ytmgockkjoogcaaa

namespace Go.Proofs.Ytmgockkjoogcaaa
open Go.RowKit
set_option linter.unusedVariables false

/-- the slice '.slice A n c' of pairs of bytes reads as ps -/
def Pairs8 (w : World) (A : Option Addr) (n : Nat) (ps : List (Nat × Nat)) : Prop :=
  ps.length = n ∧ (∀ p ∈ ps, p.1 < 256 ∧ p.2 < 256) ∧
  (0 < n → ∃ b off, A = some ⟨b, off, none⟩ ∧ b < w.heap.size ∧ ∀ (j : Nat) (p : Nat × Nat), ps[j]? = some p → w.cell? ⟨b, off + j * 2, none⟩ = some (.int .u8 (p.1 : Int)) ∧ w.cell? ⟨b, off + j * 2 + 1, none⟩ = some (.int .u8 (p.2 : Int)))
theorem Pairs8.below {w w' : World} {A : Option Addr} {n : Nat} {ps : List (Nat × Nat)} (h : Pairs8 w A n ps) (hb : Below w.heap.size w w') : Pairs8 w' A n ps :=
  ⟨h.1, h.2.1, fun hn => by
    obtain ⟨b, off, e, hbl, hc⟩ := h.2.2 hn
    exact ⟨b, off, e, Nat.lt_of_lt_of_le hbl hb.size, fun j p hp => by
      obtain ⟨h1, h2⟩ := hc j p hp
      exact ⟨(hb.cell (p := ⟨b, off + j * 2, none⟩) hbl).trans h1, (hb.cell (p := ⟨b, off + j * 2 + 1, none⟩) hbl).trans h2⟩⟩⟩
theorem Pairs8.at_ {w : World} {A : Option Addr} {n : Nat} {ps : List (Nat × Nat)} {k : Nat} (h : Pairs8 w A n ps) (hk : k < n) : ∃ b off x y, A = some ⟨b, off, none⟩ ∧ b < w.heap.size ∧ ps[k]? = some (x, y) ∧ (x < 256 ∧ y < 256) ∧
    w.cell? ⟨b, off + k * 2, none⟩ = some (.int .u8 (x : Int)) ∧ w.cell? ⟨b, off + k * 2 + 1, none⟩ = some (.int .u8 (y : Int)) := by
  obtain ⟨b, off, e, hb, hc⟩ := h.2.2 (by omega)
  have hl : k < ps.length := by rw [h.1]; exact hk
  exact ⟨b, off, ps[k].1, ps[k].2, e, hb, List.getElem?_eq_getElem hl, h.2.1 _ (List.getElem_mem hl), (hc k _ (List.getElem?_eq_getElem hl)).1, (hc k _ (List.getElem?_eq_getElem hl)).2⟩
end Go.Proofs.Ytmgockkjoogcaaa

namespace Go.Proofs.Ytmgockkjoogcaaa
open Go.RowKit
set_option linter.unusedVariables false
theorem tmod_small13 (x n : Nat) (h : x < 256) : (IntKind.i64.wrap (x : Int)).tmod (n : Int) = ((x % n : Nat) : Int) := by
  rw [show IntKind.i64.wrap (x : Int) = (x : Int) from by rw [IntKind.wrap_i64]; omega]
  exact (Int.ofNat_tmod x n).symm
set_option maxRecDepth 100000 in
set_option maxHeartbeats 4000000 in
theorem law13_CauseLeast (A B : Option Addr) (n c m d : Nat) (hs : List (List OpT)) (ps : List (Nat × Nat)) (w : World) (hX : HistAt w A n hs) (hP : Pairs8 w B m ps) (hm63 : m ≤ 9223372036854775807) (hnc : n ≤ c) (hc : c ≤ 1099511627776) (hF : (allO hs).length ≤ 1099511627776) :
    Calls Try.prog 4 #[.slice A n c, .slice B m d] w (RetBool true w) := by
  by_cases hm40 : m ≤ 40
  · have hml : decide ((40 : Int) < (m : Int)) = false := decide_eq_false (by omega)
    have hmlt : ¬ (40 : Int) < (m : Int) := by omega
    -- a law of one history hs (at A n c) that guards itself by Small 30, then asks for whole facts: walked to where they lie (hB : FBox w g x f V, V not yet named: hV, hg); f's hf, hw, hm30
    have hXl := Lib.hid hX.len
    have cS := Lib.hid (ref6_Small A n c 30 hs w hX (by omega) (by omega))
    replace hX := Lib.hid hX
    cases hsa : smallL hs 30 with
    | false =>
      rw [hsa] at cS
      clear hsa
      go_enter Try.func4, Try.ntmps4
      go_wp2_with fail
      refine cS.out.mono ?_; rintro e w1 ⟨rfl, b1⟩
      go_wp2_with fail
      refine (law13_awake w1).mono ?_; rintro e w9 ⟨rfl, b9⟩
      go_wp2_with fail
      go_ret
      exact ⟨rfl, below_trans2 b1 b9⟩
    | true =>
      rw [hsa] at cS
      obtain ⟨hnx, hFx, hnm8⟩ := smallL_says hsa
      rw [hXl.out] at hnx
      replace hnm8 := Lib.hid hnm8
      clear hsa
      go_enter Try.func4, Try.ntmps4
      go_wp2_with fail
      refine cS.out.mono ?_; rintro e w1 ⟨rfl, b1⟩
      replace hX := Lib.hid (hX.out.below b1)
      have c1 := Lib.hid (ref11_Of A n c hs w1 hX.out (by omega) (by omega))
      go_wp2_with fail
      refine c1.out.mono ?_; rintro e w3 ⟨x, rfl, hG, b3⟩
      obtain ⟨V, hV⟩ : ∃ W, W = w3.alloc (.cells #[.slice x.A x.n x.c, .slice x.B x.m x.d, .slice x.C x.k x.e] 29) := ⟨_, rfl⟩
      obtain ⟨g, hg⟩ : ∃ g, g = w3.heap.size := ⟨_, rfl⟩
      have bV : Below w3.heap.size w3 V := by rw [hV]; exact (Below.refl _ _).alloc (Nat.le_refl _) _
      cases hok : okO11 hs with
      | false =>
        have bb := Lib.hid (below_trans2 (below_trans2 b1 b3) bV)
        clear hG b1 b3 bV hok c1 cS
        go_wp2_with (rw [← hV, ← hg]; clear hV; replace hg := Lib.hid hg)
        refine (law13_awake V).mono ?_; rintro e w9 ⟨rfl, b9⟩
        go_wp2_with fail
        go_ret
        exact ⟨rfl, below_trans2 bb.out b9⟩
      | true =>
        obtain ⟨f, hf⟩ : ∃ f : Fac, f = fillF (facO hs) := ⟨_, rfl⟩
        have hGf := hG hok
        rw [← hf] at hGf
        have hw : WholeF f := by rw [hf]; exact fillF_whole _
        have hm30 : x.m ≤ 30 := by
          rw [← hGf.is.len, hf]
          show (hisF hs).2.length ≤ 30
          rw [hisF_len]; omega
        have hB := Lib.hid ((FBox.new hGf).from_ (below_trans2 b1 b3))
        rw [← hV, ← hg] at hB
        replace hX := Lib.hid ((hX.out.below b3).below bV)
        replace hok := Lib.hid hok
        replace hf := Lib.hid hf
        clear hG hGf b1 b3 bV c1 cS
        replace hml := Lib.hid hml
        replace hmlt := Lib.hid hmlt
        clear hX
        replace hP := Lib.hid (show Pairs8 V B m ps from hP.below hB.out.o)
        have hil := hB.out.f.is.len
        have hfl := hB.out.f.fs.len
        have hkv : x.k = x.m := by rw [← hil, ← hfl]; exact hw.len
        have h40 : f.items.length ≤ 4096 := by omega
        obtain ⟨cm, hcm⟩ : ∃ m, m = coM f := ⟨_, rfl⟩
        obtain ⟨pm, hpm⟩ : ∃ m, m = poM f.items := ⟨_, rfl⟩
        have gC := (coM_hull hw h40).1
        have gP := (poM_good h40).1
        rw [hil] at gC gP
        rw [← hcm] at gC
        rw [← hpm] at gP
        have hlc : Hid (∀ (i : Nat) (xs : List Nat), cm[i]? = some xs → xs.length ≤ 1024) := Lib.hid (fun i xs h => Nat.le_trans (gC.small xs (List.mem_of_getElem? h)) (by decide))
        have hlp : Hid (∀ (i : Nat) (xs : List Nat), pm[i]? = some xs → xs.length ≤ 1024) := Lib.hid (fun i xs h => Nat.le_trans (gP.small xs (List.mem_of_getElem? h)) (by decide))
        have hsub : Hid (subM pm cm = true) := Lib.hid (by rw [hpm, hcm]; exact coM_po hw h40)
        have hcl : Hid (closedB cm = true) := Lib.hid (by rw [hcm]; exact coM_closed hw h40)
        have hrf : Hid (∀ i j : Nat, j < x.m → f.frm.getD j 0 = (i : Int) → hasM cm (i : Int) (j : Int) = true) := Lib.hid (fun i j hj hf => by rw [hcm]; exact coM_rf hw h40 (by rw [hil]; exact hj) hf)
        have hlea : Hid (∀ X, HasE f x.m X → subM cm (closeK X x.m) = true) := Lib.hid (fun X hX => by
          rw [← hil] at hX ⊢
          rw [hcm]; exact hX.least hw h40)
        have hst : Hid (HasE f 0 pm) := Lib.hid (by rw [hpm]; exact HasE.start h40)
        have hzl : Hid (∀ z ∈ f.frm, z < (x.m : Int)) := Lib.hid (by rw [← hil]; exact hw.lt)
        have hGX : Hid (∀ k X, HasE f k X → Good x.m X) := Lib.hid (fun k X h => by rw [← hil]; exact h.good)
        have hNb : Nbr f.items := by rw [hf.out]; exact nbr_hist hs
        have cP := fun W hW => cause_Co x f W hW (by omega) hw hNb
        have cQ := fun W hW => ref12_Po x f W hW (by omega)
        rw [← hcm] at cP
        rw [← hpm] at cQ
        replace cP := Lib.hid cP
        replace cQ := Lib.hid cQ
        have hpn : Hid (pm.length = x.m) := Lib.hid gP.len
        have hcn : Hid (cm.length = x.m) := Lib.hid gC.len
        replace gC := Lib.hid gC
        replace gP := Lib.hid gP
        replace hil := Lib.hid hil
        replace hfl := Lib.hid hfl
        replace hkv := Lib.hid hkv
        replace hw := Lib.hid hw
        clear hcm hpm
        have p0 := hB.out.c0
        have p1 := hB.out.c1
        have p2 := hB.out.c2
        go_wp2_with (rw [← hV, ← hg]; clear hV; replace hg := Lib.hid hg)
        refine (cP.out V hB.out.f).mono ?_; rintro e w5 ⟨A1, n1, d1, rfl, hR, hn1, b⟩
        obtain rfl : n1 = x.m := by rw [← hR.len]; exact hcn.out
        obtain ⟨W1, hW1⟩ : ∃ W, W = w5.alloc (.cells #[.int .i64 (x.m : Int), .slice A1 x.m d1] 35) := ⟨_, rfl⟩
        obtain ⟨gm, hgm⟩ : ∃ g, g = w5.heap.size := ⟨_, rfl⟩
        have b1 : Below w5.heap.size w5 W1 := by rw [hW1]; exact below_alloc _ _
        have hM := Lib.hid (show MatK W1 gm 35 (x.m : Int) A1 x.m d1 cm from by rw [hW1, hgm]; exact MatK.new w5 _ hR)
        replace hB := Lib.hid ((hB.out.later b).later b1)
        replace hP := Lib.hid ((hP.out.below b).below b1)
        clear b1 hR b cP p0 p1 p2
        have m0 := hM.out.1.c0
        have m1 := hM.out.1.c1
        have p1 := hB.out.c1
        have e1 : ((x.m : Int) != (x.m : Int)) = false := by simp
        go_wp2_with (rw [← hW1, ← hgm]; clear hW1; replace hgm := Lib.hid hgm)
        refine wp_region_plan 31 [(true, 0), (true, 1), (true, 2), (true, 3), (true, 4), (true, 5), (true, 6), (true, 7), (true, 8), (true, 9), (true, 10), (true, 11), (true, 12), (true, 13), (true, 14), (true, 15), (false, 16), (true, 17), (true, 18), (true, 19), (true, 20), (false, 21), (true, 22), (true, 23), (true, 24), (true, 25), (true, 27), (false, 26), (false, 28), (true, 29), (true, 30)] (by kernel_rfl) (by kernel_rfl) (fun U hU => ?_)
        have hU' : Below W1.heap.size W1 U := by rw [hU.out]; exact (Below.refl _ _).drew
        replace hB := Lib.hid (hB.out.later hU')
        replace hM := Lib.hid (hM.out.below hU')
        replace hP := Lib.hid (hP.out.below hU')
        clear hU hU' m0 m1 p1
        simp only [List.drop_succ_cons, List.drop_nil]
        have m0 := hM.out.1.c0
        have m1 := hM.out.1.c1
        have p1 := hB.out.c1
        iterate 16
          refine wpPlan_float (v := ?_) rfl (by rfl) (fun w' hw' => ?_) (fun K hK => ?_)
          rotate_left
          · (go_simp; try with_reducible rfl)
          go_simp
          refine hK _ ?_
          clear hK K
        clear m0 m1 p1
        have cR := ref3_Right (x.m : Int) A1 x.m d1 cm U hM.out.2 (by omega) hlc.out
        rw [gC.out.right] at cR
        replace cR := Lib.hid cR
        refine wpPlan_only rfl (by rfl) (fun K hK => ?_)
        go_simp
        refine cR.out.mono ?_
        rintro e x1 ⟨rfl, b⟩
        refine hK _ _ b ?_
        clear hK K
        replace hB := Lib.hid (hB.out.later b)
        replace hM := Lib.hid (hM.out.below b)
        replace hP := Lib.hid (hP.out.below b)
        clear b
        clear cR
        have m0 := hM.out.1.c0
        have m1 := hM.out.1.c1
        iterate 4
          refine wpPlan_float (v := ?_) rfl (by rfl) (fun w' hw' => ?_) (fun K hK => ?_)
          rotate_left
          · (go_simp; try with_reducible rfl)
          go_simp
          refine hK _ ?_
          clear hK K
        have cC := ref4_Closed A1 x.m d1 cm x1 hM.out.2 gC.out
        rw [hcl.out] at cC
        replace cC := Lib.hid cC
        clear m0 m1
        refine wpPlan_only rfl (by rfl) (fun K hK => ?_)
        go_simp
        refine cC.out.mono ?_
        rintro e x2 ⟨rfl, b⟩
        refine hK _ _ b ?_
        clear hK K
        replace hB := Lib.hid (hB.out.later b)
        replace hM := Lib.hid (hM.out.below b)
        replace hP := Lib.hid (hP.out.below b)
        clear b
        clear cC
        have m0 := hM.out.1.c0
        have m1 := hM.out.1.c1
        have p0 := hB.out.c0
        have p1 := hB.out.c1
        have p2 := hB.out.c2
        iterate 5
          refine wpPlan_float (v := ?_) rfl (by rfl) (fun w' hw' => ?_) (fun K hK => ?_)
          rotate_left
          · (go_simp; try with_reducible rfl)
          go_simp
          refine hK _ ?_
          clear hK K
        clear m0 m1 p0 p1 p2
        refine wpPlan_only rfl (by rfl) (fun K hK => ?_)
        go_simp
        refine (cQ.out x2 hB.out.f).mono ?_
        rintro e x3 ⟨A2, n2, d2, rfl, hR2, hn2, b, -⟩
        obtain rfl : n2 = x.m := by rw [← hR2.len]; exact hpn.out
        refine hK _ _ b ?_
        clear hK K
        replace hB := Lib.hid (hB.out.later b)
        replace hM := Lib.hid (hM.out.below b)
        replace hP := Lib.hid (hP.out.below b)
        have cS := ref3_Sub A2 A1 x.m d2 d1 pm cm x3 hR2 hM.out.2 (by omega) (fun i xs h => Nat.le_trans (hlp.out i xs h) (by decide)) (fun i xs h => Nat.le_trans (hlc.out i xs h) (by decide))
        rw [hsub.out] at cS
        replace cS := Lib.hid cS
        clear b hR2
        refine wpPlan_only rfl (by rfl) (fun K hK => ?_)
        go_simp
        refine cS.out.mono ?_
        rintro e x4 ⟨rfl, b⟩
        refine hK _ _ b ?_
        clear hK K
        replace hB := Lib.hid (hB.out.later b)
        replace hM := Lib.hid (hM.out.below b)
        replace hP := Lib.hid (hP.out.below b)
        clear b
        clear cS
        iterate 2
          refine wpPlan_float (v := ?_) rfl (by rfl) (fun w' hw' => ?_) (fun K hK => ?_)
          rotate_left
          · (go_simp; try with_reducible rfl)
          go_simp
          refine hK _ ?_
          clear hK K
        refine wpPlan_nil (NoPanic.normal ?_)
        have p0 := hB.out.c0
        have p1 := hB.out.c1
        have p2 := hB.out.c2
        go_wp2_with fail
        refine (cQ.out x4 hB.out.f).mono ?_; rintro e w6 ⟨A2, n2, d2, rfl, hR2, hn2, b, hfar2⟩
        obtain rfl : n2 = x.m := by rw [← hR2.len]; exact hpn.out
        obtain ⟨W2, hW2⟩ : ∃ W, W = w6.alloc (.cells #[.int .i64 (x.m : Int), .slice A2 x.m d2] 35) := ⟨_, rfl⟩
        obtain ⟨gn, hgn⟩ : ∃ g, g = w6.heap.size := ⟨_, rfl⟩
        have b2 : Below w6.heap.size w6 W2 := by rw [hW2]; exact below_alloc _ _
        replace hB := Lib.hid (hB.out.later b)
        replace hM := Lib.hid (hM.out.below b)
        replace hP := Lib.hid (hP.out.below b)
        have hT := Lib.hid (show MV W2 gn x.m A2 d2 pm from ⟨by rw [hW2, hgn]; exact MatB.new w6 _, hR2.below b2, hn2, fun h0 ad e => by have := hR2.block_lt h0 ad e; omega⟩)
        have hbb := Lib.hid b2
        have hg6 : w6.heap.size ≤ gn := by omega
        clear b2 hR2 b hfar2 p0 p1 p2
        go_wp2_with (rw [← hW2, ← hgn]; clear hW2; replace hgn := Lib.hid hgn)
        go_loopw [9] (fun t wr => ∃ (i : Nat) (A2 : Option Addr) (d2 : Nat) (X : List (List Nat)), i ≤ x.m ∧ t = .int .i64 (i : Int) ∧ Hid (HasE f i X) ∧ Hid (Below w6.heap.size w6 wr) ∧ Hid (MV wr gn x.m A2 d2 X)) (fun t _ => x.m - (intOf t).toNat)
        case atStart => exact ⟨0, _, _, _, Nat.zero_le _, rfl, hst, hbb, hT⟩
        case round =>
          clear hT hbb
          obtain ⟨i, A2, d2, X, hi, rfl, hE, hbb, hT⟩ := hrel
          have hBr := Lib.hid (hB.out.later hbb.out)
          have p0 := hBr.out.c0
          have p1 := hBr.out.c1
          have p2 := hBr.out.c2
          by_cases hlt : i < x.m
          · have hik : (i : Int) < (x.k : Int) := by have := hkv.out; omega
            obtain ⟨ib, io, z, hzC, hib, hz, hzo, j0⟩ := hBr.out.f.fs.int (show i < x.k by have := hkv.out; omega)
            rw [hzC] at p2
            clear hzC hib hzo
            have hgd : f.frm.getD i 0 = z := by rw [List.getD_eq_getElem?_getD, hz]; rfl
            have hzm : z < (x.m : Int) := hzl.out z (List.mem_of_getElem? hz)
            replace hz := Lib.hid hz
            by_cases hz0 : 0 ≤ z
            · obtain ⟨a, haz⟩ := Int.eq_ofNat_of_zero_le hz0
              have hza : Hid (z = (a : Int)) := Lib.hid haz
              have hha := hrf.out a i hlt (by rw [hgd]; exact haz)
              rw [← haz] at hha
              have e0 : decide (0 ≤ z) = true := decide_eq_true hz0
              have hEn := hE.out.next (a := a) (by have := hil.out; omega) (by have := hil.out; omega) (by rw [hgd]; exact haz)
              rw [← haz] at hEn
              have hgX := hGX.out _ _ hE.out
              have hgN := hGX.out _ _ hEn
              replace hEn := Lib.hid hEn
              have hinm : inM (x.m : Int) z (i : Int) = true := by unfold inM; simp; omega
              have cS := fun W (hW : RowsAt W A2 x.m X) => ref3_SetF (x.m : Int) A2 x.m d2 X z (i : Int) W hW rfl (by omega) (fun xs hx => Nat.le_trans (hgX.small xs hx) (by decide)) hinm
              have cH := fun W hW => ref3_HasG A1 x.m d1 cm gC.out z (i : Int) W hW
              rw [hha] at cH
              replace cH := Lib.hid cH
              replace cS := Lib.hid cS
              have hMr := Lib.hid (hM.out.below hbb.out)
              have m0 := hMr.out.1.c0
              have m1 := hMr.out.1.c1
              replace hgN := Lib.hid hgN
              replace hgd := Lib.hid hgd
              clear hgX hinm hha haz hlt
              go_wp2_with fail
              refine (cH.out wr hMr.out.2).mono ?_; rintro e w7 ⟨rfl, b⟩
              replace hbb := Lib.hid (below_trans2 hbb.out b)
              replace hT := Lib.hid (hT.out.later b)
              clear m0 m1 hMr hBr p0 p1 p2 j0 b
              have m0 := hT.out.loc.c0
              have m1 := hT.out.loc.c1
              go_wp2_with fail
              refine (cS.out w7 hT.out.rows).mono ?_; rintro e w8 ⟨C2, n2, c2, rfl, hrows2, hcap2, b4, hfar2⟩
              obtain rfl : n2 = x.m := by rw [← hrows2.len]; exact hgN.out.len
              have hT4 := Lib.hid (hT.out.put b4 hrows2 hcap2 hfar2)
              have kM := hT.out.loc.below_ b4
              have hbb4 := Lib.hid (((below_trans2 hbb.out b4).setCell (p := ⟨gn, 0, none⟩) hg6 (.int .i64 (x.m : Int))).setCell (p := ⟨gn, 1, none⟩) hg6 (.slice C2 x.m c2))
              clear m0 m1 cS cH hrows2 hfar2 b4
              have m0 := kM.c0
              have m1 := kM.c1
              have g0 := kM.frozen 0
              have g1 := kM.frozen 1
              clear kM
              go_wp2_with fail
              exact ⟨⟨i + 1, C2, c2, _, by have := hkv.out; omega, by go_num, hEn, hbb4, hT4⟩, by simp [intOf]; have := hkv.out; omega⟩
            · have e0 : decide (0 ≤ z) = false := decide_eq_false hz0
              have hEn := Lib.hid (hE.out.skip (by omega))
              replace hgd := Lib.hid hgd
              go_wp2_with fail
              exact ⟨⟨i + 1, A2, d2, _, by omega, by go_num, hEn, hbb, hT⟩, by simp [intOf]; omega⟩
          · have hik : ¬ (i : Int) < (x.k : Int) := by have := hkv.out; omega
            obtain rfl : i = x.m := by omega
            clear hlt
            go_wp2_with fail
            clear hBr p0 p1 p2 hik hst
            go_loopw [11] (fun t wr => ∃ (q : Nat) (A2 : Option Addr) (d2 : Nat) (X : List (List Nat)), q ≤ m ∧ t = .int .i64 (q : Int) ∧ Hid (HasE f x.m X) ∧ Hid (Below w6.heap.size w6 wr) ∧ Hid (MV wr gn x.m A2 d2 X)) (fun t _ => m - (intOf t).toNat)
            case atStart => exact ⟨0, _, _, _, Nat.zero_le _, rfl, hE, hbb, hT⟩
            case round =>
              clear hT hbb hE
              obtain ⟨q, A2, d2, X, hq, rfl, hE, hbb, hT⟩ := hrel
              have hMr := Lib.hid (hM.out.below hbb.out)
              by_cases hql : q < m
              · have hqI : (q : Int) < (m : Int) := by omega
                by_cases h0 : 0 < x.m
                · have h0I : (0 : Int) < (x.m : Int) := by omega
                  have h0d : decide ((0 : Int) < (x.m : Int)) = true := decide_eq_true h0I
                  have hqd : decide ((q : Int) < (m : Int)) = true := decide_eq_true hqI
                  have hm0 : ¬ x.m = 0 := by omega
                  obtain ⟨b, off, px, py, hB8, hbl, hpx, ⟨hx8, hy8⟩, c0, c1⟩ := (hP.out.below hbb.out).at_ hql
                  have hxk := Lib.hid (tmod_small13 px x.m hx8)
                  have hyk := Lib.hid (tmod_small13 py x.m hy8)
                  have hxl := Nat.mod_lt px h0
                  have hyl := Nat.mod_lt py h0
                  have hEn := Lib.hid (hE.out.more (a := px % x.m) (b := py % x.m) (by have := hil.out; omega) (by have := hil.out; omega))
                  have hgX := hGX.out _ _ hE.out
                  have hgN := hGX.out _ _ hEn.out
                  have cS := Lib.hid (fun W (hW : RowsAt W A2 x.m X) => ref3_SetF (x.m : Int) A2 x.m d2 X ((px % x.m : Nat) : Int) ((py % x.m : Nat) : Int) W hW rfl (by omega) (fun xs hx => Nat.le_trans (hgX.small xs hx) (by decide)) (by unfold inM; simp only [Bool.and_eq_true, decide_eq_true_eq]; omega))
                  replace hgN := Lib.hid hgN
                  clear hgX hpx hbl
                  have m0 := hMr.out.1.c0
                  subst hB8
                  go_wp2_with fail
                  refine wp_region_planT 21 [(true, 0), (true, 1), (true, 2), (true, 3), (true, 4), (true, 5), (true, 6), (true, 7), (true, 8), (true, 9), (true, 10), (true, 11), (true, 12), (true, 13), (true, 14), (true, 15), (true, 16), (true, 17), (true, 18), (false, 19), (true, 20)] 23 [21, 22] (by kernel_rfl) (by kernel_rfl) (fun U hU => ?_)
                  have hU' : Below wr.heap.size wr U := by rw [hU.out]; exact (Below.refl _ _).drew
                  replace hbb := Lib.hid (below_trans2 hbb.out hU')
                  replace hT := Lib.hid (hT.out.later hU')
                  replace c0 : U.cell? ⟨b, off + q * 2, none⟩ = some (.int .u8 (px : Int)) := by rw [hU.out]; exact c0
                  replace c1 : U.cell? ⟨b, off + q * 2 + 1, none⟩ = some (.int .u8 (py : Int)) := by rw [hU.out]; exact c1
                  replace hMr := Lib.hid (hMr.out.below hU')
                  clear hU hU' m0
                  simp only [List.drop_succ_cons, List.drop_zero]
                  have m0 := hMr.out.1.c0
                  have t0 := hT.out.loc.c0
                  have t1 := hT.out.loc.c1
                  iterate 19
                    refine wpPlanE_float (v := ?_) rfl (by rfl) (fun w' hw' => ?_) (fun K hK => ?_)
                    rotate_left
                    · (go_simp; try with_reducible rfl)
                    go_simp
                    refine hK _ ?_
                    clear hK K
                  rw [hxk.out, hyk.out]
                  clear c0 c1 m0 t0 t1 hMr
                  refine wpPlanE_only rfl (by rfl) (fun K hK => ?_)
                  go_simp
                  refine (cS.out U hT.out.rows).mono ?_
                  rintro e w8 ⟨C2, n2, c2, rfl, hrows2, hcap2, b4, hfar2⟩
                  obtain rfl : n2 = x.m := by rw [← hrows2.len]; exact hgN.out.len
                  refine hK _ _ b4 ?_
                  clear hK K
                  have hT4 := Lib.hid (hT.out.put b4 hrows2 hcap2 hfar2)
                  have kM := hT.out.loc.below_ b4
                  have hbb4 := Lib.hid (((below_trans2 hbb.out b4).setCell (p := ⟨gn, 0, none⟩) hg6 (.int .i64 (x.m : Int))).setCell (p := ⟨gn, 1, none⟩) hg6 (.slice C2 x.m c2))
                  clear cS hrows2 hfar2 b4
                  iterate 1
                    refine wpPlanE_float (v := ?_) rfl (by rfl) (fun w' hw' => ?_) (fun K hK => ?_)
                    rotate_left
                    · (go_simp; try with_reducible rfl)
                    go_simp
                    refine hK _ ?_
                    clear hK K
                  refine wpPlanE_nil ?_
                  iterate 2
                    refine wpPlanT_float (v := ?_) rfl (by rfl) (fun w' => ?_) (fun K hK => ?_)
                    rotate_left
                    · (go_simp; try with_reducible rfl)
                    go_simp
                    refine hK _ ?_
                    clear hK K
                  refine wpPlanT_nil ?_
                  have m0 := kM.c0
                  have m1 := kM.c1
                  have g0 := kM.frozen 0
                  have g1 := kM.frozen 1
                  clear kM
                  go_wp2_with fail
                  refine NoPanic.normal ?_
                  go_wp2_with fail
                  go_roundw
                  case rel => exact ⟨q + 1, C2, c2, _, by omega, by go_num, hEn, hbb4, hT4⟩
                  case measure => simp [intOf]; omega
                · have h0I : ¬ (0 : Int) < (x.m : Int) := by omega
                  have h0d : decide ((0 : Int) < (x.m : Int)) = false := decide_eq_false h0I
                  have hqd : decide ((q : Int) < (m : Int)) = true := decide_eq_true hqI
                  have m0 := hMr.out.1.c0
                  clear h0
                  go_wp2_with fail
                  clear m0
                  refine wp_region_plan 8 [(false, 0), (true, 1), (true, 2), (true, 3), (false, 4), (false, 5), (true, 6), (true, 7)] (by kernel_rfl) (by kernel_rfl) (fun U hU => ?_)
                  have hU' : Below wr.heap.size wr U := by rw [hU.out]; exact (Below.refl _ _).drew
                  replace hbb := Lib.hid (below_trans2 hbb.out hU')
                  replace hT := Lib.hid (hT.out.later hU')
                  replace hMr := Lib.hid (hMr.out.below hU')
                  clear hU hU'
                  simp only [List.drop_succ_cons, List.drop_nil]
                  refine wpPlan_only rfl (by rfl) (fun K hK => ?_)
                  go_simp
                  refine (law13_awake U).mono ?_
                  rintro e x1 ⟨rfl, b⟩
                  refine hK _ _ b ?_
                  clear hK K
                  replace hbb := Lib.hid (below_trans2 hbb.out b)
                  replace hT := Lib.hid (hT.out.later b)
                  replace hMr := Lib.hid (hMr.out.below b)
                  clear b
                  have m0 := hMr.out.1.c0
                  have m1 := hMr.out.1.c1
                  have t0 := hT.out.loc.c0
                  have t1 := hT.out.loc.c1
                  iterate 3
                    refine wpPlan_float (v := ?_) rfl (by rfl) (fun w' hw' => ?_) (fun K hK => ?_)
                    rotate_left
                    · (go_simp; try with_reducible rfl)
                    go_simp
                    refine hK _ ?_
                    clear hK K
                  clear m0 m1 t0 t1
                  have gX := hGX.out _ _ hE.out
                  have gK := (closeK_hull gX).1
                  have cK := Lib.hid (ref4_Close A2 x.m d2 X x1 hT.out.rows gX (by omega))
                  refine wpPlan_only rfl (by rfl) (fun K hK => ?_)
                  go_simp
                  refine cK.out.mono ?_
                  rintro e x2 ⟨A3, n3, d3, rfl, hR3, hn3, b⟩
                  obtain rfl : n3 = x.m := by rw [← hR3.len]; exact gK.len
                  refine hK _ _ b ?_
                  clear hK K
                  replace hbb := Lib.hid (below_trans2 hbb.out b)
                  replace hMr := Lib.hid (hMr.out.below b)
                  have cS := ref3_Sub A1 A3 x.m d1 d3 cm (closeK X x.m) x2 hMr.out.2 hR3 (by omega) (fun i xs h => Nat.le_trans (hlc.out i xs h) (by decide)) (fun i xs h => Nat.le_trans (gK.small xs (List.mem_of_getElem? h)) (by decide))
                  rw [hlea.out X hE.out] at cS
                  replace cS := Lib.hid cS
                  clear b hR3 gX gK cK
                  refine wpPlan_only rfl (by rfl) (fun K hK => ?_)
                  go_simp
                  refine cS.out.mono ?_
                  rintro e x3 ⟨rfl, b⟩
                  refine hK _ _ b ?_
                  clear hK K
                  replace hbb := Lib.hid (below_trans2 hbb.out b)
                  clear b cS
                  iterate 2
                    refine wpPlan_float (v := ?_) rfl (by rfl) (fun w' hw' => ?_) (fun K hK => ?_)
                    rotate_left
                    · (go_simp; try with_reducible rfl)
                    go_simp
                    refine hK _ ?_
                    clear hK K
                  refine wpPlan_nil (NoPanic.normal ?_)
                  go_wp2_with fail
                  go_ret
                  exact ⟨rfl, (hB.out.later hbb.out).o⟩
              · have hqI : ¬ (q : Int) < (m : Int) := by omega
                have hqd : decide ((q : Int) < (m : Int)) = false := decide_eq_false hqI
                clear hql
                go_wp2_with fail
                refine wp_region_plan 8 [(false, 0), (true, 1), (true, 2), (true, 3), (false, 4), (false, 5), (true, 6), (true, 7)] (by kernel_rfl) (by kernel_rfl) (fun U hU => ?_)
                have hU' : Below wr.heap.size wr U := by rw [hU.out]; exact (Below.refl _ _).drew
                replace hbb := Lib.hid (below_trans2 hbb.out hU')
                replace hT := Lib.hid (hT.out.later hU')
                replace hMr := Lib.hid (hMr.out.below hU')
                clear hU hU'
                simp only [List.drop_succ_cons, List.drop_nil]
                refine wpPlan_only rfl (by rfl) (fun K hK => ?_)
                go_simp
                refine (law13_awake U).mono ?_
                rintro e x1 ⟨rfl, b⟩
                refine hK _ _ b ?_
                clear hK K
                replace hbb := Lib.hid (below_trans2 hbb.out b)
                replace hT := Lib.hid (hT.out.later b)
                replace hMr := Lib.hid (hMr.out.below b)
                clear b
                have m0 := hMr.out.1.c0
                have m1 := hMr.out.1.c1
                have t0 := hT.out.loc.c0
                have t1 := hT.out.loc.c1
                iterate 3
                  refine wpPlan_float (v := ?_) rfl (by rfl) (fun w' hw' => ?_) (fun K hK => ?_)
                  rotate_left
                  · (go_simp; try with_reducible rfl)
                  go_simp
                  refine hK _ ?_
                  clear hK K
                clear m0 m1 t0 t1
                have gX := hGX.out _ _ hE.out
                have gK := (closeK_hull gX).1
                have cK := Lib.hid (ref4_Close A2 x.m d2 X x1 hT.out.rows gX (by omega))
                refine wpPlan_only rfl (by rfl) (fun K hK => ?_)
                go_simp
                refine cK.out.mono ?_
                rintro e x2 ⟨A3, n3, d3, rfl, hR3, hn3, b⟩
                obtain rfl : n3 = x.m := by rw [← hR3.len]; exact gK.len
                refine hK _ _ b ?_
                clear hK K
                replace hbb := Lib.hid (below_trans2 hbb.out b)
                replace hMr := Lib.hid (hMr.out.below b)
                have cS := ref3_Sub A1 A3 x.m d1 d3 cm (closeK X x.m) x2 hMr.out.2 hR3 (by omega) (fun i xs h => Nat.le_trans (hlc.out i xs h) (by decide)) (fun i xs h => Nat.le_trans (gK.small xs (List.mem_of_getElem? h)) (by decide))
                rw [hlea.out X hE.out] at cS
                replace cS := Lib.hid cS
                clear b hR3 gX gK cK
                refine wpPlan_only rfl (by rfl) (fun K hK => ?_)
                go_simp
                refine cS.out.mono ?_
                rintro e x3 ⟨rfl, b⟩
                refine hK _ _ b ?_
                clear hK K
                replace hbb := Lib.hid (below_trans2 hbb.out b)
                clear b cS
                iterate 2
                  refine wpPlan_float (v := ?_) rfl (by rfl) (fun w' hw' => ?_) (fun K hK => ?_)
                  rotate_left
                  · (go_simp; try with_reducible rfl)
                  go_simp
                  refine hK _ ?_
                  clear hK K
                refine wpPlan_nil (NoPanic.normal ?_)
                go_wp2_with fail
                go_ret
                exact ⟨rfl, (hB.out.later hbb.out).o⟩
  · have hml : decide ((40 : Int) < (m : Int)) = true := decide_eq_true (by omega)
    have hmlt : (40 : Int) < (m : Int) := by omega
    have cS := ref6_Small A n c 30 hs w hX (by omega) (by omega)
    clear hX hP
    obtain ⟨sb, hsb⟩ : ∃ b, b = smallL hs 30 := ⟨_, rfl⟩
    rw [← hsb] at cS
    replace cS := Lib.hid cS
    clear hsb hm40
    cases sb with
    | false =>
      go_enter Try.func4, Try.ntmps4
      go_wp2_with fail
      refine cS.out.mono ?_; rintro e w1 ⟨rfl, b1⟩
      go_wp2_with fail
      refine (law13_awake w1).mono ?_; rintro e w9 ⟨rfl, b9⟩
      go_wp2_with fail
      go_ret
      exact ⟨rfl, below_trans2 b1 b9⟩
    | true =>
      go_enter Try.func4, Try.ntmps4
      go_wp2_with fail
      refine cS.out.mono ?_; rintro e w1 ⟨rfl, b1⟩
      go_wp2_with fail
      refine (law13_awake w1).mono ?_; rintro e w9 ⟨rfl, b9⟩
      go_wp2_with fail
      go_ret
      exact ⟨rfl, below_trans2 b1 b9⟩
end Go.Proofs.Ytmgockkjoogcaaa

namespace Go.Proofs.Ytmgockkjoogcaaa
open Go.RowKit Go.ChangeShapes Go.WideShapes Go.Deep
set_option linter.unusedVariables false

theorem bulk_append {H : Type} (l r : List (DataW H)) : Rows.uptoBulkAll (l ++ r) = Rows.uptoBulkAll l + Rows.uptoBulkAll r := by
  induction l with
  | nil => simp [Rows.uptoBulkAll]
  | cons x l ih => rw [List.cons_append, Rows.uptoBulkAll, Rows.uptoBulkAll, ih]; omega
theorem bulk_pos {H : Type} (d : DataW H) : 1 ≤ Rows.uptoBulk d := by
  cases d with
  | lit l => cases l <;> simp [Rows.uptoBulk]
  | nil => simp [Rows.uptoBulk]
  | ptr d => simp [Rows.uptoBulk]
  | slice elems spare => simp [Rows.uptoBulk]
  | agg parts => simp [Rows.uptoBulk]
  | iface t d => simp [Rows.uptoBulk]
  | map entries => simp [Rows.uptoBulk]
  | held h => simp [Rows.uptoBulk]
theorem bulk_len {H : Type} (l : List (DataW H)) : l.length ≤ Rows.uptoBulkAll l := by
  induction l with
  | nil => simp
  | cons x r ih => have := bulk_pos x; rw [Rows.uptoBulkAll, List.length_cons]; omega
theorem bulk_slice {H : Type} (a b : List (DataW H)) : Rows.uptoBulk (.slice a b) = Rows.uptoBulkAll a + Rows.uptoBulkAll b + 1 := by rw [Rows.uptoBulk]
theorem bulk_agg {H : Type} (a : List (DataW H)) : Rows.uptoBulk (.agg a) = Rows.uptoBulkAll a + 1 := by rw [Rows.uptoBulk]
theorem addr_plus (b off j : Nat) : (⟨b, off, none⟩ : Addr).add j = ⟨b, off + j, none⟩ := by unfold Addr.add; split <;> simp_all

section
variable {H : Type} {enc : TypeId × Value → H} {P : Program} {w : World} {base : Nat} {held : Bool}
theorem open_ops {t e : TypeId} {f0 f1 f2 : Field} {fuel : Nat} {A : Option Addr} {len cap : Nat} {x : DataW H × List MemPlace} (ht : P.underlying t = some (.slice e)) (he : P.underlying e = some (.struct #[f0, f1, f2])) (ce : P.cellsOf e = 3)
    (o0 : f0.offset = 0) (o1 : f1.offset = 1) (o2 : f2.offset = 2) (k0 : P.cellsOf f0.type = 1) (k1 : P.cellsOf f1.type = 1) (k2 : P.cellsOf f2.type = 1)
    (u0 : P.underlying f0.type = some .bool) (u1 : P.underlying f1.type = some .string) (u2 : P.underlying f2.type = some (.int .i64))
    (h : DataW.trod enc P w base (fun _ => true) held fuel t [.slice A len cap] = some x) : ∃ os, OpsAt w A len os ∧ len ≤ cap ∧ cap ≤ 9223372036854775807 ∧ cap ≤ Rows.uptoBulk x.1 := by
  rcases open_slice ht h with ⟨hcs, hx⟩ | ⟨⟨b, off, spot⟩, l, c, m, n, D, Pl, hcs, hb, hl, hm, hmm, hx, hel⟩
  · injection hcs with hcs
    injection hcs with h1 h2 h3
    subst h1 h2 h3
    exact ⟨[], OpsAt.nil _ _, by omega, by omega, by omega⟩
  · injection hcs with hcs
    injection hcs with h1 h2 h3
    subst h1 h2 h3
    rw [if_pos rfl] at hmm
    subst hmm
    have hbulk : m ≤ Rows.uptoBulk x.1 := by
      rw [hx, bulk_slice]
      have := bulk_len ((List.range len).map D)
      have := bulk_len ((List.range (m - len)).map fun j => D (len + j))
      simp only [List.length_map, List.length_range] at *
      omega
    have hmm : m ≤ 9223372036854775807 := by unfold maxLen at hm; omega
    have hat : ∀ k, k < len → ∃ o : OpT, ((-9223372036854775808 ≤ o.2.2 ∧ o.2.2 < 9223372036854775808) ∧ o.2.1.size ≤ 9223372036854775807) ∧
        w.cell? ((⟨b, off, spot⟩ : Addr).add (k * 3)) = some (.bool o.1) ∧ w.cell? (((⟨b, off, spot⟩ : Addr).add (k * 3)).add 1) = some (.string o.2.1) ∧ w.cell? (((⟨b, off, spot⟩ : Addr).add (k * 3)).add 2) = some (.int .i64 o.2.2) := by
      intro k hk
      obtain ⟨cs', hc, ht'⟩ := hel k (by omega)
      rw [ce] at hc
      obtain ⟨_, hcl, hcat⟩ := World.cells?_some hc
      obtain ⟨xs, m', _, _, _, hxl, hf⟩ := DataW.trod_struct he ht'
      match cs', hcl with
      | [p, q, r], _ =>
        match xs, hxl with
        | [y0, y1, y2], _ =>
          have f0' := hf 0 f0 rfl
          have f1' := hf 1 f1 rfl
          have f2' := hf 2 f2 rfl
          rw [o0, k0] at f0'
          rw [o1, k1] at f1'
          rw [o2, k2] at f2'
          simp at f0' f1' f2'
          obtain ⟨bv, e0, _⟩ := DataW.trod_bool u0 f0'
          obtain ⟨sv, e1, _, ws⟩ := DataW.trod_string u1 f1'
          obtain ⟨iv, e2, _, wi⟩ := DataW.trod_int u2 f2'
          injection e0 with e0
          injection e1 with e1
          injection e2 with e2
          subst e0; subst e1; subst e2
          have c0 := hcat 0 (by omega)
          have c1 := hcat 1 (by omega)
          have c2 := hcat 2 (by omega)
          have hz : ∀ a : Addr, a.add 0 = a := fun a => by obtain ⟨b, o, s⟩ := a; unfold Addr.add; split <;> simp_all
          rw [hz] at c0
          have hb := bounds_i64 wi
          exact ⟨(bv, sv, iv), ⟨⟨hb.1, by have := hb.2; show iv < _; omega⟩, by unfold maxLen at ws; exact ws⟩, by simpa using c0, by simpa using c1, by simpa using c2⟩
    by_cases h0 : len = 0
    · subst h0
      exact ⟨[], OpsAt.nil _ _, by omega, hmm, hbulk⟩
    · obtain ⟨_, _, hc0, _, _⟩ := hat 0 (by omega)
      have hspot : spot = none := by
        have h := World.cell?_spot hc0
        cases spot with
        | none => rfl
        | some s => unfold Addr.add at h; simp at h
      subst hspot
      have hblt : b < w.heap.size := by
        have := World.block_lt_of_cell? w _ hc0
        rwa [addr_plus] at this
      have hall : ∀ k, k ≤ len → ∃ os : List OpT, os.length = k ∧ OkO os ∧ ∀ (j : Nat) (u : Value), (cellsO os)[j]? = some u → w.cell? ⟨b, off + j, none⟩ = some u := by
        intro k
        induction k with
        | zero => exact fun _ => ⟨[], rfl, fun o h => by simp at h, fun j u h => by simp [cellsO] at h⟩
        | succ k ih =>
          intro hk
          obtain ⟨os, p1, p2, p3⟩ := ih (by omega)
          obtain ⟨o, hok, c0, c1, c2⟩ := hat k (by omega)
          rw [addr_plus] at c0 c1 c2
          rw [addr_plus] at c1 c2
          refine ⟨os ++ [o], by simp [p1], okO_append p2 (fun o' h => by rw [List.mem_singleton.1 h]; exact hok), fun j u hj => ?_⟩
          rw [cellsO_append] at hj
          rcases Nat.lt_or_ge j (cellsO os).length with hlt | hge
          · rw [List.getElem?_append_left hlt] at hj; exact p3 j u hj
          · rw [List.getElem?_append_right hge] at hj
            have hlk : (cellsO os).length = k * 3 := by rw [cellsO_len, p1]
            obtain ⟨r, rfl⟩ : ∃ r, j = k * 3 + r := ⟨j - k * 3, by omega⟩
            rw [hlk, Nat.add_sub_cancel_left] at hj
            match r, hj with
            | 0, hj =>
              have : u = .bool o.1 := by simpa [cellsO] using hj.symm
              rw [this]; exact c0
            | 1, hj =>
              have : u = .string o.2.1 := by simpa [cellsO] using hj.symm
              rw [this, ← Nat.add_assoc]; exact c1
            | 2, hj =>
              have : u = .int .i64 o.2.2 := by simpa [cellsO] using hj.symm
              rw [this, ← Nat.add_assoc]; exact c2
            | r + 3, hj => simp [cellsO] at hj
      obtain ⟨os, p1, p2, p3⟩ := hall len (Nat.le_refl _)
      exact ⟨os, ⟨p1, p2, fun _ => ⟨b, off, rfl, hblt, p3⟩⟩, hl, hmm, hbulk⟩
theorem open_hist {th t e : TypeId} {f0 f1 f2 : Field} {fuel : Nat} {v : Value} {x : DataW H × List MemPlace} (hth : P.underlying th = some (.slice t)) (ct : P.cellsOf t = 1) (ht : P.underlying t = some (.slice e)) (he : P.underlying e = some (.struct #[f0, f1, f2])) (ce : P.cellsOf e = 3)
    (o0 : f0.offset = 0) (o1 : f1.offset = 1) (o2 : f2.offset = 2) (k0 : P.cellsOf f0.type = 1) (k1 : P.cellsOf f1.type = 1) (k2 : P.cellsOf f2.type = 1)
    (u0 : P.underlying f0.type = some .bool) (u1 : P.underlying f1.type = some .string) (u2 : P.underlying f2.type = some (.int .i64))
    (h : DataW.trod enc P w base (fun _ => true) held fuel th [v] = some x) : ∃ A len cap hs, v = .slice A len cap ∧ HistAt w A len hs ∧ len ≤ cap ∧ cap ≤ 9223372036854775807 ∧ cap ≤ Rows.uptoBulk x.1 ∧ (allO hs).length ≤ Rows.uptoBulk x.1 := by
  rcases open_slice1 hth ct h with ⟨hcs, hx⟩ | ⟨⟨b, off, spot⟩, len, cap, m, n, V, D, Pl, hcs, hb, hl, hm, hmm, hx, hel⟩
  · injection hcs with hcs
    exact ⟨none, 0, 0, [], hcs, HistAt.nil _ _, by omega, by omega, by omega, by simp [allO]⟩
  · injection hcs with hcs
    rw [if_pos rfl] at hmm
    subst hmm
    have hmm : m ≤ 9223372036854775807 := by unfold maxLen at hm; omega
    have hbulk : m ≤ Rows.uptoBulk x.1 ∧ Rows.uptoBulkAll ((List.range len).map D) ≤ Rows.uptoBulk x.1 := by
      rw [hx, bulk_slice]
      have := bulk_len ((List.range len).map D)
      have := bulk_len ((List.range (m - len)).map fun j => D (len + j))
      simp only [List.length_map, List.length_range] at *
      omega
    have hat : ∀ k, k < len → ∃ os, SessV w (V k) os ∧ os.length ≤ Rows.uptoBulk (D k) := by
      intro k hk
      obtain ⟨_, hk2⟩ := hel k (by omega)
      obtain ⟨A', n', c', e'⟩ : ∃ A' n' c', V k = .slice A' n' c' := by
        rcases open_slice ht hk2 with ⟨hcs, _⟩ | ⟨a, l, c, m, n, D, Pl, hcs, _⟩
        · injection hcs with hcs; exact ⟨_, _, _, hcs⟩
        · injection hcs with hcs; exact ⟨_, _, _, hcs⟩
      rw [e'] at hk2
      obtain ⟨os, h1, h2, h3, h4⟩ := open_ops ht he ce o0 o1 o2 k0 k1 k2 u0 u1 u2 hk2
      exact ⟨os, ⟨A', n', c', e', h2, by omega, h1⟩, by rw [h1.len]; exact Nat.le_trans h2 h4⟩
    by_cases h0 : len = 0
    · subst h0
      exact ⟨_, 0, m, [], hcs, HistAt.nil _ _, by omega, hmm, hbulk.1, by simp [allO]⟩
    · have hc0 := (hel 0 (by omega)).1
      have hspot : spot = none := by
        have h := World.cell?_spot hc0
        cases spot with
        | none => rfl
        | some s => unfold Addr.add at h; simp at h
      subst hspot
      have hblt : b < w.heap.size := by
        have := World.block_lt_of_cell? w _ hc0
        rwa [addr_plus] at this
      have hall : ∀ k, k ≤ len → ∃ hs : List (List OpT), hs.length = k ∧ (∀ (i : Nat) (v : Value) (os : List OpT), ((List.range k).map V)[i]? = some v → hs[i]? = some os → SessV w v os) ∧ (allO hs).length ≤ Rows.uptoBulkAll ((List.range k).map D) := by
        intro k
        induction k with
        | zero => exact fun _ => ⟨[], rfl, fun i v os h => by simp at h, by simp [allO]⟩
        | succ k ih =>
          intro hk
          obtain ⟨hs, p1, p2, p3⟩ := ih (by omega)
          obtain ⟨os, q1, q2⟩ := hat k (by omega)
          refine ⟨hs ++ [os], by simp [p1], fun i v o hv ho => ?_, ?_⟩
          · rw [List.range_succ, List.map_append] at hv
            rcases Nat.lt_or_ge i k with hlt | hge
            · rw [List.getElem?_append_left (by simpa using hlt)] at hv
              rw [List.getElem?_append_left (by omega)] at ho
              exact p2 i v o hv ho
            · rw [List.getElem?_append_right (by simpa using hge)] at hv
              rw [List.getElem?_append_right (by omega)] at ho
              have hv' := List.mem_of_getElem? hv
              have ho' := List.mem_of_getElem? ho
              simp at hv' ho'
              subst hv'; subst ho'
              exact q1
          · rw [allO_append, List.range_succ, List.map_append, bulk_append, List.length_append]
            have e1 : (allO [os]).length = os.length := by simp [allO]
            have e2 : Rows.uptoBulkAll (List.map D [k]) = Rows.uptoBulk (D k) := by simp [Rows.uptoBulkAll]
            omega
      obtain ⟨hs, p1, p2, p3⟩ := hall len (Nat.le_refl _)
      refine ⟨_, len, m, hs, hcs, ⟨(List.range len).map V, ⟨by simp, fun _ => ⟨b, off, rfl, hblt, fun j u hu => ?_⟩⟩, by simp [p1], p2⟩, hl, hmm, hbulk.1, by omega⟩
      have hj : j < len := by have := (List.getElem?_eq_some_iff.1 hu).1; simpa using this
      rw [List.getElem?_map, List.getElem?_range hj, Option.map_some] at hu
      have h1 := (hel j (by omega)).1
      rw [addr_plus] at h1
      rw [h1]; exact hu
/-- a struct of three one-cell fields and a struct of two cells -/
theorem open_askH {r : Reach} {b0 : Nat} {t : TypeId} {f0 f1 f2 f3 : Field} {v : Value} {d : DataW H} {p : List MemPlace} (hs : P.underlying t = some (.struct #[f0, f1, f2, f3])) (hC : P.cellsOf t = 5)
    (o0 : f0.offset = 0) (o1 : f1.offset = 1) (o2 : f2.offset = 2) (o3 : f3.offset = 3) (k0 : P.cellsOf f0.type = 1) (k1 : P.cellsOf f1.type = 1) (k2 : P.cellsOf f2.type = 1) (k3 : P.cellsOf f3.type = 2)
    (hv : Value.okWide P w r b0 t v) (h : DataW.Trod enc P w base (fun _ => true) held t v d p) :
    ∃ (v0 v1 v2 v3 v4 : Value) (y0 y1 y2 y3 : DataW H × List MemPlace) (n : Nat), v = .agg #[v0, v1, v2, v3, v4] ∧ d = .agg [y0.1, y1.1, y2.1, y3.1] ∧
      DataW.trod enc P w base (fun _ => true) held n f0.type [v0] = some y0 ∧ DataW.trod enc P w base (fun _ => true) held n f1.type [v1] = some y1 ∧ DataW.trod enc P w base (fun _ => true) held n f2.type [v2] = some y2 ∧ DataW.trod enc P w base (fun _ => true) held n f3.type [v3, v4] = some y3 := by
  obtain ⟨cs, rfl, hsz⟩ := okWide_struct hs hv
  obtain ⟨l⟩ := cs
  match l, hsz.trans hC with
  | [c0, c1, c2, c3, c4], _ =>
    obtain ⟨fuel, hf⟩ := h
    obtain ⟨xs, n, _, hx, _, hlen, hg⟩ := DataW.trod_struct hs hf
    match xs, hlen with
    | [y0, y1, y2, y3], _ =>
      injection hx with hx1 hx2
      exact ⟨c0, c1, c2, c3, c4, y0, y1, y2, y3, n, rfl, hx1, by simpa [Value.cells, o0, k0] using hg 0 f0 rfl, by simpa [Value.cells, o1, k1] using hg 1 f1 rfl, by simpa [Value.cells, o2, k2] using hg 2 f2 rfl, by simpa [Value.cells, o3, k3] using hg 3 f3 rfl⟩
/-- a struct of two numbers -/
theorem open_two {t : TypeId} {f0 f1 : Field} {fuel : Nat} {c0 c1 : Value} {x : DataW H × List MemPlace} (hs : P.underlying t = some (.struct #[f0, f1])) (o0 : f0.offset = 0) (o1 : f1.offset = 1) (k0 : P.cellsOf f0.type = 1) (k1 : P.cellsOf f1.type = 1)
    (u0 : P.underlying f0.type = some (.int .i64)) (u1 : P.underlying f1.type = some (.int .i64)) (h : DataW.trod enc P w base (fun _ => true) held fuel t [c0, c1] = some x) :
    ∃ a b : Int, c0 = .int .i64 a ∧ c1 = .int .i64 b ∧ (-9223372036854775808 ≤ a ∧ a < 9223372036854775808) ∧ (-9223372036854775808 ≤ b ∧ b < 9223372036854775808) := by
  obtain ⟨xs, n, _, hx, _, hlen, hg⟩ := DataW.trod_struct hs h
  match xs, hlen with
  | [y0, y1], _ =>
    have h0 := hg 0 f0 rfl
    have h1 := hg 1 f1 rfl
    rw [o0, k0] at h0
    rw [o1, k1] at h1
    simp at h0 h1
    obtain ⟨a, e0, _, w0⟩ := DataW.trod_int u0 h0
    obtain ⟨b, e1, _, w1⟩ := DataW.trod_int u1 h1
    injection e0 with e0
    injection e1 with e1
    have b0 := bounds_i64 w0
    have b1 := bounds_i64 w1
    exact ⟨a, b, e0, e1, ⟨b0.1, by omega⟩, ⟨b1.1, by omega⟩⟩
/-- an operation, by value -/
theorem open_opV {r : Reach} {b0 : Nat} {t : TypeId} {f0 f1 f2 : Field} {v : Value} {d : DataW H} {p : List MemPlace} (hs : P.underlying t = some (.struct #[f0, f1, f2])) (hC : P.cellsOf t = 3)
    (o0 : f0.offset = 0) (o1 : f1.offset = 1) (o2 : f2.offset = 2) (k0 : P.cellsOf f0.type = 1) (k1 : P.cellsOf f1.type = 1) (k2 : P.cellsOf f2.type = 1)
    (u0 : P.underlying f0.type = some .bool) (u1 : P.underlying f1.type = some .string) (u2 : P.underlying f2.type = some (.int .i64))
    (hv : Value.okWide P w r b0 t v) (h : DataW.Trod enc P w base (fun _ => true) held t v d p) :
    ∃ (x : Bool) (y : ByteArray) (z : Int), v = .agg #[.bool x, .string y, .int .i64 z] ∧ (-9223372036854775808 ≤ z ∧ z < 9223372036854775808) ∧ y.size ≤ 9223372036854775807 := by
  obtain ⟨cs, rfl, hsz⟩ := okWide_struct hs hv
  obtain ⟨l⟩ := cs
  match l, hsz.trans hC with
  | [c0, c1, c2], _ =>
    obtain ⟨fuel, hf⟩ := h
    obtain ⟨xs, n, _, hx, _, hlen, hg⟩ := DataW.trod_struct hs hf
    match xs, hlen with
    | [y0, y1, y2], _ =>
      have h0 : DataW.trod enc P w base (fun _ => true) held n f0.type [c0] = some y0 := by simpa [Value.cells, o0, k0] using hg 0 f0 rfl
      have h1 : DataW.trod enc P w base (fun _ => true) held n f1.type [c1] = some y1 := by simpa [Value.cells, o1, k1] using hg 1 f1 rfl
      have h2 : DataW.trod enc P w base (fun _ => true) held n f2.type [c2] = some y2 := by simpa [Value.cells, o2, k2] using hg 2 f2 rfl
      obtain ⟨bv, e0, _⟩ := DataW.trod_bool u0 h0
      obtain ⟨sv, e1, _, ws⟩ := DataW.trod_string u1 h1
      obtain ⟨iv, e2, _, wi⟩ := DataW.trod_int u2 h2
      injection e0 with e0
      injection e1 with e1
      injection e2 with e2
      subst e0; subst e1; subst e2
      have hb := bounds_i64 wi
      exact ⟨bv, sv, iv, rfl, ⟨hb.1, by omega⟩, by unfold maxLen at ws; exact ws⟩
end
end Go.Proofs.Ytmgockkjoogcaaa

namespace Go.Proofs.Ytmgockkjoogcaaa
open Go.RowKit Go.ChangeShapes Go.WideShapes Go.Deep Go.Joins
set_option linter.unusedVariables false

theorem addr_add (b off j : Nat) : (⟨b, off, none⟩ : Addr).add j = ⟨b, off + j, none⟩ := by unfold Addr.add; split <;> simp_all

section
variable {H : Type} {enc : TypeId × Value → H} {P : Program} {w : World} {base : Nat} {spare : Nat → Bool} {held : Bool}
theorem open_pairs {t e i : TypeId} {fuel : Nat} {A : Option Addr} {len cap : Nat} {x : DataW H × List MemPlace} (ht : P.underlying t = some (.slice e)) (he : P.underlying e = some (.array 2 i)) (hi : P.underlying i = some (.int .i64))
    (ce : P.cellsOf e = 2) (ci : P.cellsOf i = 1) (h : DataW.trod enc P w base spare held fuel t [.slice A len cap] = some x) : ∃ ps, PairsAt w A len ps ∧ len ≤ 9223372036854775807 := by
  rcases open_slice ht h with ⟨hcs, _⟩ | ⟨⟨b, off, spot⟩, l, c, m, n, D, Pl, hcs, hb, hl, hm, hmm, hx, hel⟩
  · injection hcs with hcs
    injection hcs with h1 h2 h3
    subst h1 h2 h3
    exact ⟨[], ⟨rfl, by simp, fun h => absurd h (by omega)⟩, by omega⟩
  · injection hcs with hcs
    injection hcs with h1 h2 h3
    subst h1 h2 h3
    have hlm : len ≤ m := by rw [hmm]; split <;> omega
    have hat : ∀ k, k < len → ∃ x y : Int, w.cell? ((⟨b, off, spot⟩ : Addr).add (k * 2)) = some (.int .i64 x) ∧ w.cell? (((⟨b, off, spot⟩ : Addr).add (k * 2)).add 1) = some (.int .i64 y) ∧ (Lit.int .i64 x).wf = true ∧ (Lit.int .i64 y).wf = true := by
      intro k hk
      obtain ⟨cs', hc, ht'⟩ := hel k (by omega)
      rw [ce] at hc
      obtain ⟨_, hcl, hcat⟩ := World.cells?_some hc
      obtain ⟨xs, m', _, _, _, hxl, hf⟩ := DataW.trod_array he ht'
      match cs', hcl with
      | [u, v], _ =>
        have f0 := hf 0 (by omega)
        have f1 := hf 1 (by omega)
        rw [ci] at f0 f1
        rw [List.getElem?_eq_getElem (by omega)] at f0 f1
        obtain ⟨n0, e0, _, w0⟩ := DataW.trod_int hi f0
        obtain ⟨n1, e1, _, w1⟩ := DataW.trod_int hi f1
        simp at e0 e1
        subst e0 e1
        have c0 := hcat 0 (by omega)
        have c1 := hcat 1 (by omega)
        refine ⟨n0, n1, ?_, by simpa using c1, w0, w1⟩
        have hz : ∀ a : Addr, a.add 0 = a := fun a => by obtain ⟨b, o, s⟩ := a; unfold Addr.add; split <;> simp_all
        rw [hz] at c0
        simpa using c0
    by_cases h0 : len = 0
    · subst h0
      exact ⟨[], ⟨rfl, by simp, fun h => absurd h (by omega)⟩, by omega⟩
    · obtain ⟨_, _, hc0, _, _, _⟩ := hat 0 (by omega)
      have hspot : spot = none := by
        have h := World.cell?_spot hc0
        cases spot with
        | none => rfl
        | some s => unfold Addr.add at h; simp at h
      subst hspot
      have hblt : b < w.heap.size := by
        have := World.block_lt_of_cell? w _ hc0
        rwa [addr_add] at this
      have hall : ∀ k, k ≤ len → ∃ ps : List (Int × Int), ps.length = k ∧ (∀ p ∈ ps, (-9223372036854775808 ≤ p.1 ∧ p.1 < 9223372036854775808) ∧ (-9223372036854775808 ≤ p.2 ∧ p.2 < 9223372036854775808)) ∧
          ∀ (j : Nat) (p : Int × Int), ps[j]? = some p → w.cell? ⟨b, off + j * 2, none⟩ = some (.int .i64 p.1) ∧ w.cell? ⟨b, off + j * 2 + 1, none⟩ = some (.int .i64 p.2) := by
        intro k
        induction k with
        | zero => exact fun _ => ⟨[], rfl, by simp, fun j p h => by simp at h⟩
        | succ k ih =>
          intro hk
          obtain ⟨ps, p1, p2, p3⟩ := ih (by omega)
          obtain ⟨x, y, cx, cy, wx, wy⟩ := hat k (by omega)
          rw [addr_add] at cx cy
          rw [addr_add] at cy
          refine ⟨ps ++ [(x, y)], by simp [p1], fun p hp => ?_, fun j p hj => ?_⟩
          · rcases List.mem_append.1 hp with hp | hp
            · exact p2 p hp
            · rw [List.mem_singleton.1 hp]
              have := bounds_i64 wx
              have := bounds_i64 wy
              refine ⟨⟨?_, ?_⟩, ?_, ?_⟩ <;> simp only <;> omega
          · rcases Nat.lt_or_ge j ps.length with hlt | hge
            · rw [List.getElem?_append_left hlt] at hj; exact p3 j p hj
            · rw [List.getElem?_append_right hge] at hj
              have hjk : j = k := by
                have := (List.getElem?_eq_some_iff.1 hj).1
                simp at this; omega
              subst hjk
              rw [p1, Nat.sub_self] at hj
              simp at hj
              subst hj
              exact ⟨cx, cy⟩
      obtain ⟨ps, p1, p2, p3⟩ := hall len (Nat.le_refl _)
      exact ⟨ps, ⟨p1, p2, fun _ => ⟨b, off, rfl, hblt, p3⟩⟩, by unfold maxLen at hm; omega⟩
theorem row_of_ints {a' : Option Addr} {L C : Nat} {zs : List Int} (hl : L ≤ C) (hm : C ≤ maxLen) (hz : zs.length = C) (hwz : ∀ n ∈ zs, (Lit.int .u64 n).wf = true) (hnil : a' = none → C = 0)
    (hcell : ∀ x, a' = some x → ∀ c, c < C → w.cell? (x.add c) = some (.int .u64 (zs.getD c 0))) : ∃ xs, Row w a' L xs ∧ L ≤ 9223372036854775807 := by
  cases a' with
  | none =>
    have := hnil rfl
    obtain rfl : L = 0 := by omega
    exact ⟨[], Row.nil _ _, by omega⟩
  | some x => exact row_of_is (c := C) (zs := zs) (.inr ⟨x, rfl, hl, hm, hz, fun i hi => hcell x rfl i (by omega), hwz⟩)
theorem open_mat {t e q : TypeId} {fuel : Nat} {A : Option Addr} {len cap : Nat} {x : DataW H × List MemPlace} (ht : P.underlying t = some (.slice e)) (he : P.underlying e = some (.slice q)) (hq : P.underlying q = some (.int .u64))
    (ce : P.cellsOf e = 1) (cq : P.cellsOf q = 1) (h : DataW.trod enc P w base (fun _ => true) held fuel t [.slice A len cap] = some x) :
    ∃ xss, RowsAt w A len xss ∧ len ≤ 9223372036854775807 ∧ ∀ (k : Nat) (xs : List Nat), xss[k]? = some xs → xs.length ≤ 9223372036854775807 := by
  rcases open_int_rows ht he hq ce cq h with ⟨hcs, _⟩ | ⟨⟨b, off, spot⟩, l, c, B, L, C, Z, hcs, hb, hl, hm, hx, hrow⟩
  · injection hcs with hcs
    injection hcs with h1 h2 h3
    subst h1 h2 h3
    exact ⟨[], RowsAt.nil _ _, by omega, fun k xs hx => by simp at hx⟩
  · injection hcs with hcs
    injection hcs with h1 h2 h3
    subst h1 h2 h3
    have hlm : len ≤ 9223372036854775807 := by unfold maxLen at hm; omega
    have hrow' : ∀ k, k < len → ∃ xs, Row w (B k) (L k) xs ∧ L k ≤ 9223372036854775807 := fun k hk => by
      obtain ⟨_, h1, h2, h3, h4, h5, h6⟩ := hrow k (by omega)
      exact row_of_ints h1 h2 h3 h4 h5 (fun x e c hc => (h6 x e).2 c hc)
    by_cases h0 : len = 0
    · subst h0
      exact ⟨[], RowsAt.nil _ _, by omega, fun k xs hx => by simp at hx⟩
    · have hc0 := (hrow 0 (by omega)).1
      have hspot : spot = none := by
        have h := World.cell?_spot hc0
        cases spot with
        | none => rfl
        | some s => unfold Addr.add at h; simp at h
      subst hspot
      have hblt : b < w.heap.size := by
        have := World.block_lt_of_cell? w _ hc0
        rwa [addr_add] at this
      have hall : ∀ k, k ≤ len → ∃ xss : List (List Nat), RowsC w ((List.range k).map fun i => .slice (B i) (L i) (C i)) xss ∧ ∀ (j : Nat) (xs : List Nat), xss[j]? = some xs → xs.length ≤ 9223372036854775807 := by
        intro k
        induction k with
        | zero => exact fun _ => ⟨[], RowsC.nil _, fun j xs h => by simp at h⟩
        | succ k ih =>
          intro hk
          obtain ⟨xss, p1, p2⟩ := ih (by omega)
          obtain ⟨xs, hx1, hx2⟩ := hrow' k (by omega)
          refine ⟨xss ++ [xs], ?_, fun j ys hj => ?_⟩
          · rw [List.range_succ, List.map_append]
            exact p1.snoc ⟨_, _, _, rfl, hx1⟩
          · rcases Nat.lt_or_ge j xss.length with hlt | hge
            · rw [List.getElem?_append_left hlt] at hj; exact p2 j ys hj
            · rw [List.getElem?_append_right hge] at hj
              have hj' := List.mem_of_getElem? hj
              rw [List.mem_singleton.1 hj', hx1.len]; exact hx2
      obtain ⟨xss, p1, p2⟩ := hall len (Nat.le_refl _)
      refine ⟨xss, ⟨_, ⟨by simp, fun _ => ⟨b, off, rfl, hblt, fun j u hu => ?_⟩⟩, p1⟩, hlm, p2⟩
      have hj : j < len := by have := (List.getElem?_eq_some_iff.1 hu).1; simpa using this
      rw [List.getElem?_map, List.getElem?_range hj, Option.map_some] at hu
      have h1 := (hrow j (by omega)).1
      rw [addr_add] at h1
      rw [h1]; exact hu
theorem open_matV {r : Reach} {b0 : Nat} {t e q : TypeId} {f0 f1 : Field} {v : Value} {d : DataW H} {p : List MemPlace} (ht : P.underlying t = some (.struct #[f0, f1])) (hone : oneCellFields P #[f0, f1] = true) (cT : P.cellsOf t = 2)
    (hi : P.underlying f0.type = some (.int .i64)) (hr : P.underlying f1.type = some (.slice e)) (he : P.underlying e = some (.slice q)) (hq : P.underlying q = some (.int .u64)) (ce : P.cellsOf e = 1) (cq : P.cellsOf q = 1)
    (hv : Value.okWide P w r b0 t v) (h : DataW.Trod enc P w base (fun _ => true) held t v d p) :
    ∃ (N : Int) (A : Option Addr) (n c : Nat) (xss : List (List Nat)), v = .agg #[.int .i64 N, .slice A n c] ∧ (-9223372036854775808 ≤ N ∧ N ≤ 9223372036854775807) ∧ RowsAt w A n xss ∧ n ≤ 9223372036854775807 ∧
      ∀ (k : Nat) (xs : List Nat), xss[k]? = some xs → xs.length ≤ 9223372036854775807 := by
  obtain ⟨v0, v1, y0, y1, m, rfl, _, _, h0, h1⟩ := open_agg2 ht hone cT hv h
  obtain ⟨N, e0, _, hw⟩ := DataW.trod_int hi h0
  injection e0 with e0
  subst e0
  obtain ⟨A, n, c, rfl⟩ : ∃ A n c, v1 = .slice A n c := by
    rcases open_int_rows hr he hq ce cq h1 with ⟨hcs, _⟩ | ⟨a, l, c, B, L, C, Z, hcs, _⟩
    · injection hcs with hcs; exact ⟨_, _, _, hcs⟩
    · injection hcs with hcs; exact ⟨_, _, _, hcs⟩
  obtain ⟨xss, hx1, hx2, hx3⟩ := open_mat hr he hq ce cq h1
  exact ⟨N, A, n, c, xss, rfl, bounds_i64 hw, hx1, hx2, hx3⟩
end

end Go.Proofs.Ytmgockkjoogcaaa

namespace Go.Proofs.Ytmgockkjoogcaaa
open Go.RowKit Go.ChangeShapes Go.WideShapes Go.Deep Go.Joins
set_option linter.unusedVariables false
section
variable {H : Type} {enc : TypeId × Value → H} {P : Program} {w : World} {base : Nat} {held : Bool}
theorem open_cap {t e q : TypeId} {fuel : Nat} {A : Option Addr} {len cap : Nat} {x : DataW H × List MemPlace} (ht : P.underlying t = some (.slice e)) (he : P.underlying e = some (.slice q)) (hq : P.underlying q = some (.int .u64))
    (ce : P.cellsOf e = 1) (cq : P.cellsOf q = 1) (h : DataW.trod enc P w base (fun _ => true) held fuel t [.slice A len cap] = some x) : len ≤ cap := by
  rcases open_int_rows ht he hq ce cq h with ⟨hcs, _⟩ | ⟨a, l, c, B, L, C, Z, hcs, hb, hl, hm, hx, hrow⟩
  · injection hcs with hcs
    injection hcs with h1 h2 h3
    omega
  · injection hcs with hcs
    injection hcs with h1 h2 h3
    omega
theorem open_matV_cap {r : Reach} {b0 : Nat} {t e q : TypeId} {f0 f1 : Field} {N : Int} {A : Option Addr} {n c : Nat} {d : DataW H} {p : List MemPlace} (ht : P.underlying t = some (.struct #[f0, f1])) (hone : oneCellFields P #[f0, f1] = true) (cT : P.cellsOf t = 2)
    (hr : P.underlying f1.type = some (.slice e)) (he : P.underlying e = some (.slice q)) (hq : P.underlying q = some (.int .u64)) (ce : P.cellsOf e = 1) (cq : P.cellsOf q = 1)
    (hv : Value.okWide P w r b0 t (.agg #[.int .i64 N, .slice A n c])) (h : DataW.Trod enc P w base (fun _ => true) held t (.agg #[.int .i64 N, .slice A n c]) d p) : n ≤ c := by
  obtain ⟨v0, v1, y0, y1, m, e1, _, _, h0, h1⟩ := open_agg2 ht hone cT hv h
  injection e1 with e1
  simp at e1
  obtain ⟨_, rfl⟩ := e1
  exact open_cap hr he hq ce cq h1
end
end Go.Proofs.Ytmgockkjoogcaaa

namespace Go.Proofs.Ytmgockkjoogcaaa
open Go.RowKit Go.ChangeShapes Go.WideShapes Go.Deep Go.Joins
set_option linter.unusedVariables false
section
variable {H : Type} {enc : TypeId × Value → H} {P : Program} {w : World} {base : Nat} {held : Bool}
theorem open_matC {t e q : TypeId} {f0 f1 : Field} {fuel : Nat} {c0 c1 : Value} {x : DataW H × List MemPlace} (ht : P.underlying t = some (.struct #[f0, f1])) (hone : oneCellFields P #[f0, f1] = true)
    (hi : P.underlying f0.type = some (.int .i64)) (hr : P.underlying f1.type = some (.slice e)) (he : P.underlying e = some (.slice q)) (hq : P.underlying q = some (.int .u64)) (ce : P.cellsOf e = 1) (cq : P.cellsOf q = 1)
    (h : DataW.trod enc P w base (fun _ => true) held fuel t [c0, c1] = some x) :
    ∃ (N : Int) (A : Option Addr) (n c : Nat) (xss : List (List Nat)), c0 = .int .i64 N ∧ c1 = .slice A n c ∧ (-9223372036854775808 ≤ N ∧ N ≤ 9223372036854775807) ∧ RowsAt w A n xss ∧ n ≤ c ∧ n ≤ 9223372036854775807 ∧
      ∀ (k : Nat) (xs : List Nat), xss[k]? = some xs → xs.length ≤ 9223372036854775807 := by
  obtain ⟨xs, n, _, hx, _, hlen, hg⟩ := DataW.trod_struct ht h
  obtain ⟨o0, k0⟩ := hone_of hone 0 f0 rfl
  obtain ⟨o1, k1⟩ := hone_of hone 1 f1 rfl
  have h0 := hg 0 f0 rfl
  have h1 := hg 1 f1 rfl
  match xs, hlen with
  | [y0, y1], _ =>
    rw [o0, k0] at h0
    rw [o1, k1] at h1
    simp at h0 h1
    obtain ⟨N, e0, _, hw⟩ := DataW.trod_int hi h0
    injection e0 with e0
    subst e0
    obtain ⟨A, n, c, rfl⟩ : ∃ A n c, c1 = .slice A n c := by
      rcases open_int_rows hr he hq ce cq h1 with ⟨hcs, _⟩ | ⟨a, l, c, B, L, C, Z, hcs, _⟩
      · injection hcs with hcs; exact ⟨_, _, _, hcs⟩
      · injection hcs with hcs; exact ⟨_, _, _, hcs⟩
    obtain ⟨xss, hx1, hx2, hx3⟩ := open_mat hr he hq ce cq h1
    exact ⟨N, A, n, c, xss, rfl, rfl, bounds_i64 hw, hx1, open_cap hr he hq ce cq h1, hx2, hx3⟩
/-- a struct of two structs of two cells and two one-cell fields -/
theorem open_ask6 {r : Reach} {b0 : Nat} {t : TypeId} {f0 f1 f2 f3 : Field} {v : Value} {d : DataW H} {p : List MemPlace} (hs : P.underlying t = some (.struct #[f0, f1, f2, f3])) (hC : P.cellsOf t = 6)
    (o0 : f0.offset = 0) (o1 : f1.offset = 2) (o2 : f2.offset = 4) (o3 : f3.offset = 5) (k0 : P.cellsOf f0.type = 2) (k1 : P.cellsOf f1.type = 2) (k2 : P.cellsOf f2.type = 1) (k3 : P.cellsOf f3.type = 1)
    (hv : Value.okWide P w r b0 t v) (h : DataW.Trod enc P w base (fun _ => true) held t v d p) :
    ∃ (v0 v1 v2 v3 v4 v5 : Value) (y0 y1 y2 y3 : DataW H × List MemPlace) (n : Nat), v = .agg #[v0, v1, v2, v3, v4, v5] ∧
      DataW.trod enc P w base (fun _ => true) held n f0.type [v0, v1] = some y0 ∧ DataW.trod enc P w base (fun _ => true) held n f1.type [v2, v3] = some y1 ∧ DataW.trod enc P w base (fun _ => true) held n f2.type [v4] = some y2 ∧ DataW.trod enc P w base (fun _ => true) held n f3.type [v5] = some y3 := by
  obtain ⟨cs, rfl, hsz⟩ := okWide_struct hs hv
  obtain ⟨l⟩ := cs
  match l, hsz.trans hC with
  | [c0, c1, c2, c3, c4, c5], _ =>
    obtain ⟨fuel, hf⟩ := h
    obtain ⟨xs, n, _, hx, _, hlen, hg⟩ := DataW.trod_struct hs hf
    match xs, hlen with
    | [y0, y1, y2, y3], _ =>
      exact ⟨c0, c1, c2, c3, c4, c5, y0, y1, y2, y3, n, rfl, by simpa [Value.cells, o0, k0] using hg 0 f0 rfl, by simpa [Value.cells, o1, k1] using hg 1 f1 rfl, by simpa [Value.cells, o2, k2] using hg 2 f2 rfl, by simpa [Value.cells, o3, k3] using hg 3 f3 rfl⟩
/-- a struct of a struct of two cells and three one-cell fields -/
theorem open_ask5 {r : Reach} {b0 : Nat} {t : TypeId} {f0 f1 f2 f3 : Field} {v : Value} {d : DataW H} {p : List MemPlace} (hs : P.underlying t = some (.struct #[f0, f1, f2, f3])) (hC : P.cellsOf t = 5)
    (o0 : f0.offset = 0) (o1 : f1.offset = 2) (o2 : f2.offset = 3) (o3 : f3.offset = 4) (k0 : P.cellsOf f0.type = 2) (k1 : P.cellsOf f1.type = 1) (k2 : P.cellsOf f2.type = 1) (k3 : P.cellsOf f3.type = 1)
    (hv : Value.okWide P w r b0 t v) (h : DataW.Trod enc P w base (fun _ => true) held t v d p) :
    ∃ (v0 v1 v2 v3 v4 : Value) (y0 y1 y2 y3 : DataW H × List MemPlace) (n : Nat), v = .agg #[v0, v1, v2, v3, v4] ∧
      DataW.trod enc P w base (fun _ => true) held n f0.type [v0, v1] = some y0 ∧ DataW.trod enc P w base (fun _ => true) held n f1.type [v2] = some y1 ∧ DataW.trod enc P w base (fun _ => true) held n f2.type [v3] = some y2 ∧ DataW.trod enc P w base (fun _ => true) held n f3.type [v4] = some y3 := by
  obtain ⟨cs, rfl, hsz⟩ := okWide_struct hs hv
  obtain ⟨l⟩ := cs
  match l, hsz.trans hC with
  | [c0, c1, c2, c3, c4], _ =>
    obtain ⟨fuel, hf⟩ := h
    obtain ⟨xs, n, _, hx, _, hlen, hg⟩ := DataW.trod_struct hs hf
    match xs, hlen with
    | [y0, y1, y2, y3], _ =>
      exact ⟨c0, c1, c2, c3, c4, y0, y1, y2, y3, n, rfl, by simpa [Value.cells, o0, k0] using hg 0 f0 rfl, by simpa [Value.cells, o1, k1] using hg 1 f1 rfl, by simpa [Value.cells, o2, k2] using hg 2 f2 rfl, by simpa [Value.cells, o3, k3] using hg 3 f3 rfl⟩
end
end Go.Proofs.Ytmgockkjoogcaaa

namespace Go.Proofs.Ytmgockkjoogcaaa
open Go.RowKit Go.ChangeShapes Go.WideShapes Go.Deep Go.Joins
set_option linter.unusedVariables false

section
open Go.ChangeShapes Go.WideShapes Go.Deep Go.Joins
variable {H : Type} {enc : TypeId × Value → H} {P : Program} {w : World} {base : Nat} {spare : Nat → Bool} {held : Bool}
theorem open_pairs8 {t e i : TypeId} {fuel : Nat} {A : Option Addr} {len cap : Nat} {x : DataW H × List MemPlace} (ht : P.underlying t = some (.slice e)) (he : P.underlying e = some (.array 2 i)) (hi : P.underlying i = some (.int .u8))
    (ce : P.cellsOf e = 2) (ci : P.cellsOf i = 1) (h : DataW.trod enc P w base spare held fuel t [.slice A len cap] = some x) : ∃ ps, Pairs8 w A len ps ∧ len ≤ 9223372036854775807 := by
  rcases open_slice ht h with ⟨hcs, _⟩ | ⟨⟨b, off, spot⟩, l, c, m, n, D, Pl, hcs, hb, hl, hm, hmm, hx, hel⟩
  · injection hcs with hcs
    injection hcs with h1 h2 h3
    subst h1 h2 h3
    exact ⟨[], ⟨rfl, by simp, fun h => absurd h (by omega)⟩, by omega⟩
  · injection hcs with hcs
    injection hcs with h1 h2 h3
    subst h1 h2 h3
    have hlm : len ≤ m := by rw [hmm]; split <;> omega
    have hat : ∀ k, k < len → ∃ x y : Nat, w.cell? ((⟨b, off, spot⟩ : Addr).add (k * 2)) = some (.int .u8 (x : Int)) ∧ w.cell? (((⟨b, off, spot⟩ : Addr).add (k * 2)).add 1) = some (.int .u8 (y : Int)) ∧ x < 256 ∧ y < 256 := by
      intro k hk
      obtain ⟨cs', hc, ht'⟩ := hel k (by omega)
      rw [ce] at hc
      obtain ⟨_, hcl, hcat⟩ := World.cells?_some hc
      obtain ⟨xs, m', _, _, _, hxl, hf⟩ := DataW.trod_array he ht'
      match cs', hcl with
      | [u, v], _ =>
        have f0 := hf 0 (by omega)
        have f1 := hf 1 (by omega)
        rw [ci] at f0 f1
        rw [List.getElem?_eq_getElem (by omega)] at f0 f1
        obtain ⟨n0, e0, _, w0⟩ := DataW.trod_int hi f0
        obtain ⟨n1, e1, _, w1⟩ := DataW.trod_int hi f1
        simp at e0 e1
        subst e0 e1
        have c0 := hcat 0 (by omega)
        have c1 := hcat 1 (by omega)
        have b0 := bounds_u8 w0
        have b1 := bounds_u8 w1
        obtain ⟨x0, rfl⟩ := Int.eq_ofNat_of_zero_le b0.1
        obtain ⟨x1, rfl⟩ := Int.eq_ofNat_of_zero_le b1.1
        refine ⟨x0, x1, ?_, by simpa using c1, by omega, by omega⟩
        have hz : ∀ a : Addr, a.add 0 = a := fun a => by obtain ⟨b, o, s⟩ := a; unfold Addr.add; split <;> simp_all
        rw [hz] at c0
        simpa using c0
    by_cases h0 : len = 0
    · subst h0
      exact ⟨[], ⟨rfl, by simp, fun h => absurd h (by omega)⟩, by omega⟩
    · obtain ⟨_, _, hc0, _, _, _⟩ := hat 0 (by omega)
      have hspot : spot = none := by
        have h := World.cell?_spot hc0
        cases spot with
        | none => rfl
        | some s => unfold Addr.add at h; simp at h
      subst hspot
      have hblt : b < w.heap.size := by
        have := World.block_lt_of_cell? w _ hc0
        rwa [addr_add] at this
      have hall : ∀ k, k ≤ len → ∃ ps : List (Nat × Nat), ps.length = k ∧ (∀ p ∈ ps, p.1 < 256 ∧ p.2 < 256) ∧
          ∀ (j : Nat) (p : Nat × Nat), ps[j]? = some p → w.cell? ⟨b, off + j * 2, none⟩ = some (.int .u8 (p.1 : Int)) ∧ w.cell? ⟨b, off + j * 2 + 1, none⟩ = some (.int .u8 (p.2 : Int)) := by
        intro k
        induction k with
        | zero => exact fun _ => ⟨[], rfl, by simp, fun j p h => by simp at h⟩
        | succ k ih =>
          intro hk
          obtain ⟨ps, p1, p2, p3⟩ := ih (by omega)
          obtain ⟨x, y, cx, cy, wx, wy⟩ := hat k (by omega)
          rw [addr_add] at cx cy
          rw [addr_add] at cy
          refine ⟨ps ++ [(x, y)], by simp [p1], fun p hp => ?_, fun j p hj => ?_⟩
          · rcases List.mem_append.1 hp with hp | hp
            · exact p2 p hp
            · rw [List.mem_singleton.1 hp]; exact ⟨wx, wy⟩
          · rcases Nat.lt_or_ge j ps.length with hlt | hge
            · rw [List.getElem?_append_left hlt] at hj; exact p3 j p hj
            · rw [List.getElem?_append_right hge] at hj
              have hjk : j = k := by
                have := (List.getElem?_eq_some_iff.1 hj).1
                simp at this; omega
              subst hjk
              rw [p1, Nat.sub_self] at hj
              simp at hj
              subst hj
              exact ⟨cx, cy⟩
      obtain ⟨ps, p1, p2, p3⟩ := hall len (Nat.le_refl _)
      exact ⟨ps, ⟨p1, p2, fun _ => ⟨b, off, rfl, hblt, p3⟩⟩, by unfold maxLen at hm; omega⟩
end
end Go.Proofs.Ytmgockkjoogcaaa
