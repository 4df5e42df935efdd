/- Contracts of package mat: Set (with slices.Clone of rows). Contracts of package mat: Set (refused). Contracts of package mat: New. Contracts of package mat: New (refused), put. Contracts of package mat: Of. Words for memory: rows that lie apart from a span of blocks; mathematics of 'or'. A region that draws its order: walked in an order of one's own ('plan'): what only reads (copies, addresses, arithmetic, loads) is taken as soon as it may come up; a call comes up alone; behind the plan a tail, one operation behind the other. What a call makes of memory may be anything that leaves the blocks that were there as they were ('Below'). No function of the program is named here. Contracts of package mat: join, Or. Contracts of package mat: fits, Right. Contracts of package mat: Sub, Same (by slices.EqualFunc). Contracts of package mat: Pairs. Plain facts of matrices that may be: a pair that is set. Plain mathematics of a block of 64 words whose bits are turned about, size by size. Nothing of the program is imported. Contracts of package mat: flip. A whole array of words, loaded and stored: at a plain region's list. No function of the program is named here. Contracts of package mat: take, lay, Turn. Contracts of package mat: lay. Contracts of package mat: Turn. Plain facts of matrices that may be: made of pairs, turned about. Contracts of the document's own answers for matrices (eyewitnessref03): in, Has, Small, Equal. Contracts of the document's own answers for matrices: Equal, Sub, Same. Contracts of the document's own answers for matrices: Sub, Same. Contracts of the document's own answers for matrices: Right. Contracts of the document's own answers for matrices: New. Contracts of the document's own answers for matrices: New (refused), Or. Contracts of the document's own answers for matrices: Set. A region that draws its order, walked by a plan (XPlan), whose last head results stand beside one another: behind the plan's calls come values that hang on no memory ('extract': a call's second result), which may come up between the stores behind; then a tail. What lies ahead of the tail is found by what waits for what. No function of the program is named here. Contracts of the document's own answers for matrices: Of. -/
import Derived.Test.YtjhjojklfdjmdaaGreatBadLevelsPk2
import Derived.OrdersHeld
import Derived.StillTail
import Derived.Below
import Derived.WalkKit
import Derived.Deep.RegionHeld3
import Derived.Lib.Hide
import Derived.Deep.MidRow
namespace Go.Proofs.YtjhjojklfdjmdaaGreat
open Go.RowKit
set_option linter.unusedVariables false

theorem info_row : (Tryz.prog.info? 88).map (fun i => (i.zero, i.size, i.bytes)) = some (some (.slice none 0 0), 1, 24) := by kernel_rfl
theorem one_rows {w : World} {vs : List Value} {xss : List (List Nat)} (h : RowsC w vs xss) : ∀ u ∈ vs, u.oneCell' = true := by
  intro u hu
  obtain ⟨k, hk⟩ := List.getElem?_of_mem hu
  have hl : k < vs.length := (List.getElem?_eq_some_iff.1 hk).1
  have hl2 : k < xss.length := by rw [← h.1]; exact hl
  obtain ⟨A, n, c, rfl, _⟩ := h.2 k u xss[k] hk (List.getElem?_eq_getElem hl2)
  rfl

/-- a call that answers an outer slice of its own -/
def RetOuter (n : Nat) (vs : List Value) (w : World) (e : Ending) (w' : World) : Prop :=
  ∃ g cap, e = .returned (.slice (some ⟨g, 0, none⟩) n cap) ∧ w'.ownsRow w.heap.size 88 1 (.slice (some ⟨g, 0, none⟩) n cap) n vs ∧ Below w.heap.size w w'

set_option maxHeartbeats 400000 in
theorem clone_rows (b off n c : Nat) (vs : List Value) (w : World) (hr : Rd w (some ⟨b, off, none⟩) n vs) (h1 : ∀ u ∈ vs, u.oneCell' = true) (h0 : 0 < n) (hn : n ≤ 1073741824) :
    Calls Tryz.prog 141 #[.slice (some ⟨b, off, none⟩) n c] w (RetOuter n vs w) := by
  obtain ⟨i0, hi, hz0, hz1, hz2⟩ := info_parts info_row
  replace hi := Lib.hid hi
  replace hz0 := Lib.hid hz0
  replace hz1 := Lib.hid hz1
  replace hz2 := Lib.hid hz2
  have hlit : (w.alloc (.cells #[] 88)).ownsRow w.heap.size 88 1 (.slice (some ⟨w.heap.size, 0, none⟩) 0 0) 0 [] := by
    have h := World.ownsRow_lit (size := 1) (base := w.heap.size) (e := 88) w #[] 0 (Nat.le_refl _) (by omega) (by simp)
    simpa using h
  have hb0 : Below w.heap.size w (w.alloc (.cells #[] 88)) := (Below.refl _ _).alloc (Nat.le_refl _) _
  have hrd : Rd (w.alloc (.cells #[] 88)) (some ⟨b, off, none⟩) n vs := hr.below hb0
  clear hr
  have hnil : ∀ W : World, (binOp .eql 55 (.slice (some ⟨b, off, none⟩) n c) (.slice none 0 0)).run Tryz.prog W = .ok (.bool false) W := fun W => by kernel_rfl
  go_enter Tryz.func141, Tryz.ntmps141
  go_wp2_with (at_builtin; refine wpList_append_rd rfl (.tmp 5) (.tmp 6) _ rfl w.heap.size 88 i0 _ 24 Tryz.underlying55 hi.out hz0.out hz1.out hz2.out rfl _ 0 _ (by rfl) hlit _ n c _ rfl hrd h1 (by unfold maxLen; omega) (by omega) hb0.size ?_; intro v1 w1 hown1 hbb hform; simp only [Nat.zero_add, List.nil_append] at hown1 hform; have hb1 := hb0.trans hbb; obtain ⟨g, cap, rfl⟩ := hform h0; clear hbb hlit hb0 hrd hform)
  go_ret
  exact ⟨_, _, rfl, hown1, hb1⟩

end Go.Proofs.YtjhjojklfdjmdaaGreat

namespace Go.Proofs.YtjhjojklfdjmdaaGreat
open Go.RowKit
set_option linter.unusedVariables false

theorem inM_cases {N i j : Int} (h : inM N i j = false) : (i < 0 ∨ N ≤ i) ∨ (belowZ i N = true ∧ (j < 0 ∨ N ≤ j)) := by
  unfold inM at h
  unfold belowZ
  by_cases a : 0 ≤ i <;> by_cases b : i < N <;> by_cases c : 0 ≤ j <;> by_cases d : j < N <;> simp [a, b, c, d] at h ⊢ <;> omega

end Go.Proofs.YtjhjojklfdjmdaaGreat

namespace Go.Proofs.YtjhjojklfdjmdaaGreat
open Go.RowKit
set_option linter.unusedVariables false

theorem mk_rows (kl kc : IntKind) (n c : Nat) (hnc : n ≤ c) (hc : c ≤ 1099511627776) (W : World) :
    (Instr.makeSlice 55 (.int kl (n : Int)) (.int kc (c : Int))).run Tryz.prog W = .ok (.slice (some ⟨W.heap.size, 0, none⟩) n c) (W.alloc (.cells (zeros c (.slice none 0 0)) 88)) := by
  obtain ⟨i, hi, hz0, hz1, hz2⟩ := info_parts info_row
  exact run_make_one _ _ i _ Tryz.underlying55 hi hz0 hz1 rfl kl kc n c hnc (by rw [hz2]; omega) (by omega) W
/-- rows that are laid one by one: those laid, then nils -/
def filled (vs : List Value) (n : Nat) : List Value := vs ++ List.replicate (n - vs.length) (.slice none 0 0)
theorem filled_nil (n : Nat) : filled [] n = List.replicate n (.slice none 0 0) := by simp [filled]
theorem filled_all {vs : List Value} {n : Nat} (h : vs.length = n) : filled vs n = vs := by simp [filled, h]
theorem filled_set {vs : List Value} {n : Nat} (h : vs.length < n) (v : Value) : (filled vs n).set vs.length v = filled (vs ++ [v]) n := by
  unfold filled
  obtain ⟨d, hd⟩ : ∃ d, n - vs.length = d + 1 := ⟨n - vs.length - 1, by omega⟩
  rw [List.set_append_right _ _ (Nat.le_refl _), hd, List.length_append, show n - (vs.length + [v].length) = d from by simp; omega]
  simp [List.replicate_succ]
theorem filled_get {vs : List Value} {n : Nat} (h : vs.length < n) : (filled vs n)[vs.length]? = some (.slice none 0 0) := by
  unfold filled
  rw [List.getElem?_append_right (Nat.le_refl _), Nat.sub_self, List.getElem?_replicate, if_pos (by omega)]

set_option maxHeartbeats 1000000 in
theorem mat_New (n : Nat) (hn : n ≤ 4096) (w : World) :
    Calls Tryz.prog 88 #[.int .i64 (n : Int)] w (RetMatO 88 89 (n : Int) (newM n) w) := by
  have hb := Lib.hid (belowZ_yes (i := (n : Int)) (n := 4097) (by omega) (by omega))
  have hmk := mk_rows .i64 .i64 n n (Nat.le_refl _) (by omega)
  obtain ⟨W0, hW0⟩ : ∃ W0, W0 = w.alloc (.cells #[.int .i64 0, .slice none 0 0] 57) := ⟨_, rfl⟩
  have ha : Below w.heap.size w W0 := by rw [hW0]; exact (Below.refl _ _).alloc (Nat.le_refl _) _
  have hB : MatB W0 w.heap.size 57 0 none 0 0 := by rw [hW0]; exact MatB.new w _
  have hs0 : W0.heap.size = w.heap.size + 1 := by rw [hW0]; simp
  obtain ⟨W1, hW1⟩ : ∃ W1, W1 = W0.alloc (.cells (zeros n (.slice none 0 0)) 88) := ⟨_, rfl⟩
  have ha1 : Below w.heap.size w W1 := by rw [hW1]; exact ha.alloc (by omega) _
  have hB1 : MatB W1 w.heap.size 57 0 none 0 0 := by rw [hW1]; exact hB.below_ ((Below.refl _ _).alloc (Nat.le_refl _) _)
  have hs1 : W1.heap.size = w.heap.size + 2 := by rw [hW1]; simp [hs0]
  have hown0 : W1.ownsRow (w.heap.size + 1) 88 1 (.slice (some ⟨w.heap.size + 1, 0, none⟩) n n) n (filled [] n) := by
    have h := own_zeros W0 n (.slice none 0 0) 88 (by unfold maxLen; omega)
    rw [← hW1, hs0] at h
    rw [filled_nil]; exact h
  have hrow := Lib.hid (fun W => row_NewO (n : Int) (by omega) (by omega) W)
  have hs0' := Lib.hid hs0
  have hs1' := Lib.hid hs1
  replace hB1 := Lib.hid hB1
  replace hown0 := Lib.hid hown0
  replace ha1 := Lib.hid ha1
  clear ha hB hs0 hs1
  go_enter Tryz.func88, Tryz.ntmps88
  go_wp2_with fail
  rw [← hW0]
  have hp : W0.heap.size = w.heap.size + 1 := hs0'.out
  clear hW0
  refine (mat_below _ _ _).mono ?_; rintro e w' ⟨rfl, rfl⟩
  rw [hb.out]
  go_wp2_with fail
  rw [← hW1]
  clear hW1 hmk hp
  go_loopw [14] (fun i wr => ∃ vs : List Value, vs.length ≤ n ∧ i = .int .i64 vs.length ∧ Hid (wr.ownsRow (w.heap.size + 1) 88 1 (.slice (some ⟨w.heap.size + 1, 0, none⟩) n n) n (filled vs n)) ∧ Hid (OwnRows 89 wr (w.heap.size + 2) vs (List.replicate vs.length (List.replicate (wordsZ (n : Int)).toNat 0))) ∧ Hid (MatB wr w.heap.size 57 0 none 0 0) ∧ Hid (Below w.heap.size w wr) ∧ Hid (w.heap.size + 2 ≤ wr.heap.size)) (fun i _ => n - (intOf i).toNat)
  case atStart => exact ⟨[], Nat.zero_le _, rfl, hown0, Lib.hid (OwnRows.nil _ _ _), hB1, ha1, Lib.hid (by rw [hs1'.out]; exact Nat.le_refl _)⟩
  case round =>
    obtain ⟨vs, hk, rfl, hown, hrows, hBr, hbr, hsr⟩ := hrel
    clear hown0 hB1 ha1
    obtain ⟨k, hke⟩ : ∃ k, k = vs.length := ⟨_, rfl⟩
    rw [← hke] at hk
    rw [← hke]
    by_cases hlt : k < n
    · have hke' := Lib.hid hke
      clear hke
      go_wp2_with fail
      refine (hrow.out _).mono ?_; rintro e w1 ⟨C, p, q, rfl, ho, hx64, hb1⟩
      have hown1 := own_below hown.out hb1
      have hget := filled_get (vs := vs) (n := n) (by rw [← hke'.out]; exact hlt)
      have hcg := hown1.cellAt k (by omega)
      rw [hke'.out, hget, ← hke'.out] at hcg
      have hfg := hown1.frozenAt k
      have hrows1 := Lib.hid (hrows.out.snoc hb1 ho hx64 (hsr.out))
      have hBr1 := Lib.hid (hBr.out.below_ hb1)
      have hbr1 := Lib.hid (below_trans2 hbr.out hb1)
      have hsr1 := Lib.hid (Nat.le_trans hsr.out hb1.size)
      replace hown1 := Lib.hid hown1
      clear ho hx64 hget hown hrows hBr hbr hsr hb1
      go_wp2_with fail
      go_roundw
      case rel =>
        refine ⟨vs ++ [.slice C p q], by have := hke'.out; simp; omega, by rw [List.length_append, ← hke'.out]; simp; try omega, ?_, ?_, ?_, ?_, ?_⟩
        · refine Lib.hid ?_
          rw [← filled_set (by rw [← hke'.out]; exact hlt), ← hke'.out]
          exact (hown1.out.stored k (.slice C p q)).1
        · refine Lib.hid ?_
          have h := hrows1.out.far (p := ⟨w.heap.size + 1, k, none⟩) (by simp) (.slice C p q)
          rw [List.length_append, List.length_singleton, List.replicate_succ']
          exact h
        · exact Lib.hid (hBr1.out.far (by simp) _)
        · exact Lib.hid (hbr1.out.setCell (by simp) _)
        · exact Lib.hid (by simpa using hsr1.out)
      case measure => simp [intOf]; omega
    · have hkn : k = n := by omega
      have hvn : vs.length = n := by rw [← hke, hkn]
      clear hlt
      have f20 := hBr.out.cell 0
      have f21 := hBr.out.cell 1
      have g20 := hBr.out.frozen 0
      have g21 := hBr.out.frozen 1
      simp only [List.getElem?_cons_zero, List.getElem?_cons_succ] at f20 f21
      replace hvn := Lib.hid hvn
      replace hke := Lib.hid hke
      obtain rfl := hkn
      go_wp2_with fail
      have hcc := hBr.out.two (.int .i64 k) (.slice (some ⟨w.heap.size + 1, 0, none⟩) k k)
      have hc1 := hcc.1
      have hc2 := hcc.2
      clear hcc f20 f21 g20 g21
      refine bodyPost_ret (v := .tuple #[.agg #[.int .i64 k, .slice (some ⟨w.heap.size + 1, 0, none⟩) k k], .int .i64 0]) (by simp [results, Tryz.results88, go_sem, hc1, hc2]) rfl ⟨_, _, _, vs, rfl, ?_, ?_, ?_, ?_⟩
      · have h := hown.out
        rw [filled_all hvn.out] at h
        exact own_base (own_far (own_far h (p := ⟨w.heap.size, 0, none⟩) (by simp [Value.ownBlock]) _) (p := ⟨w.heap.size, 1, none⟩) (by simp [Value.ownBlock]) _) (by omega)
      · have h := (hrows.out.far (p := ⟨w.heap.size, 0, none⟩) (by simp) (.int .i64 k)).far (p := ⟨w.heap.size, 1, none⟩) (by simp) (.slice (some ⟨w.heap.size + 1, 0, none⟩) k k)
        rw [hvn.out] at h
        exact h.base_ (by omega)
      · intro v hv g hg hh
        have := (hrows.out.lt v hv g hg).1
        simp [Value.ownBlock] at hh
        omega
      · exact (hbr.out.setCell (by simp) _).setCell (by simp) _

end Go.Proofs.YtjhjojklfdjmdaaGreat

namespace Go.Proofs.YtjhjojklfdjmdaaGreat
open Go.RowKit
set_option linter.unusedVariables false

set_option maxHeartbeats 400000 in
theorem mat_New_no (n : Int) (h : n < 0 ∨ 4097 ≤ n) (w : World) :
    Calls Tryz.prog 88 #[.int .i64 n] w (RetMat 0 [] 1 w) := by
  have hb := Lib.hid (belowZ_no (i := n) (n := 4097) h)
  have ha : Below w.heap.size w (w.alloc (.cells #[.int .i64 0, .slice none 0 0] 57)) := (Below.refl _ _).alloc (Nat.le_refl _) _
  replace ha := Lib.hid ha
  clear h
  go_enter Tryz.func88, Tryz.ntmps88
  go_wp2_with fail
  refine (mat_below _ _ _).mono ?_; rintro e w' ⟨rfl, rfl⟩
  rw [hb.out]
  go_wp2_with fail
  exact bodyPost_ret (v := .tuple #[.agg #[.int .i64 0, .slice none 0 0], .int .i64 1]) (by simp [results, Tryz.results88, go_sem]) rfl ⟨none, 0, 0, rfl, RowsAt.nil _ _, Nat.le_refl _, ha.out⟩

/-- what 'put' ends in -/
def Put (g q y : Nat) (w : World) (e : Ending) (w' : World) : Prop := e = .returned (.tuple #[]) ∧ ∃ k, w' = (w.drewN k).setCell ⟨g, q, none⟩ (u64v y)
set_option maxHeartbeats 400000 in
theorem mat_put (g m c : Nat) (j : Nat) (x : Nat) (w : World) (hm : m ≤ 17592186044416) (hj : j < 64 * m) (hx64 : x < 18446744073709551616) (hc : w.cell? ⟨g, j / 64, none⟩ = some (.int .u64 (x : Int))) (hf : w.frozen? ⟨g, j / 64, none⟩ = false) :
    Calls Tryz.prog 89 #[.slice (some ⟨g, 0, none⟩) m c, .int .i64 (j : Int)] w (Put g (j / 64) (x ||| p2 (j % 64)) w) := by
  obtain ⟨r, hre⟩ : ∃ r, r = j % 64 := ⟨_, rfl⟩
  have hr64 : r < 64 := by omega
  have hE := u64_or_nat x (p2 r) hx64 (by have := p2_lt r hr64; omega)
  replace hE := Lib.hid hE
  have hA1 : (0 : Int) ≤ (j : Int) / 64 := by omega
  have hA2 : (j : Int) / 64 < (m : Int) := by omega
  have hA3 : ((j : Int) / 64).toNat = j / 64 := by omega
  have hj0 : (0 : Int) ≤ (j : Int) := by omega
  have hrem : (j : Int) % 64 = (r : Int) := by omega
  have hjb : (j : Int) < 9223372036854775807 := by omega
  rw [← hre]
  clear hre
  go_enter Tryz.func89, Tryz.ntmps89
  go_wp2_with fail
  refine still_tail 10 (by kernel_rfl) (by kernel_rfl) (fun W hW => ?_)
  have hc' : W.cell? ⟨g, j / 64, none⟩ = some (.int .u64 (x : Int)) := by rw [hW.out]; exact hc
  have hf' : W.frozen? ⟨g, j / 64, none⟩ = false := by rw [hW.out]; exact hf
  clear hc hf
  simp only [List.take_succ_cons, List.take_zero, List.drop_succ_cons, List.drop_zero]
  have htd : (j : Int).tdiv 64 = (j : Int) / 64 := Int.tdiv_eq_ediv_of_nonneg hj0
  have htm : (j : Int).tmod 64 = (r : Int) := by rw [Int.tmod_eq_emod_of_nonneg hj0]; exact hrem
  have hw1 : IntKind.i64.wrap ((j : Int) / 64) = (j : Int) / 64 := by rw [IntKind.wrap_i64]; omega
  have hw2 : IntKind.i64.wrap (r : Int) = (r : Int) := by rw [IntKind.wrap_i64]; omega
  clear hrem
  repeat
    refine @wpStill_step _ _ _ _ _ _ _ ?_
    intro K hK
    go_simp
    refine hK _ ?_
    clear hK K
  refine @wpStill_step _ _ _ _ _ _ _ ?_
  intro K hK
  go_simp
  refine ⟨_, still_call (word_BitN r hr64 _), hK _ ?_⟩
  clear hK K
  repeat
    refine @wpStill_step _ _ _ _ _ _ _ ?_
    intro K hK
    go_simp
    refine hK _ ?_
    clear hK K
  refine wpStill_nil ?_
  clear htd htm hw1 hw2
  go_wp2
  go_end0
  rw [hE.out, hW.out]
  exact ⟨rfl, 1, rfl⟩

end Go.Proofs.YtjhjojklfdjmdaaGreat

namespace Go.Proofs.YtjhjojklfdjmdaaGreat
open Go.RowKit
set_option linter.unusedVariables false

set_option maxHeartbeats 400000 in
theorem mat_Of_big (n : Int) (h : n < 0 ∨ 4097 ≤ n) (A : Option Addr) (m c : Nat) (w : World) :
    Calls Tryz.prog 58 #[.int .i64 n, .slice A m c] w (RetMat 0 [] 1 w) := by
  have hN := Lib.hid (mat_New_no n h)
  obtain ⟨W0, hW0⟩ : ∃ W0, W0 = w.alloc (.cells #[.int .i64 0, .slice none 0 0] 57) := ⟨_, rfl⟩
  have ha : Below w.heap.size w W0 := by rw [hW0]; exact (Below.refl _ _).alloc (Nat.le_refl _) _
  have hB : MatB W0 w.heap.size 57 0 none 0 0 := by rw [hW0]; exact MatB.new w _
  replace ha := Lib.hid ha
  replace hB := Lib.hid hB
  clear h
  go_enter Tryz.func58, Tryz.ntmps58
  go_wp2_with fail
  rw [← hW0]
  clear hW0
  refine (hN.out _).mono ?_; rintro e w1 ⟨C, p, q, rfl, _, _, hb1⟩
  have hbb := Lib.hid (below_trans2 ha.out hb1)
  have hB1 := hB.out.below_ hb1
  have f20 := hB1.c0
  have f21 := hB1.c1
  have g20 := hB1.frozen 0
  have g21 := hB1.frozen 1
  have hlt := hB1.lt
  clear hb1
  go_wp2_with fail
  have hcc := (hB1.put 0 none 0 0).below_ ((Below.refl _ _).alloc (Nat.le_refl _) (.cells #[.int .i64 0, .slice C p q] 57))
  have hc1 := hcc.c0
  have hc2 := hcc.c1
  refine bodyPost_ret (v := .tuple #[.agg #[.int .i64 0, .slice none 0 0], .int .i64 1]) (by simp [results, Tryz.results58, go_sem, hc1, hc2]) rfl ⟨none, 0, 0, rfl, RowsAt.nil _ _, Nat.le_refl _, ?_⟩
  exact ((hbb.out.setCell (by simp) _).setCell (by simp) _).alloc (by simpa using hbb.out.size) _

/-- what is known at each round's head -/
structure OfI (w : World) (n : Nat) (ps : List (Int × Int)) (A : Option Addr) (c M : Nat) (vs : List Value) (k : Nat) (wr : World) : Prop where
  res : MatB wr w.heap.size 57 0 none 0 0
  loc : MatB wr M 57 (n : Int) A n c
  out : wr.ownsRow (w.heap.size + 1) 88 1 (.slice A n c) n vs
  rows : OwnRows 89 wr (w.heap.size + 1) vs (foldP n (ps.take k))
  below : Below w.heap.size w wr
theorem OfI.keep {w : World} {n : Nat} {ps : List (Int × Int)} {A : Option Addr} {c M : Nat} {vs : List Value} {k : Nat} {wr w' : World} (h : OfI w n ps A c M vs k wr) (hb : Below wr.heap.size wr w') : OfI w n ps A c M vs k w' :=
  ⟨h.res.below_ hb, h.loc.below_ hb, own_below h.out hb, h.rows.below hb, below_trans2 h.below hb⟩
theorem OfI.put {w : World} {n : Nat} {ps : List (Int × Int)} {A : Option Addr} {c M : Nat} {vs : List Value} {k : Nat} {wr : World} (h : OfI w n ps A c M vs k wr) (hsep : ∀ v ∈ vs, ∀ g, v.ownBlock = some g → (Value.slice A n c).ownBlock ≠ some g ∧ g ≠ M) {i j : Nat} {g m d : Nat} {xs : List Nat} {x : Nat}
    (hp : ps[k]? = some ((i : Int), (j : Int))) (hv : vs[i]? = some (.slice (some ⟨g, 0, none⟩) m d)) (hx : (foldP n (ps.take k))[i]? = some xs) (hj : j < 64 * xs.length) (hxq : xs[j / 64]? = some x) (q : Nat) :
    OfI w n ps A c M vs (k + 1) ((wr.drewN q).setCell ⟨g, j / 64, none⟩ (u64v (x ||| p2 (j % 64)))) := by
  have hs := hsep _ (List.mem_of_getElem? hv) g rfl
  have hx64 : x < 18446744073709551616 := by
    obtain ⟨_, _, _, e, ho, hw⟩ := h.rows.2.1 i _ xs hv hx
    exact hw x (List.mem_of_getElem? hxq)
  have hg := h.rows.lt _ (List.mem_of_getElem? hv) g rfl
  have hr := (h.rows.put hv hx (j / 64) (x ||| p2 (j % 64)) (or_p2_lt hx64 (by omega)))
  have he : foldP n (ps.take (k + 1)) = (foldP n (ps.take k)).set i (xs.set (j / 64) (x ||| p2 (j % 64))) := by
    rw [foldP_snoc n ps k _ hp]
    show setM _ (i : Int) (j : Int) = _
    rw [setM_nat hx, setR_in hj hxq]
  refine ⟨?_, ?_, ?_, ?_, ?_⟩
  · exact (Blk.drewN h.res q).far (by show w.heap.size ≠ g; omega) _
  · exact (Blk.drewN h.loc q).far (fun e => hs.2 e.symm) _
  · exact own_far (p := ⟨g, j / 64, none⟩) (own_drewN h.out q) hs.1 _
  · rw [he]; exact hr
  · exact (below_drewN h.below q).setCell (by show w.heap.size ≤ g; omega) _
def ofOk (n : Int) (ps : List (Int × Int)) : Bool := belowZ n 4097 && ps.all (okP n)
def ofN (n : Int) (ps : List (Int × Int)) : Int := if ofOk n ps = true then n else 0
def ofM (n : Int) (ps : List (Int × Int)) : List (List Nat) := if ofOk n ps = true then foldP n.toNat ps else []
def ofE (n : Int) (ps : List (Int × Int)) : Int := if ofOk n ps = true then 0 else 1
theorem okP_no {n : Int} {i j : Int} (h : okP n (i, j) = false) : belowZ i n = false ∨ (belowZ i n = true ∧ belowZ j n = false) := by
  rcases inM_cases h with h | ⟨h1, h2⟩
  · exact .inl (belowZ_no h)
  · exact .inr ⟨h1, belowZ_no h2⟩
theorem okP_yes {n : Int} {i j : Int} (h : okP n (i, j) = true) : belowZ i n = true ∧ belowZ j n = true ∧ 0 ≤ i ∧ i < n ∧ 0 ≤ j ∧ j < n := by
  have h' : inM n i j = true := h
  unfold inM at h'
  simp only [Bool.and_eq_true, decide_eq_true_eq] at h'
  obtain ⟨⟨⟨a, b⟩, c⟩, d⟩ := h'
  exact ⟨belowZ_yes a b, belowZ_yes c d, a, b, c, d⟩
set_option maxHeartbeats 2000000 in
theorem mat_Of_in (n : Nat) (hn : n ≤ 4096) (A : Option Addr) (m c : Nat) (ps : List (Int × Int)) (w : World) (hp : PairsAt w A m ps) (hm : m ≤ 1073741824) :
    Calls Tryz.prog 58 #[.int .i64 (n : Int), .slice A m c] w (RetMat (ofN n ps) (ofM n ps) (ofE n ps) w) := by
  have hN := Lib.hid (mat_New n hn)
  have hin : belowZ (n : Int) 4097 = true := belowZ_yes (by omega) (by omega)
  obtain ⟨W0, hW0⟩ : ∃ W0, W0 = w.alloc (.cells #[.int .i64 0, .slice none 0 0] 57) := ⟨_, rfl⟩
  have ha : Below w.heap.size w W0 := by rw [hW0]; exact (Below.refl _ _).alloc (Nat.le_refl _) _
  have hB : MatB W0 w.heap.size 57 0 none 0 0 := by rw [hW0]; exact MatB.new w _
  have hs0 : W0.heap.size = w.heap.size + 1 := by rw [hW0]; simp
  have hyes : Hid (ps.all (okP n) = true → ofN n ps = n ∧ ofM n ps = foldP n ps ∧ ofE n ps = 0) := Lib.hid (fun h => by unfold ofN ofM ofE ofOk; rw [hin, h]; simp)
  have hno : Hid (∀ p ∈ ps, okP n p = false → ofN n ps = 0 ∧ ofM n ps = [] ∧ ofE n ps = 1) := Lib.hid (fun p hp h => by
    have : ps.all (okP n) = false := List.all_eq_false.2 ⟨p, hp, by rw [h]; simp⟩
    unfold ofN ofM ofE ofOk; rw [hin, this]; simp)
  replace ha := Lib.hid ha
  replace hB := Lib.hid hB
  replace hs0 := Lib.hid hs0
  replace hp := Lib.hid hp
  clear hin
  go_enter Tryz.func58, Tryz.ntmps58
  go_wp2_with fail
  rw [← hW0]
  clear hW0
  refine (hN.out _).mono ?_; rintro e w1 ⟨C, p, q, vs, rfl, hown, hrows, hsep, hb1⟩
  have hpn : p = n := by
    have h1 := hown.1
    have h2 := hrows.1
    have h3 := (DimM.new n).1
    omega
  subst hpn
  rw [hs0.out] at hown hrows
  obtain ⟨W2, hW2⟩ : ∃ W2, W2 = w1.alloc (.cells #[.int .i64 p, .slice C p q] 57) := ⟨_, rfl⟩
  have hb2 : Below w1.heap.size w1 W2 := by rw [hW2]; exact (Below.refl _ _).alloc (Nat.le_refl _) _
  have hI : OfI w p ps C q w1.heap.size vs 0 W2 := by
    refine ⟨(hB.out.below_ hb1).below_ hb2, ?_, own_below hown hb2, ?_, below_trans2 (below_trans2 ha.out hb1) hb2⟩
    · rw [hW2]; exact MatB.new w1 _
    · rw [List.take_zero, foldP_nil]; exact hrows.below hb2
  have hsep' : ∀ v ∈ vs, ∀ g, v.ownBlock = some g → (Value.slice C p q).ownBlock ≠ some g ∧ g ≠ w1.heap.size := fun v hv g hg => ⟨hsep v hv g hg, by have := (hrows.lt v hv g hg).2; omega⟩
  obtain ⟨M, hM⟩ : ∃ M, M = w1.heap.size := ⟨_, rfl⟩
  rw [← hM] at hI hsep'
  replace hI := Lib.hid hI
  replace hsep' := Lib.hid hsep'
  have hpW : Hid (PairsAt W2 A m ps) := Lib.hid (hp.out.below (below_trans2 (below_trans2 ha.out hb1) hb2))
  clear hown hrows hsep hb1 hb2 hN
  go_wp2_with fail
  rw [← hW2, ← hM]
  clear hW2 hM
  go_loopw [21] (fun i wr => ∃ k : Nat, k ≤ m ∧ i = .int .i64 k ∧ Hid (OfI w p ps C q M vs k wr) ∧ Hid (∀ x ∈ ps.take k, okP p x = true)) (fun i _ => m - (intOf i).toNat)
  case atStart => exact ⟨0, Nat.zero_le _, rfl, hI, Lib.hid (by simp)⟩
  case round =>
    obtain ⟨k, hk, rfl, hIr, hall⟩ := hrel
    clear hI
    by_cases hlt : k < m
    · obtain ⟨b, off, ⟨x, y⟩, rfl, hbl, hx, ⟨⟨x1, x2⟩, ⟨y1, y2⟩⟩, hc1, hc2⟩ := (hp.out.below hIr.out.below).at_ hlt
      simp only at x1 x2 y1 y2 hc1 hc2
      obtain ⟨W3, hW3⟩ : ∃ W3, W3 = wr.alloc (.cells #[.int .i64 x, .int .i64 y] 99) := ⟨_, rfl⟩
      have hb3 : Below wr.heap.size wr W3 := by rw [hW3]; exact (Below.refl _ _).alloc (Nat.le_refl _) _
      have hI3 := hIr.out.keep hb3
      obtain ⟨T, hT⟩ : ∃ T, T = wr.heap.size := ⟨_, rfl⟩
      have hBT : Blk W3 T 99 [.int .i64 x, .int .i64 y] := by rw [hW3, hT]; exact Blk.new wr _ _
      have e0 : W3.cell? ⟨T, 0, none⟩ = some (.int .i64 x) := hBT.cell 0
      have e1 : W3.cell? ⟨T, 1, none⟩ = some (.int .i64 y) := hBT.cell 1
      have hok1 : okP p (x, y) = true → Hid (∀ z ∈ ps.take (k + 1), okP p z = true) := fun h => Lib.hid (fun z hz => by
        rw [List.take_succ_eq_append_getElem (List.getElem?_eq_some_iff.1 hx).1, (List.getElem?_eq_some_iff.1 hx).2] at hz
        rcases List.mem_append.1 hz with h5 | h5
        · exact hall.out z h5
        · rw [List.mem_singleton.1 h5]; exact h)
      have hbad : okP p (x, y) = false → Hid (ofN p ps = 0 ∧ ofM p ps = [] ∧ ofE p ps = 1) := fun h => Lib.hid (hno.out _ (List.mem_of_getElem? hx) h)
      replace hx := Lib.hid hx
      have f20 := hI3.res.c0
      have f21 := hI3.res.c1
      have g20 := hI3.res.frozen 0
      have g21 := hI3.res.frozen 1
      have hl1 := hI3.loc.c1
      replace hI3 := Lib.hid hI3
      replace hBT := Lib.hid hBT
      clear hb3
      rcases Bool.eq_false_or_eq_true (okP p (x, y)) with hok | hok
      · have hokk := hok1 hok
        obtain ⟨o1, o2, o3, o4, o5, o6⟩ := okP_yes hok
        replace o1 := Lib.hid o1
        replace o2 := Lib.hid o2
        clear hok hok1 hbad
        obtain ⟨i, rfl⟩ := Int.eq_ofNat_of_zero_le o3
        obtain ⟨j, rfl⟩ := Int.eq_ofNat_of_zero_le o5
        have hi : i < p := by omega
        have hdim := DimM.fold p (ps.take k)
        obtain ⟨xs, hxs⟩ : ∃ xs, (foldP p (ps.take k))[i]? = some xs := ⟨_, List.getElem?_eq_getElem (by rw [hdim.1]; exact hi)⟩
        have hxl := hdim.2 i xs hxs
        have hwp := words_pos (n := p) (by omega)
        have hwl := words_le (n := p) hn
        obtain ⟨v, hv⟩ : ∃ v, vs[i]? = some v := ⟨_, List.getElem?_eq_getElem (by rw [hI3.out.rows.1, hdim.1]; exact hi)⟩
        obtain ⟨B, mm, d, rfl, hro, hr64⟩ := hI3.out.rows.2.1 i v xs hv hxs
        have hmm : mm = xs.length := by have := hro.1; simpa using this.symm
        obtain ⟨g, cap, hge, _⟩ := hro.form (by omega)
        injection hge with hg1 hg2 hg3
        subst hg1
        obtain ⟨xw, hxw⟩ : ∃ xw, xs[j / 64]? = some xw := ⟨_, List.getElem?_eq_getElem (by omega)⟩
        have hxw64 := hr64 _ (List.mem_of_getElem? hxw)
        have hout := hI3.out.out
        have hAf : ∃ G, C = some ⟨G, 0, none⟩ := by
          obtain ⟨G, cap', hh, _⟩ := hout.form (by omega)
          injection hh with h1 h2 h3
          exact ⟨G, h1⟩
        obtain ⟨G, rfl⟩ := hAf
        have hjm : j < 64 * mm := by omega
        have hmm2 : mm ≤ 64 := by omega
        have hcr : W3.cell? ⟨G, i, none⟩ = some (.slice (some ⟨g, 0, none⟩) mm d) := by rw [hout.cellAt _ (by omega)]; exact hv
        have hcw : W3.cell? ⟨g, j / 64, none⟩ = some (.int .u64 (xw : Int)) := by
          rw [hro.cellAt _ (by omega), List.getElem?_map, hxw]; rfl
        have hfw := hro.frozenAt (j / 64)
        have hi0 : (0 : Int) ≤ (i : Int) := by omega
        have hip : (i : Int) < (p : Int) := by omega
        have hput := Lib.hid (mat_put g mm d j xw)
        have hupd := Lib.hid (fun W (hI : OfI w p ps (some ⟨G, 0, none⟩) q M vs k W) (z : Nat) => hI.put hsep'.out hx.out hv hxs (j := j) (x := xw) (by omega) hxw z)
        clear hdim hxs hxl hwp hwl hv hro hr64 hmm hxw hout hg2 hg3
        go_wp2_with fail
        rw [← hW3, ← hT]
        clear hW3 hT
        refine (mat_below _ _ _).mono ?_; rintro e w' ⟨rfl, rfl⟩
        rw [o1.out]
        go_wp2_with fail
        refine (mat_below _ _ _).mono ?_; rintro e w' ⟨rfl, rfl⟩
        rw [o2.out]
        go_wp2_with fail
        refine still_tail 8 (by kernel_rfl) (by kernel_rfl) (fun W hW => ?_)
        have k0 : W.cell? ⟨T, 0, none⟩ = some (.int .i64 i) := by rw [hW.out]; exact e0
        have k1 : W.cell? ⟨T, 1, none⟩ = some (.int .i64 j) := by rw [hW.out]; exact e1
        have k2 : W.cell? ⟨M, 1, none⟩ = some (.slice (some ⟨G, 0, none⟩) p q) := by rw [hW.out]; exact hl1
        have k3 : W.cell? ⟨G, i, none⟩ = some (.slice (some ⟨g, 0, none⟩) mm d) := by rw [hW.out]; exact hcr
        have k4 := Lib.hid (show W.cell? ⟨g, j / 64, none⟩ = some (.int .u64 (xw : Int)) by rw [hW.out]; exact hcw)
        have k5 := Lib.hid (show W.frozen? ⟨g, j / 64, none⟩ = false by rw [hW.out]; exact hfw)
        have hIW := Lib.hid (show OfI w p ps (some ⟨G, 0, none⟩) q M vs k W by rw [hW.out]; exact hI3.out.keep (Below.refl _ _).drew)
        clear e0 e1 hl1 hcr hcw hfw f20 f21 g20 g21 hc1 hc2
        simp only [List.take_succ_cons, List.take_zero, List.drop_succ_cons, List.drop_zero]
        repeat
          refine @wpStill_step _ _ _ _ _ _ _ ?_
          intro K hK
          go_simp
          refine hK _ ?_
          clear hK K
        refine wpStill_nil ?_
        go_wp2_with fail
        refine (hput.out W (by omega) hjm hxw64 k4.out k5.out).mono ?_; rintro e w' ⟨rfl, z, rfl⟩
        go_wp2
        go_roundw
        case rel => exact ⟨k + 1, by omega, by go_num, Lib.hid (hupd.out W hIW.out z), hokk⟩
        case measure => simp [intOf]; omega
      · have hbb := hbad hok
        rcases okP_no hok with o1 | ⟨o1, o2⟩
        · replace o1 := Lib.hid o1
          clear hok hok1 hbad
          go_wp2_with fail
          rw [← hW3, ← hT]
          clear hW3 hT
          refine (mat_below _ _ _).mono ?_; rintro e w' ⟨rfl, rfl⟩
          rw [o1.out]
          go_wp2_with fail
          have hcc := hI3.out.res.two (.int .i64 0) (.slice none 0 0)
          have hc5 := hcc.1
          have hc6 := hcc.2
          obtain ⟨q1, q2, q3⟩ := hbb.out
          rw [q1, q2, q3]
          exact bodyPost_ret (v := .tuple #[.agg #[.int .i64 0, .slice none 0 0], .int .i64 1]) (by simp [results, Tryz.results58, go_sem, hc5, hc6]) rfl ⟨none, 0, 0, rfl, RowsAt.nil _ _, Nat.le_refl _, (hI3.out.below.setCell (by simp) _).setCell (by simp) _⟩
        · replace o1 := Lib.hid o1
          replace o2 := Lib.hid o2
          clear hok hok1 hbad
          go_wp2_with fail
          rw [← hW3, ← hT]
          clear hW3 hT
          refine (mat_below _ _ _).mono ?_; rintro e w' ⟨rfl, rfl⟩
          rw [o1.out]
          go_wp2_with fail
          refine (mat_below _ _ _).mono ?_; rintro e w' ⟨rfl, rfl⟩
          rw [o2.out]
          go_wp2_with fail
          have hcc := hI3.out.res.two (.int .i64 0) (.slice none 0 0)
          have hc5 := hcc.1
          have hc6 := hcc.2
          obtain ⟨q1, q2, q3⟩ := hbb.out
          rw [q1, q2, q3]
          exact bodyPost_ret (v := .tuple #[.agg #[.int .i64 0, .slice none 0 0], .int .i64 1]) (by simp [results, Tryz.results58, go_sem, hc5, hc6]) rfl ⟨none, 0, 0, rfl, RowsAt.nil _ _, Nat.le_refl _, (hI3.out.below.setCell (by simp) _).setCell (by simp) _⟩
    · have hkm : k = m := by omega
      have hall' : ps.all (okP p) = true := List.all_eq_true.2 (fun z hz => hall.out z (by rw [List.take_of_length_le (by rw [hp.out.1]; omega)]; exact hz))
      have hy := Lib.hid (hyes.out hall')
      have hfull : ps.take k = ps := List.take_of_length_le (by rw [hp.out.1]; omega)
      have hI3 := hIr.out
      have hrw := hI3.rows
      rw [hfull] at hrw
      replace hrw := Lib.hid hrw
      have f20 := hI3.res.c0
      have f21 := hI3.res.c1
      have g20 := hI3.res.frozen 0
      have g21 := hI3.res.frozen 1
      have hl0 := hI3.loc.c0
      have hl1 := hI3.loc.c1
      replace hI3 := Lib.hid hI3
      clear hfull hall' hkm
      go_wp2_with fail
      have hcc := hI3.out.res.two (.int .i64 p) (.slice C p q)
      have hc5 := hcc.1
      have hc6 := hcc.2
      obtain ⟨q1, q2, q3⟩ := hy.out
      rw [q1, q2, q3]
      refine bodyPost_ret (v := .tuple #[.agg #[.int .i64 p, .slice C p q], .int .i64 0]) (by simp [results, Tryz.results58, go_sem, hc5, hc6]) rfl ⟨_, _, _, rfl, ⟨vs, ?_, ?_⟩, own_cap hI3.out.out, (hI3.out.below.setCell (by simp) _).setCell (by simp) _⟩
      · have hne : (Value.slice C p q).ownBlock ≠ some w.heap.size := fun e => by have := own_lt_block hI3.out.out _ e; omega
        exact Rd.of_own' (own_far (own_far hI3.out.out (p := ⟨w.heap.size, 0, none⟩) hne _) (p := ⟨w.heap.size, 1, none⟩) hne _)
      · exact ((hrw.out.far (p := ⟨w.heap.size, 0, none⟩) (by simp) _).far (p := ⟨w.heap.size, 1, none⟩) (by simp) _).rows
theorem mat_Of (n : Int) (A : Option Addr) (m c : Nat) (ps : List (Int × Int)) (w : World) (hp : PairsAt w A m ps) (hm : m ≤ 1073741824) :
    Calls Tryz.prog 58 #[.int .i64 n, .slice A m c] w (RetMat (ofN n ps) (ofM n ps) (ofE n ps) w) := by
  by_cases h : 0 ≤ n ∧ n < 4097
  · obtain ⟨k, rfl⟩ := Int.eq_ofNat_of_zero_le h.1
    exact mat_Of_in k (by omega) A m c ps w hp hm
  · have hb := belowZ_no (i := n) (n := 4097) (by omega)
    have h0 : ofOk n ps = false := by unfold ofOk; rw [hb]; rfl
    have h1 : ofN n ps = 0 ∧ ofM n ps = [] ∧ ofE n ps = 1 := by unfold ofN ofM ofE; rw [h0]; simp
    rw [h1.1, h1.2.1, h1.2.2]
    exact mat_Of_big n (by omega) A m c w

end Go.Proofs.YtjhjojklfdjmdaaGreat

namespace Go.Proofs.YtjhjojklfdjmdaaGreat
open Go.RowKit

/-- a row whose block, if it has words, lies outside the blocks lo .. hi - 1 -/
def RowF (w : World) (lo hi : Nat) (v : Value) (xs : List Nat) : Prop := ∃ A n c, v = .slice A n c ∧ Row w A n xs ∧ (0 < n → ∀ ad, A = some ad → ad.block < lo ∨ hi ≤ ad.block)
def RowsF (w : World) (lo hi : Nat) (vs : List Value) (xss : List (List Nat)) : Prop := vs.length = xss.length ∧ ∀ (i : Nat) (v : Value) (xs : List Nat), vs[i]? = some v → xss[i]? = some xs → RowF w lo hi v xs
section
variable {w w' : World} {lo hi : Nat} {A : Option Addr} {n c : Nat} {vs : List Value} {xss : List (List Nat)} {v : Value} {xs : List Nat}
theorem Row.setCell' {p : Addr} (h : Row w A n xs) (hne : 0 < n → ∀ ad, A = some ad → ad.block ≠ p.block) (u : Value) : Row (w.setCell p u) A n xs := by
  rcases Nat.eq_zero_or_pos n with h0 | h0
  · subst h0
    have := h.len
    obtain rfl := List.eq_nil_of_length_eq_zero this
    exact Row.nil _ _
  · exact h.setCell (hne h0) u
theorem RowF.row (h : RowF w lo hi v xs) : RowV w v xs := by
  obtain ⟨A, n, c, e, hr, _⟩ := h; exact ⟨A, n, c, e, hr⟩
theorem RowF.below (h : RowF w lo hi v xs) (hb : Below w.heap.size w w') : RowF w' lo hi v xs := by
  obtain ⟨A, n, c, e, hr, hf⟩ := h; exact ⟨A, n, c, e, hr.below hb, hf⟩
theorem RowF.set {p : Addr} (h : RowF w lo hi v xs) (h1 : lo ≤ p.block) (h2 : p.block < hi) (u : Value) : RowF (w.setCell p u) lo hi v xs := by
  obtain ⟨A, n, c, e, hr, hf⟩ := h
  exact ⟨A, n, c, e, hr.setCell' (fun h0 ad he hh => by have := hf h0 ad he; omega) u, hf⟩
theorem RowF.old {w0 : World} (h : Row w0 A n xs) (hb : Below w0.heap.size w0 w) (hlo : w0.heap.size ≤ lo) : RowF w lo hi (.slice A n c) xs :=
  ⟨A, n, c, rfl, h.below hb, fun h0 ad he => by
    obtain ⟨b, off, e, hbl, _⟩ := h.1.2 h0
    rw [e] at he
    injection he with he
    subst he
    exact .inl (by show b < lo; omega)⟩
theorem RowF.new {t : TypeId} {base : Nat} (h : w.ownsRow base t 1 (.slice A n c) n (xs.map u64v)) (hx : W64 xs) (hhi : hi ≤ base) : RowF w lo hi (.slice A n c) xs :=
  ⟨A, n, c, rfl, Row.of_own h hx, fun _ ad he => by
    subst he
    have := own_lt_block h _ rfl
    exact .inr (by omega)⟩
theorem RowsF.nil (w : World) : RowsF w lo hi [] [] := ⟨rfl, fun i v xs h => by simp at h⟩
theorem RowsF.rows (h : RowsF w lo hi vs xss) : RowsC w vs xss := ⟨h.1, fun i v xs h1 h2 => (h.2 i v xs h1 h2).row⟩
theorem RowsF.below (h : RowsF w lo hi vs xss) (hb : Below w.heap.size w w') : RowsF w' lo hi vs xss := ⟨h.1, fun i v xs h1 h2 => (h.2 i v xs h1 h2).below hb⟩
theorem RowsF.set {p : Addr} (h : RowsF w lo hi vs xss) (h1 : lo ≤ p.block) (h2 : p.block < hi) (u : Value) : RowsF (w.setCell p u) lo hi vs xss := ⟨h.1, fun i v xs h3 h4 => (h.2 i v xs h3 h4).set h1 h2 u⟩
theorem RowsF.snoc (h : RowsF w lo hi vs xss) (hv : RowF w lo hi v xs) : RowsF w lo hi (vs ++ [v]) (xss ++ [xs]) := by
  refine ⟨by simp [h.1], fun i u ys h1 h2 => ?_⟩
  rcases Nat.lt_or_ge i vs.length with hi' | hi'
  · rw [List.getElem?_append_left hi'] at h1
    rw [List.getElem?_append_left (by rw [← h.1]; exact hi')] at h2
    exact h.2 i u ys h1 h2
  · rw [List.getElem?_append_right hi'] at h1
    rw [List.getElem?_append_right (by rw [← h.1]; exact hi')] at h2
    rw [← h.1] at h2
    rcases Nat.eq_zero_or_pos (i - vs.length) with h0 | h0
    · rw [h0] at h1 h2
      simp at h1 h2
      subst h1 h2
      exact hv
    · rw [List.getElem?_eq_none (by simp; omega)] at h1; cases h1
end

theorem or_of_and {x y : Nat} (h : x &&& y = x) : y ||| x = y := by
  apply Nat.eq_of_testBit_eq
  intro i
  have := congrArg (·.testBit i) h
  simp only [Nat.testBit_and, Nat.testBit_or] at this ⊢
  revert this
  cases x.testBit i <;> cases y.testBit i <;> simp
theorem orR_of_sub {a b : List Nat} (hl : b.length = a.length) (h : subR b a = true) : orR a b = a := by
  unfold subR at h
  rw [List.all_eq_true] at h
  unfold orR
  apply List.ext_getElem?
  intro j
  rw [hl, Nat.max_self, List.getElem?_map]
  rcases Nat.lt_or_ge j a.length with hj | hj
  · rw [List.getElem?_range hj]
    have := h j (List.mem_range.2 (by omega))
    rw [beq_iff_eq] at this
    show some (a.getD j 0 ||| b.getD j 0) = _
    rw [or_of_and this, List.getD_eq_getElem?_getD, List.getElem?_eq_getElem hj]; rfl
  · rw [List.getElem?_eq_none (by simpa using hj), List.getElem?_eq_none hj]; rfl
def orPre (a b : List (List Nat)) (k : Nat) : List (List Nat) := (List.range k).map fun i => orR (a.getD i []) (b.getD i [])
theorem orPre_all (a b : List (List Nat)) : orPre a b a.length = orM a b := rfl
theorem orPre_succ (a b : List (List Nat)) (k : Nat) : orPre a b (k + 1) = orPre a b k ++ [orR (a.getD k []) (b.getD k [])] := by
  unfold orPre; rw [List.range_succ, List.map_append]; rfl

end Go.Proofs.YtjhjojklfdjmdaaGreat

namespace Go.Proofs.YtjhjojklfdjmdaaGreat
open Go.RowKit

section
variable {P : Program} {ops : Array Oper} {md : Region.Mode} {Q : Exit → Act → World → Prop}

/-- Whatever order is picked from here on, till the first n operations are done; each leaves what was there. -/
def wpAnyR (P : Program) (md : Region.Mode) (ops : Array Oper) (Q : Exit → Act → World → Prop) (n : Nat) (F : Array Bool → Act → World → Prop) : Nat → Array Bool → Act → World → Prop
  | 0, listed, a, w => F listed a w
  | f + 1, listed, a, w => Region.ready md ops listed ≠ [] ∧ ∀ i ∈ Region.ready md ops listed, i < n ∧ wpOp P ops Q i (fun a' w' => Below w.heap.size w w' ∧ wpAnyR P md ops Q n F f (listed.setIfInBounds i true) a' w') a w

theorem wpAny_of_R {n g : Nat} {F : Array Bool → Act → World → Prop} (hF : ∀ listed a w, F listed a w → wpAny P md ops Q g listed a w) :
    ∀ (f : Nat) (listed : Array Bool) (a : Act) (w : World), wpAnyR P md ops Q n F f listed a w → wpAny P md ops Q (f + g) listed a w
  | 0, _, _, _, h => by rw [Nat.zero_add]; exact hF _ _ _ h
  | f + 1, listed, a, w, h => by
    rw [show f + 1 + g = (f + g) + 1 by omega]
    exact ⟨fun h0 => absurd h0 h.1, fun i hi => wpOp_mono (fun a' w' h' => wpAny_of_R hF f _ a' w' h'.2) (h.2 i hi).2⟩

theorem below_of {w w' w'' : World} (h : Below w.heap.size w w') (h' : Below w'.heap.size w' w'') : Below w.heap.size w w'' := h.trans (h'.mono h.size)
theorem yields_later {w w' : World} {o : Oper} {v : Value} {a : Act} (hb : Below w.heap.size w w') (h : YieldsIf P ops (fun x => Below w.heap.size w x) o v a) : YieldsIf P ops (fun x => Below w'.heap.size w' x) o v a :=
  h.imp (fun ⟨h1, h2⟩ => ⟨h1, fun x hx => h2 x (below_of hb hx)⟩) id

theorem wpAnyR_first {n i : Nat} {oi : Oper} {v : Value} {F : Array Bool → Act → World → Prop} (hi : ops[i]? = some oi) (hsel : ∀ (j : Nat) (o : Oper) cs b, ops[j]? = some o → o.op ≠ .select cs b)
    (hQ : ∀ c a w, Q (.panic c) (a.put oi.dst v) w → Q (.panic c) a w)
    (hlate : ∀ listed, HeadInv md ops n listed → listed.getD i true = false → ∀ t, n ≤ t → t ∉ Region.ready md ops listed) (hin : i < n)
    (hdone : ∀ listed a w, F listed a w → ∀ j ∈ Region.ready md ops listed, n ≤ j) :
    ∀ (f : Nat) (listed : Array Bool) (a : Act) (w : World), HeadInv md ops n listed →
      (∀ j oj, ops[j]? = some oj → j ≠ i → listed.getD j true = false → (∀ e ∈ oj.after, Region.binds md e = true → e.on ≠ i) → oi.apart ops oj = true) →
      i ∈ Region.ready md ops listed → YieldsIf P ops (fun x => Below w.heap.size w x) oi v a →
      wpAnyR P md ops Q n F f (listed.setIfInBounds i true) (a.put oi.dst v) w → wpAnyR P md ops Q n F (f + 1) listed a w := by
  intro f
  induction f with
  | zero =>
    intro listed a w inv _ hr hy H
    have hun := (mem_ready.1 hr).1
    refine ⟨fun h => (by rw [h] at hr; cases hr), fun j hj => ?_⟩
    have hjn : j < n := by
      rcases Nat.lt_or_ge j n with h | h
      · exact h
      · exact absurd hj (hlate listed inv hun j h)
    refine ⟨hjn, ?_⟩
    by_cases hji : j = i
    · subst hji; exact hy.wpOp hi (Below.refl _ _) ⟨Below.refl _ _, H⟩
    · have := hdone _ _ _ H j (ready_mono hj hji)
      omega
  | succ f ih =>
    intro listed a w inv hfree hr hy H
    have hun := (mem_ready.1 hr).1
    refine ⟨fun h => (by rw [h] at hr; cases hr), fun j hj => ?_⟩
    have hjn : j < n := by
      rcases Nat.lt_or_ge j n with h | h
      · exact h
      · exact absurd hj (hlate listed inv hun j h)
    refine ⟨hjn, ?_⟩
    by_cases hji : j = i
    · subst hji; exact hy.wpOp hi (Below.refl _ _) ⟨Below.refl _ _, H⟩
    · have h1 := (H.2 j (ready_mono hj hji)).2
      obtain ⟨hjun, oj, hoj, hall⟩ := mem_ready.1 hj
      have hnot : ∀ e ∈ oj.after, Region.binds md e = true → e.on ≠ i := fun e he hb heq => by
        have h1 := hall e he hb
        rw [heq, getD_both hun] at h1
        cases h1
      have h2 := wpOp_putIf hoj (hfree j oj hoj hji hjun hnot) (fun cs b => hsel i oi cs b hi) (fun cs b => hsel j oj cs b hoj) hQ hy h1
      have hfree' : ∀ k ok, ops[k]? = some ok → k ≠ i → (listed.setIfInBounds j true).getD k true = false →
          (∀ e ∈ ok.after, Region.binds md e = true → e.on ≠ i) → oi.apart ops ok = true := fun k ok hk hki hun hno => by
        refine hfree k ok hk hki ?_ hno
        by_cases hjk : j = k
        · subst hjk; exact hjun
        · rw [getD_set_ne true hjk] at hun; exact hun
      refine wpOp_mono (fun a' w' h3 => ⟨h3.2.1, ih (listed.setIfInBounds j true) a' w' (inv.set hj hjn) hfree' (ready_mono hr (Ne.symm hji)) (yields_later h3.2.1 h3.1) ?_⟩) h2
      rw [Array.setIfInBounds_comm _ _ hji]
      exact h3.2.2

/-- the plan's check: b: it may come up, and no other that may come up looks at its slot; not b: it alone may come up -/
def planB (md : Region.Mode) (ops : Array Oper) (n : Nat) : List (Bool × Nat) → Array Bool → Bool
  | [], listed => Region.seqB md ops (ops.size - n) n listed
  | (b, i) :: rest, listed => decide (i < n) && (if b then (Region.ready md ops listed).contains i && Region.free md ops listed i else decide (Region.ready md ops listed = [i])) && planB md ops n rest (listed.setIfInBounds i true)
def planAll (md : Region.Mode) (ops : Array Oper) (n : Nat) (pl : List (Bool × Nat)) : Bool :=
  Region.noSelect ops && decide (pl.length = n) && decide (n ≤ ops.size) && (decide (n = ops.size) || (Region.sinkB md ops n && Region.chainB md ops n)) && planB md ops n pl (Array.replicate ops.size false)

/-- the walk of the plan -/
def wpPlan (P : Program) (ops : Array Oper) (Q : Exit → Act → World → Prop) (tail : List Oper) : List (Bool × Nat) → Act → World → Prop
  | [], a, w => wpList P ops Q tail a w
  | (true, i) :: rest, a, w => ∃ o v, ops[i]? = some o ∧ YieldsIf P ops (fun x => Below w.heap.size w x) o v a ∧ wpPlan P ops Q tail rest (a.put o.dst v) w
  | (false, i) :: rest, a, w => wpOp P ops Q i (fun a' w' => Below w.heap.size w w' ∧ wpPlan P ops Q tail rest a' w') a w

theorem wpAnyR_plan {n : Nat} {tail : List Oper} (hsel : Region.noSelect ops = true) (hQ : ∀ c a d v w, Q (.panic c) (a.put d v) w → Q (.panic c) a w)
    (hlate : ∀ listed, HeadInv md ops n listed → ∀ i, i < n → listed.getD i true = false → ∀ t, n ≤ t → t ∉ Region.ready md ops listed) :
    ∀ (pl : List (Bool × Nat)) (listed : Array Bool) (a : Act) (w : World), HeadInv md ops n listed → planB md ops n pl listed = true → wpPlan P ops Q tail pl a w →
    wpAnyR P md ops Q n (fun listed' a' w' => Region.seqB md ops (ops.size - n) n listed' = true ∧ wpList P ops Q tail a' w') pl.length listed a w
  | [], listed, a, w, _, hB, h => ⟨hB, h⟩
  | (true, i) :: rest, listed, a, w, inv, hB, h => by
    simp only [planB, if_true, Bool.and_eq_true, decide_eq_true_eq] at hB
    obtain ⟨⟨hin, hr, hf⟩, hB'⟩ := hB
    obtain ⟨o, v, ho, hy, h'⟩ := h
    have hr' : i ∈ Region.ready md ops listed := by simpa using hr
    exact wpAnyR_first ho (Region.noSelect_spec hsel) (fun c a w => hQ c a o.dst v w) (fun l hl hu => hlate l hl i hin hu) hin (fun listed' a' w' hL => seqB_ready hL.1) rest.length listed a w inv (Region.free_spec ho hf) hr' hy
      (wpAnyR_plan hsel hQ hlate rest _ _ _ (inv.set hr' hin) hB' h')
  | (false, i) :: rest, listed, a, w, inv, hB, h => by
    simp only [planB, Bool.false_eq_true, if_false, Bool.and_eq_true, decide_eq_true_eq] at hB
    obtain ⟨⟨hin, hr⟩, hB'⟩ := hB
    have hr' : i ∈ Region.ready md ops listed := by rw [hr]; simp
    refine ⟨by rw [hr]; simp, fun j hj => ?_⟩
    rw [hr] at hj
    have hji : j = i := by simpa using hj
    subst hji
    exact ⟨hin, wpOp_mono (fun a' w' h3 => ⟨h3.1, wpAnyR_plan hsel hQ hlate rest _ a' w' (inv.set hr' hin) hB' h3.2⟩) h⟩

theorem wpAny_plan {a : Act} {w : World} {l : List Oper} (n : Nat) (pl : List (Bool × Nat)) (hB : planAll .any l.toArray n pl = true)
    (h : ∀ W : World, Hid (W = w.drew) → wpPlan P l.toArray (NoPanic Q) (l.drop n) pl a W) : wpAny P .any l.toArray (NoPanic Q) l.toArray.size (Array.replicate l.toArray.size false) a { w with drawn := w.drawn + 1 } := by
  have hQ : ∀ c a d v w, NoPanic Q (.panic c) (a.put d v) w → NoPanic Q (.panic c) a w := fun _ _ _ _ _ h => h
  simp only [planAll, Bool.and_eq_true, decide_eq_true_eq] at hB
  obtain ⟨⟨⟨⟨hsel, hlen⟩, hn⟩, hsc⟩, hpl⟩ := hB
  have hn' : n ≤ l.length := by simpa using hn
  have hdl : (l.drop n).length = l.toArray.size - n := by simp
  have inv0 : HeadInv .any l.toArray n (Array.replicate l.toArray.size false) :=
    ⟨by simp, fun j oj _ hl => (by rw [getD_replicate_false] at hl; cases hl), fun t _ ht => getD_in (by simpa using ht) (getD_replicate_false _ _)⟩
  have hlate : ∀ listed, HeadInv .any l.toArray n listed → ∀ i, i < n → listed.getD i true = false → ∀ t, n ≤ t → t ∉ Region.ready .any l.toArray listed := by
    intro listed inv i hin hun t ht hr
    rw [Bool.or_eq_true, decide_eq_true_eq, Bool.and_eq_true] at hsc
    obtain ⟨_, ot, hot, _⟩ := mem_ready.1 hr
    have htl := (Array.getElem?_eq_some_iff.1 hot).1
    rcases hsc with h0 | ⟨hs, hc⟩
    · omega
    · exact tail_waits hs hc (by omega) inv _ i rfl hin hun t ht hr
  have H := wpAnyR_plan (md := .any) hsel hQ hlate pl _ a w.drew inv0 hpl (h w.drew (Lib.hid rfl))
  have := wpAny_of_R (Q := NoPanic Q) (g := l.toArray.size - n) (fun listed a' w' hL => by
    have := wpAny_of_seq (md := .any) (Q' := NoPanic Q) (l.drop n) n listed a' w' (fun j => by simp [List.getElem?_drop]) (by rw [hdl]; exact hL.1) hL.2
    rwa [hdl] at this) _ _ _ _ H
  rw [hlen, show n + (l.toArray.size - n) = l.toArray.size by omega] at this
  exact this
theorem wp_region_plan {id : Nat} {a : Act} {w : World} {l : List Oper} (n : Nat) (pl : List (Bool × Nat)) (hm : P.follows .mixedOrders = true) (hB : planAll .any l.toArray n pl = true)
    (h : ∀ W : World, Hid (W = w.drew) → wpPlan P l.toArray (NoPanic Q) (l.drop n) pl a W) : (Code.region id l.toArray true).wp P Q a w :=
  wp_region_noPanic (wp_region_any hm (wpAny_plan n pl hB h))

/-! ### the steps -/
section
variable {tail : List Oper} {rest : List (Bool × Nat)} {a : Act} {w : World} {i : Nat} {o : Oper}
/-- what only reads: its value, in every world whose cells are those of w, where w has any -/
theorem wpPlan_float {v : Value} (hi : ops[i]? = some o) (hw : Region.wanted o (yielded ops a.tmps) = true)
    (hy : ∀ w' : World, (∀ p, (w.cell? p).isSome = true → w'.cell? p = w.cell? p) → (execOp a.eval o).run P w' = .ok (.value v) w') (h : ∀ K : Act → Prop, (∀ a', wpPlan P ops Q tail rest a' w → K a') → K (a.put o.dst v)) : wpPlan P ops Q tail ((true, i) :: rest) a w :=
  ⟨o, v, hi, .inl ⟨hw, fun w' hb => hy w' (fun p hp => by
    have hlt : p.block < w.heap.size := by
      cases hc : w.cell? p with
      | none => rw [hc] at hp; cases hp
      | some u => exact block_lt_of_cell hc
    exact hb.cell hlt)⟩, h _ (fun _ h => h)⟩
theorem wpPlan_skip (hi : ops[i]? = some o) (hw : Region.wanted o (yielded ops a.tmps) = false) (h : ∀ K : Act → Prop, (∀ a', wpPlan P ops Q tail rest a' w → K a') → K (a.put o.dst undef)) : wpPlan P ops Q tail ((true, i) :: rest) a w :=
  ⟨o, undef, hi, .inr ⟨hw, rfl⟩, h _ (fun _ h => h)⟩
/-- what comes up alone: a call -/
theorem wpPlan_only (hi : ops[i]? = some o) (hw : Region.wanted o (yielded ops a.tmps) = true)
    (h : ∀ K : Act → World → Prop, (∀ a' w', Below w.heap.size w w' → wpPlan P ops Q tail rest a' w' → K a' w') → o.wp P a w K Q) : wpPlan P ops Q tail ((false, i) :: rest) a w := by
  show wpOp P ops Q i _ a w
  unfold wpOp
  simp only [hi, hw, if_true]
  exact .inl (h _ (fun a' w' hb hp => ⟨hb, hp⟩))
theorem wpPlan_nil (h : wpList P ops Q tail a w) : wpPlan P ops Q tail [] a w := h
end
end
end Go.Proofs.YtjhjojklfdjmdaaGreat

namespace Go.Proofs.YtjhjojklfdjmdaaGreat
open Go.RowKit
set_option linter.unusedVariables false

/-- what 'join' ends in: one of both, or a row of its own -/
def RetJoin (A B : Option Addr) (xs ys : List Nat) (w : World) (e : Ending) (w' : World) : Prop :=
  ∃ C n c, e = .returned (.slice C n c) ∧ Row w' C n (orR xs ys) ∧ Below w.heap.size w w' ∧ (C = A ∨ C = B ∨ ∀ ad, C = some ad → w.heap.size ≤ ad.block)
set_option maxHeartbeats 400000 in
theorem mat_join (A B : Option Addr) (n c d : Nat) (xs ys : List Nat) (w : World) (hr : Row w A n xs) (hs : Row w B n ys) (hn : n ≤ 1073741824) :
    Calls Tryz.prog 79 #[.slice A n c, .slice B n d] w (RetJoin A B xs ys w) := by
  have hl1 := hr.len
  have hl2 := hs.len
  have h1 := Lib.hid (row_Sub B A n n d c ys xs w hs hr (by omega) (by omega))
  have h2 := Lib.hid (row_Sub A B n n c d xs ys w hr hs (by omega) (by omega))
  have h3 := Lib.hid (row_OrO A B n n c d xs ys w hr hs (by omega) (by omega))
  rcases Bool.eq_false_or_eq_true (subR ys xs) with ha | ha
  · have he := Lib.hid (orR_of_sub (by omega) ha)
    replace ha := Lib.hid ha
    replace hr := Lib.hid hr
    clear hl1 hl2 hs
    go_enter Tryz.func79, Tryz.ntmps79
    go_wp2_with fail
    refine h1.out.mono ?_; rintro e w' ⟨rfl, rfl⟩
    rw [ha.out]
    go_wp2
    go_ret
    exact ⟨_, _, _, rfl, by rw [he.out]; exact hr.out, Below.refl _ _, .inl rfl⟩
  · replace ha := Lib.hid ha
    rcases Bool.eq_false_or_eq_true (subR xs ys) with hb | hb
    · have he := orR_of_sub (a := ys) (b := xs) (by omega) hb
      rw [orR_comm] at he
      replace he := Lib.hid he
      replace hb := Lib.hid hb
      replace hs := Lib.hid hs
      clear hl1 hl2 hr
      go_enter Tryz.func79, Tryz.ntmps79
      go_wp2_with fail
      refine h1.out.mono ?_; rintro e w' ⟨rfl, rfl⟩
      rw [ha.out]
      go_wp2_with fail
      refine h2.out.mono ?_; rintro e w' ⟨rfl, rfl⟩
      rw [hb.out]
      go_wp2
      go_ret
      exact ⟨_, _, _, rfl, by rw [he.out]; exact hs.out, Below.refl _ _, .inr (.inl rfl)⟩
    · replace hb := Lib.hid hb
      clear hl1 hl2 hr hs
      go_enter Tryz.func79, Tryz.ntmps79
      go_wp2_with fail
      refine h1.out.mono ?_; rintro e w' ⟨rfl, rfl⟩
      rw [ha.out]
      go_wp2_with fail
      refine h2.out.mono ?_; rintro e w' ⟨rfl, rfl⟩
      rw [hb.out]
      go_wp2_with fail
      refine h3.out.mono ?_; rintro e w1 ⟨C, p, q, rfl, ho, hx, hbb⟩
      go_wp2
      go_ret
      exact ⟨_, _, _, rfl, Row.of_own ho hx, hbb, .inr (.inr (fun ad e => by subst e; exact own_lt_block ho _ rfl))⟩

set_option maxHeartbeats 2000000 in
theorem mat_Or (A B : Option Addr) (n c d : Nat) (xss yss : List (List Nat)) (w : World) (hr : RowsAt w A n xss) (hs : RowsAt w B n yss) (hn : n ≤ 4096)
    (hl : ∀ (i : Nat) (xs ys : List Nat), xss[i]? = some xs → yss[i]? = some ys → xs.length = ys.length ∧ xs.length ≤ 1024) :
    Calls Tryz.prog 50 #[.agg #[.int .i64 (n : Int), .slice A n c], .agg #[.int .i64 (n : Int), .slice B n d]] w (RetMat (n : Int) (orM xss yss) 0 w) := by
  have hmk := mk_rows .i64 .i64 n n (Nat.le_refl _) (by omega)
  have hxl := hr.len
  obtain ⟨W0, hW0⟩ : ∃ W0, W0 = ((w.alloc (.cells #[.int .i64 n, .slice A n c] 57)).alloc (.cells #[.int .i64 n, .slice B n d] 57)).alloc (.cells #[.int .i64 0, .slice none 0 0] 57) := ⟨_, rfl⟩
  have ha : Below w.heap.size w W0 := by rw [hW0]; exact (((Below.refl _ _).alloc (Nat.le_refl _) _).alloc (by simp <;> omega) _).alloc (by simp <;> omega) _
  have hBa : MatB W0 w.heap.size 57 n A n c := by rw [hW0]; exact ((MatB.new w _).below_ ((Below.refl _ _).alloc (Nat.le_refl _) _)).below_ ((Below.refl _ _).alloc (Nat.le_refl _) _)
  have hBb : MatB W0 (w.heap.size + 1) 57 n B n d := by rw [hW0]; exact (MatB.new1 w _ _).below_ ((Below.refl _ _).alloc (Nat.le_refl _) _)
  have hBr : MatB W0 (w.heap.size + 2) 57 0 none 0 0 := by
    rw [hW0]
    have h := MatB.new1 (N := 0) (A := none) (n := 0) (c := 0) (w.alloc (.cells #[.int .i64 n, .slice A n c] 57)) (.cells #[.int .i64 n, .slice B n d] 57) 57
    rwa [show (w.alloc (.cells #[.int .i64 n, .slice A n c] 57)).heap.size = w.heap.size + 1 from by simp] at h
  have hs0 : W0.heap.size = w.heap.size + 3 := by rw [hW0]; simp
  obtain ⟨W1, hW1⟩ : ∃ W1, W1 = W0.alloc (.cells (zeros n (.slice none 0 0)) 88) := ⟨_, rfl⟩
  have hb01 : Below W0.heap.size W0 W1 := by rw [hW1]; exact (Below.refl _ _).alloc (Nat.le_refl _) _
  have hs1 : W1.heap.size = w.heap.size + 4 := by rw [hW1]; simp [hs0]
  have hown0 : W1.ownsRow (w.heap.size + 3) 88 1 (.slice (some ⟨w.heap.size + 3, 0, none⟩) n n) n (filled [] n) := by
    have h := own_zeros W0 n (.slice none 0 0) 88 (by unfold maxLen; omega)
    rw [← hW1, hs0] at h
    rw [filled_nil]; exact h
  have hp : W0.heap.size = w.heap.size + 3 := hs0
  have l1 := hBa.c0
  have l2 := hBb.c0
  have hne : ((n : Int) != (n : Int)) = false := by simp
  have hBa1 := Lib.hid (hBa.below_ hb01)
  have hBb1 := Lib.hid (hBb.below_ hb01)
  have hBr1 := Lib.hid (hBr.below_ hb01)
  have ha1 := Lib.hid (below_trans2 ha hb01)
  have hs1' := Lib.hid hs1
  replace hown0 := Lib.hid hown0
  replace hr := Lib.hid hr
  replace hs := Lib.hid hs
  replace hl := Lib.hid hl
  replace hxl := Lib.hid hxl
  clear ha hBa hBb hBr hs1 hb01 hs0
  go_enter Tryz.func50, Tryz.ntmps50
  go_wp2_with fail
  rw [← hW0, ← hW1]
  clear hW1 hW0 hmk hp l1 l2
  go_loopw [19] (fun i wr => ∃ vs : List Value, vs.length ≤ n ∧ i = .int .i64 vs.length ∧ Hid (wr.ownsRow (w.heap.size + 3) 88 1 (.slice (some ⟨w.heap.size + 3, 0, none⟩) n n) n (filled vs n)) ∧ Hid (RowsF wr w.heap.size (w.heap.size + 4) vs (orPre xss yss vs.length)) ∧ Hid (MatB wr w.heap.size 57 n A n c) ∧ Hid (MatB wr (w.heap.size + 1) 57 n B n d) ∧ Hid (MatB wr (w.heap.size + 2) 57 0 none 0 0) ∧ Hid (Below w.heap.size w wr) ∧ Hid (w.heap.size + 4 ≤ wr.heap.size)) (fun i _ => n - (intOf i).toNat)
  case atStart => exact ⟨[], Nat.zero_le _, rfl, hown0, Lib.hid (RowsF.nil _), hBa1, hBb1, hBr1, ha1, Lib.hid (by rw [hs1'.out]; exact Nat.le_refl _)⟩
  case round =>
    obtain ⟨vs, hk, rfl, hown, hrows, hBa, hBb, hBr, hbr, hsr⟩ := hrel
    clear hown0 hBa1 hBb1 hBr1 ha1
    obtain ⟨k, hke⟩ : ∃ k, k = vs.length := ⟨_, rfl⟩
    rw [← hke] at hk
    rw [← hke]
    by_cases hlt : k < n
    · have hke' := Lib.hid hke
      clear hke
      obtain ⟨b1, o1, A1, n1, c1, xs, rfl, hbl1, hx1, hc1, hrx⟩ := hr.out.at_ hlt
      obtain ⟨b2, o2, B1, n2, c2, ys, rfl, hbl2, hy1, hc2, hry⟩ := hs.out.at_ hlt
      have hxy := hl.out k xs ys hx1 hy1
      have e12 : n2 = n1 := by have := hrx.len; have := hry.len; omega
      subst e12
      have hn1 : n2 ≤ 1024 := by have := hrx.len; omega
      replace hc1 := (hbr.out.cell (p := ⟨b1, o1 + k, none⟩) hbl1).trans hc1
      replace hc2 := (hbr.out.cell (p := ⟨b2, o2 + k, none⟩) hbl2).trans hc2
      have hstep : Hid (orPre xss yss (k + 1) = orPre xss yss k ++ [orR xs ys]) := Lib.hid (by rw [orPre_succ, getD_at hx1, getD_at hy1])
      have la := hBa.out.c1
      have lb := hBb.out.c1
      have hget := filled_get (vs := vs) (n := n) (by rw [← hke'.out]; exact hlt)
      have hfg := hown.out.frozenAt k
      have hcg := hown.out.cellAt k (by omega)
      rw [hke'.out, hget, ← hke'.out] at hcg
      replace hrx := Lib.hid hrx
      replace hry := Lib.hid hry
      clear hx1 hy1 hxy hget
      have hk0 : (0 : Int) ≤ (k : Int) := by omega
      have hkn : (k : Int) < (n : Int) := by omega
      go_wp2_with fail
      refine wp_region_plan 13 [(true, 0), (true, 1), (true, 2), (true, 3), (true, 4), (true, 5), (true, 6), (true, 7), (true, 8), (true, 9), (true, 10), (true, 11), (false, 12)] (by kernel_rfl) (by kernel_rfl) (fun W hW => ?_)
      have hbW : Below wr.heap.size wr W := by rw [hW.out]; exact (Below.refl _ _).drew
      have m1 : W.cell? ⟨w.heap.size, 1, none⟩ = some (.slice (some ⟨b1, o1, none⟩) n c) := by rw [hW.out]; exact la
      have m2 : W.cell? ⟨w.heap.size + 1, 1, none⟩ = some (.slice (some ⟨b2, o2, none⟩) n d) := by rw [hW.out]; exact lb
      have m3 : W.cell? ⟨b1, o1 + k, none⟩ = some (.slice A1 n2 c1) := by rw [hW.out]; exact hc1
      have m4 : W.cell? ⟨b2, o2 + k, none⟩ = some (.slice B1 n2 c2) := by rw [hW.out]; exact hc2
      have hbrW := Lib.hid (below_trans2 hbr.out hbW)
      have hownW := Lib.hid (own_below hown.out hbW)
      have hrowsW := Lib.hid (hrows.out.below hbW)
      have hBaW := Lib.hid (hBa.out.below_ hbW)
      have hBbW := Lib.hid (hBb.out.below_ hbW)
      have hBrW := Lib.hid (hBr.out.below_ hbW)
      have hsW : Hid (w.heap.size + 4 ≤ W.heap.size) := Lib.hid (Nat.le_trans hsr.out hbW.size)
      have hj := Lib.hid (mat_join A1 B1 n2 c1 c2 xs ys W (hrx.out.below hbrW.out) (hry.out.below hbrW.out) (by omega))
      clear hbW hown hrows hBa hBb hBr hbr hsr la lb hc1 hc2 hfg hcg
      simp only [List.drop_succ_cons, List.drop_zero]
      iterate 12
        refine wpPlan_float (v := ?_) rfl (by rfl) (fun w' hw' => ?_) (fun K hK => ?_)
        rotate_left
        · (go_simp; try with_reducible rfl)
        go_simp
        refine hK _ ?_
        clear hK K
      refine wpPlan_only rfl (by rfl) (fun K hK => ?_)
      go_simp
      refine hj.out.mono ?_; rintro e w1 ⟨C, p, q, rfl, hC, hb1, hfr⟩
      refine hK _ _ hb1 (wpPlan_nil ?_)
      clear hK K
      have hown1 := own_below hownW.out hb1
      have hget := filled_get (vs := vs) (n := n) (by rw [← hke'.out]; exact hlt)
      have hcg := hown1.cellAt k (by omega)
      rw [hke'.out, hget, ← hke'.out] at hcg
      have hfg := hown1.frozenAt k
      have hCF : Hid (RowF w1 w.heap.size (w.heap.size + 4) (.slice C p q) (orR xs ys)) := Lib.hid ⟨C, p, q, rfl, hC, fun h0 ad he => by
        have hp0 : 0 < n2 := by
          have h1 := hC.len
          have h2 := orR_len xs ys
          have h3 := hrx.out.len
          have h4 := hry.out.len
          omega
        rcases hfr with h | h | h
        · subst h
          obtain ⟨b, off, e, hbl, _⟩ := hrx.out.1.2 hp0
          rw [e] at he
          injection he with he
          subst he
          exact .inl hbl
        · subst h
          obtain ⟨b, off, e, hbl, _⟩ := hry.out.1.2 hp0
          rw [e] at he
          injection he with he
          subst he
          exact .inl hbl
        · exact .inr (Nat.le_trans hsW.out (h ad he))⟩
      have hrows1 := Lib.hid ((hrowsW.out.below hb1).snoc hCF.out)
      have hBa1 := Lib.hid (hBaW.out.below_ hb1)
      have hBb1 := Lib.hid (hBbW.out.below_ hb1)
      have hBr1 := Lib.hid (hBrW.out.below_ hb1)
      have hbr1 := Lib.hid (below_trans2 hbrW.out hb1)
      have hsr1 := Lib.hid (Nat.le_trans hsW.out hb1.size)
      replace hown1 := Lib.hid hown1
      clear hC hb1 hfr hget hownW hrowsW hBaW hBbW hBrW hbrW hsW m1 m2 m3 m4
      go_wp2_with fail
      refine NoPanic.normal ?_
      go_wp2_with fail
      go_roundw
      case rel =>
        refine ⟨vs ++ [.slice C p q], by have := hke'.out; simp; omega, by rw [List.length_append, ← hke'.out]; simp; try omega, ?_, ?_, ?_, ?_, ?_, ?_, ?_⟩
        · refine Lib.hid ?_
          rw [← filled_set (by rw [← hke'.out]; exact hlt), ← hke'.out]
          exact (hown1.out.stored k (.slice C p q)).1
        · refine Lib.hid ?_
          rw [List.length_append, List.length_singleton, ← hke'.out, hstep.out]
          have h := hrows1.out.set (p := ⟨w.heap.size + 3, k, none⟩) (by simp <;> omega) (by simp <;> omega) (.slice C p q)
          rw [← hke'.out] at h
          exact h
        · exact Lib.hid (hBa1.out.far (by simp <;> omega) _)
        · exact Lib.hid (hBb1.out.far (by simp <;> omega) _)
        · exact Lib.hid (hBr1.out.far (by simp <;> omega) _)
        · exact Lib.hid (hbr1.out.setCell (by simp <;> omega) _)
        · exact Lib.hid (by simpa using hsr1.out)
      case measure => simp [intOf]; omega
    · have hkn : k = n := by omega
      have hvn : vs.length = n := by rw [← hke, hkn]
      clear hlt
      have l1 := hBa.out.c0
      have f20 := hBr.out.c0
      have f21 := hBr.out.c1
      have g20 := hBr.out.frozen 0
      have g21 := hBr.out.frozen 1
      replace hvn := Lib.hid hvn
      replace hke := Lib.hid hke
      obtain rfl := hkn
      go_wp2_with fail
      have hcc := hBr.out.two (.int .i64 k) (.slice (some ⟨w.heap.size + 3, 0, none⟩) k k)
      have hc1 := hcc.1
      have hc2 := hcc.2
      clear hcc f20 f21 g20 g21 l1
      refine bodyPost_ret (v := .tuple #[.agg #[.int .i64 k, .slice (some ⟨w.heap.size + 3, 0, none⟩) k k], .int .i64 0]) (by simp [results, Tryz.results50, go_sem, hc1, hc2]) rfl ⟨_, _, _, rfl, ⟨vs, ?_, ?_⟩, Nat.le_refl _, ?_⟩
      · have h := hown.out
        rw [filled_all hvn.out] at h
        exact Rd.of_own' (own_far (own_far h (p := ⟨w.heap.size + 2, 0, none⟩) (by simp [Value.ownBlock]) _) (p := ⟨w.heap.size + 2, 1, none⟩) (by simp [Value.ownBlock]) _)
      · have h := (hrows.out.set (p := ⟨w.heap.size + 2, 0, none⟩) (by simp) (by simp <;> omega) (.int .i64 k)).set (p := ⟨w.heap.size + 2, 1, none⟩) (by simp) (by simp <;> omega) (.slice (some ⟨w.heap.size + 3, 0, none⟩) k k)
        have he : orPre xss yss vs.length = orM xss yss := by rw [hvn.out, ← orPre_all, hxl.out]
        rw [he] at h
        exact h.rows
      · exact (hbr.out.setCell (by simp <;> omega) _).setCell (by simp <;> omega) _

end Go.Proofs.YtjhjojklfdjmdaaGreat

namespace Go.Proofs.YtjhjojklfdjmdaaGreat
open Go.RowKit
set_option linter.unusedVariables false

end Go.Proofs.YtjhjojklfdjmdaaGreat

namespace Go.Proofs.YtjhjojklfdjmdaaGreat
open Go.RowKit
set_option linter.unusedVariables false

end Go.Proofs.YtjhjojklfdjmdaaGreat

namespace Go.Proofs.YtjhjojklfdjmdaaGreat
open Go.RowKit
set_option linter.unusedVariables false

def cellsP (ps : List (Int × Int)) : List Value := ps.flatMap fun p => [.int .i64 p.1, .int .i64 p.2]
theorem cellsP_len (ps : List (Int × Int)) : (cellsP ps).length = ps.length * 2 := by
  induction ps with
  | nil => rfl
  | cons p ps ih =>
    unfold cellsP at ih ⊢
    rw [List.flatMap_cons, List.length_append, ih]
    simp; omega
theorem cellsP_snoc (ps : List (Int × Int)) (p : Int × Int) : cellsP (ps ++ [p]) = cellsP ps ++ [.int .i64 p.1, .int .i64 p.2] := by
  unfold cellsP; rw [List.flatMap_append]; simp
theorem cellsP_get : ∀ (ps : List (Int × Int)) (j : Nat) (p : Int × Int), ps[j]? = some p → (cellsP ps)[j * 2]? = some (.int .i64 p.1) ∧ (cellsP ps)[j * 2 + 1]? = some (.int .i64 p.2)
  | [], j, p, h => by simp at h
  | q :: ps, 0, p, h => by
    simp at h
    subst h
    unfold cellsP
    simp
  | q :: ps, j + 1, p, h => by
    have ih := cellsP_get ps j p (by simpa using h)
    unfold cellsP at ih ⊢
    rw [List.flatMap_cons]
    rw [show (j + 1) * 2 = j * 2 + 2 from by omega]
    exact ⟨by simpa using ih.1, by simpa using ih.2⟩
def OkI (ps : List (Int × Int)) : Prop := ∀ p ∈ ps, (-9223372036854775808 ≤ p.1 ∧ p.1 < 9223372036854775808) ∧ (-9223372036854775808 ≤ p.2 ∧ p.2 < 9223372036854775808)
theorem PairsAt.of_own {w : World} {base n : Nat} {e : TypeId} {v : Value} {ps : List (Int × Int)} (h : w.ownsRow base e 2 v n (cellsP ps)) (hp : OkI ps) : ∃ A c, v = .slice A n c ∧ PairsAt w A n ps := by
  have hlen : ps.length = n := by have := h.1; rw [cellsP_len] at this; omega
  rcases h.2 with ⟨rfl, h0⟩ | ⟨g, cap, cur, rfl, hbg, hg, hnc, hcm, hcs, htake⟩
  · obtain rfl : n = 0 := h0
    exact ⟨none, 0, rfl, hlen, hp, fun hh => by omega⟩
  · refine ⟨_, _, rfl, hlen, hp, fun hn => ⟨g, 0, rfl, (Array.getElem?_eq_some_iff.1 hg).1, fun j p hj => ?_⟩⟩
    have hjl : j < ps.length := (List.getElem?_eq_some_iff.1 hj).1
    obtain ⟨h1, h2⟩ := cellsP_get ps j p hj
    have key : ∀ q u, q < n * 2 → (cellsP ps)[q]? = some u → w.cell? ⟨g, 0 + q, none⟩ = some u := fun q u hq hu => by
      rw [Nat.zero_add, cell_of_row w g q cur e (0, 0) hg]
      rw [← htake, List.getElem?_take_of_lt hq] at hu
      simpa using hu
    refine ⟨key _ _ (by omega) h1, ?_⟩
    have := key (j * 2 + 1) _ (by omega) h2
    rwa [show 0 + (j * 2 + 1) = 0 + j * 2 + 1 from by omega] at this

/-! ### the pairs of a matrix -/
def pairsK (xss : List (List Nat)) (k : Nat) : List (Int × Int) := (List.range k).flatMap fun i => (listR (xss.getD i [])).map fun j => ((i : Int), j)
def pairsM (xss : List (List Nat)) : List (Int × Int) := pairsK xss xss.length

theorem info_pair : (Tryz.prog.info? 99).map (fun i => (i.zero, i.size, i.bytes)) = some (some (.agg #[.int .i64 0, .int .i64 0]), 2, 16) := by kernel_rfl
theorem cell_two_new (w : World) (t : TypeId) (x y : Value) : ∀ (j : Nat) (u : Value), [x, y][j]? = some u → (w.alloc (.cells #[x, y] t)).cell? ((⟨w.heap.size, 0, none⟩ : Addr).add j) = some u := by
  intro j u hu
  have hB := Blk.new w t [x, y]
  have h := hB.cell j
  have e : (⟨w.heap.size, 0, none⟩ : Addr).add j = ⟨w.heap.size, j, none⟩ := by unfold Addr.add; split <;> simp_all
  rw [e]
  exact h.trans hu

end Go.Proofs.YtjhjojklfdjmdaaGreat

namespace Go.Proofs.YtjhjojklfdjmdaaGreat
open Go.RowKit
set_option linter.unusedVariables false

/-- the rows of a matrix that may be: each of as many words as the number wants, and no bit behind it -/
structure Good (n : Nat) (xss : List (List Nat)) : Prop where
  le : n ≤ 4096
  len : xss.length = n
  row : ∀ r ∈ xss, W64 r ∧ n ≤ 64 * r.length ∧ r.length = (wordsZ (n : Int)).toNat ∧ ∀ j : Nat, n ≤ j → hasR r (j : Int) = false
theorem Good.at_ {n : Nat} {xss : List (List Nat)} (h : Good n xss) {a : Nat} (ha : a < n) : ∃ r, xss[a]? = some r ∧ W64 r ∧ n ≤ 64 * r.length := by
  have hl : a < xss.length := by rw [h.len]; exact ha
  exact ⟨xss[a], List.getElem?_eq_getElem hl, (h.row _ (List.getElem_mem hl)).1, (h.row _ (List.getElem_mem hl)).2.1⟩
theorem Good.small {n : Nat} {xss : List (List Nat)} (h : Good n xss) : ∀ r ∈ xss, r.length ≤ 64 := fun r hr => by
  have := (h.row r hr).2.2.1
  have := words_le h.le
  omega
theorem Good.set {n : Nat} {xss : List (List Nat)} (h : Good n xss) {a b : Nat} (ha : a < n) (hb : b < n) : Good n (setM xss (a : Int) (b : Int)) := by
  obtain ⟨r, hr, hw, hl⟩ := h.at_ ha
  rw [setM_nat hr]
  have hrow := h.row r (List.mem_of_getElem? hr)
  refine ⟨h.le, by rw [List.length_set]; exact h.len, fun r' hr' => ?_⟩
  rcases List.mem_or_eq_of_mem_set hr' with h1 | rfl
  · exact h.row r' h1
  · refine ⟨setR_w64 hw b, by rw [setR_len]; exact hl, by rw [setR_len]; exact hrow.2.2.1, fun j hj => ?_⟩
    rw [hasR_setR r b j (by omega), hrow.2.2.2 j hj, decide_eq_false (by omega)]; rfl

theorem set_at {α : Type} {xss : List α} {a : Nat} {r r' : α} (h : xss[a]? = some r) : (xss.set a r')[a]? = some r' := by
  rw [List.getElem?_set, if_pos rfl, if_pos (List.getElem?_eq_some_iff.1 h).1]
theorem map_range_getD {α β : Type} (l : List α) (d : α) (f : α → β) : (List.range l.length).map (fun i => f (l.getD i d)) = l.map f := by
  apply List.ext_getElem?
  intro i
  by_cases hi : i < l.length
  · rw [List.getElem?_map, List.getElem?_range hi, List.getElem?_map, List.getElem?_eq_getElem hi, Option.map_some, Option.map_some, getD_at (List.getElem?_eq_getElem hi)]
  · rw [List.getElem?_eq_none (by simpa using hi), List.getElem?_eq_none (by simpa using hi)]

end Go.Proofs.YtjhjojklfdjmdaaGreat

namespace Go.Proofs.YtjhjojklfdjmdaaGreat

/-! ### one size: the rows, one by one -/

/-! ### the bits -/

end Go.Proofs.YtjhjojklfdjmdaaGreat

namespace Go.Proofs.YtjhjojklfdjmdaaGreat
open Go.RowKit
set_option linter.unusedVariables false

/-- all but block g is as it was; how often the order was drawn is not said -/
structure OnlyAt (g : Nat) (w w' : World) : Prop where
  os : w'.os = w.os
  tape : w'.tape = w.tape
  output : w'.output = w.output
  size : w'.heap.size = w.heap.size
  block : ∀ k, k ≠ g → w'.heap[k]? = w.heap[k]?
theorem OnlyAt.refl (g : Nat) (w : World) : OnlyAt g w w := ⟨rfl, rfl, rfl, rfl, fun _ _ => rfl⟩
theorem OnlyAt.drewN {g : Nat} {w w' : World} (h : OnlyAt g w w') (n : Nat) : OnlyAt g w (w'.drewN n) := ⟨h.os, h.tape, h.output, h.size, h.block⟩
theorem OnlyAt.set {g : Nat} {w w' : World} (h : OnlyAt g w w') (o : Nat) (u : Value) : OnlyAt g w (w'.setCell ⟨g, o, none⟩ u) :=
  ⟨h.os, h.tape, h.output, by simpa using h.size, fun k hk => (Below.heap_setCell w' ⟨g, o, none⟩ u k (by simpa using hk)).trans (h.block k hk)⟩
theorem OnlyAt.below {g : Nat} {w w' : World} (h : OnlyAt g w w') : Below g w w' := ⟨h.os, h.tape, h.output, by rw [h.size]; exact Nat.le_refl _, fun k hk => h.block k (by omega)⟩
theorem OnlyAt.cell {g : Nat} {w w' : World} (h : OnlyAt g w w') {p : Addr} (hp : p.block ≠ g) : w'.cell? p = w.cell? p := World.cell?_of_block (h.block _ hp)

end Go.Proofs.YtjhjojklfdjmdaaGreat

namespace Go.Proofs.YtjhjojklfdjmdaaGreat
open Go.RowKit

section
variable {P : Program} {ops : Array Oper} {rest : List Oper} {op : Oper} {a : Act} {w : World} {Q : Exit → Act → World → Prop}
end

end Go.Proofs.YtjhjojklfdjmdaaGreat

namespace Go.Proofs.YtjhjojklfdjmdaaGreat
open Go.RowKit
set_option linter.unusedVariables false

end Go.Proofs.YtjhjojklfdjmdaaGreat

namespace Go.Proofs.YtjhjojklfdjmdaaGreat
open Go.RowKit
set_option linter.unusedVariables false

end Go.Proofs.YtjhjojklfdjmdaaGreat

namespace Go.Proofs.YtjhjojklfdjmdaaGreat
open Go.RowKit
set_option linter.unusedVariables false

end Go.Proofs.YtjhjojklfdjmdaaGreat

namespace Go.Proofs.YtjhjojklfdjmdaaGreat
open Go.RowKit
set_option linter.unusedVariables false

theorem hasM_setM {n : Nat} {xss : List (List Nat)} (h : Good n xss) {a b : Nat} (ha : a < n) (hb : b < n) (i j : Nat) : hasM (setM xss (a : Int) (b : Int)) (i : Int) (j : Int) = (hasM xss (i : Int) (j : Int) || decide (i = a ∧ j = b)) := by
  obtain ⟨r, hr, hw, hl⟩ := h.at_ ha
  rw [setM_nat hr]
  by_cases hia : i = a
  · subst hia
    rw [hasM_in (set_at hr), hasM_in hr, hasR_setR r b j (by omega)]
    congr 1
    simp
  · rw [decide_eq_false (by omega), Bool.or_false]
    by_cases hi : i < xss.length
    · have hx : xss[i]? = some xss[i] := List.getElem?_eq_getElem hi
      rw [hasM_in hx, hasM_in (xs := xss[i]) (by rw [List.getElem?_set, if_neg (Ne.symm hia)]; exact hx)]
    · rw [hasM_out (xss := xss) (.inr (by omega)), hasM_out (xss := xss.set a (setR r (b : Int))) (.inr (by rw [List.length_set]; omega))]
theorem Good.new {n : Nat} (hn : n ≤ 4096) : Good n (newM n) := by
  refine ⟨hn, by simp [newM], fun r hr => ?_⟩
  have hp : 0 < n := by
    rcases Nat.eq_zero_or_pos n with rfl | hp
    · simp [newM] at hr
    · exact hp
  have he : r = List.replicate (wordsZ (n : Int)).toNat 0 := by unfold newM at hr; exact (List.mem_replicate.1 hr).2
  subst he
  refine ⟨fun x hx => by rw [(List.mem_replicate.1 hx).2]; omega, by rw [List.length_replicate]; exact (words_pos hp).2, by rw [List.length_replicate], fun j _ => hasR_zeros _ _⟩
theorem newM_has (n i j : Nat) : hasM (newM n) (i : Int) (j : Int) = false := by
  by_cases hi : i < n
  · rw [hasM_in (xs := List.replicate (wordsZ (n : Int)).toNat 0) (by unfold newM; rw [List.getElem?_replicate, if_pos hi])]; exact hasR_zeros _ _
  · exact hasM_out (.inr (by simp [newM]; omega))
theorem okP_nat {n : Nat} {x : Int × Int} (h : okP (n : Int) x = true) : ∃ a b : Nat, x = ((a : Int), (b : Int)) ∧ a < n ∧ b < n := by
  obtain ⟨i, j⟩ := x
  have h' : (((0 ≤ i) ∧ i < (n : Int)) ∧ 0 ≤ j) ∧ j < (n : Int) := by simpa [okP, inM] using h
  obtain ⟨⟨⟨i0, i1⟩, j0⟩, j1⟩ := h'
  obtain ⟨a, rfl⟩ := Int.eq_ofNat_of_zero_le i0
  obtain ⟨b, rfl⟩ := Int.eq_ofNat_of_zero_le j0
  exact ⟨a, b, rfl, by omega, by omega⟩
theorem fold_facts {n : Nat} : ∀ (ps : List (Int × Int)) (m : List (List Nat)), Good n m → (∀ x ∈ ps, okP (n : Int) x = true) →
    Good n (ps.foldl setP m) ∧ ∀ i j : Nat, hasM (ps.foldl setP m) (i : Int) (j : Int) = (hasM m (i : Int) (j : Int) || decide (((i : Int), (j : Int)) ∈ ps))
  | [], m, hG, _ => ⟨hG, fun i j => by simp⟩
  | p :: ps, m, hG, hok => by
    obtain ⟨a, b, rfl, ha, hb⟩ := okP_nat (hok p (List.mem_cons_self ..))
    have h := fold_facts ps (setP m ((a : Int), (b : Int))) (hG.set ha hb) (fun x hx => hok x (List.mem_cons_of_mem _ hx))
    refine ⟨h.1, fun i j => ?_⟩
    rw [List.foldl_cons, h.2 i j]
    unfold setP
    rw [hasM_setM hG ha hb, Bool.or_assoc]
    congr 1
    simp only [List.mem_cons, Prod.mk.injEq, Int.natCast_inj, Bool.decide_or]
theorem foldP_facts {n : Nat} (hn : n ≤ 4096) (ps : List (Int × Int)) (hok : ∀ x ∈ ps, okP (n : Int) x = true) :
    Good n (foldP n ps) ∧ ∀ i j : Nat, hasM (foldP n ps) (i : Int) (j : Int) = decide (((i : Int), (j : Int)) ∈ ps) := by
  have h := fold_facts ps (newM n) (Good.new hn) hok
  refine ⟨h.1, fun i j => ?_⟩
  have := h.2 i j
  rw [newM_has, Bool.false_or] at this
  exact this
theorem good_ext {n : Nat} {a b : List (List Nat)} (ha : Good n a) (hb : Good n b) (h : ∀ i j : Nat, i < n → j < n → hasM a (i : Int) (j : Int) = hasM b (i : Int) (j : Int)) : a = b := by
  apply List.ext_getElem?
  intro i
  by_cases hi : i < n
  · obtain ⟨r, hr, hw, hl⟩ := ha.at_ hi
    obtain ⟨s, hs, hw2, hl2⟩ := hb.at_ hi
    rw [hr, hs]
    have h1 := ha.row r (List.mem_of_getElem? hr)
    have h2 := hb.row s (List.mem_of_getElem? hs)
    congr 1
    refine row_ext hw hw2 (by rw [h1.2.2.1, h2.2.2.1]) (fun j _ => ?_)
    by_cases hj : j < n
    · have := h i j hi hj
      rw [hasM_in hr, hasM_in hs] at this; exact this
    · rw [h1.2.2.2 j (by omega), h2.2.2.2 j (by omega)]
  · rw [List.getElem?_eq_none (by rw [ha.len]; omega), List.getElem?_eq_none (by rw [hb.len]; omega)]
theorem mem_pairsM (xss : List (List Nat)) (i j : Nat) : ((i : Int), (j : Int)) ∈ pairsM xss ↔ hasM xss (i : Int) (j : Int) = true := by
  unfold pairsM pairsK
  rw [List.mem_flatMap]
  constructor
  · rintro ⟨k, hk, hm⟩
    obtain ⟨z, hz, he⟩ := List.mem_map.1 hm
    simp only [Prod.mk.injEq, Int.natCast_inj] at he
    obtain ⟨rfl, rfl⟩ := he
    have hk' : k < xss.length := List.mem_range.1 hk
    have hx : xss[k]? = some xss[k] := List.getElem?_eq_getElem hk'
    rw [getD_at hx] at hz
    obtain ⟨u, hu, he⟩ := List.mem_map.1 hz
    rw [hasM_in hx]
    have hju : u = j := Int.ofNat.inj he
    subst hju
    exact ((listN_mem _ _).1 hu).2
  · intro h
    by_cases hi : i < xss.length
    · have hx : xss[i]? = some xss[i] := List.getElem?_eq_getElem hi
      rw [hasM_in hx] at h
      refine ⟨i, List.mem_range.2 hi, List.mem_map.2 ⟨(j : Int), ?_, rfl⟩⟩
      rw [getD_at hx]
      refine List.mem_map.2 ⟨j, (listN_mem _ _).2 ⟨?_, h⟩, rfl⟩
      by_cases hj : j < 64 * (xss[i]).length
      · exact hj
      · rw [hasR_out _ _ (.inr (by omega))] at h; cases h
    · rw [hasM_out (.inr (by omega))] at h; cases h
theorem pairsM_nat {xss : List (List Nat)} {x : Int × Int} (h : x ∈ pairsM xss) : ∃ i j : Nat, x = ((i : Int), (j : Int)) ∧ hasM xss (i : Int) (j : Int) = true := by
  have h0 := h
  unfold pairsM pairsK at h
  rw [List.mem_flatMap] at h
  obtain ⟨k, hk, hm⟩ := h
  obtain ⟨z, hz, he⟩ := List.mem_map.1 hm
  obtain ⟨u, hu, he2⟩ := List.mem_map.1 hz
  subst he he2
  exact ⟨k, u, rfl, (mem_pairsM _ _ _).1 h0⟩
theorem Good.has_lt {n : Nat} {xss : List (List Nat)} (h : Good n xss) {i j : Nat} (hh : hasM xss (i : Int) (j : Int) = true) : i < n ∧ j < n := by
  by_cases hi : i < n
  · obtain ⟨r, hr, hw, hl⟩ := h.at_ hi
    refine ⟨hi, ?_⟩
    by_cases hj : j < n
    · exact hj
    · rw [hasM_in hr, (h.row r (List.mem_of_getElem? hr)).2.2.2 j (by omega)] at hh; cases hh
  · rw [hasM_out (.inr (by rw [h.len]; omega))] at hh; cases hh
theorem Good.ok {n : Nat} {xss : List (List Nat)} (h : Good n xss) : ∀ x ∈ pairsM xss, okP (n : Int) x = true := fun x hx => by
  obtain ⟨i, j, rfl, hh⟩ := pairsM_nat hx
  obtain ⟨h1, h2⟩ := h.has_lt hh
  unfold okP inM; simp; omega

end Go.Proofs.YtjhjojklfdjmdaaGreat

namespace Go.Proofs.YtjhjojklfdjmdaaGreat
open Go.RowKit
set_option linter.unusedVariables false

end Go.Proofs.YtjhjojklfdjmdaaGreat

namespace Go.Proofs.YtjhjojklfdjmdaaGreat
open Go.RowKit
set_option linter.unusedVariables false

end Go.Proofs.YtjhjojklfdjmdaaGreat

namespace Go.Proofs.YtjhjojklfdjmdaaGreat
open Go.RowKit
set_option linter.unusedVariables false

end Go.Proofs.YtjhjojklfdjmdaaGreat

namespace Go.Proofs.YtjhjojklfdjmdaaGreat
open Go.RowKit
set_option linter.unusedVariables false

end Go.Proofs.YtjhjojklfdjmdaaGreat

namespace Go.Proofs.YtjhjojklfdjmdaaGreat
open Go.RowKit
set_option linter.unusedVariables false

end Go.Proofs.YtjhjojklfdjmdaaGreat

namespace Go.Proofs.YtjhjojklfdjmdaaGreat
open Go.RowKit
set_option linter.unusedVariables false

end Go.Proofs.YtjhjojklfdjmdaaGreat

namespace Go.Proofs.YtjhjojklfdjmdaaGreat
open Go.RowKit
set_option linter.unusedVariables false

theorem MatB.belowB {w w' : World} {g : Nat} {t : TypeId} {N : Int} {A : Option Addr} {n c B : Nat} (h : MatB w g t N A n c) (hb : Below B w w') (hg : g < B) : MatB w' g t N A n c := Blk.below h hb hg

end Go.Proofs.YtjhjojklfdjmdaaGreat

namespace Go.Proofs.YtjhjojklfdjmdaaGreat
open Go.RowKit

section
variable {P : Program} {ops : Array Oper} {md : Region.Mode} {Q : Exit → Act → World → Prop}

/-! ### the steps -/
section
variable {tail : List Oper} {pl2 : List Nat} {rest : List (Bool × Nat)} {a : Act} {w : World} {i : Nat} {o : Oper}
end
end
end Go.Proofs.YtjhjojklfdjmdaaGreat

namespace Go.Proofs.YtjhjojklfdjmdaaGreat
open Go.RowKit
set_option linter.unusedVariables false

theorem Row.putB {w : World} {M : Nat} {t : TypeId} {N : Int} {A : Option Addr} {n c : Nat} (hM : MatB w M t N A n c) {B : Option Addr} {m : Nat} {xs : List Nat} (h : Row w B m xs) (x y : Value) :
    Row ((w.setCell ⟨M, 0, none⟩ x).setCell ⟨M, 1, none⟩ y) B m xs := by
  rcases Nat.eq_zero_or_pos m with rfl | hm
  · rw [List.eq_nil_of_length_eq_zero h.len]; exact Row.nil _ _
  · have hne : ∀ ad, B = some ad → ad.block ≠ M := by
      intro ad e hb
      obtain ⟨b, off, x, e2, _, _, _, hc⟩ := h.at_ hm
      rw [e] at e2
      cases e2
      have hb' : b = M := hb
      subst hb'
      rw [Blk.cell hM] at hc
      match off + 0, hc with
      | 0, hc => simp at hc
      | 1, hc => simp at hc
      | k + 2, hc => simp at hc
    exact (h.setCell hne x).setCell hne y
theorem RowsAt.putB {w : World} {M : Nat} {t : TypeId} {N : Int} {A : Option Addr} {n c : Nat} (hM : MatB w M t N A n c) {B : Option Addr} {m : Nat} {xss : List (List Nat)} (h : RowsAt w B m xss) (hne : 0 < m → ∀ ad, B = some ad → ad.block ≠ M) (x y : Value) :
    RowsAt ((w.setCell ⟨M, 0, none⟩ x).setCell ⟨M, 1, none⟩ y) B m xss := by
  obtain ⟨vs, h1, h2⟩ := h
  refine ⟨vs, ?_, h2.1, fun i v xs a b => ?_⟩
  · rcases Nat.eq_zero_or_pos m with rfl | hm
    · rw [h1.of_nil]; exact Rd.nil _ _
    · exact (h1.setCell (hne hm) x).setCell (hne hm) y
  · obtain ⟨B', m', c', e, hr⟩ := h2.2 i v xs a b
    exact ⟨B', m', c', e, hr.putB hM x y⟩
theorem RowsAt.block_lt {w : World} {A : Option Addr} {n : Nat} {xss : List (List Nat)} (h : RowsAt w A n xss) (hn : 0 < n) : ∀ ad, A = some ad → ad.block < w.heap.size := by
  intro ad e
  obtain ⟨vs, h1, _⟩ := h
  obtain ⟨b, off, e2, hb, _⟩ := h1.2 hn
  rw [e] at e2; cases e2; exact hb

end Go.Proofs.YtjhjojklfdjmdaaGreat
