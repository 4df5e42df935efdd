/- The code's own contracts of layer 14: below, meet, step (a search breadth first). A region that draws its order, walked by a tree of orders: what only reads (in every world that meets S) is taken as soon as it may come up; what changes memory, and stays in S, comes up alone, or as one of two: then both ways are walked. S is the prover's: as a rule 'the blocks that were there at the region's start are as they were': so an alloc beside calls, and stores into what the region made, are steps too. No function of the program is named here. Words for memory: slices of anything that takes a fixed number of cells (an encoding 'Enc'). No function of the program is named here. Words for memory: slices of operations (three cells each), histories (slices of such slices). No function of the program is named here. Words for memory: operations appended to a call's own slice of them; mathematics of histories: numbers and spots. No function of the program is named here. Plain mathematics of layer 9: histories interned. Nothing of the program is named. Plain mathematics of layer 9: facts laid back into a history. Nothing of the program is named. Plain mathematics of layer 9: a history comes back of its facts, but for empty sessions at its end. Nothing of the program is named. Plain mathematics of layer 9: each item stands where its operation does, and says the same. Nothing of the program is named. Plain mathematics of layer 10: writes of values, differentiated facts. Nothing of the program is named. Plain mathematics of layer 11: what reads read from. Nothing of the program is named. Facts in a variable (FBox), as the document's answers of layers 10 and on box them. The contracts of the document's own answers of layer 10: Write, Check. The contracts of the document's own answers of layer 6: Name, Flat, Count, Right, Spot, Small. The contracts of the document's own answers of layer 6: Spot, Number, Same. The contracts of the document's own answers of layer 9, first half: find, texts, items, Ints, Same, Small. The contract of the document's own answer of layer 9: Of. The contracts of the document's own answers of layer 9: Same, Small. The contracts of the document's own answers of layer 11: From, Fill, Whole, Readers. -/
import Derived.Test.YtfeomhoicnjgpaaPathShortPk3
import Derived.Test.YtfeomhoicnjgpaaPathShortPk2
import Derived.Test.YtfeomhoicnjgpaaPathShortPk1
import Derived.Test.YtfeomhoicnjgpaaProg
import Derived.BigQuiet
namespace Go.Proofs.Ytfeomhoicnjgpaa
open Go.RowKit
set_option linter.unusedVariables false
theorem QN.form {w : World} {base : Nat} {t : TypeId} {v : Value} {zs : List Nat} (h : QN w base t v zs) : ∃ g off cap, v = .slice (some ⟨g, off, none⟩) zs.length cap := by
  obtain ⟨g, off, cap, cs, hv, _⟩ := h
  exact ⟨g, off, cap, hv⟩
theorem path_below (i n : Int) (w : World) :
    Calls Try.prog 41 #[.int .i64 i, .int .i64 n] w fun e w' => e = .returned (.bool (belowZ i n)) ∧ w = w' := by
  unfold belowZ
  by_cases hi : 0 ≤ i
  · have d1 : decide (0 ≤ i) = true := decide_eq_true hi
    rw [d1, Bool.true_and]
    go_enter Try.func41, Try.ntmps41
    go_wp2
    go_ret
    exact ⟨rfl, rfl⟩
  · have d1 : decide (0 ≤ i) = false := decide_eq_false hi
    rw [d1, Bool.false_and]
    go_enter Try.func41, Try.ntmps41
    go_wp2
    go_ret
    exact ⟨rfl, rfl⟩
/-- the search's variable at g, who isn't met at gl (nw words), from whom at gf (n numbers), the queue v -/
structure SrS (w0 : World) (g gl gf n nw : Nat) (A : Option Addr) (c : Nat) (v : Value) (ls fs zs : List Nat) (w : World) : Prop where
  s : Blk w g 83 [.slice A n c, v, .slice (some ⟨gl, 0, none⟩) nw nw, .slice (some ⟨gf, 0, none⟩) n n]
  q : QN w w0.heap.size 3 v zs
  l : Blk w gl 99 (ls.map u64v)
  f : Blk w gf 3 (fs.map natv)
  nf : v.ownBlock ≠ some gf
  bg : w0.heap.size ≤ g
  bl : w0.heap.size ≤ gl
  bf : w0.heap.size ≤ gf
  bel : Below w0.heap.size w0 w
section
variable {w0 w w' : World} {g gl gf n nw : Nat} {A : Option Addr} {c : Nat} {v : Value} {ls fs zs : List Nat}
theorem SrS.later (h : SrS w0 g gl gf n nw A c v ls fs zs w) (hb : Below w.heap.size w w') : SrS w0 g gl gf n nw A c v ls fs zs w' :=
  ⟨h.s.below hb h.s.lt, h.q.below hb, h.l.below hb h.l.lt, h.f.below hb h.f.lt, h.nf, h.bg, h.bl, h.bf, below_trans2 h.bel hb⟩
theorem SrS.ngl (h : SrS w0 g gl gf n nw A c v ls fs zs w) : g ≠ gl := h.s.type_ne h.l (by decide)
theorem SrS.ngf (h : SrS w0 g gl gf n nw A c v ls fs zs w) : g ≠ gf := h.s.type_ne h.f (by decide)
theorem SrS.nlf (h : SrS w0 g gl gf n nw A c v ls fs zs w) : gl ≠ gf := h.l.type_ne h.f (by decide)
theorem SrS.qs (h : SrS w0 g gl gf n nw A c v ls fs zs w) : v.ownBlock ≠ some g := h.q.type_ne h.s (by decide)
theorem SrS.ql (h : SrS w0 g gl gf n nw A c v ls fs zs w) : v.ownBlock ≠ some gl := h.q.type_ne h.l (by decide)
theorem SrS.cells (h : SrS w0 g gl gf n nw A c v ls fs zs w) : w.cell? ⟨g, 0, none⟩ = some (.slice A n c) ∧ w.cell? ⟨g, 1, none⟩ = some v ∧ w.cell? ⟨g, 2, none⟩ = some (.slice (some ⟨gl, 0, none⟩) nw nw) ∧ w.cell? ⟨g, 3, none⟩ = some (.slice (some ⟨gf, 0, none⟩) n n) :=
  ⟨h.s.cell 0, h.s.cell 1, h.s.cell 2, h.s.cell 3⟩
/-- another queue is stored -/
theorem SrS.setQ (h : SrS w0 g gl gf n nw A c v ls fs zs w) {u : Value} {ys : List Nat} (hq : QN w w0.heap.size 3 u ys) (hu : u.ownBlock ≠ some gf) : SrS w0 g gl gf n nw A c u ls fs ys (w.setCell ⟨g, 1, none⟩ u) :=
  ⟨h.s.set_ 1 u, hq.far (hq.type_ne h.s (by decide)) u, h.l.far (Ne.symm h.ngl) u, h.f.far (Ne.symm h.ngf) u, hu, h.bg, h.bl, h.bf, h.bel.setCell h.bg u⟩
theorem SrS.setL (h : SrS w0 g gl gf n nw A c v ls fs zs w) (k x : Nat) : SrS w0 g gl gf n nw A c v (ls.set k x) fs zs (w.setCell ⟨gl, k, none⟩ (.int .u64 (x : Int))) :=
  ⟨h.s.far h.ngl _, h.q.far h.ql _, by rw [List.map_set]; exact h.l.set_ k _, h.f.far (Ne.symm h.nlf) _, h.nf, h.bg, h.bl, h.bf, h.bel.setCell h.bl _⟩
theorem SrS.setF (h : SrS w0 g gl gf n nw A c v ls fs zs w) (k x : Nat) : SrS w0 g gl gf n nw A c v ls (fs.set k x) zs (w.setCell ⟨gf, k, none⟩ (.int .i64 (x : Int))) :=
  ⟨h.s.far h.ngf _, h.q.far h.nf _, h.l.far h.nlf _, by rw [List.map_set]; exact h.f.set_ k _, h.nf, h.bg, h.bl, h.bf, h.bel.setCell h.bf _⟩
/-- behind an append to the queue, ahead of its store -/
theorem SrS.grown (h : SrS w0 g gl gf n nw A c v ls fs zs w) (hg : w.grownBy w' v.ownBlock) {u : Value} {ys : List Nat} (hq : QN w' w0.heap.size 3 u ys) (hu : u.ownBlock = v.ownBlock ∨ ∃ k, u.ownBlock = some k ∧ w.heap.size ≤ k) : SrS w0 g gl gf n nw A c u ls fs ys (w'.setCell ⟨g, 1, none⟩ u) := by
  have hs := h.s.grown hg (fun e => h.qs e.symm)
  have hl := h.l.grown hg (fun e => h.ql e.symm)
  have hf := h.f.grown hg (fun e => h.nf e.symm)
  refine ⟨hs.set_ 1 u, hq.far (hq.type_ne hs (by decide)) u, hl.far (Ne.symm h.ngl) u, hf.far (Ne.symm h.ngf) u, ?_, h.bg, h.bl, h.bf, (h.bel.grown hg h.bel.size (fun k hk => (h.q.lt k hk).1)).setCell h.bg u⟩
  rcases hu with e | ⟨k, e, hk⟩
  · rw [e]; exact h.nf
  · rw [e]; intro e2
    injection e2 with e2
    have := h.f.lt
    omega
end
theorem info_int14b : (Try.prog.info? 3).map (fun i => (i.zero, i.size, i.bytes)) = some (some (.int .i64 0), 1, 8) := by kernel_rfl
set_option maxRecDepth 100000 in
set_option maxHeartbeats 1000000 in
theorem path_meet (w0 : World) (g gl gf n nw : Nat) (A : Option Addr) (c : Nat) (v : Value) (ls fs zs : List Nat) (i at_ : Nat) (w : World) (h : SrS w0 g gl gf n nw A c v ls fs zs w) (hi : i < n) (hz : zs.length ≤ 1073741824) (hfl : fs.length = n) :
    Calls Try.prog 67 #[.pointer (some ⟨g, 0, none⟩), .int .i64 (i : Int), .int .i64 (at_ : Int)] w fun e w' => e = .returned (.tuple #[]) ∧ ∃ u, SrS w0 g gl gf n nw A c u ls (fs.set i at_) (zs ++ [i]) w' := by
  obtain ⟨i0, hi0, hz0, hz1, hz2⟩ := info_parts info_int14b
  replace hi0 := Lib.hid hi0
  replace hz0 := Lib.hid hz0
  replace hz1 := Lib.hid hz1
  replace hz2 := Lib.hid hz2
  replace h := Lib.hid h
  have hin : 0 ≤ (i : Int) ∧ (i : Int) < (n : Int) := by omega
  obtain ⟨s0, s1, s2, s3⟩ := h.out.cells
  obtain ⟨y, hy⟩ : ∃ y, fs[i]? = some y := ⟨_, List.getElem?_eq_getElem (by omega)⟩
  have f3 : w.cell? ⟨gf, i, none⟩ = some (.int .i64 (y : Int)) := by rw [Blk.cell h.out.f i, List.getElem?_map, hy]; rfl
  replace hy := Lib.hid hy
  have f4 := Blk.frozen h.out.f i
  have f5 := Blk.frozen h.out.s 1
  obtain ⟨W, hW⟩ : ∃ W, W = w.setCell ⟨gf, i, none⟩ (.int .i64 (at_ : Int)) := ⟨_, rfl⟩
  have hS := Lib.hid (show SrS w0 g gl gf n nw A c v ls (fs.set i at_) zs W from by rw [hW]; exact h.out.setF i at_)
  obtain ⟨V, hV⟩ : ∃ V, V = W.alloc (.cells #[.int .i64 (i : Int)] 3) := ⟨_, rfl⟩
  obtain ⟨gv, hgv⟩ : ∃ gv, gv = W.heap.size := ⟨_, rfl⟩
  have bV : Below W.heap.size W V := by rw [hV]; exact below_alloc _ _
  have hT := Lib.hid (hS.out.later bV)
  have hlit := Lib.hid (show V.cell? ⟨gv, 0, none⟩ = some (.int .i64 (i : Int)) from by
    rw [hV, hgv]
    have h := Blk.cell (Blk.new W 3 [.int .i64 (i : Int)]) 0
    exact h)
  replace hfl := Lib.hid hfl
  go_enter Try.func67, Try.ntmps67
  obtain ⟨t0, t1, t2, t3⟩ := hS.out.cells
  obtain ⟨u0, u1, u2, u3⟩ := hT.out.cells
  have hbase := Lib.hid hT.out.bel.size
  replace f5 : W.frozen? ⟨g, 1, none⟩ = false := Blk.frozen hS.out.s 1
  clear bV
  go_wp2_with (first
    | (rw [← hW]; replace hW := Lib.hid hW)
    | (rw [← hV, ← hgv]; replace hV := Lib.hid hV; replace hgv := Lib.hid hgv)
    | (at_builtin; refine wpList_append_q2 _ rfl (.tmp 17) (.tmp 19) _ rfl w0.heap.size 3 i0 _ Try.underlying23 hi0.out hz0.out hz1.out hz2.out rfl (by rfl) hT.out.q ⟨gv, 0, none⟩ 1 i rfl hlit.out hz hbase.out ?_; intro v' w7 hq' hgrow hnew; obtain ⟨gq, oq, cq, rfl⟩ := hq'.form; have e7 := Blk.cell (hT.out.s.grown hgrow (fun e => hT.out.qs e.symm)) 1; have f7 := Blk.frozen (hT.out.s.grown hgrow (fun e => hT.out.qs e.symm)) 1; replace hq' := Lib.hid hq'; replace hgrow := Lib.hid hgrow; replace hnew := Lib.hid hnew))
  go_end0
  have hq2 := hq'.out
  have hn2 := hnew.out
  rw [show (zs ++ [i]).length = zs.length + 1 by simp] at hq2 hn2
  exact ⟨rfl, _, hT.out.grown hgrow.out hq2 hn2⟩
theorem path_step_none (w0 : World) (g gl gf n nw : Nat) (A : Option Addr) (c : Nat) (v : Value) (ls fs : List Nat) (w : World) (h : SrS w0 g gl gf n nw A c v ls fs [] w) :
    Calls Try.prog 44 #[.pointer (some ⟨g, 0, none⟩)] w fun e w' => e = .returned (.bool false) ∧ w = w' := by
  obtain ⟨gq, oq, cq, rfl⟩ := h.q.form
  obtain ⟨s0, s1, s2, s3⟩ := h.cells
  clear h
  go_enter Try.func44, Try.ntmps44
  go_wp2_with fail
  go_ret
  exact ⟨rfl, rfl⟩
/-- a step that took a number off the queue -/
def RetStep (w0 : World) (g gl gf n nw : Nat) (A : Option Addr) (c : Nat) (a : List (List Nat)) (x N : Nat) (e : Ending) (w' : World) : Prop :=
  e = .returned (.bool true) ∧ ∃ u ls fs zs, SrS w0 g gl gf n nw A c u ls fs zs w' ∧ BfsM n a x N ls fs zs
theorem and_both (x y : Nat) (hx : x < 18446744073709551616) (hy : y < 18446744073709551616) : bits BinOp.and IntKind.u64 (x : Int) (y : Int) = ((x &&& y : Nat) : Int) := u64_and_nat x y hx hy
theorem row_met {n z k W r j : Nat} {a : List (List Nat)} {xs ls : List Nat} (hG : Good n a) (hk : k < ls.length) (hW : xs[k]? = some W) (hRel : ∀ y : Nat, hasM a (z : Int) (y : Int) = hasR xs (y : Int)) (hI : r = W &&& ls.getD k 0) (hj : j < 64) (hr : r.testBit j = false) (hz : Rel a z (64 * k + j)) : metL n ls (64 * k + j) := by
  have hL : ls[k]? = some (ls.getD k 0) := by rw [List.getD_eq_getElem?_getD, List.getElem?_eq_getElem hk]; rfl
  refine metL_of (W := W) hL hj (hG.rel_lt _ _ hz).2 (by rw [← hI]; exact hr) ?_
  have h1 := hz
  unfold Rel at h1
  rw [hRel, hasR_nat, show (64 * k + j) / 64 = k by omega, show (64 * k + j) % 64 = j by omega, Row.get hW] at h1
  exact h1
/-- one bit of the row is met -/
theorem BfsN.bit {n N z k W r b : Nat} {a : List (List Nat)} {x : Nat} {xs ls fs zs : List Nat} (hG : Good n a) (h : BfsN n a x N z b ls fs zs) (hk : k < ls.length) (hW : xs[k]? = some W) (hRel : ∀ y : Nat, hasM a (z : Int) (y : Int) = hasR xs (y : Int)) (hI : r = W &&& ls.getD k 0) (hb : 64 * k ≤ b) (hi : low0 r < 64) :
    BfsN n a x N z (64 * k + low0 r + 1) (ls.set k (offN (ls.getD k 0) (low0 r))) (fs.set (64 * k + low0 r) z) (zs ++ [64 * k + low0 r]) := by
  have hL : ls[k]? = some (ls.getD k 0) := by rw [List.getD_eq_getElem?_getD, List.getElem?_eq_getElem hk]; rfl
  have hbit := low0_bit r hi
  have hbit2 := hbit
  rw [hI, Nat.testBit_and, Bool.and_eq_true, ← hI] at hbit2
  refine h.push hL hi hbit2.2 ?_ (fun y hy hzy => ?_)
  · unfold Rel
    rw [hRel, hasR_nat, show (64 * k + low0 r) / 64 = k by omega, show (64 * k + low0 r) % 64 = low0 r by omega, Row.get hW]
    exact hbit2.1
  · rcases Nat.lt_or_ge y b with h1 | h1
    · exact h.scanned y h1 hzy
    · obtain ⟨j, rfl⟩ : ∃ j, y = 64 * k + j := ⟨y - 64 * k, by omega⟩
      exact row_met hG hk hW hRel hI (by omega) (low0_before r j (by omega)) hzy
theorem fresh_next {r W L i : Nat} (hW : W < 18446744073709551616) (hI : r = W &&& L) : r &&& offN L i = W &&& offN L i ∧ (r &&& offN L i = offN r i) := by
  constructor
  · apply Nat.eq_of_testBit_eq; intro j
    rw [hI]; unfold offN
    simp only [Nat.testBit_and]
    cases W.testBit j <;> cases L.testBit j <;> simp
  · apply Nat.eq_of_testBit_eq; intro j
    rw [hI]; unfold offN
    simp only [Nat.testBit_and]
    cases W.testBit j <;> cases L.testBit j <;> simp
set_option maxRecDepth 100000 in
set_option maxHeartbeats 4000000 in
theorem path_step (w0 : World) (g gl gf n nw : Nat) (A : Option Addr) (c : Nat) (v : Value) (ls fs zs : List Nat) (a : List (List Nat)) (x N z : Nat) (w : World) (h : SrS w0 g gl gf n nw A c v ls fs (z :: zs) w) (hM : BfsM n a x N ls fs (z :: zs)) (hG : Good n a) (hr : RowsAt w0 A n a) (hnw : nw = (wordsZ (n : Int)).toNat) :
    Calls Try.prog 44 #[.pointer (some ⟨g, 0, none⟩)] w (RetStep w0 g gl gf n nw A c a x (N - 1)) := by
  obtain ⟨hzn, N', hN, hB0⟩ := hM.pop
  obtain ⟨gq, oq, cq, rfl, hcz, hcap, hq1, hq2⟩ := h.q.pop
  obtain ⟨s0, s1, s2, s3⟩ := h.cells
  have f1 := Blk.frozen h.s 1
  have hN2 : N - 1 = N' := by omega
  rw [hN2]
  obtain ⟨rb, ro, B, m, d, xs, rfl, hrb, hxs, hr0, hRow⟩ := hr.at_ hzn
  have hrow := hG.row xs (List.mem_of_getElem? hxs)
  have hml : xs.length = nw := by rw [hnw]; exact hrow.2.2.1
  have hmn : m = nw := by rw [← hml]; exact hRow.len.symm
  subst hmn
  have hm0 : 0 < m := by rw [hnw]; unfold wordsZ; split <;> omega
  obtain ⟨xb, xo, -, rfl, -⟩ := hRow.at_ hm0
  replace hRow := Lib.hid hRow
  have hnw64 : m ≤ 64 := by have := hG.small xs (List.mem_of_getElem? hxs); omega
  have hn4 := hG.le
  have hRel := Lib.hid (fun y : Nat => (hasM_in (j := (y : Int)) hxs))
  have hs := Lib.hid h
  have hc1 : 1 ≤ cq := by omega
  have hzn' : 0 ≤ (z : Int) ∧ (z : Int) < (n : Int) := by omega
  replace hq1 := Lib.hid hq1
  replace hq2 := Lib.hid hq2
  replace hG := Lib.hid hG
  replace hB0 := Lib.hid hB0
  replace hrow := Lib.hid hrow
  replace hml := Lib.hid hml
  replace hnw := Lib.hid hnw
  replace hxs := Lib.hid hxs
  replace hzn := Lib.hid hzn
  clear hM hN hN2 h hr
  by_cases hc : cq = 1
  · subst hc
    obtain rfl : zs = [] := List.eq_nil_of_length_eq_zero (by omega)
    -- the pairs of the number z: the search's world is V, with the queue .slice (some ⟨gq, oq, none⟩) 0 0
    obtain ⟨V, hV⟩ : ∃ V, V = w.setCell ⟨g, 1, none⟩ (.slice (some ⟨gq, oq, none⟩) 0 0) := ⟨_, rfl⟩
    have hS := Lib.hid (show SrS w0 g gl gf n m (some ⟨rb, ro, none⟩) c (.slice (some ⟨gq, oq, none⟩) 0 0) ls fs ([]) V from by rw [hV]; exact hs.out.setQ (hq1.out rfl) (by have := hs.out.nf; intro e; apply this; rw [← e]; rfl))
    have r0 : V.cell? ⟨rb, ro + z, none⟩ = some (.slice (some ⟨xb, xo, none⟩) m d) := (hS.out.bel.cell (p := ⟨rb, ro + z, none⟩) hrb).trans hr0
    obtain ⟨t0, t1, t2, t3⟩ := hS.out.cells
    go_enter Try.func44, Try.ntmps44
    go_wp2_with (rw [← hV]; replace hV := Lib.hid hV)
    clear hq1 hq2 s0 s1 s2 s3 hcz f1 t0 t1 t2 t3 r0 hr0 hrb
    skip
    go_loopw [36] (fun t wr => ∃ (k : Nat) (u : Value) (ls' fs' zs' : List Nat), k ≤ m ∧ t = .int .i64 (k : Int) ∧ Hid (SrS w0 g gl gf n m (some ⟨rb, ro, none⟩) c u ls' fs' zs' wr) ∧ Hid (BfsN n a x N' z (64 * k) ls' fs' zs')) (fun t _ => m - (intOf t).toNat)
    case atStart => exact ⟨0, _, ls, fs, _, Nat.zero_le _, rfl, hS, hB0⟩
    case round =>
      clear hS hB0
      obtain ⟨k, u, ls', fs', zs', hk, rfl, hS, hB⟩ := hrel
      by_cases hkm : k < m
      · obtain ⟨xb', xo', W, hBe, hxb, hW, hW64, hWc⟩ := (hRow.out.below (hS.out.bel)).at_ hkm
        injection hBe with hBe
        injection hBe with hB1 hB2
        subst hB1; subst hB2
        have hls : ls'.length = m := by rw [hB.out.sz.ll]; exact hnw.out.symm
        obtain ⟨L, hL⟩ : ∃ L, ls'[k]? = some L := ⟨_, List.getElem?_eq_getElem (by omega)⟩
        have hL64 := hB.out.sz.lw L (List.mem_of_getElem? hL)
        have cL : wr.cell? ⟨gl, k, none⟩ = some (.int .u64 (L : Int)) := by rw [Blk.cell hS.out.l k, List.getElem?_map, hL]; rfl
        obtain ⟨t0, t1, t2, t3⟩ := hS.out.cells
        have hbk : 0 ≤ (k : Int) ∧ (k : Int) < (m : Int) := by omega
        have hand := Lib.hid (and_both W L hW64 hL64)
        have hwl := Lib.hid (show W &&& L < 18446744073709551616 from Nat.lt_of_le_of_lt Nat.and_le_left hW64)
        have hI0 := Lib.hid (show W &&& L = W &&& ls'.getD k 0 from by rw [Row.get hL])
        replace hW := Lib.hid hW
        replace hL := Lib.hid hL
        replace hls := Lib.hid hls
        replace hkm := Lib.hid hkm
        go_wp2_with fail
        rw [hand.out]
        clear hxb hWc cL t0 t1 t2 t3
        go_loopw [6] (fun t wi => ∃ (r b : Nat) (u : Value) (ls' fs' zs' : List Nat), r < 18446744073709551616 ∧ t = .int .u64 (r : Int) ∧ Hid (r = W &&& ls'.getD k 0) ∧ Hid (64 * k ≤ b ∧ b ≤ 64 * k + 64) ∧ Hid (SrS w0 g gl gf n m (some ⟨rb, ro, none⟩) c u ls' fs' zs' wi) ∧ Hid (BfsN n a x N' z b ls' fs' zs')) (fun t _ => (bitsOf (intOf t).toNat).length)
        case atStart => exact ⟨_, 64 * k, u, ls', fs', zs', hwl.out, rfl, hI0, Lib.hid (by omega), hS, hB⟩
        case round =>
          clear hS hB hand hwl hI0 hL hls
          obtain ⟨r, b, u, ls', fs', zs', hr64, rfl, hI, hb, hS, hB⟩ := hrel
          by_cases hr0 : r = 0
          · subst hr0
            have hB2 : Hid (BfsN n a x N' z (64 * (k + 1)) ls' fs' zs') := Lib.hid (hB.out.weaken (by have := hb.out; omega) (fun y hy hzy => by
              rcases Nat.lt_or_ge y b with h1 | h1
              · exact hB.out.scanned y h1 hzy
              · obtain ⟨j, rfl⟩ : ∃ j, y = 64 * k + j := ⟨y - 64 * k, by have := hb.out; omega⟩
                exact row_met hG.out (by rw [hB.out.sz.ll, ← hnw.out]; exact hkm.out) hW.out hRel.out hI.out (by omega) (by simp) hzy))
            go_wp2_with fail
            go_roundw
            case rel => exact ⟨k + 1, u, ls', fs', zs', by omega, by go_num, hS, hB2⟩
            case measure => simp [intOf]; omega
          · have hne : ((r : Int) != 0) = true := by rw [bne_iff_ne]; omega
            have hl64 := low0_lt r hr64 hr0
            have hlk : k < ls'.length := by rw [hB.out.sz.ll, ← hnw.out]; exact hkm.out
            have hB2 := Lib.hid (hB.out.bit hG.out hlk hW.out hRel.out hI.out hb.out.1 hl64)
            have hbs := bitsOf_step r hr64 hr0
            obtain ⟨L, hLe⟩ : ∃ L, L = ls'.getD k 0 := ⟨_, rfl⟩
            have hL : ls'[k]? = some L := by rw [hLe, List.getD_eq_getElem?_getD, List.getElem?_eq_getElem hlk]; rfl
            have hL64 := hB.out.sz.lw L (List.mem_of_getElem? hL)
            have hfirst := word_First r hr64
            have hI2 := hI.out
            rw [← hLe] at hI2
            have hfr := fresh_next (i := low0 r) (by have := hb; exact hW64) hI2
            obtain ⟨i, hie⟩ : ∃ i, i = low0 r := ⟨_, rfl⟩
            rw [← hie, ← hLe] at hB2
            rw [← hie] at hl64 hbs hfirst hfr
            have hin : 64 * k + i < n := by
              have h1 := hB2.out.sz.cnt
              have h2 : (ls'[k]?) = some L := hL
              refine hB.out.sz.lb _ ?_
              rw [hasR_nat, show (64 * k + i) / 64 = k by omega, show (64 * k + i) % 64 = i by omega, Row.get hL]
              have h3 := low0_bit r (by rw [← hie]; exact hl64)
              rw [hI2, Nat.testBit_and, Bool.and_eq_true, ← hI2, ← hie] at h3
              exact h3.2
            have hoff := Lib.hid (off_eq L i hL64 hl64)
            have hof64 := offN_lt L i hL64
            have hr2 := offN_lt r i hr64
            have hand := Lib.hid (and_both r (offN L i) hr64 hof64)
            have hlen : Hid ((bitsOf r).length = (bitsOf (offN r i)).length + 1) := Lib.hid (by rw [hbs]; rfl)
            have hzl : zs'.length ≤ 1073741824 := by have h1 := hB.out.sz.cnt; have h2 := hB.out.sz.le; omega
            have hfl := hB.out.sz.fl
            have hbit := Lib.hid (fun W => word_BitN i hl64 W)
            obtain ⟨t0, t1, t2, t3⟩ := hS.out.cells
            have hbk : 0 ≤ (k : Int) ∧ (k : Int) < (m : Int) := by have := hkm.out; omega
            replace hfirst := Lib.hid hfirst
            replace hfr := Lib.hid hfr
            replace hbs := Lib.hid hbs
            replace hie := Lib.hid hie
            replace hLe := Lib.hid hLe
            replace hL := Lib.hid hL
            replace hI2 := Lib.hid hI2
            replace hin := Lib.hid hin
            replace hfl := Lib.hid hfl
            replace hlk := Lib.hid hlk
            go_wp2_with fail
            refine (hfirst.out _).mono ?_; rintro e w' ⟨rfl, rfl⟩
            go_wp2_with fail
            refine wp_region_plan 11 [(true, 0), (true, 1), (true, 2), (true, 3), (true, 4), (true, 5), (true, 6), (true, 7), (false, 8), (true, 9), (true, 10)] (by kernel_rfl) (by kernel_rfl) (fun U hU => ?_)
            have hSU := Lib.hid (show SrS w0 g gl gf n m (some ⟨rb, ro, none⟩) c u ls' fs' zs' U from by rw [hU.out]; exact hS.out.later (Below.refl _ _).drew)
            clear hU hS t0 t1 t2 t3
            obtain ⟨t0, t1, t2, t3⟩ := hSU.out.cells
            have cL : U.cell? ⟨gl, k, none⟩ = some (.int .u64 (L : Int)) := by rw [Blk.cell hSU.out.l k, List.getElem?_map, hL.out]; rfl
            have fL := Blk.frozen hSU.out.l k
            simp only [List.drop_succ_cons]
            iterate 8
              refine wpPlan_float (v := ?_) rfl (by rfl) (fun w' hw' => ?_) (fun K hK => ?_)
              rotate_left
              · (go_simp; try with_reducible rfl)
              go_simp
              refine hK _ ?_
              clear hK K
            refine wpPlan_only rfl (by rfl) (fun K hK => ?_)
            go_simp
            refine (hbit.out U).mono ?_
            rintro e x1 ⟨rfl, rfl⟩
            refine hK _ _ (Below.refl _ _) ?_
            clear hK K
            iterate 2
              refine wpPlan_float (v := ?_) rfl (by rfl) (fun w' hw' => ?_) (fun K hK => ?_)
              rotate_left
              · (go_simp; try with_reducible rfl)
              go_simp
              refine hK _ ?_
              clear hK K
            rw [hoff.out]
            obtain ⟨X, hX⟩ : ∃ X, X = U.setCell ⟨gl, k, none⟩ (.int .u64 ((offN L i : Nat) : Int)) := ⟨_, rfl⟩
            have hSX := Lib.hid (show SrS w0 g gl gf n m (some ⟨rb, ro, none⟩) c u (ls'.set k (offN L i)) fs' zs' X from by rw [hX]; exact hSU.out.setL k _)
            refine wpPlan_nil ?_
            go_wp2_with (rw [← hX]; clear hX)
            refine NoPanic.normal ?_
            clear t0 t1 t2 t3 cL fL hSU
            go_wp2_with fail
            rw [show ((k : Int) * 64 + (i : Int)) = ((64 * k + i : Nat) : Int) by omega]
            refine (path_meet w0 g gl gf n m (some ⟨rb, ro, none⟩) c u (ls'.set k (offN L i)) fs' zs' (64 * k + i) z X hSX.out hin.out hzl hfl.out).mono ?_
            rintro e w1 ⟨rfl, u2, hS2⟩
            obtain ⟨t0, t1, t2, t3⟩ := hS2.cells
            have cL : w1.cell? ⟨gl, k, none⟩ = some (.int .u64 ((offN L i : Nat) : Int)) := by rw [Blk.cell hS2.l k, List.getElem?_map, List.getElem?_set, if_pos rfl, if_pos hlk.out]; rfl
            replace hS2 := Lib.hid hS2
            clear hSX
            go_wp2_with fail
            go_roundw
            case rel =>
              refine ⟨r &&& offN L i, 64 * k + i + 1, u2, ls'.set k (offN L i), fs'.set (64 * k + i) z, zs' ++ [64 * k + i], Nat.lt_of_le_of_lt Nat.and_le_left hr64, by rw [hand.out], Lib.hid ?_, Lib.hid (by omega), hS2, hB2⟩
              rw [Row.get (show (ls'.set k (offN L i))[k]? = some (offN L i) by rw [List.getElem?_set, if_pos rfl, if_pos hlk.out])]
              exact hfr.out.1
            case measure =>
              rw [hand.out, hfr.out.2]; simp only [intOf, Int.toNat_natCast]; rw [hlen.out]; omega
      · obtain rfl : k = m := by omega
        have hB2 := Lib.hid (hB.out.next hG.out (by rw [hnw.out]; exact words_le64 n))
        clear hB hkm
        go_wp2_with fail
        go_ret
        exact ⟨rfl, u, ls', fs', zs', hS.out, hB2.out⟩
  · have hc' : (cq == 1) = false := by simpa using hc
    have hz1 : ((zs.length : Int) + 1 == 0) = false := by rw [beq_eq_false_iff_ne]; omega
    obtain ⟨oq1, hoq⟩ : ∃ o, o = oq + 1 := ⟨_, rfl⟩
    obtain ⟨cq1, hcq⟩ : ∃ o, o = cq - 1 := ⟨_, rfl⟩
    -- the pairs of the number z: the search's world is V, with the queue .slice (some ⟨gq, oq + 1, none⟩) zs.length (cq - 1)
    obtain ⟨V, hV⟩ : ∃ V, V = w.setCell ⟨g, 1, none⟩ (.slice (some ⟨gq, oq + 1, none⟩) zs.length (cq - 1)) := ⟨_, rfl⟩
    have hS := Lib.hid (show SrS w0 g gl gf n m (some ⟨rb, ro, none⟩) c (.slice (some ⟨gq, oq + 1, none⟩) zs.length (cq - 1)) ls fs (zs) V from by rw [hV]; exact hs.out.setQ (hq2.out hc) (by have := hs.out.nf; intro e; apply this; rw [← e]; rfl))
    have r0 : V.cell? ⟨rb, ro + z, none⟩ = some (.slice (some ⟨xb, xo, none⟩) m d) := (hS.out.bel.cell (p := ⟨rb, ro + z, none⟩) hrb).trans hr0
    obtain ⟨t0, t1, t2, t3⟩ := hS.out.cells
    go_enter Try.func44, Try.ntmps44
    go_wp2_with (rw [← hV]; replace hV := Lib.hid hV)
    clear hq1 hq2 s0 s1 s2 s3 hcz f1 t0 t1 t2 t3 r0 hr0 hrb
    rw [← hoq, ← hcq] at hS ⊢; clear hoq hcq hz1 hc hc'
    go_loopw [36] (fun t wr => ∃ (k : Nat) (u : Value) (ls' fs' zs' : List Nat), k ≤ m ∧ t = .int .i64 (k : Int) ∧ Hid (SrS w0 g gl gf n m (some ⟨rb, ro, none⟩) c u ls' fs' zs' wr) ∧ Hid (BfsN n a x N' z (64 * k) ls' fs' zs')) (fun t _ => m - (intOf t).toNat)
    case atStart => exact ⟨0, _, ls, fs, _, Nat.zero_le _, rfl, hS, hB0⟩
    case round =>
      clear hS hB0
      obtain ⟨k, u, ls', fs', zs', hk, rfl, hS, hB⟩ := hrel
      by_cases hkm : k < m
      · obtain ⟨xb', xo', W, hBe, hxb, hW, hW64, hWc⟩ := (hRow.out.below (hS.out.bel)).at_ hkm
        injection hBe with hBe
        injection hBe with hB1 hB2
        subst hB1; subst hB2
        have hls : ls'.length = m := by rw [hB.out.sz.ll]; exact hnw.out.symm
        obtain ⟨L, hL⟩ : ∃ L, ls'[k]? = some L := ⟨_, List.getElem?_eq_getElem (by omega)⟩
        have hL64 := hB.out.sz.lw L (List.mem_of_getElem? hL)
        have cL : wr.cell? ⟨gl, k, none⟩ = some (.int .u64 (L : Int)) := by rw [Blk.cell hS.out.l k, List.getElem?_map, hL]; rfl
        obtain ⟨t0, t1, t2, t3⟩ := hS.out.cells
        have hbk : 0 ≤ (k : Int) ∧ (k : Int) < (m : Int) := by omega
        have hand := Lib.hid (and_both W L hW64 hL64)
        have hwl := Lib.hid (show W &&& L < 18446744073709551616 from Nat.lt_of_le_of_lt Nat.and_le_left hW64)
        have hI0 := Lib.hid (show W &&& L = W &&& ls'.getD k 0 from by rw [Row.get hL])
        replace hW := Lib.hid hW
        replace hL := Lib.hid hL
        replace hls := Lib.hid hls
        replace hkm := Lib.hid hkm
        go_wp2_with fail
        rw [hand.out]
        clear hxb hWc cL t0 t1 t2 t3
        go_loopw [6] (fun t wi => ∃ (r b : Nat) (u : Value) (ls' fs' zs' : List Nat), r < 18446744073709551616 ∧ t = .int .u64 (r : Int) ∧ Hid (r = W &&& ls'.getD k 0) ∧ Hid (64 * k ≤ b ∧ b ≤ 64 * k + 64) ∧ Hid (SrS w0 g gl gf n m (some ⟨rb, ro, none⟩) c u ls' fs' zs' wi) ∧ Hid (BfsN n a x N' z b ls' fs' zs')) (fun t _ => (bitsOf (intOf t).toNat).length)
        case atStart => exact ⟨_, 64 * k, u, ls', fs', zs', hwl.out, rfl, hI0, Lib.hid (by omega), hS, hB⟩
        case round =>
          clear hS hB hand hwl hI0 hL hls
          obtain ⟨r, b, u, ls', fs', zs', hr64, rfl, hI, hb, hS, hB⟩ := hrel
          by_cases hr0 : r = 0
          · subst hr0
            have hB2 : Hid (BfsN n a x N' z (64 * (k + 1)) ls' fs' zs') := Lib.hid (hB.out.weaken (by have := hb.out; omega) (fun y hy hzy => by
              rcases Nat.lt_or_ge y b with h1 | h1
              · exact hB.out.scanned y h1 hzy
              · obtain ⟨j, rfl⟩ : ∃ j, y = 64 * k + j := ⟨y - 64 * k, by have := hb.out; omega⟩
                exact row_met hG.out (by rw [hB.out.sz.ll, ← hnw.out]; exact hkm.out) hW.out hRel.out hI.out (by omega) (by simp) hzy))
            go_wp2_with fail
            go_roundw
            case rel => exact ⟨k + 1, u, ls', fs', zs', by omega, by go_num, hS, hB2⟩
            case measure => simp [intOf]; omega
          · have hne : ((r : Int) != 0) = true := by rw [bne_iff_ne]; omega
            have hl64 := low0_lt r hr64 hr0
            have hlk : k < ls'.length := by rw [hB.out.sz.ll, ← hnw.out]; exact hkm.out
            have hB2 := Lib.hid (hB.out.bit hG.out hlk hW.out hRel.out hI.out hb.out.1 hl64)
            have hbs := bitsOf_step r hr64 hr0
            obtain ⟨L, hLe⟩ : ∃ L, L = ls'.getD k 0 := ⟨_, rfl⟩
            have hL : ls'[k]? = some L := by rw [hLe, List.getD_eq_getElem?_getD, List.getElem?_eq_getElem hlk]; rfl
            have hL64 := hB.out.sz.lw L (List.mem_of_getElem? hL)
            have hfirst := word_First r hr64
            have hI2 := hI.out
            rw [← hLe] at hI2
            have hfr := fresh_next (i := low0 r) (by have := hb; exact hW64) hI2
            obtain ⟨i, hie⟩ : ∃ i, i = low0 r := ⟨_, rfl⟩
            rw [← hie, ← hLe] at hB2
            rw [← hie] at hl64 hbs hfirst hfr
            have hin : 64 * k + i < n := by
              have h1 := hB2.out.sz.cnt
              have h2 : (ls'[k]?) = some L := hL
              refine hB.out.sz.lb _ ?_
              rw [hasR_nat, show (64 * k + i) / 64 = k by omega, show (64 * k + i) % 64 = i by omega, Row.get hL]
              have h3 := low0_bit r (by rw [← hie]; exact hl64)
              rw [hI2, Nat.testBit_and, Bool.and_eq_true, ← hI2, ← hie] at h3
              exact h3.2
            have hoff := Lib.hid (off_eq L i hL64 hl64)
            have hof64 := offN_lt L i hL64
            have hr2 := offN_lt r i hr64
            have hand := Lib.hid (and_both r (offN L i) hr64 hof64)
            have hlen : Hid ((bitsOf r).length = (bitsOf (offN r i)).length + 1) := Lib.hid (by rw [hbs]; rfl)
            have hzl : zs'.length ≤ 1073741824 := by have h1 := hB.out.sz.cnt; have h2 := hB.out.sz.le; omega
            have hfl := hB.out.sz.fl
            have hbit := Lib.hid (fun W => word_BitN i hl64 W)
            obtain ⟨t0, t1, t2, t3⟩ := hS.out.cells
            have hbk : 0 ≤ (k : Int) ∧ (k : Int) < (m : Int) := by have := hkm.out; omega
            replace hfirst := Lib.hid hfirst
            replace hfr := Lib.hid hfr
            replace hbs := Lib.hid hbs
            replace hie := Lib.hid hie
            replace hLe := Lib.hid hLe
            replace hL := Lib.hid hL
            replace hI2 := Lib.hid hI2
            replace hin := Lib.hid hin
            replace hfl := Lib.hid hfl
            replace hlk := Lib.hid hlk
            go_wp2_with fail
            refine (hfirst.out _).mono ?_; rintro e w' ⟨rfl, rfl⟩
            go_wp2_with fail
            refine wp_region_plan 11 [(true, 0), (true, 1), (true, 2), (true, 3), (true, 4), (true, 5), (true, 6), (true, 7), (false, 8), (true, 9), (true, 10)] (by kernel_rfl) (by kernel_rfl) (fun U hU => ?_)
            have hSU := Lib.hid (show SrS w0 g gl gf n m (some ⟨rb, ro, none⟩) c u ls' fs' zs' U from by rw [hU.out]; exact hS.out.later (Below.refl _ _).drew)
            clear hU hS t0 t1 t2 t3
            obtain ⟨t0, t1, t2, t3⟩ := hSU.out.cells
            have cL : U.cell? ⟨gl, k, none⟩ = some (.int .u64 (L : Int)) := by rw [Blk.cell hSU.out.l k, List.getElem?_map, hL.out]; rfl
            have fL := Blk.frozen hSU.out.l k
            simp only [List.drop_succ_cons]
            iterate 8
              refine wpPlan_float (v := ?_) rfl (by rfl) (fun w' hw' => ?_) (fun K hK => ?_)
              rotate_left
              · (go_simp; try with_reducible rfl)
              go_simp
              refine hK _ ?_
              clear hK K
            refine wpPlan_only rfl (by rfl) (fun K hK => ?_)
            go_simp
            refine (hbit.out U).mono ?_
            rintro e x1 ⟨rfl, rfl⟩
            refine hK _ _ (Below.refl _ _) ?_
            clear hK K
            iterate 2
              refine wpPlan_float (v := ?_) rfl (by rfl) (fun w' hw' => ?_) (fun K hK => ?_)
              rotate_left
              · (go_simp; try with_reducible rfl)
              go_simp
              refine hK _ ?_
              clear hK K
            rw [hoff.out]
            obtain ⟨X, hX⟩ : ∃ X, X = U.setCell ⟨gl, k, none⟩ (.int .u64 ((offN L i : Nat) : Int)) := ⟨_, rfl⟩
            have hSX := Lib.hid (show SrS w0 g gl gf n m (some ⟨rb, ro, none⟩) c u (ls'.set k (offN L i)) fs' zs' X from by rw [hX]; exact hSU.out.setL k _)
            refine wpPlan_nil ?_
            go_wp2_with (rw [← hX]; clear hX)
            refine NoPanic.normal ?_
            clear t0 t1 t2 t3 cL fL hSU
            go_wp2_with fail
            rw [show ((k : Int) * 64 + (i : Int)) = ((64 * k + i : Nat) : Int) by omega]
            refine (path_meet w0 g gl gf n m (some ⟨rb, ro, none⟩) c u (ls'.set k (offN L i)) fs' zs' (64 * k + i) z X hSX.out hin.out hzl hfl.out).mono ?_
            rintro e w1 ⟨rfl, u2, hS2⟩
            obtain ⟨t0, t1, t2, t3⟩ := hS2.cells
            have cL : w1.cell? ⟨gl, k, none⟩ = some (.int .u64 ((offN L i : Nat) : Int)) := by rw [Blk.cell hS2.l k, List.getElem?_map, List.getElem?_set, if_pos rfl, if_pos hlk.out]; rfl
            replace hS2 := Lib.hid hS2
            clear hSX
            go_wp2_with fail
            go_roundw
            case rel =>
              refine ⟨r &&& offN L i, 64 * k + i + 1, u2, ls'.set k (offN L i), fs'.set (64 * k + i) z, zs' ++ [64 * k + i], Nat.lt_of_le_of_lt Nat.and_le_left hr64, by rw [hand.out], Lib.hid ?_, Lib.hid (by omega), hS2, hB2⟩
              rw [Row.get (show (ls'.set k (offN L i))[k]? = some (offN L i) by rw [List.getElem?_set, if_pos rfl, if_pos hlk.out])]
              exact hfr.out.1
            case measure =>
              rw [hand.out, hfr.out.2]; simp only [intOf, Int.toNat_natCast]; rw [hlen.out]; omega
      · obtain rfl : k = m := by omega
        have hB2 := Lib.hid (hB.out.next hG.out (by rw [hnw.out]; exact words_le64 n))
        clear hB hkm
        go_wp2_with fail
        go_ret
        exact ⟨rfl, u, ls', fs', zs', hS.out, hB2.out⟩
end Go.Proofs.Ytfeomhoicnjgpaa

namespace Go.Proofs.Ytfeomhoicnjgpaa
open Go.RowKit
set_option linter.unusedVariables false

section
variable {P : Program} {ops : Array Oper} {md : Region.Mode} {Q : Exit → Act → World → Prop} {S : World → Prop}

def wpAnyS (S : World → Prop) (P : Program) (md : Region.Mode) (ops : Array Oper) (Q : Exit → Act → World → Prop) : Nat → Array Bool → Act → World → Prop
  | 0, listed, a, w => Region.ready md ops listed = [] ∧ Q .normal a w
  | f + 1, listed, a, w => Region.ready md ops listed ≠ [] ∧ ∀ i ∈ Region.ready md ops listed, wpOp P ops Q i (fun a' w' => S w' ∧ wpAnyS S P md ops Q f (listed.setIfInBounds i true) a' w') a w
theorem wpAny_of_S : ∀ (f : Nat) (listed : Array Bool) (a : Act) (w : World), wpAnyS S P md ops Q f listed a w → wpAny P md ops Q f listed a w
  | 0, _, _, _, h => h
  | f + 1, listed, a, w, h => ⟨fun h0 => absurd h0 h.1, fun i hi => wpOp_mono (fun a' w' h' => wpAny_of_S f _ a' w' h'.2) (h.2 i hi)⟩

theorem wpAnyS_first {i : Nat} {oi : Oper} {v : Value} (hi : ops[i]? = some oi) (hsel : ∀ (j : Nat) (o : Oper) cs b, ops[j]? = some o → o.op ≠ .select cs b)
    (hQ : ∀ c a w, Q (.panic c) (a.put oi.dst v) w → Q (.panic c) a w) :
    ∀ (f : Nat) (listed : Array Bool) (a : Act) (w : World), S w →
      (∀ j oj, ops[j]? = some oj → j ≠ i → listed.getD j true = false → (∀ e ∈ oj.after, Region.binds md e = true → e.on ≠ i) → oi.apart ops oj = true) →
      i ∈ Region.ready md ops listed → YieldsIf P ops S oi v a →
      wpAnyS S P md ops Q f (listed.setIfInBounds i true) (a.put oi.dst v) w → wpAnyS S P md ops Q (f + 1) listed a w := by
  intro f
  induction f with
  | zero =>
    intro listed a w hS _ hr hy H
    refine ⟨fun h => (by rw [h] at hr; cases hr), fun j hj => ?_⟩
    by_cases hji : j = i
    · subst hji; exact hy.wpOp hi hS ⟨hS, H⟩
    · have h1 := ready_mono hj hji
      rw [H.1] at h1
      cases h1
  | succ f ih =>
    intro listed a w hS hfree hr hy H
    have hun := (mem_ready.1 hr).1
    refine ⟨fun h => (by rw [h] at hr; cases hr), fun j hj => ?_⟩
    by_cases hji : j = i
    · subst hji; exact hy.wpOp hi hS ⟨hS, H⟩
    · have h1 := H.2 j (ready_mono hj hji)
      obtain ⟨hjun, oj, hoj, hall⟩ := mem_ready.1 hj
      have hnot : ∀ e ∈ oj.after, Region.binds md e = true → e.on ≠ i := fun e he hb heq => by
        have h1 := hall e he hb
        rw [heq, getD_both hun] at h1
        cases h1
      have h2 := wpOp_putIf hoj (hfree j oj hoj hji hjun hnot) (fun cs b => hsel i oi cs b hi) (fun cs b => hsel j oj cs b hoj) hQ hy h1
      have hfree' : ∀ k ok, ops[k]? = some ok → k ≠ i → (listed.setIfInBounds j true).getD k true = false →
          (∀ e ∈ ok.after, Region.binds md e = true → e.on ≠ i) → oi.apart ops ok = true := fun k ok hk hki hun hno => by
        refine hfree k ok hk hki ?_ hno
        by_cases hjk : j = k
        · subst hjk; exact hjun
        · rw [getD_set_ne true hjk] at hun; exact hun
      refine wpOp_mono (fun a' w' h3 => ⟨h3.2.1, ih (listed.setIfInBounds j true) a' w' h3.2.1 hfree' (ready_mono hr (Ne.symm hji)) h3.1 ?_⟩) h2
      rw [Array.setIfInBounds_comm _ _ hji]
      exact h3.2.2

/-- a tree of orders -/
inductive PT where
  | done
  | flt (i : Nat) (t : PT)
  | one (i : Nat) (t : PT)
  | two (i j : Nat) (ti tj : PT)
  | three (i j k : Nat) (ti tj tk : PT)
def PT.depth : PT → Nat
  | .done => 0
  | .flt _ t => t.depth + 1
  | .one _ t => t.depth + 1
  | .two _ _ t _ => t.depth + 1
  | .three _ _ _ t _ _ => t.depth + 1
def PT.ok (md : Region.Mode) (ops : Array Oper) : PT → Array Bool → Bool
  | .done, listed => (Region.ready md ops listed).isEmpty
  | .flt i t, listed => (Region.ready md ops listed).contains i && Region.free md ops listed i && t.ok md ops (listed.setIfInBounds i true)
  | .one i t, listed => decide (Region.ready md ops listed = [i]) && t.ok md ops (listed.setIfInBounds i true)
  | .two i j t u, listed => decide (Region.ready md ops listed = [i, j]) && decide (t.depth = u.depth) && t.ok md ops (listed.setIfInBounds i true) && u.ok md ops (listed.setIfInBounds j true)
  | .three i j k t u v, listed => decide (Region.ready md ops listed = [i, j, k]) && (decide (t.depth = u.depth) && decide (t.depth = v.depth)) && t.ok md ops (listed.setIfInBounds i true) && u.ok md ops (listed.setIfInBounds j true) && v.ok md ops (listed.setIfInBounds k true)
def wpPT (S : World → Prop) (P : Program) (ops : Array Oper) (Q : Exit → Act → World → Prop) : PT → Act → World → Prop
  | .done, a, w => Q .normal a w
  | .flt i t, a, w => ∃ o v, ops[i]? = some o ∧ YieldsIf P ops S o v a ∧ wpPT S P ops Q t (a.put o.dst v) w
  | .one i t, a, w => wpOp P ops Q i (fun a' w' => S w' ∧ wpPT S P ops Q t a' w') a w
  | .two i j t u, a, w => wpOp P ops Q i (fun a' w' => S w' ∧ wpPT S P ops Q t a' w') a w ∧ wpOp P ops Q j (fun a' w' => S w' ∧ wpPT S P ops Q u a' w') a w
  | .three i j k t u v, a, w => wpOp P ops Q i (fun a' w' => S w' ∧ wpPT S P ops Q t a' w') a w ∧ wpOp P ops Q j (fun a' w' => S w' ∧ wpPT S P ops Q u a' w') a w ∧ wpOp P ops Q k (fun a' w' => S w' ∧ wpPT S P ops Q v a' w') a w

theorem wpAnyS_tree (hsel : Region.noSelect ops = true) (hQ : ∀ c a d v w, Q (.panic c) (a.put d v) w → Q (.panic c) a w) :
    ∀ (t : PT) (listed : Array Bool) (a : Act) (w : World), S w → t.ok md ops listed = true → wpPT S P ops Q t a w → wpAnyS S P md ops Q t.depth listed a w
  | .done, listed, a, w, _, hB, h => ⟨by simpa [PT.ok] using hB, h⟩
  | .flt i t, listed, a, w, hS, hB, h => by
    simp only [PT.ok, Bool.and_eq_true] at hB
    obtain ⟨⟨hr, hf⟩, hB'⟩ := hB
    obtain ⟨o, v, ho, hy, h'⟩ := h
    exact wpAnyS_first ho (Region.noSelect_spec hsel) (fun c a w => hQ c a o.dst v w) t.depth listed a w hS (Region.free_spec ho hf) (by simpa using hr) hy (wpAnyS_tree hsel hQ t _ _ _ hS hB' h')
  | .one i t, listed, a, w, hS, hB, h => by
    simp only [PT.ok, Bool.and_eq_true, decide_eq_true_eq] at hB
    refine ⟨by rw [hB.1]; simp, fun j hj => ?_⟩
    rw [hB.1] at hj
    have hji : j = i := by simpa using hj
    subst hji
    exact wpOp_mono (fun a' w' h3 => ⟨h3.1, wpAnyS_tree hsel hQ t _ a' w' h3.1 hB.2 h3.2⟩) h
  | .two i k t u, listed, a, w, hS, hB, h => by
    simp only [PT.ok, Bool.and_eq_true, decide_eq_true_eq] at hB
    obtain ⟨⟨⟨hr, hd⟩, h1⟩, h2⟩ := hB
    refine ⟨by rw [hr]; simp, fun j hj => ?_⟩
    rw [hr] at hj
    have hjik : j = i ∨ j = k := by simpa using hj
    rcases hjik with rfl | rfl
    · exact wpOp_mono (fun a' w' h3 => ⟨h3.1, wpAnyS_tree hsel hQ t _ a' w' h3.1 h1 h3.2⟩) h.1
    · refine wpOp_mono (fun a' w' h3 => ⟨h3.1, ?_⟩) h.2
      rw [hd]
      exact wpAnyS_tree hsel hQ u _ a' w' h3.1 h2 h3.2
  | .three i j k t u v, listed, a, w, hS, hB, h => by
    simp only [PT.ok, Bool.and_eq_true, decide_eq_true_eq] at hB
    obtain ⟨⟨⟨⟨hr, hd, hd2⟩, h1⟩, h2⟩, h3⟩ := hB
    refine ⟨by rw [hr]; simp, fun q hq => ?_⟩
    rw [hr] at hq
    have hqs : q = i ∨ q = j ∨ q = k := by simpa using hq
    rcases hqs with rfl | rfl | rfl
    · exact wpOp_mono (fun a' w' h3' => ⟨h3'.1, wpAnyS_tree hsel hQ t _ a' w' h3'.1 h1 h3'.2⟩) h.1
    · refine wpOp_mono (fun a' w' h3' => ⟨h3'.1, ?_⟩) h.2.1
      rw [hd]
      exact wpAnyS_tree hsel hQ u _ a' w' h3'.1 h2 h3'.2
    · refine wpOp_mono (fun a' w' h3' => ⟨h3'.1, ?_⟩) h.2.2
      rw [hd2]
      exact wpAnyS_tree hsel hQ v _ a' w' h3'.1 h3 h3'.2

theorem wp_region_tree {id : Nat} {a : Act} {w : World} {l : List Oper} (t : PT) (hm : P.follows .mixedOrders = true) (hB : (Region.noSelect l.toArray && decide (t.depth = l.toArray.size) && t.ok .any l.toArray (Array.replicate l.toArray.size false)) = true)
    (h : ∀ W : World, Hid (W = w.drew) → wpPT (fun x => Below W.heap.size W x) P l.toArray (NoPanic Q) t a W) : (Code.region id l.toArray true).wp P Q a w := by
  refine wp_region_noPanic ?_
  have hQ : ∀ c a d v w, NoPanic Q (.panic c) (a.put d v) w → NoPanic Q (.panic c) a w := fun _ _ _ _ _ h => h
  simp only [Bool.and_eq_true, decide_eq_true_eq] at hB
  obtain ⟨⟨hsel, hd⟩, hok⟩ := hB
  refine wp_region_any hm ?_
  have H := wpAny_of_S _ _ _ _ (wpAnyS_tree (md := .any) hsel hQ t _ a w.drew (Below.refl _ _) hok (h w.drew (Lib.hid rfl)))
  rw [hd] at H
  exact H

/-! ### the steps -/
section
variable {W : World} {t u : PT} {a : Act} {w : World} {i j : Nat} {o : Oper}
theorem wpPT_float {v : Value} (hi : ops[i]? = some o) (hw : Region.wanted o (yielded ops a.tmps) = true)
    (hy : ∀ w' : World, (∀ p, (W.cell? p).isSome = true → w'.cell? p = W.cell? p) → (execOp a.eval o).run P w' = .ok (.value v) w') (h : ∀ K : Act → Prop, (∀ a', wpPT (fun x => Below W.heap.size W x) P ops Q t a' w → K a') → K (a.put o.dst v)) : wpPT (fun x => Below W.heap.size W x) P ops Q (.flt i t) a w :=
  ⟨o, v, hi, .inl ⟨hw, fun w' hb => hy w' (fun p hp => by
    have hlt : p.block < W.heap.size := by
      cases hc : W.cell? p with
      | none => rw [hc] at hp; cases hp
      | some u => exact block_lt_of_cell hc
    exact hb.cell hlt)⟩, h _ (fun _ h => h)⟩
theorem wpOp_step {K0 : Act → World → Prop} (hi : ops[i]? = some o) (hw : Region.wanted o (yielded ops a.tmps) = true)
    (h : ∀ K : Act → World → Prop, (∀ a' w', S w' → K0 a' w' → K a' w') → o.wp P a w K Q) : wpOp P ops Q i (fun a' w' => S w' ∧ K0 a' w') a w := by
  unfold wpOp
  simp only [hi, hw, if_true]
  exact .inl (h _ (fun a' w' hb hp => ⟨hb, hp⟩))
theorem wpPT_one (hi : ops[i]? = some o) (hw : Region.wanted o (yielded ops a.tmps) = true)
    (h : ∀ K : Act → World → Prop, (∀ a' w', S w' → wpPT S P ops Q t a' w' → K a' w') → o.wp P a w K Q) : wpPT S P ops Q (.one i t) a w := wpOp_step hi hw h
theorem wpPT_two {o' : Oper} (hi : ops[i]? = some o) (hw : Region.wanted o (yielded ops a.tmps) = true) (hj : ops[j]? = some o') (hw' : Region.wanted o' (yielded ops a.tmps) = true)
    (h : ∀ K : Act → World → Prop, (∀ a' w', S w' → wpPT S P ops Q t a' w' → K a' w') → o.wp P a w K Q)
    (h' : ∀ K : Act → World → Prop, (∀ a' w', S w' → wpPT S P ops Q u a' w' → K a' w') → o'.wp P a w K Q) : wpPT S P ops Q (.two i j t u) a w := ⟨wpOp_step hi hw h, wpOp_step hj hw' h'⟩
theorem wpPT_three {v : PT} {k : Nat} {o' o'' : Oper} (hi : ops[i]? = some o) (hw : Region.wanted o (yielded ops a.tmps) = true) (hj : ops[j]? = some o') (hw' : Region.wanted o' (yielded ops a.tmps) = true) (hk : ops[k]? = some o'') (hw'' : Region.wanted o'' (yielded ops a.tmps) = true)
    (h : ∀ K : Act → World → Prop, (∀ a' w', S w' → wpPT S P ops Q t a' w' → K a' w') → o.wp P a w K Q)
    (h' : ∀ K : Act → World → Prop, (∀ a' w', S w' → wpPT S P ops Q u a' w' → K a' w') → o'.wp P a w K Q)
    (h'' : ∀ K : Act → World → Prop, (∀ a' w', S w' → wpPT S P ops Q v a' w' → K a' w') → o''.wp P a w K Q) : wpPT S P ops Q (.three i j k t u v) a w := ⟨wpOp_step hi hw h, wpOp_step hj hw' h', wpOp_step hk hw'' h''⟩
theorem wpPT_done (h : Q .normal a w) : wpPT S P ops Q .done a w := h
end
end
end Go.Proofs.Ytfeomhoicnjgpaa

namespace Go.Proofs.Ytfeomhoicnjgpaa
open Go.RowKit
set_option linter.unusedVariables false

/-- how something lies in memory -/
structure Enc (α : Type) where
  cells : α → List Value
  sz : Nat
  pos : 0 < sz
  len : ∀ x, (cells x).length = sz
  one : ∀ x u, u ∈ cells x → u.oneCell' = true
  ok : α → Prop
section
variable {α : Type} {E : Enc α}
def Enc.all (E : Enc α) (xs : List α) : List Value := xs.flatMap E.cells
theorem Enc.all_cons (E : Enc α) (x : α) (xs : List α) : E.all (x :: xs) = E.cells x ++ E.all xs := rfl
theorem Enc.all_at {xs : List α} {k : Nat} {x : α} (h : xs[k]? = some x) {r : Nat} (hr : r < E.sz) : (E.all xs)[k * E.sz + r]? = (E.cells x)[r]? := by
  induction xs generalizing k with
  | nil => simp at h
  | cons y xs ih =>
    rw [E.all_cons]
    cases k with
    | zero =>
      simp at h; subst h
      rw [Nat.zero_mul, Nat.zero_add, List.getElem?_append_left (by rw [E.len]; exact hr)]
    | succ k =>
      have h' : xs[k]? = some x := by simpa using h
      have e : (k + 1) * E.sz + r = E.sz + (k * E.sz + r) := by rw [Nat.succ_mul]; omega
      rw [e, List.getElem?_append_right (by rw [E.len]; omega), E.len, Nat.add_sub_cancel_left]
      exact ih h'
/-- the slice '.slice A n c' reads as xs -/
def LAt (E : Enc α) (w : World) (A : Option Addr) (n : Nat) (xs : List α) : Prop :=
  xs.length = n ∧ (∀ x ∈ xs, E.ok x) ∧ (0 < n → ∃ b off, A = some ⟨b, off, none⟩ ∧ b < w.heap.size ∧ ∀ (j : Nat) (u : Value), (E.all xs)[j]? = some u → w.cell? ⟨b, off + j, none⟩ = some u)
variable {w w' : World} {A : Option Addr} {n : Nat} {xs : List α}
theorem LAt.len (h : LAt E w A n xs) : xs.length = n := h.1
theorem LAt.below (h : LAt E w A n xs) (hb : Below w.heap.size w w') : LAt E w' A n xs :=
  ⟨h.1, h.2.1, fun hn => by
    obtain ⟨b, off, e, hbl, hc⟩ := h.2.2 hn
    exact ⟨b, off, e, Nat.lt_of_lt_of_le hbl hb.size, fun j u hu => (hb.cell (p := ⟨b, off + j, none⟩) hbl).trans (hc j u hu)⟩⟩
theorem LAt.nil (E : Enc α) (w : World) (A : Option Addr) : LAt E w A 0 [] := ⟨rfl, fun x h => (by cases h), fun h => absurd h (by omega)⟩
theorem LAt.at_ {k : Nat} (h : LAt E w A n xs) (hk : k < n) : ∃ b off x, A = some ⟨b, off, none⟩ ∧ b < w.heap.size ∧ xs[k]? = some x ∧ E.ok x ∧ ∀ (r : Nat) (u : Value), (E.cells x)[r]? = some u → w.cell? ⟨b, off + k * E.sz + r, none⟩ = some u := by
  obtain ⟨b, off, e, hb, hc⟩ := h.2.2 (by omega)
  have hl : k < xs.length := by rw [h.1]; exact hk
  have ho := List.getElem?_eq_getElem hl
  refine ⟨b, off, xs[k], e, hb, ho, h.2.1 _ (List.getElem_mem hl), fun r u hu => ?_⟩
  have hr : r < E.sz := by rw [← E.len xs[k]]; exact (List.getElem?_eq_some_iff.1 hu).1
  have := hc (k * E.sz + r) u (by rw [Enc.all_at ho hr]; exact hu)
  rwa [← Nat.add_assoc] at this
theorem LAt.of_blk {g : Nat} {t : TypeId} (h : Blk w g t (E.all xs)) (ho : ∀ x ∈ xs, E.ok x) (hn : xs.length = n) : LAt E w (some ⟨g, 0, none⟩) n xs :=
  ⟨hn, ho, fun _ => ⟨g, 0, rfl, h.lt, fun j u hu => by rw [Nat.zero_add, h.cell]; exact hu⟩⟩
end

/-! ### texts, numbers, items -/
def encS : Enc ByteArray := { cells := fun s => [.string s], sz := 1, pos := by decide, len := fun _ => rfl, one := fun x u h => by simp at h; subst h; rfl, ok := fun s => s.size ≤ 9223372036854775807 }
def encI : Enc Int := { cells := fun z => [.int .i64 z], sz := 1, pos := by decide, len := fun _ => rfl, one := fun x u h => by simp at h; subst h; rfl, ok := fun z => -9223372036854775808 ≤ z ∧ z < 9223372036854775808 }
/-- an item: its session, its place in it, whether it writes, its variable's number, its value -/
structure It where
  se : Int
  pl : Int
  wr : Bool
  va : Int
  vl : Int
deriving DecidableEq
structure It.Ok (i : It) : Prop where
  s0 : -9223372036854775808 ≤ i.se
  s1 : i.se < 9223372036854775808
  p0 : -9223372036854775808 ≤ i.pl
  p1 : i.pl < 9223372036854775808
  v0 : -9223372036854775808 ≤ i.va
  v1 : i.va < 9223372036854775808
  x0 : -9223372036854775808 ≤ i.vl
  x1 : i.vl < 9223372036854775808
def encT : Enc It := { cells := fun i => [.int .i64 i.se, .int .i64 i.pl, .bool i.wr, .int .i64 i.va, .int .i64 i.vl], sz := 5, pos := by decide, len := fun _ => rfl, one := fun x u h => by simp only [List.mem_cons, List.not_mem_nil, or_false] at h; rcases h with rfl | rfl | rfl | rfl | rfl <;> rfl, ok := It.Ok }
theorem LAt.int {w : World} {A : Option Addr} {n k : Nat} {xs : List Int} (h : LAt encI w A n xs) (hk : k < n) : ∃ b off z, A = some ⟨b, off, none⟩ ∧ b < w.heap.size ∧ xs[k]? = some z ∧ (-9223372036854775808 ≤ z ∧ z < 9223372036854775808) ∧ w.cell? ⟨b, off + k, none⟩ = some (.int .i64 z) := by
  obtain ⟨b, off, s, e, hb, hs, hok, hc⟩ := h.at_ hk
  exact ⟨b, off, s, e, hb, hs, hok, by have := hc 0 _ rfl; simpa [encI] using this⟩
/-- the facts of a history -/
structure Fac where
  vars : List ByteArray
  items : List It
  frm : List Int
deriving DecidableEq
/-- where facts lie: three slices -/
structure FV where
  A : Option Addr
  n : Nat
  c : Nat
  B : Option Addr
  m : Nat
  d : Nat
  C : Option Addr
  k : Nat
  e : Nat
structure FactsAt (w : World) (v : FV) (f : Fac) : Prop where
  vs : LAt encS w v.A v.n f.vars
  vc : v.n ≤ v.c
  vm : v.c ≤ 9223372036854775807
  is : LAt encT w v.B v.m f.items
  ic : v.m ≤ v.d
  im : v.d ≤ 9223372036854775807
  fs : LAt encI w v.C v.k f.frm
  fc : v.k ≤ v.e
  fm : v.e ≤ 9223372036854775807
end Go.Proofs.Ytfeomhoicnjgpaa

namespace Go.Proofs.Ytfeomhoicnjgpaa
open Go.RowKit
set_option linter.unusedVariables false

/-- an operation: does it write, its variable, its value -/
abbrev OpT := Bool × ByteArray × Int
section
variable {w w' : World} {A : Option Addr} {n : Nat} {os : List OpT} {hs : List (List OpT)} {v : Value}
end

/-! ### how many there are -/
end Go.Proofs.Ytfeomhoicnjgpaa

namespace Go.Proofs.Ytfeomhoicnjgpaa
open Go.RowKit
set_option linter.unusedVariables false

section
variable {P : Program} {w : World}
end

/-! ### numbers and spots -/

/-! ### histories of literals -/
def RetBool (b : Bool) (w : World) (e : Ending) (w' : World) : Prop := e = .returned (.bool b) ∧ Below w.heap.size w w'

end Go.Proofs.Ytfeomhoicnjgpaa

namespace Go.Proofs.Ytfeomhoicnjgpaa
set_option linter.unusedVariables false

end Go.Proofs.Ytfeomhoicnjgpaa

namespace Go.Proofs.Ytfeomhoicnjgpaa
set_option linter.unusedVariables false

end Go.Proofs.Ytfeomhoicnjgpaa

namespace Go.Proofs.Ytfeomhoicnjgpaa
set_option linter.unusedVariables false

end Go.Proofs.Ytfeomhoicnjgpaa

namespace Go.Proofs.Ytfeomhoicnjgpaa
set_option linter.unusedVariables false

end Go.Proofs.Ytfeomhoicnjgpaa

namespace Go.Proofs.Ytfeomhoicnjgpaa
set_option linter.unusedVariables false

end Go.Proofs.Ytfeomhoicnjgpaa

namespace Go.Proofs.Ytfeomhoicnjgpaa
set_option linter.unusedVariables false

/-! ### how many reads read from a write -/
end Go.Proofs.Ytfeomhoicnjgpaa

namespace Go.Proofs.Ytfeomhoicnjgpaa
open Go.RowKit
set_option linter.unusedVariables false

/-- facts f, told by the slices v, lie in the variable g; of what was there in w nothing has turned -/
structure FBox (w : World) (g : Nat) (v : FV) (f : Fac) (wr : World) : Prop where
  f : FactsAt wr v f
  k : Blk wr g 27 [.slice v.A v.n v.c, .slice v.B v.m v.d, .slice v.C v.k v.e]
  o : Below w.heap.size w wr
section
variable {w wr w' : World} {g : Nat} {v : FV} {f : Fac}
end

/-! ### facts stored into a variable of facts -/
section
variable {w w0 : World} {g k : Nat} {t : TypeId} {cs : List Value} {v u : FV} {f : Fac}
end

/-! ### an item in a variable -/
end Go.Proofs.Ytfeomhoicnjgpaa

namespace Go.Proofs.Ytfeomhoicnjgpaa
open Go.RowKit
set_option linter.unusedVariables false
end Go.Proofs.Ytfeomhoicnjgpaa

namespace Go.Proofs.Ytfeomhoicnjgpaa
open Go.RowKit
set_option linter.unusedVariables false

end Go.Proofs.Ytfeomhoicnjgpaa

namespace Go.Proofs.Ytfeomhoicnjgpaa
open Go.RowKit
set_option linter.unusedVariables false

section
variable {w w' : World} {g : Nat} {t : TypeId} {x y : Int}
end

end Go.Proofs.Ytfeomhoicnjgpaa

namespace Go.Proofs.Ytfeomhoicnjgpaa
open Go.RowKit
set_option linter.unusedVariables false

theorem list_eq {α : Type} {s t : List α} (hl : s.length = t.length) (h : ∀ k, k < s.length → s[k]? = t[k]?) : s = t :=
  List.ext_getElem? (fun k => by
    by_cases hk : k < s.length
    · exact h k hk
    · rw [List.getElem?_eq_none (by omega), List.getElem?_eq_none (by omega)])
set_option maxRecDepth 100000 in
set_option maxHeartbeats 1000000 in
theorem ref2_IntsL (A B : Option Addr) (n c m d : Nat) (s t : List Int) (w : World) (hX : LAt encI w A n s) (hY : LAt encI w B m t) (hn : n ≤ 9223372036854775807) (hm : m ≤ 9223372036854775807) :
    Calls Try.prog 14 #[.slice A n c, .slice B m d] w fun e w' => e = .returned (.bool (decide (s = t))) ∧ ∃ q, w' = w.drewN q := by
  -- two slices that read as s, t; $at gives a cell; eyewitnessref02.Ints the function; $T the type's name
  have hXl := hX.len
  have hYl := hY.len
  by_cases hnm : n = m
  · subst hnm
    have hee : ((n : Int) != (n : Int)) = false := by simp
    replace hX := Lib.hid hX
    replace hY := Lib.hid hY
    replace hXl := Lib.hid hXl
    replace hYl := Lib.hid hYl
    go_enter Try.func14, Try.ntmps14
    go_wp2_with fail
    go_loopw [5] (fun t' wr => ∃ j q : Nat, j ≤ n ∧ t' = .int .i64 j ∧ Hid (∀ i, i < j → s[i]? = t[i]?) ∧ wr = w.drewN q) (fun t' _ => n - (intOf t').toNat)
    case atStart => exact ⟨0, 0, Nat.zero_le _, rfl, Lib.hid (fun i hi => absurd hi (by omega)), rfl⟩
    case round =>
      obtain ⟨j, q2, hj, rfl, hin, rfl⟩ := hrel
      by_cases hjl : j < n
      · have hjl' : (j : Int) < (n : Int) := by omega
        obtain ⟨b3, off3, x, rfl, hb3, hx, hok3, x0⟩ := hX.out.int hjl
        obtain ⟨b4, off4, y, rfl, hb4, hy, hok4, y0⟩ := hY.out.int hjl
        by_cases hxy : x = y
        · have e1 : (x == y) = true := by rw [hxy]; simp
          have e1' : (x != y) = false := by rw [hxy]; simp
          have hin' : Hid (∀ i, i < j + 1 → s[i]? = t[i]?) := Lib.hid (fun i hi => by
            rcases Nat.lt_succ_iff_lt_or_eq.1 hi with h1 | h1
            · exact hin.out i h1
            · subst h1; rw [hx, hy, hxy])
          clear hx hy hjl hxy
          go_wp2_with fail
          go_quiet (fail)
          go_wp2_with fail
          exact ⟨⟨j + 1, _, by omega, by go_num, hin', rfl⟩, by simp [intOf]; omega⟩
        · have hno : Hid (decide (s = t) = false) := Lib.hid (decide_eq_false (fun e => by subst e; rw [hx] at hy; injection hy with hy; exact hxy hy))
          have e1 : (x == y) = false := by rw [beq_eq_false_iff_ne]; exact hxy
          have e1' : (x != y) = true := by rw [bne_iff_ne]; exact hxy
          clear hx hy hjl hxy
          go_wp2_with fail
          go_quiet (fail)
          go_wp2_with fail
          go_ret
          exact ⟨by rw [hno.out]; rfl, _, by rw [World.drewN_drewN]⟩
      · have hjn : j = n := by omega
        have hres := Lib.hid (decide_eq_true (list_eq (s := s) (t := t) (by rw [hXl.out, hYl.out]) (by rw [hXl.out, ← hjn]; exact hin.out)))
        have hlt' : ¬ (j : Int) < (n : Int) := by omega
        clear hin hjl hjn
        go_wp2_with fail
        go_ret
        exact ⟨by rw [hres.out]; rfl, _, rfl⟩
  · have hee : ((n : Int) != (m : Int)) = true := by simp; omega
    have hres : Hid (decide (s = t) = false) := Lib.hid (decide_eq_false (fun e => by subst e; omega))
    clear hnm hX hY
    replace hXl := Lib.hid hXl
    replace hYl := Lib.hid hYl
    go_enter Try.func14, Try.ntmps14
    go_wp2_with fail
    go_ret
    exact ⟨by rw [hres.out]; rfl, 0, rfl⟩

end Go.Proofs.Ytfeomhoicnjgpaa

namespace Go.Proofs.Ytfeomhoicnjgpaa
open Go.RowKit
set_option linter.unusedVariables false

end Go.Proofs.Ytfeomhoicnjgpaa

namespace Go.Proofs.Ytfeomhoicnjgpaa
open Go.RowKit
set_option linter.unusedVariables false

end Go.Proofs.Ytfeomhoicnjgpaa

namespace Go.Proofs.Ytfeomhoicnjgpaa
open Go.RowKit
set_option linter.unusedVariables false
end Go.Proofs.Ytfeomhoicnjgpaa
