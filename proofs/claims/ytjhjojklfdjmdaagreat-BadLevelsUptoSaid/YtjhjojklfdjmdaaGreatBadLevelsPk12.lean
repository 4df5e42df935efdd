/- The code's own contracts of layer 18: Of. What the code of layer 18 asks of facts, of a history's. Plain mathematics of layer 22: runs of registers. Nothing of the program is named. Plain mathematics of layer 15: the first order of numbers. Nothing of the program is named. Plain mathematics of layer 15: first orders of all of a matrix's numbers. Nothing of the program is named. The contract of the document's own answer of layer 11: Of (whole facts of a history). Layer 19's example, as facts; plain mathematics of the levels. Plain mathematics of layer 19: what a pattern's operations are. Nothing of the program is named. Plain mathematics of layers 20 and 21: steps, which are right, which are plain, what holds. Nothing of the program is named. Plain mathematics of layer 18: what an operation has seen is in what a later one of its session has. Nothing of the program is named. Plain mathematics of layers 20 and 21: what holds is a pattern of its kind. Nothing of the program is named. Plain mathematics of layers 23 and 24: what was written last in a run that respects an order; what it says that a level has no bad pattern. Nothing of the program is named. Plain mathematics of layer 19: what the last read from a write of a session has seen is enough for its session. Nothing of the program is named. Plain mathematics of layer 19: the last reads from writes, session by session; the first pattern of the kinds 6 and 7 is found through them. Nothing of the program is named. -/
import Derived.Test.YtjhjojklfdjmdaaGreatBadLevelsPk6
import Derived.Test.YtjhjojklfdjmdaaGreatBadLevelsPk7
import Derived.Test.YtjhjojklfdjmdaaGreatBadLevelsPk11
import Derived.Test.YtjhjojklfdjmdaaGreatBadLevelsPk1
import Derived.Test.YtjhjojklfdjmdaaGreatBadLevelsPk8
import Derived.Test.YtjhjojklfdjmdaaGreatBadLevelsPk4
import Derived.Test.YtjhjojklfdjmdaaGreatBadLevelsPk3
import Derived.Test.YtjhjojklfdjmdaaGreatBadLevelsPk5
import Derived.Test.YtjhjojklfdjmdaaGreatBadLevelsPk2
namespace Go.Proofs.YtjhjojklfdjmdaaGreat
open Go.RowKit
set_option linter.unusedVariables false
theorem LAt.keptB {α : Type} {E : Enc α} {w w' : World} {A : Option Addr} {n g : Nat} {xs : List α} (h : LAt E w A n xs) (hb : BelowB g w w') (hne : ∀ ad, A = some ad → ad.block ≠ g) : LAt E w' A n xs :=
  ⟨h.1, h.2.1, fun hn => by
    obtain ⟨b, off, e, hb', hc⟩ := h.2.2 hn
    exact ⟨b, off, e, Nat.lt_of_lt_of_le hb' hb.size, fun j u hu => (hb.cell (p := ⟨b, off + j, none⟩) hb' (show b ≠ g from hne _ e)).trans (hc j u hu)⟩⟩
theorem SlotsM.keptB {α : Type} {E : Enc α} {tS tE : TypeId} {B go n g : Nat} {w w' : World} {vs : List Value} {ls : List (List α)} (h : SlotsM E tS tE B go n w vs ls) (hb : BelowB g w w') (hg : g < B) : SlotsM E tS tE B go n w' vs ls :=
  ⟨own_keptB18 h.o hb hg, ⟨h.s.len, fun i v l h1 h2 => ⟨(h.s.row i v l h1 h2).1, own_keptB18 (h.s.row i v l h1 h2).2 hb hg⟩, h.s.dis⟩⟩
theorem wihO_nodup (a : List (List Nat)) (o : Int) (n : Nat) : (wihO a o n).Nodup := by
  unfold wihO
  split
  · unfold wihF wihN
    refine List.Pairwise.map _ (R := (· ≠ ·)) (fun a b h e => h (by omega)) ?_
    exact List.Pairwise.filter _ List.nodup_range
  · simp
set_option maxRecDepth 100000 in
set_option maxHeartbeats 8000000 in
theorem seen_Of (v : FV) (f : Fac) (A : Option Addr) (c : Nat) (co : List (List Nat)) (o : Int) (w : World) (hF : FactsAt w v f) (hr : RowsAt w A v.m co) (hG : Good v.m co) (hm : v.m < 64) (hw : WholeF f) (h0 : 0 ≤ o) (h1 : o < (v.m : Int)) (hx : SeenX v f) (hcl : ClosedM co) :
    Calls Tryz.prog 94 #[.agg #[.slice v.A v.n v.c, .slice v.B v.m v.d, .slice v.C v.k v.e], .agg #[.int .i64 (v.m : Int), .slice A v.m c], .int .i64 o] w (RetSeen v.m f (keptF f.items (pastF f.items o f.items.length)) (withinM v.m co (wihO co o v.m)) w) := by
  have hil := hF.is.len
  have hvn := hx.nn
  have d1 : decide (o < 0) = false := decide_eq_false (by omega)
  have d2 : decide ((v.m : Int) ≤ o) = false := decide_eq_false (by omega)
  have hkok := keptF_ok f.items o
  have hklen := keptF_len f.items o
  obtain ⟨wl, hwl⟩ : ∃ l, l = wihO co o v.m := ⟨_, rfl⟩
  have hwok : ∀ z ∈ wl, 0 ≤ z ∧ z < (v.m : Int) := by rw [hwl]; exact wihO_ok co o v.m
  have hwnd : wl.Nodup := by rw [hwl]; exact wihO_nodup co o v.m
  have hwlen : wl.length ≤ v.m := by
    rw [hwl]; unfold wihO
    split
    · exact wihF_len _ _ _
    · simp
  have gB := within_facts hG (l := wl)
  rw [hil] at hkok hklen
  have cP := fun W hW => past_With A v.m c co o W hW hG
  rw [← hwl] at cP ⊢
  have cI := fun L m d W hR hI hmm => hull_Within A L v.m c m d co wl W hR hG hI hmm
  have cR := fun D m d W hF hL hm' => seen_ruled v f D m d wl o W hF hx hw (by omega) hL hwok hm'
  obtain ⟨kept, hke⟩ : ∃ l, l = keptF f.items (pastF f.items o f.items.length) := ⟨_, rfl⟩
  obtain ⟨B, hBe⟩ : ∃ M, M = withinM v.m co wl := ⟨_, rfl⟩
  have hk2 : ∀ r ∈ kept, 0 ≤ r ∧ r < (v.m : Int) := by rw [hke, ← hil]; exact keptF_ok f.items o
  have hkl2 : kept.length ≤ v.m := by rw [hke, ← hil]; exact keptF_len f.items o
  rw [← hke] at cR ⊢
  rw [← hBe] at cI gB ⊢
  have gB' : Good f.items.length B := by rw [hil]; exact gB.1
  have hBc : ClosedM B := fun i j k hij hjk => by
    have h2 := (gB.2 i j).1 hij
    have h3 := (gB.2 j k).1 hjk
    exact (gB.2 i k).2 ⟨hcl i j k h2.1 h3.1, h2.2.1, h3.2.2⟩
  have hfst := Lib.hid (fun k => seX_first (f := f) (kept := kept) gB' (P := fun a => (a : Int) ∈ wl) (fun a y h => ((gB.2 a y).1 h).2.1) k)
  have hsg : Hid (∀ k, Good v.m (seX f kept B k)) := Lib.hid (fun k => by rw [← hil]; exact seX_good gB' k)
  have hsc : Hid (∀ k, ClosedM (seX f kept B k)) := Lib.hid (fun k => seX_closed gB' hBc k)
  have hsl : Hid (∀ k, (seL f kept B k).length ≤ v.m * v.m) := Lib.hid (fun k => Nat.le_trans (seL_len gB' k) (by rw [hil]; exact Nat.mul_le_mul (by rw [← hil]; exact cntW_le _ _) (by rw [← hil]; exact cntW_le _ _)))
  have hsk : Hid (∀ k, ∀ x ∈ seL f kept B k, Ed.Ok x) := Lib.hid (seL_okE gB' (by rw [hil]; exact hk2) (by omega))
  have hsn : Hid (∀ X, (newF f X kept).length ≤ v.m * v.m) := Lib.hid (fun X => by unfold newF; rw [hil]; exact nwA_len _ _)
  have hnp : Hid (∀ X, ∀ e ∈ newF f X kept, ∃ a b : Nat, e.w1 = (a : Int) ∧ e.w2 = (b : Int) ∧ a < v.m ∧ b < v.m) := Lib.hid (fun X e he => by
    obtain ⟨a, b, h1, h2, h3, h4, -⟩ := newF_some he
    exact ⟨a, b, h3, h4, by omega, by omega⟩)
  have hst : Hid (∀ k, seX f kept B (k + 1) = closeK ((edP (newF f (seX f kept B k) kept)).foldl setP (seX f kept B k)) v.m) := Lib.hid (fun k => by rw [← hil]; rfl)
  have hpos : Hid (∀ k, ∀ xs ∈ seX f kept B k, 0 < xs.length) := Lib.hid (fun k xs hxs => rows_len_pos (hsg.out k) (by omega) xs hxs)
  obtain ⟨wsl, hwsl⟩ : ∃ l, l = wl.filter (isW f) := ⟨_, rfl⟩
  have hwsn : wsl.Nodup := by rw [hwsl]; exact hwnd.sublist List.filter_sublist
  have hwso : ∀ z ∈ wsl, 0 ≤ z ∧ z < (v.m : Int) ∧ isW f z = true := fun z hz => by
    rw [hwsl] at hz
    obtain ⟨h2, h3⟩ := List.mem_filter.1 hz
    exact ⟨(hwok z h2).1, (hwok z h2).2, h3⟩
  have hwsle : wsl.length ≤ v.m := by rw [hwsl]; exact Nat.le_trans (List.length_filter_le _ _) hwlen
  have hwin : ∀ k (a y : Nat), Rel (seX f kept B k) a y → isW f (a : Int) = true → (a : Int) ∈ wsl := fun k a y h2 h3 => by
    rw [hwsl]; exact List.mem_filter.2 ⟨hfst.out k a y h2, h3⟩
  have hGB := Lib.hid gB.1
  have cL := Lib.hid (fun (k : Nat) U nu cu go A c W hF hU hR hr (hnu : nu ≤ v.m) => seen_lacks v f U nu cu go wsl kept A c (seX f kept B k) W hF hx hw (by omega) hU hR hr (hsg.out k) hwsn hwso hk2 hkl2 hnu (hwin k))
  rw [show RetRule v f wl kept = fun w e w' => RetRule v f wl kept w e w' from rfl] at cR
  have hF0 := Lib.hid hF
  replace cP := Lib.hid cP
  replace cI := Lib.hid cI
  replace cR := Lib.hid cR
  replace hke := Lib.hid hke
  replace hBe := Lib.hid hBe
  replace hil := Lib.hid hil
  replace hwok := Lib.hid hwok
  clear hw hx gB gB' hG hcl hBc hwnd hwso hwsn hk2 hkok hklen hfst hwin hwl
  replace hwsl := Lib.hid hwsl
  obtain ⟨i0, hi, hz0, hz1, hz2⟩ := info_parts info_edge
  replace hi := Lib.hid hi
  replace hz0 := Lib.hid hz0
  replace hz1 := Lib.hid hz1
  replace hz2 := Lib.hid hz2
  -- a call with facts v and the matrix (A v.m c a), hr : RowsAt w ..: boxed at g (W0), gm (W1): hB1, hM1
  -- a call with facts v: they are boxed at g, the world is W0 then
  have hB0 := Lib.hid (FBox.new hF)
  obtain ⟨g, hg⟩ : ∃ g, g = w.heap.size := ⟨_, rfl⟩
  obtain ⟨W0, hW0⟩ : ∃ W, W = w.alloc (.cells #[.slice v.A v.n v.c, .slice v.B v.m v.d, .slice v.C v.k v.e] 29) := ⟨_, rfl⟩
  rw [← hW0, ← hg] at hB0
  clear hF
  replace hr := hr.below hB0.out.o
  have hM1 := Lib.hid (MatK.new (N := (v.m : Int)) (c := c) W0 57 hr)
  obtain ⟨gm, hgm⟩ : ∃ g, g = W0.heap.size := ⟨_, rfl⟩
  obtain ⟨W1, hW1⟩ : ∃ W, W = W0.alloc (.cells #[.int .i64 (v.m : Int), .slice A v.m c] 57) := ⟨_, rfl⟩
  rw [← hW1, ← hgm] at hM1
  have hB1 := Lib.hid (hB0.out.later (show Below W0.heap.size W0 W1 from by rw [hW1]; exact below_alloc _ _))
  clear hr hB0
  obtain ⟨gr, hgr⟩ : ∃ g, g = W1.heap.size := ⟨_, rfl⟩
  obtain ⟨W2, hW2⟩ : ∃ W, W = W1.alloc (.cells #[.int .i64 0, .slice none 0 0] 57) := ⟨_, rfl⟩
  have b2 : Below W1.heap.size W1 W2 := by rw [hW2]; exact below_alloc _ _
  have hB2 := Lib.hid (hB1.out.later b2)
  have hM2 := Lib.hid (hM1.out.below b2)
  have kR := Lib.hid (show MatB W2 gr 57 0 none 0 0 from by rw [hW2, hgr]; exact MatB.new W1 _)
  have hgw := Lib.hid (show w.heap.size ≤ gr from by rw [hgr]; exact hB1.out.o.size)
  clear hM1 hB1 b2
  have p0 := hB2.out.c0
  have p1 := hB2.out.c1
  have p2 := hB2.out.c2
  have m0 := hM2.out.1.c0
  have m1 := hM2.out.1.c1
  go_enter Tryz.func94, Tryz.ntmps94
  go_wp2_with (first | (rw [← hW0, ← hg]; clear hW0 hg) | (rw [← hW1, ← hgm]; clear hW1 hgm) | (rw [← hW2, ← hgr]; clear hW2; replace hgr := Lib.hid hgr))
  refine (cP.out W2 hM2.out.2).mono ?_; rintro e w3 ⟨D, nd, dd, rfl, hD, hdd, hdm, b⟩
  have hdl := Lib.hid hD.len
  have hnd : nd ≤ v.m := by rw [← hdl.out]; exact hwlen
  replace hB2 := Lib.hid (hB2.out.later b)
  replace hM2 := Lib.hid (hM2.out.below b)
  replace kR := Lib.hid (kR.out.below_ b)
  replace hD := Lib.hid hD
  clear p0 p1 p2 m0 m1 b cP
  have m0 := hM2.out.1.c0
  have m1 := hM2.out.1.c1
  go_wp2_with fail
  refine (cI.out D nd dd w3 hM2.out.2 hD.out.ints (by omega)).mono ?_; rintro e w4 ⟨C, n4, dC, rfl, hC, hdC, b⟩
  obtain rfl : n4 = v.m := by rw [← hC.len]; exact hGB.out.len
  replace hB2 := Lib.hid (hB2.out.later b)
  replace kR := Lib.hid (kR.out.below_ b)
  replace hD := Lib.hid (hD.out.below b)
  clear m0 m1 b cI hM2
  -- the matrix's variable
  have hgr4 : gr < w4.heap.size := Blk.lt kR.out
  have hBU := hC.block_lt (by omega)
  obtain ⟨M, hMe⟩ : ∃ g, g = w4.heap.size := ⟨_, rfl⟩
  obtain ⟨W5, hW5⟩ : ∃ W, W = w4.alloc (.cells #[.int .i64 (v.m : Int), .slice C v.m dC] 57) := ⟨_, rfl⟩
  have b5 : Below w4.heap.size w4 W5 := by rw [hW5]; exact below_alloc _ _
  have hMV := Lib.hid (show MV W5 M v.m C dC (seX f kept B 0) from ⟨by rw [hW5, hMe]; exact MatB.new _ _, by rw [show seX f kept B 0 = B from rfl]; exact hC.below b5, hdC, fun _ ad e => by have := hBU ad e; omega⟩)
  replace hB2 := Lib.hid (hB2.out.later b5)
  replace kR := Lib.hid (kR.out.below_ b5)
  replace hD := Lib.hid (hD.out.below b5)
  have hM5 := Lib.hid (show M < W5.heap.size from hMV.out.loc.lt)
  have hwM := Lib.hid (show w.heap.size ≤ M ∧ gr < M from ⟨by rw [hMe]; have := hgw.out; omega, by rw [hMe]; exact hgr4⟩)
  clear hC hBU b5 hgr4
  go_wp2_with (rw [← hW5, ← hMe]; clear hW5; replace hMe := Lib.hid hMe; have p0 := hB2.out.c0; have p1 := hB2.out.c1; have p2 := hB2.out.c2)
  refine (cR.out D nd dd W5 hB2.out.f hD.out (by omega)).mono ?_; rintro e w6 ⟨U, nu, cu, go, vs, rfl, hU, hnu, hS, b, hUw⟩
  rw [← hwsl.out] at hU
  have hnm : nu ≤ v.m := by rw [← hU.len]; exact hwsle
  have hM6 := hMV.out.later b
  have hb6 := below_trans2 hB2.out.o b
  have kR6 := kR.out.below_ b
  obtain ⟨gu, hgu⟩ : ∃ g, g = w6.heap.size := ⟨_, rfl⟩
  obtain ⟨W7, hW7⟩ : ∃ W, W = w6.alloc (.cells #[.slice v.A v.n v.c, .slice v.B v.m v.d, .slice v.C v.k v.e, .slice U nu cu, .slice (some ⟨go, 0, none⟩) v.n v.n] 142) := ⟨_, rfl⟩
  have b7 : Below w6.heap.size w6 W7 := by rw [hW7]; exact below_alloc _ _
  have kU := Lib.hid (show Blk W7 gu 142 [.slice v.A v.n v.c, .slice v.B v.m v.d, .slice v.C v.k v.e, .slice U nu cu, .slice (some ⟨go, 0, none⟩) v.n v.n] from by rw [hW7, hgu]; exact Blk.new _ _ _)
  have hUM := Lib.hid (show ∀ ad, U = some ad → ad.block ≠ M from fun ad e h => by have := hUw ad e; have := hM5.out; omega)
  have hU7 := Lib.hid (hU.below b7)
  have hS7 := Lib.hid (hS.later b7)
  have hMV7 := Lib.hid (hM6.later b7)
  have hb7 := Lib.hid (below_trans2 hb6 b7)
  have kR7 := Lib.hid (show MatB W7 gr 57 0 none 0 0 from kR6.below_ b7)
  have hguM := Lib.hid (show gu ≠ M ∧ gr ≠ M from by
    refine ⟨fun e => ?_, by have := hwM.out; omega⟩
    have h2 := b.size
    have h3 := hM5.out
    omega)
  clear hU hS hM6 hb6 kR6 b b7 hUw hB2 hMV kR hD p0 p1 p2 cR
  go_wp2_with (rw [← hW7, ← hgu]; clear hW7; replace hgu := Lib.hid hgu)
  obtain ⟨B7, hB7⟩ : ∃ n, n = W7.heap.size := ⟨_, rfl⟩
  have hM7 := Lib.hid (show M < B7 from by rw [hB7]; exact hMV7.out.loc.lt)
  replace hB7 := Lib.hid hB7
  go_loopw [13, 14] (fun u t wr => ∃ (k : Nat) (A2 : Option Addr) (d2 : Nat), t = .int .i64 ((k + 1 : Nat) : Int) ∧ Hid (∀ j, j < k → newF f (seX f kept B j) kept ≠ []) ∧ Hid (BelowB M W7 wr) ∧ Hid (MV wr M v.m A2 d2 (seX f kept B k)) ∧ Hid (wr.ownsRow B7 84 3 u (seL f kept B k).length (encE.all (seL f kept B k))) ∧ Hid (RowsS (fun g => u.ownBlock ≠ some g) wr A2 v.m (seX f kept B k))) (fun _ t _ => v.m * v.m + 2 - (intOf t).toNat)
  case atStart => exact ⟨0, C, dC, rfl, Lib.hid (fun j h => absurd h (by omega)), Lib.hid (BelowB.refl _ _), hMV7, Lib.hid (World.ownsRow_nil _ _ _ _), Lib.hid (RowsS.of hMV7.out.rows (fun g e => by cases e))⟩
  case round =>
    clear hMV7
    obtain ⟨k, A2, d2, rfl, hne, hbB, hN, hown, hRS⟩ := hrel
    have hbw := Lib.hid (show Below w.heap.size w wr from hb7.out.trans (hbB.out.below hb7.out.size hwM.out.1))
    have kU' := Lib.hid (show Blk wr gu 142 [.slice v.A v.n v.c, .slice v.B v.m v.d, .slice v.C v.k v.e, .slice U nu cu, .slice (some ⟨go, 0, none⟩) v.n v.n] from hbB.out.blk kU.out hguM.out.1)
    have kR' := Lib.hid (show MatB wr gr 57 0 none 0 0 from hbB.out.blk kR7.out hguM.out.2)
    have hU' := hU7.out.keptB hbB.out hUM.out
    have hS' := ReadsAt.of (hS7.out.keptB hbB.out (by exact hM5.out))
    have cLk := cL.out k U nu cu go A2 d2 wr (hF0.out.below hbw.out) hU' hS' hN.out.rows hnm
    have gX := hsg.out k
    obtain ⟨X, hX⟩ : ∃ X, X = seX f kept B k := ⟨_, rfl⟩
    obtain ⟨al, hal⟩ : ∃ l, l = seL f kept B k := ⟨_, rfl⟩
    have halm : al.length ≤ v.m * v.m := by rw [hal]; exact hsl.out k
    have halk : k ≤ al.length := by rw [hal]; exact seL_ge k hne.out
    have hmm : v.m * v.m ≤ 64 * 64 := Nat.mul_le_mul (by omega) (by omega)
    rw [← hX] at hN hRS gX cLk
    rw [← hal] at hown
    obtain ⟨nl, hnl⟩ : ∃ l, l = newF f X kept := ⟨_, rfl⟩
    rw [← hnl] at cLk
    have hnlm : nl.length ≤ v.m * v.m := by rw [hnl]; exact hsn.out X
    have hnlp := Lib.hid (hnp.out X)
    rw [← hnl] at hnlp
    replace cLk := Lib.hid cLk
    replace gX := Lib.hid gX
    obtain ⟨la, hla⟩ : ∃ n, n = al.length := ⟨_, rfl⟩
    rw [← hla] at hown halm halk
    replace hla := Lib.hid hla
    replace hX := Lib.hid hX
    replace hal := Lib.hid hal
    replace hnl := Lib.hid hnl
    have n0 := hN.out.loc.c0
    have n1 := hN.out.loc.c1
    have y0 := kU'.out.cell 0
    have y1 := kU'.out.cell 1
    have y2 := kU'.out.cell 2
    have y3 := kU'.out.cell 3
    have y4 := kU'.out.cell 4
    simp only [List.getElem?_cons_zero, List.getElem?_cons_succ] at y0 y1 y2 y3 y4
    clear hU' hS'
    go_wp2_with fail
    refine cLk.out.mono ?_; rintro e w3 ⟨E, ne, ce, rfl, hE, hnc, hcm, b, hEf⟩
    have hnel := Lib.hid hE.len
    have hub := Lib.hid (own_block_lt hown.out)
    replace hown := Lib.hid (own_below hown.out b)
    replace hN := Lib.hid (hN.out.later b)
    replace hbw := Lib.hid (below_trans2 hbw.out b)
    replace hbB := Lib.hid (hbB.out.trans (BelowB.of b))
    have hRT := Lib.hid ((hRS.out.there (by omega) (by rw [hX.out]; exact hpos.out k)).below b)
    have hwr3 := b.size
    replace hE := Lib.hid hE
    replace kR' := Lib.hid (kR'.out.below_ b)
    clear n0 n1 y0 y1 y2 y3 y4 b cLk hRS kU'
    rcases Nat.eq_zero_or_pos ne with hz | hz
    · subst hz
      have hnil : Hid (newF f (seX f kept B k) kept = []) := Lib.hid (by
        have h1 := hnel.out
        rw [hnl.out, hX.out] at h1
        exact List.eq_nil_of_length_eq_zero h1)
      have n0 := hN.out.loc.c0
      have n1 := hN.out.loc.c1
      have f0 := kR'.out.c0
      have f1 := kR'.out.c1
      have g0 := kR'.out.frozen 0
      have g1 := kR'.out.frozen 1
      have hcc := kR'.out.two (.int .i64 (v.m : Int)) (.slice A2 v.m d2)
      have hd1 := Lib.hid hcc.1
      have hd2 := Lib.hid hcc.2
      have hrf := Lib.hid (hN.out.rows.putB kR'.out (fun h0 => hN.out.rows.farZ kR'.out (by rw [hX.out]; exact hpos.out k) h0) (.int .i64 (v.m : Int)) (.slice A2 v.m d2))
      have hbf := Lib.hid ((hbw.out.setCell (p := ⟨gr, 0, none⟩) hgw.out (.int .i64 (v.m : Int))).setCell (p := ⟨gr, 1, none⟩) hgw.out (.slice A2 v.m d2))
      have hown2 := own_farT (i := 1) (own_farT (i := 0) hown.out kR'.out (by decide) (.int .i64 (v.m : Int))) (Blk.set_ kR'.out 0 (.int .i64 (v.m : Int))) (by decide) (.slice A2 v.m d2)
      obtain ⟨A', c', rfl, hnc', hcm', hLA⟩ := LAt.of_own hown2 (by rw [hal.out]; exact hsk.out k) hla.out.symm
      have hcap := Lib.hid hN.out.cap
      replace hLA := Lib.hid hLA
      clear hcc hown hown2 hN hRT kR' hub
      go_wp2_with fail
      exact bodyPost_ret (v := .tuple #[.agg #[.int .i64 (v.m : Int), .slice A2 v.m d2], .slice A' la c', .int .i64 ((k + 1 : Nat) : Int), .int .i64 0]) (by simp [results, Tryz.results94, go_sem, hd1.out, hd2.out]) rfl ⟨k, A2, d2, A', la, c', rfl, ⟨hne.out, hnil.out⟩, by rw [← hX.out]; exact hrf.out, hcap.out, by rw [← hal.out]; exact hLA.out, hnc', hcm', hbf.out⟩
    · have hnep : Hid (newF f (seX f kept B k) kept ≠ []) := Lib.hid (fun h => by
        have h1 := hnel.out
        rw [hnl.out, hX.out, h] at h1
        simp at h1
        omega)
      have hbase := Lib.hid (show B7 ≤ w3.heap.size from by rw [hB7.out]; exact hbB.out.size)
      have hnz : ((ne : Int) == 0) = false := by rw [beq_eq_false_iff_ne]; omega
      have hnl2 := hnel.out
      clear kR'
      go_wp2_with (at_builtin; refine wpList_append_L (E := encE) rfl (.tmp 47) (.tmp 48) _ rfl B7 84 i0 _ 24 Tryz.underlying79 hi.out hz0.out hz1.out hz2.out rfl _ la al (by rfl) hown.out _ ne ce nl rfl hE.out (by unfold maxLen; omega) (by omega) hbase.out ?_; intro v' w7 hown' hb7' hg7 hob7; have n0' := (hN.out.loc.belowB hb7' hM7.out).c0; have n1' := (hN.out.loc.belowB hb7' hM7.out).c1)
      have hE7 := hE.out.grown18 hg7 (fun ad e h => by have := hub.out _ h; have := hEf ad e; omega)
      have hvl := own_block_lt hown'
      have hRS7 := (hRT.out.grown hg7 (fun g e h => h.1 e)).mono (T := fun g => v'.ownBlock ≠ some g) (fun g h e => by
        rcases hob7 with h2 | h2
        · rw [h2] at e; exact h.1 e
        · rw [h2] at e; injection e with e; have := h.2; omega)
      have hN7 := Lib.hid (show MV w7 M v.m A2 d2 X from ⟨hN.out.loc.belowB hb7' hM7.out, hRS7.at, hN.out.cap, hN.out.far⟩)
      have hcX : ClosedM X := by rw [hX.out]; exact hsc.out k
      have cA := seen_added (fun g => v'.ownBlock ≠ some g) A2 v.m d2 X E ne ce nl w7 hRS7 gX.out hcX (by omega) hE7 (by omega) hnlp.out
      rw [show closeK ((edP nl).foldl setP X) v.m = seX f kept B (k + 1) from by rw [hst.out, hnl.out, hX.out]] at cA
      have hbB7 := Lib.hid (show BelowB M W7 w7 from ⟨hb7'.os.trans hbB.out.os, hb7'.tape.trans hbB.out.tape, hb7'.output.trans hbB.out.output, Nat.le_trans (by rw [← hB7.out]; exact hbase.out) hb7'.size, fun i hi2 hne2 => (hb7'.block i (by rw [hB7.out]; exact hi2)).trans (hbB.out.block i hi2 hne2)⟩)
      have hM7' := Lib.hid (show B7 ≤ w7.heap.size from Nat.le_trans hbase.out hb7'.size)
      have hsL : Hid (seL f kept B (k + 1) = al ++ nl) := Lib.hid (by rw [hal.out, hnl.out, hX.out]; rfl)
      have hlen : Hid ((seL f kept B (k + 1)).length = la + ne) := Lib.hid (by rw [hsL.out, List.length_append, hnl2, hla.out])
      have hnx : Hid (∀ j, j < k + 1 → newF f (seX f kept B j) kept ≠ []) := Lib.hid (fun j hj => by
        rcases Nat.lt_succ_iff_lt_or_eq.1 hj with h1 | h1
        · exact hne.out j h1
        · rw [h1]; exact hnep.out)
      replace hvl := Lib.hid hvl
      replace hown' := Lib.hid hown'
      replace cA := Lib.hid cA
      clear hE7 hRS7 hcX hb7' hg7 hob7 hRT hN hbB hE hnl2 hown hub hbw
      refine cA.out.mono ?_; rintro e w8 ⟨C2, c2, rfl, hR2, hcap2, b8, hf2⟩
      have kM := hN7.out.loc.below_ b8
      have hT8 := Lib.hid (hN7.out.put b8 hR2.at hcap2 hf2)
      have hfar2 : 0 < v.m → ∀ ad, C2 = some ad → ad.block ≠ M := fun _ ad e => by have := hf2 ad e; have := hM7.out; have := hM7'.out; omega
      have hRS8 := Lib.hid ((hR2.mono (T := fun g => v'.ownBlock ≠ some g) (fun g h e => by
        rcases h with h | h
        · exact h e
        · have := hvl.out g e; omega)).putB kM hfar2 (.int .i64 (v.m : Int)) (.slice C2 v.m c2))
      have hbB8 := Lib.hid (((hbB7.out.trans (BelowB.of b8)).setG 0 (.int .i64 (v.m : Int))).setG 1 (.slice C2 v.m c2))
      have hown8 := own_farT (i := 1) (own_farT (i := 0) (own_below hown'.out b8) kM (by decide) (.int .i64 (v.m : Int))) (Blk.set_ kM 0 (.int .i64 (v.m : Int))) (by decide) (.slice C2 v.m c2)
      rw [← hsL.out, ← hlen.out] at hown8
      replace hown8 := Lib.hid hown8
      have m0 := kM.c0
      have m1 := kM.c1
      have g0 := kM.frozen 0
      have g1 := kM.frozen 1
      clear kM n0' n1' hR2 b8 hf2 hfar2 cA hN7 hbB7 hown' hvl
      go_wp2_with fail
      exact ⟨⟨k + 1, C2, c2, by go_num, hnx, hbB8, hT8, hown8, hRS8⟩, by simp [intOf]; omega⟩
end Go.Proofs.YtjhjojklfdjmdaaGreat

namespace Go.Proofs.YtjhjojklfdjmdaaGreat
open Go.RowKit
set_option linter.unusedVariables false
theorem hisF_vars18 (hs : List (List OpT)) : (hisF hs).1.length ≤ (allO hs).length := by
  rw [← hisF_len]
  induction hs using snoc_ind with
  | h0 => simp [hisF_nil]
  | h1 hs os ih =>
    rw [hisF_snoc]
    have := sesF_len hs.length os (hisF hs)
    omega
theorem seenX_hist {hs : List (List OpT)} {x : FV} {f : Fac} {W : World} (hF : FactsAt W x f) (hf : f = fillF (facO hs)) (hl : x.m ≤ 1048576) : SeenX x f := by
  have hn := hF.vs.len
  have hm := hF.is.len
  subst hf
  have e1 : (fillF (facO hs)).items = (hisF hs).2 := rfl
  have e2 : (fillF (facO hs)).vars = (hisF hs).1 := rfl
  rw [e1] at hm
  rw [e2] at hn
  have h1 := hisF_len hs
  have h2 := hisF_vars18 hs
  refine ⟨rfl, nbr_hist hs, by omega, fun y hy => ?_⟩
  rw [e1] at hy
  obtain ⟨i, hi⟩ := List.getElem?_of_mem hy
  have hil := (List.getElem?_eq_some_iff.1 hi).1
  obtain ⟨s, p, va, -, h4, h5, h6⟩ := hisF_item hs i _ (List.getElem?_eq_getElem (show i < (allO hs).length by omega))
  rw [hi] at h4
  injection h4 with h4
  have h7 := (List.getElem?_eq_some_iff.1 h6).1
  rw [h4]
  simp only
  omega
end Go.Proofs.YtjhjojklfdjmdaaGreat

namespace Go.Proofs.YtjhjojklfdjmdaaGreat
open Go.RowKit
set_option linter.unusedVariables false
end Go.Proofs.YtjhjojklfdjmdaaGreat

namespace Go.Proofs.YtjhjojklfdjmdaaGreat
set_option linter.unusedVariables false

section
variable {r : Int → Int → Prop}
end
end Go.Proofs.YtjhjojklfdjmdaaGreat

namespace Go.Proofs.YtjhjojklfdjmdaaGreat
set_option linter.unusedVariables false

section
variable {n : Nat} {a c : List (List Nat)}
end
end Go.Proofs.YtjhjojklfdjmdaaGreat

namespace Go.Proofs.YtjhjojklfdjmdaaGreat
open Go.RowKit
set_option linter.unusedVariables false
/-- has a history whole facts? -/
def okO11 (hs : List (List OpT)) : Bool := rightL hs && decide ((checkF (facO hs).items).2.2 = 0)
def RetO11 (hs : List (List OpT)) (w : World) (e : Ending) (w' : World) : Prop := ∃ x : FV, e = .returned (.tuple #[.agg #[.slice x.A x.n x.c, .slice x.B x.m x.d, .slice x.C x.k x.e], .bool (okO11 hs)]) ∧ (okO11 hs = true → FactsAt w' x (fillF (facO hs))) ∧ Below w.heap.size w w'
set_option maxRecDepth 100000 in
set_option maxHeartbeats 2000000 in
theorem ref11_Of (A : Option Addr) (n c : Nat) (hs : List (List OpT)) (w : World) (hX : HistAt w A n hs) (hn : n ≤ 1099511627776) (hF : (allO hs).length ≤ 1048576) :
    Calls Tryz.prog 8 #[.slice A n c] w (RetO11 hs w) := by
  obtain ⟨gr, hgr⟩ : ∃ g, g = w.heap.size := ⟨_, rfl⟩
  obtain ⟨W1, hW1⟩ : ∃ W, W = w.alloc (.cells #[.slice none 0 0, .slice none 0 0, .slice none 0 0] 29) := ⟨_, rfl⟩
  have b0 : Below w.heap.size w W1 := by rw [hW1]; exact (Below.refl _ _).alloc (Nat.le_refl _) _
  have kR : Blk W1 gr 29 [.slice none 0 0, .slice none 0 0, .slice none 0 0] := by rw [hW1, hgr]; exact Blk.new w _ _
  have hgw : Hid (w.heap.size ≤ gr) := Lib.hid (by rw [hgr]; exact Nat.le_refl _)
  have c1 := ref9_Of A n c hs W1 (hX.below b0) hn (by omega)
  clear hX
  cases hri : rightL hs with
  | false =>
    have hno := Lib.hid (show okO11 hs = false from by unfold okO11; rw [hri]; rfl)
    rw [hri, if_neg (by simp), if_neg (by simp)] at c1
    replace c1 := Lib.hid c1
    clear hri
    go_enter Tryz.func8, Tryz.ntmps8
    go_wp2_with (rw [← hW1, ← hgr]; clear hW1; replace hgr := Lib.hid hgr)
    refine c1.out.mono ?_; rintro e w3 ⟨x, rfl, -, b3⟩
    obtain ⟨V, hV⟩ : ∃ W, W = w3.alloc (.cells #[.slice x.A x.n x.c, .slice x.B x.m x.d, .slice x.C x.k x.e] 29) := ⟨_, rfl⟩
    obtain ⟨g, hg⟩ : ∃ g, g = w3.heap.size := ⟨_, rfl⟩
    have bV : Below w3.heap.size w3 V := by rw [hV]; exact (Below.refl _ _).alloc (Nat.le_refl _) _
    replace kR := (kR.below b3 kR.lt)
    replace kR := (kR.below bV kR.lt)
    have bb := below_trans2 (below_trans2 b0 b3) bV
    clear b0 b3 bV c1
    have e0 := (((kR.set_ 0 (.slice none 0 0)).set_ 1 (.slice none 0 0)).set_ 2 (.slice none 0 0)).cell 0
    have e1 := (((kR.set_ 0 (.slice none 0 0)).set_ 1 (.slice none 0 0)).set_ 2 (.slice none 0 0)).cell 1
    have e2 := (((kR.set_ 0 (.slice none 0 0)).set_ 1 (.slice none 0 0)).set_ 2 (.slice none 0 0)).cell 2
    have c0 := Blk.cell kR 0
    have c1 := Blk.cell kR 1
    have c2 := Blk.cell kR 2
    have f0 := Blk.frozen kR 0
    have f1 := Blk.frozen kR 1
    have f2 := Blk.frozen kR 2
    have hb3 := Lib.hid (((bb.setCell (p := ⟨gr, 0, none⟩) hgw.out (.slice none 0 0)).setCell (p := ⟨gr, 1, none⟩) hgw.out (.slice none 0 0)).setCell (p := ⟨gr, 2, none⟩) hgw.out (.slice none 0 0))
    clear kR
    go_wp2_with (rw [← hV, ← hg]; clear hV; replace hg := Lib.hid hg)
    exact bodyPost_ret (v := .tuple #[.agg #[.slice none 0 0, .slice none 0 0, .slice none 0 0], .bool false]) (by simp [results, Tryz.results8, go_sem, e0, e1, e2]) rfl ⟨⟨none, 0, 0, none, 0, 0, none, 0, 0⟩, by rw [hno.out], (fun h => by rw [hno.out] at h; cases h), hb3.out⟩
  | true =>
    rw [hri, if_pos rfl, if_pos rfl] at c1
    obtain ⟨f, hf⟩ : ∃ f : Fac, f = facO hs := ⟨_, rfl⟩
    rw [← hf] at c1
    have hri' := Lib.hid hri
    replace c1 := Lib.hid c1
    clear hri
    replace hf := Lib.hid hf
    go_enter Tryz.func8, Tryz.ntmps8
    go_wp2_with (rw [← hW1, ← hgr]; clear hW1; replace hgr := Lib.hid hgr)
    refine c1.out.mono ?_; rintro e w3 ⟨x, rfl, hG, b3⟩
    have hB := Lib.hid ((FBox.new hG).from_ (below_trans2 b0 b3))
    obtain ⟨V, hV⟩ : ∃ W, W = w3.alloc (.cells #[.slice x.A x.n x.c, .slice x.B x.m x.d, .slice x.C x.k x.e] 29) := ⟨_, rfl⟩
    obtain ⟨g, hg⟩ : ∃ g, g = w3.heap.size := ⟨_, rfl⟩
    replace kR := Lib.hid (show Blk V gr 29 [.slice none 0 0, .slice none 0 0, .slice none 0 0] from by rw [hV]; exact (kR.below b3 kR.lt).alloc _)
    rw [← hV, ← hg] at hB
    clear b3 c1 hG b0
    have hxm : x.m ≤ 1048576 := by
      rw [← hB.out.f.is.len, hf.out]
      show (hisF hs).2.length ≤ _
      rw [hisF_len]; omega
    have p0 := hB.out.c0
    have p1 := hB.out.c1
    have p2 := hB.out.c2
    obtain ⟨⟨r1, r2, r3⟩, hr⟩ : ∃ r, r = checkF f.items := ⟨_, rfl⟩
    have cC := ref10_Check x f V hB.out.f
    rw [← hr] at cC
    replace cC := Lib.hid cC
    have hok : okO11 hs = decide (r3 = 0) := by
      unfold okO11
      rw [hri'.out, ← hf.out, ← hr, Bool.true_and]
    replace hr := Lib.hid hr
    replace hok := Lib.hid hok
    go_wp2_with (rw [← hV, ← hg]; clear hV; replace hg := Lib.hid hg)
    refine cC.out.mono ?_; rintro e w4 ⟨rfl, b4⟩
    replace hB := Lib.hid (hB.out.later b4)
    replace kR := kR.out.below b4 kR.out.lt
    clear p0 p1 p2 b4 cC
    by_cases h3 : r3 = 0
    · have hyes := Lib.hid (show okO11 hs = true from by rw [hok.out]; exact decide_eq_true h3)
      have e3 : (r3 != 0) = false := by rw [h3]; rfl
      replace h3 := Lib.hid h3
      have p0 := hB.out.c0
      have p1 := hB.out.c1
      have p2 := hB.out.c2
      have cF := Lib.hid (ref11_Fill x f w4 hB.out.f hxm)
      go_wp2_with fail
      refine cF.out.mono ?_; rintro e w5 ⟨y, rfl, hY, b5⟩
      replace hB := Lib.hid (hB.out.later b5)
      replace kR := kR.below b5 kR.lt
      clear p0 p1 p2 b5 cF
      have hY3 := Lib.hid (hY.put kR (fun u hu => by simp only [List.mem_cons, List.not_mem_nil, or_false] at hu; rcases hu with rfl | rfl | rfl <;> exact ⟨_, _, _, rfl⟩))
      have e0 := (((kR.set_ 0 (.slice y.A y.n y.c)).set_ 1 (.slice y.B y.m y.d)).set_ 2 (.slice y.C y.k y.e)).cell 0
      have e1 := (((kR.set_ 0 (.slice y.A y.n y.c)).set_ 1 (.slice y.B y.m y.d)).set_ 2 (.slice y.C y.k y.e)).cell 1
      have e2 := (((kR.set_ 0 (.slice y.A y.n y.c)).set_ 1 (.slice y.B y.m y.d)).set_ 2 (.slice y.C y.k y.e)).cell 2
      have c0 := Blk.cell kR 0
      have c1 := Blk.cell kR 1
      have c2 := Blk.cell kR 2
      have f0 := Blk.frozen kR 0
      have f1 := Blk.frozen kR 1
      have f2 := Blk.frozen kR 2
      have hb3 := Lib.hid (((hB.out.o.setCell (p := ⟨gr, 0, none⟩) hgw.out (.slice y.A y.n y.c)).setCell (p := ⟨gr, 1, none⟩) hgw.out (.slice y.B y.m y.d)).setCell (p := ⟨gr, 2, none⟩) hgw.out (.slice y.C y.k y.e))
      clear kR
      go_wp2_with fail
      rw [hf.out] at hY3
      exact bodyPost_ret (v := .tuple #[.agg #[.slice y.A y.n y.c, .slice y.B y.m y.d, .slice y.C y.k y.e], .bool true]) (by simp [results, Tryz.results8, go_sem, e0, e1, e2]) rfl ⟨y, by rw [hyes.out], (fun _ => hY3.out), hb3.out⟩
    · have hno := Lib.hid (show okO11 hs = false from by rw [hok.out]; exact decide_eq_false h3)
      have e3 : (r3 != 0) = true := by simpa using h3
      have bb := hB.out.o
      replace h3 := Lib.hid h3
      -- no facts: bb : Below w.heap.size w w4, kR : the result's variable in w4
      have e0 := (((kR.set_ 0 (.slice none 0 0)).set_ 1 (.slice none 0 0)).set_ 2 (.slice none 0 0)).cell 0
      have e1 := (((kR.set_ 0 (.slice none 0 0)).set_ 1 (.slice none 0 0)).set_ 2 (.slice none 0 0)).cell 1
      have e2 := (((kR.set_ 0 (.slice none 0 0)).set_ 1 (.slice none 0 0)).set_ 2 (.slice none 0 0)).cell 2
      have c0 := Blk.cell kR 0
      have c1 := Blk.cell kR 1
      have c2 := Blk.cell kR 2
      have f0 := Blk.frozen kR 0
      have f1 := Blk.frozen kR 1
      have f2 := Blk.frozen kR 2
      have hb3 := Lib.hid (((bb.setCell (p := ⟨gr, 0, none⟩) hgw.out (.slice none 0 0)).setCell (p := ⟨gr, 1, none⟩) hgw.out (.slice none 0 0)).setCell (p := ⟨gr, 2, none⟩) hgw.out (.slice none 0 0))
      clear kR
      go_wp2_with fail
      exact bodyPost_ret (v := .tuple #[.agg #[.slice none 0 0, .slice none 0 0, .slice none 0 0], .bool false]) (by simp [results, Tryz.results8, go_sem, e0, e1, e2]) rfl ⟨⟨none, 0, 0, none, 0, 0, none, 0, 0⟩, by rw [hno.out], (fun h => by rw [hno.out] at h; cases h), hb3.out⟩
end Go.Proofs.YtjhjojklfdjmdaaGreat

namespace Go.Proofs.YtjhjojklfdjmdaaGreat
open Go.RowKit
set_option linter.unusedVariables false
def ex19A : List OpT := [(false, ⟨#[120]⟩, 1)]
def ex19B : List OpT := [(false, ⟨#[120]⟩, 0)]
theorem ok19A : OkO ex19A := fun o ho => by
  simp only [ex19A, List.mem_cons, List.not_mem_nil, or_false] at ho
  subst ho; exact ⟨⟨by decide, by decide⟩, by decide⟩
theorem ok19B : OkO ex19B := fun o ho => by
  simp only [ex19B, List.mem_cons, List.not_mem_nil, or_false] at ho
  subst ho; exact ⟨⟨by decide, by decide⟩, by decide⟩
def fa19 : Fac := ⟨[⟨#[120]⟩], [⟨0, 0, false, 0, 1⟩], [-2]⟩
def fb19 : Fac := ⟨[⟨#[120]⟩], [⟨0, 0, false, 0, 0⟩], [-1]⟩
theorem ex19a_facts : okO11 [ex19A] = true ∧ fillF (facO [ex19A]) = fa19 := by decide
theorem ex19b_facts : okO11 [ex19B] = true ∧ fillF (facO [ex19B]) = fb19 := by decide
theorem ex19a_whole : WholeF fa19 := by rw [← ex19a_facts.2]; exact fillF_whole _
theorem ex19b_whole : WholeF fb19 := by rw [← ex19b_facts.2]; exact fillF_whole _
theorem ex19a_find : findF fa19 1 = some ⟨1, 0, -1, -1, -1, -1, -1⟩ ∧ findE fa19 1 = 0 := by decide
theorem ex19b_find : findF fb19 3 = none ∧ findE fb19 3 = 8 ∧ findF fb19 0 = none ∧ findE fb19 0 = 1 := by decide

theorem kindF_ki {f : Fac} {k : Int} {x : Wit} (h : kindF f k = some x) : x.ki = k := by
  unfold kindF at h
  split at h
  · rename_i hk
    unfold thinF at h
    obtain ⟨r, -, rfl⟩ := Option.map_eq_some_iff.1 h
    exact hk.symm
  · split at h
    · unfold roundF at h
      obtain ⟨r, -, rfl⟩ := Option.map_eq_some_iff.1 h
      rfl
    · split at h
      · unfold earlyF at h
        obtain ⟨r, -, h⟩ := List.exists_of_findSome?_eq_some h
        split at h
        · obtain ⟨z, -, rfl⟩ := Option.map_eq_some_iff.1 h
          rfl
        · cases h
      · split at h
        · rename_i hk
          unfold betwF at h
          obtain ⟨r, -, h⟩ := List.exists_of_findSome?_eq_some h
          split at h
          · cases h
          · obtain ⟨z, -, rfl⟩ := Option.map_eq_some_iff.1 h
            exact hk.symm
        · split at h
          · unfold roundF at h
            obtain ⟨r, -, rfl⟩ := Option.map_eq_some_iff.1 h
            rfl
          · unfold seesF at h
            obtain ⟨o, -, h⟩ := List.exists_of_findSome?_eq_some h
            split at h
            · obtain ⟨y, h1, rfl⟩ := Option.map_eq_some_iff.1 h
              unfold earlyF at h1
              obtain ⟨r, -, h1⟩ := List.exists_of_findSome?_eq_some h1
              split at h1
              · obtain ⟨z, -, rfl⟩ := Option.map_eq_some_iff.1 h1
                rfl
              · cases h1
            · obtain ⟨r, -, rfl⟩ := Option.map_eq_some_iff.1 h
              rfl
theorem findF_2 (f : Fac) : findF f 2 = (findF f 1).or (kindF f 5) := by
  unfold findF
  rw [show kindsF 2 = kindsF 1 ++ [5] from rfl, List.findSome?_append]
  simp
theorem findF_3 (f : Fac) : findF f 3 = (findF f 1).or ((kindF f 6).or (kindF f 7)) := by
  unfold findF
  rw [show kindsF 3 = kindsF 1 ++ [6, 7] from rfl, List.findSome?_append]
  congr 1
  simp only [List.findSome?_cons, List.findSome?_nil]
  cases kindF f 6 with
  | some _ => rfl
  | none => cases kindF f 7 <;> rfl
theorem findE_123 {f : Fac} {l : Int} (hl : l = 1 ∨ l = 2 ∨ l = 3) : findE f l = if (findF f l).isSome = true then 0 else 8 := by
  unfold findE
  rcases hl with rfl | rfl | rfl <;> rfl
theorem findF_ki {f : Fac} {l : Int} {x : Wit} (h : findF f l = some x) : x.ki ∈ kindsF l := by
  unfold findF at h
  obtain ⟨k, hk, h⟩ := List.exists_of_findSome?_eq_some h
  rw [kindF_ki h]; exact hk
/-- what BadLevels says -/
theorem levels_some {f : Fac} {x : Wit} (h : findF f 1 = some x) : findF f 2 = some x ∧ findF f 3 = some x ∧ 1 ≤ x.ki ∧ x.ki ≤ 4 := by
  refine ⟨by rw [findF_2, h]; rfl, by rw [findF_3, h]; rfl, ?_⟩
  have := findF_ki h
  rw [show kindsF 1 = [1, 2, 3, 4] from rfl] at this
  simp only [List.mem_cons, List.not_mem_nil, or_false] at this
  omega
theorem levels_none {f : Fac} (h : findF f 1 = none) : (findF f 2 = none ∨ ∃ x, findF f 2 = some x ∧ x.ki = 5) ∧ (findF f 3 = none ∨ ∃ x, findF f 3 = some x ∧ (x.ki = 6 ∨ x.ki = 7)) := by
  refine ⟨?_, ?_⟩
  · rw [findF_2, h, Option.none_or]
    cases hk : kindF f 5 with
    | none => exact .inl rfl
    | some x => exact .inr ⟨x, rfl, kindF_ki hk⟩
  · rw [findF_3, h, Option.none_or]
    cases hk : kindF f 6 with
    | some x => exact .inr ⟨x, rfl, .inl (kindF_ki hk)⟩
    | none =>
      rw [Option.none_or]
      cases hk : kindF f 7 with
      | some x => exact .inr ⟨x, rfl, .inr (kindF_ki hk)⟩
      | none => exact .inl rfl
end Go.Proofs.YtjhjojklfdjmdaaGreat

namespace Go.Proofs.YtjhjojklfdjmdaaGreat
open Go.RowKit
set_option linter.unusedVariables false
theorem vaF_at {f : Fac} {r : Nat} {y : It} (h : f.items[r]? = some y) : vaF f (r : Int) = y.va := by
  unfold vaF
  rw [Int.toNat_natCast, h]
end Go.Proofs.YtjhjojklfdjmdaaGreat

namespace Go.Proofs.YtjhjojklfdjmdaaGreat
open Go.RowKit
set_option linter.unusedVariables false

/-- a step: its kind, its edge, what it stands on -/
structure St where
  ki : Int
  fr : Int
  tt : Int
  a : Int
  b : Int
deriving DecidableEq

/-! ### what right steps say -/
end Go.Proofs.YtjhjojklfdjmdaaGreat

namespace Go.Proofs.YtjhjojklfdjmdaaGreat
set_option linter.unusedVariables false

theorem wihO_mem {a : List (List Nat)} {n k x : Nat} (hk : k < n) : (x : Int) ∈ wihO a (k : Int) n ↔ x < n ∧ (x = k ∨ Rel a x k) := by
  unfold wihO wihF wihN
  rw [if_pos (by omega)]
  rw [List.mem_map]
  constructor
  · rintro ⟨y, hy, e⟩
    obtain rfl : y = x := by omega
    obtain ⟨h1, h2⟩ := List.mem_filter.1 hy
    refine ⟨List.mem_range.1 h1, ?_⟩
    rw [Bool.or_eq_true, decide_eq_true_eq] at h2
    rcases h2 with h2 | h2
    · exact .inl (by omega)
    · exact .inr h2
  · rintro ⟨h1, h2⟩
    refine ⟨x, List.mem_filter.2 ⟨List.mem_range.2 h1, ?_⟩, rfl⟩
    rw [Bool.or_eq_true, decide_eq_true_eq]
    rcases h2 with h2 | h2
    · exact .inl (by omega)
    · exact .inr h2
theorem within_closed {n : Nat} {a : List (List Nat)} (hG : Good n a) (hc : ClosedM a) (l : List Int) : ClosedM (withinM n a l) := fun i j k h1 h2 => by
  rw [(within_facts hG l).2] at h1 h2 ⊢
  exact ⟨hc i j k h1.1 h2.1, h1.2.1, h2.2.2⟩
end Go.Proofs.YtjhjojklfdjmdaaGreat

namespace Go.Proofs.YtjhjojklfdjmdaaGreat
open Go.RowKit
set_option linter.unusedVariables false
section
variable {f : Fac} {l : List St}
theorem co_closed (hw : WholeF f) (h : f.items.length ≤ 4096) : ClosedM (coM f) := (coM_hull hw h).closed
theorem base_good (hw : WholeF f) (h : f.items.length ≤ 4096) (o : Nat) : Good f.items.length (baseM f (coM f) o) ∧ ClosedM (baseM f (coM f) o) :=
  ⟨(within_facts (coM_hull hw h).1 _).1, within_closed (coM_hull hw h).1 (co_closed hw h) _⟩

/-! ### patterns that there are -/
theorem round_some {k : Int} {n : Nat} {X : List (List Nat)} {i : Nat} (hi : i < n) (h : Rel X i i) : (roundF k n X).isSome = true := by
  unfold roundF
  rw [Option.isSome_map, List.find?_isSome]
  exact ⟨i, List.mem_range.2 hi, h⟩
theorem mem_ahead {X : List (List Nat)} {r z : Nat} {yr yz : It} (hz : z < f.items.length) (h : Rel X z r) (hr : f.items[r]? = some yr) (hy : f.items[z]? = some yz) (hw : yz.wr = true) (hv : yz.va = yr.va) : (z : Int) ∈ aheadW f X (r : Int) := by
  unfold aheadW wrsF
  refine List.mem_filter.2 ⟨?_, ?_⟩
  · unfold colF colN
    exact List.mem_map.2 ⟨z, List.mem_filter.2 ⟨List.mem_range.2 hz, h⟩, rfl⟩
  · rw [wrOK_at (x := yz) (by omega) (by rw [Int.toNat_natCast]; exact hy), hw, vaF_at hr, hv]; simp
theorem early_some {X : List (List Nat)} {k : Int} {reads : List Int} {r : Nat} {z : Int} (hm : (r : Int) ∈ reads) (hf : f.frm.getD r 0 = -1) (hz : z ∈ aheadW f X (r : Int)) : (earlyF f X k reads).isSome = true := by
  unfold earlyF
  rw [List.findSome?_isSome_iff]
  refine ⟨(r : Int), hm, ?_⟩
  rw [Int.toNat_natCast, if_pos hf, Option.isSome_map]
  cases hh : (aheadW f X (r : Int)).head? with
  | none => rw [List.head?_eq_none_iff.1 hh] at hz; cases hz
  | some z => rfl
end
end Go.Proofs.YtjhjojklfdjmdaaGreat

namespace Go.Proofs.YtjhjojklfdjmdaaGreat
open Go.RowKit
set_option linter.unusedVariables false

/-! ### orders that are respected -/
section
variable {r : Int → Int → Prop}
end
/-! ### facts that reads read from something -/
section
variable {f : Fac}
theorem no_round (hw : WholeF f) (hn : f.items.length ≤ 4096) (h : kindF f 2 = none) (i : Nat) : ¬ Rel (coM f) i i := fun h1 => by
  have h2 := round_some (k := 2) ((coM_hull hw hn).1.rel_lt i i h1).1 h1
  unfold kindF at h
  rw [if_neg (by decide), if_pos rfl] at h
  rw [h] at h2; cases h2
theorem no_early (h : kindF f 3 = none) {r z : Nat} {y : It} (hr : f.items[r]? = some y) (hf : f.frm.getD r 0 = -1) (hz : wrOK f.items y.va (z : Int) = true) : ¬ Rel (coM f) z r := fun h1 => by
  unfold wrOK at hz
  rw [Int.toNat_natCast] at hz
  cases hyz : f.items[z]? with
  | none => rw [hyz] at hz; simp at hz
  | some yz =>
    rw [hyz] at hz
    simp only [Bool.and_eq_true, decide_eq_true_eq] at hz
    have hrl := (List.getElem?_eq_some_iff.1 hr).1
    have hm := mem_ahead (f := f) (List.getElem?_eq_some_iff.1 hyz).1 h1 hr hyz hz.2.1 hz.2.2
    have h2 := early_some (k := 3) (reads := (List.range f.items.length).map fun (r : Nat) => (r : Int)) (List.mem_map.2 ⟨r, List.mem_range.2 hrl, rfl⟩) hf hm
    unfold kindF at h
    rw [if_neg (by decide), if_neg (by decide), if_pos rfl] at h
    rw [h] at h2; cases h2
end
end Go.Proofs.YtjhjojklfdjmdaaGreat

namespace Go.Proofs.YtjhjojklfdjmdaaGreat
open Go.RowKit
set_option linter.unusedVariables false

/-- has an operation seen that a read missed a write; is something ahead of itself in what it has seen? -/
def missB (f : Fac) (o : Nat) : Bool := (earlyF f (seenM f (coM f) o) 6 (keptO f o)).isSome
def gorB (f : Fac) (o : Nat) : Bool := loopB f.items.length (seenM f (coM f) o)
/-- is one in another's past, or that one? -/
def PastP (f : Fac) (o j : Nat) : Prop := j = o ∨ Rel (coM f) j o
theorem max_ex {P : Nat → Prop} : ∀ (n : Nat), (∃ q, q ≤ n ∧ P q) → ∃ q, q ≤ n ∧ P q ∧ ∀ r, q < r → r ≤ n → ¬ P r
  | 0, ⟨q, hq, hp⟩ => ⟨q, hq, hp, fun r h1 h2 => by omega⟩
  | n + 1, ⟨q, hq, hp⟩ => by
    by_cases h : P (n + 1)
    · exact ⟨n + 1, Nat.le_refl _, h, fun r h1 h2 => by omega⟩
    · obtain ⟨q', h1, h2, h3⟩ := max_ex n ⟨q, by
        rcases Nat.lt_or_ge q (n + 1) with h4 | h4
        · omega
        · obtain rfl : q = n + 1 := by omega
          exact absurd hp h, hp⟩
      refine ⟨q', by omega, h2, fun r h4 h5 => ?_⟩
      rcases Nat.lt_or_ge r (n + 1) with h6 | h6
      · exact h3 r h4 (by omega)
      · obtain rfl : r = n + 1 := by omega
        exact h
section
variable {f : Fac}
theorem co_ahead (hw : WholeF f) (h : f.items.length ≤ 4096) {i j : Nat} (hij : aheadF f.items (i : Int) (j : Int) = true) : Rel (coM f) i j :=
  ((coM_hull hw h).2 i j).2 (.one (((edgeM_good hw h).2 i j).2 (.inl hij)))
theorem co_from (hw : WholeF f) (h : f.items.length ≤ 4096) {i j : Nat} (hj : j < f.items.length) (hij : f.frm.getD j 0 = (i : Int)) : Rel (coM f) i j :=
  ((coM_hull hw h).2 i j).2 (.one (((edgeM_good hw h).2 i j).2 (.inr ⟨hj, hij⟩)))
theorem co_next (hw : WholeF f) (h : f.items.length ≤ 4096) (hN : Nbr f.items) {i j : Nat} {x y : It} (hx : f.items[i]? = some x) (hy : f.items[j]? = some y) (hse : x.se = y.se) (hij : i < j) : Rel (coM f) i j :=
  co_ahead hw h (by rw [hN.ahead hx hy, decide_eq_true hse, decide_eq_true hij]; rfl)
theorem kept19 (hN : Nbr f.items) {o x : Nat} {z : It} (ho : f.items[o]? = some z) : (x : Int) ∈ keptO f o ↔ ∃ y, f.items[x]? = some y ∧ y.wr = false ∧ y.se = z.se ∧ x ≤ o := by
  unfold keptO keptF pastF pastN
  rw [List.mem_filter, List.mem_map]
  constructor
  · rintro ⟨⟨r, hr, e⟩, h2⟩
    obtain rfl : r = x := by omega
    obtain ⟨h3, h4⟩ := List.mem_filter.1 hr
    have hrl := List.mem_range.1 h3
    have hy := List.getElem?_eq_getElem (l := f.items) hrl
    rw [rdOK_at (by rw [Int.toNat_natCast]; exact hy)] at h2
    rw [Bool.or_eq_true, decide_eq_true_eq] at h4
    refine ⟨_, hy, by simpa using h2, ?_⟩
    rcases h4 with h | h
    · obtain rfl : r = o := by omega
      rw [hy] at ho; injection ho with ho
      exact ⟨by rw [ho], Nat.le_refl _⟩
    · rw [hN.ahead hy ho, Bool.and_eq_true, decide_eq_true_eq, decide_eq_true_eq] at h
      exact ⟨h.1, by omega⟩
  · rintro ⟨y, hy, hwr, hse, hle⟩
    have hrl := (List.getElem?_eq_some_iff.1 hy).1
    refine ⟨⟨x, List.mem_filter.2 ⟨List.mem_range.2 hrl, ?_⟩, rfl⟩, ?_⟩
    · rw [Bool.or_eq_true, decide_eq_true_eq]
      by_cases h : x = o
      · exact .inl (by omega)
      · refine .inr ?_
        rw [hN.ahead hy ho, Bool.and_eq_true, decide_eq_true_eq, decide_eq_true_eq]
        exact ⟨hse, by omega⟩
    · rw [rdOK_at (by rw [Int.toNat_natCast]; exact hy), hwr]; rfl
theorem keptO_int {o : Nat} {z : Int} (h : z ∈ keptO f o) : 0 ≤ z ∧ z < (f.items.length : Int) := by
  unfold keptO keptF at h
  exact pastF_ok _ _ _ z (List.mem_filter.1 h).1
theorem keptO_rise {o : Nat} : (keptO f o).Pairwise (fun a b => a < b) := by
  unfold keptO keptF pastF pastN
  refine List.Pairwise.filter _ (List.Pairwise.map _ (fun x y h => ?_) (List.Pairwise.filter _ List.pairwise_lt_range))
  omega
theorem seX_leastR {kept : List Int} {B : List (List Nat)} (hB : Good f.items.length B) {R : Nat → Nat → Prop} (hR : Trans2 R) (hs : ∀ i j, Rel B i j → R i j) (hr : ∀ r ∈ kept, 0 ≤ r)
    (hn : ∀ a b r : Nat, a ≠ b → bothW f.items a b = true → (r : Int) ∈ kept → f.frm.getD r 0 = (b : Int) → R a r → R a b) : ∀ k i j, Rel (seX f kept B k) i j → R i j
  | 0, i, j, h => hs i j h
  | k + 1, i, j, h => by
    have ih := seX_leastR hB hR hs hr hn k
    refine Conn.least hR (fun a b hab => ?_) (((seX_hull hB k).2 i j).1 h)
    rcases (seX_rel hB k a b).1 hab with h1 | h1
    · exact ih a b h1
    · obtain ⟨x, hx, e⟩ := List.mem_map.1 h1
      obtain ⟨p, q, hp, hq, e1, e2, hne, hbo, -, hrk, hfr, hha⟩ := newF_some hx
      injection e with e3 e4
      obtain rfl : p = a := by omega
      obtain rfl : q = b := by omega
      obtain ⟨r, hr'⟩ := Int.eq_ofNat_of_zero_le (hr _ hrk)
      rw [hr'] at hha hrk hfr
      rw [Int.toNat_natCast] at hfr
      exact hn p q r hne hbo hrk hfr (ih p r hha)
theorem seenM_closed (hw : WholeF f) (h : f.items.length ≤ 4096) (o : Nat) : ClosedM (seenM f (coM f) o) := seX_closed (base_good hw h o).1 (base_good hw h o).2 _
theorem seenM_good (hw : WholeF f) (h : f.items.length ≤ 4096) (o : Nat) : Good f.items.length (seenM f (coM f) o) := seX_good (base_good hw h o).1 _
theorem seenM_base (hw : WholeF f) (h : f.items.length ≤ 4096) {o : Nat} (ho : o < f.items.length) {i j : Nat} (hij : Rel (coM f) i j) (hj : PastP f o j) : Rel (seenM f (coM f) o) i j := by
  refine seX_base (base_good hw h o).1 i j ?_ _
  have hlt := ((coM_hull hw h).1).rel_lt i j hij
  refine ((within_facts (coM_hull hw h).1 _).2 i j).2 ⟨hij, ?_, ?_⟩
  · rw [wihO_mem ho]
    refine ⟨hlt.1, .inr ?_⟩
    rcases hj with rfl | h1
    · exact hij
    · exact co_closed hw h _ _ _ hij h1
  · rw [wihO_mem ho]; exact ⟨hlt.2, hj⟩
theorem seenM_rule (hw : WholeF f) (h : f.items.length ≤ 4096) {o : Nat} {a b r : Nat} (hne : a ≠ b) (hbo : bothW f.items a b = true) (hr : (r : Int) ∈ keptO f o) (hfr : f.frm.getD r 0 = (b : Int)) (har : Rel (seenM f (coM f) o) a r) : Rel (seenM f (coM f) o) a b := by
  obtain ⟨x, y, hx, hy, -, -, -⟩ : ∃ x y, f.items[a]? = some x ∧ f.items[b]? = some y ∧ x.wr = true ∧ y.wr = true ∧ x.va = y.va := by
    unfold bothW at hbo
    cases hx : f.items[a]? with
    | none => rw [hx] at hbo; cases hbo
    | some x =>
      cases hy : f.items[b]? with
      | none => rw [hx, hy] at hbo; cases hbo
      | some y =>
        rw [hx, hy] at hbo
        simp only [Bool.and_eq_true, decide_eq_true_eq] at hbo
        exact ⟨x, y, rfl, rfl, hbo.1.1, hbo.1.2, hbo.2⟩
  exact newF_nil.1 (seenK_is (kept := keptO f o) (base_good hw h o).1).2 a b (List.getElem?_eq_some_iff.1 hx).1 (List.getElem?_eq_some_iff.1 hy).1 hne hbo (r : Int) hr (by rw [Int.toNat_natCast]; exact hfr) har
/-- what is seen is in each transitive relation that has causal order up to o, and keeps the rule -/
theorem seenM_least (hw : WholeF f) (h : f.items.length ≤ 4096) {o : Nat} (ho : o < f.items.length) {R : Nat → Nat → Prop} (hR : Trans2 R) (hs : ∀ i j, Rel (coM f) i j → PastP f o j → R i j)
    (hn : ∀ a b r : Nat, a ≠ b → bothW f.items a b = true → (r : Int) ∈ keptO f o → f.frm.getD r 0 = (b : Int) → R a r → R a b) {i j : Nat} (hij : Rel (seenM f (coM f) o) i j) : R i j := by
  refine seX_leastR (base_good hw h o).1 hR (fun i j hb => ?_) (fun r hr => (keptO_int hr).1) hn _ i j hij
  have hb := ((within_facts (coM_hull hw h).1 _).2 i j).1 hb
  rw [wihO_mem ho, wihO_mem ho] at hb
  exact hs i j hb.1 hb.2.2.2
variable {o p : Nat} {x y : It}
theorem seenM_dom (hw : WholeF f) (h : f.items.length ≤ 4096) (hN : Nbr f.items) (ho : f.items[o]? = some x) {i j : Nat} (hij : Rel (seenM f (coM f) o) i j) : PastP f o i ∧ PastP f o j := by
  have hol := (List.getElem?_eq_some_iff.1 ho).1
  have hdown : ∀ i j, Rel (coM f) i j → PastP f o j → PastP f o i := fun i j h1 h2 => by
    rcases h2 with rfl | h2
    · exact .inr h1
    · exact .inr (co_closed hw h _ _ _ h1 h2)
  refine seenM_least hw h hol (R := fun i j => PastP f o i ∧ PastP f o j) (fun i j k h1 h2 => ⟨h1.1, h2.2⟩) (fun i j h1 h2 => ⟨hdown i j h1 h2, h2⟩) (fun a b r _ _ hr hfr har => ?_) hij
  refine ⟨har.1, ?_⟩
  obtain ⟨z, hz, -, hse, hle⟩ := (kept19 hN ho).1 hr
  exact hdown b r (co_from hw h (List.getElem?_eq_some_iff.1 hz).1 hfr) har.2
/-- what an operation has seen, all behind it in its session have -/
theorem seenM_mono (hw : WholeF f) (h : f.items.length ≤ 4096) (hN : Nbr f.items) (ho : f.items[o]? = some x) (hp : f.items[p]? = some y) (hse : x.se = y.se) (hle : o ≤ p) {i j : Nat} (hij : Rel (seenM f (coM f) o) i j) : Rel (seenM f (coM f) p) i j := by
  have hol := (List.getElem?_eq_some_iff.1 ho).1
  have hpl := (List.getElem?_eq_some_iff.1 hp).1
  refine seenM_least hw h hol (R := Rel (seenM f (coM f) p)) (seenM_closed hw h p) (fun i j h1 h2 => seenM_base hw h hpl h1 ?_) (fun a b r hne hbo hr hfr har => seenM_rule hw h hne hbo ?_ hfr har) hij
  · rcases Nat.lt_or_ge o p with hlt | hge
    · have hop := co_next hw h hN ho hp hse hlt
      rcases h2 with rfl | h2
      · exact .inr hop
      · exact .inr (co_closed hw h _ _ _ h2 hop)
    · obtain rfl : o = p := by omega
      exact h2
  · obtain ⟨z, hz, hwr, hs, hl⟩ := (kept19 hN ho).1 hr
    exact (kept19 hN hp).2 ⟨z, hz, hwr, hs.trans hse, by omega⟩
/-- one that doesn't read from a write has seen no more than the one ahead of it, but for causal order -/
theorem seenM_up (hw : WholeF f) (h : f.items.length ≤ 4096) (hN : Nbr f.items) (ho : f.items[o]? = some x) (hp : f.items[p]? = some y) (hse : x.se = y.se) (hle : o ≤ p) (hno : ∀ q, o < q → q ≤ p → f.frm.getD q 0 < 0) {i j : Nat} (hij : Rel (seenM f (coM f) p) i j) :
    Rel (seenM f (coM f) o) i j ∨ (¬ PastP f o j ∧ ∃ k, (i = k ∨ Rel (seenM f (coM f) o) i k) ∧ Rel (coM f) k j) := by
  have hol := (List.getElem?_eq_some_iff.1 ho).1
  have hpl := (List.getElem?_eq_some_iff.1 hp).1
  have hdown : ∀ i j, Rel (coM f) i j → PastP f o j → PastP f o i := fun i j h1 h2 => by
    rcases h2 with rfl | h2
    · exact .inr h1
    · exact .inr (co_closed hw h _ _ _ h1 h2)
  refine seenM_least hw h hpl (R := fun i j => Rel (seenM f (coM f) o) i j ∨ (¬ PastP f o j ∧ ∃ k, (i = k ∨ Rel (seenM f (coM f) o) i k) ∧ Rel (coM f) k j)) (fun i j k h1 h2 => ?_) (fun i j h1 h2 => ?_) (fun a b r hne hbo hr hfr har => ?_) hij
  · rcases h1 with h1 | ⟨hnj, q, hq, h1⟩
    · rcases h2 with h2 | ⟨hnk, q2, hq2, h2⟩
      · exact .inl (seenM_closed hw h o _ _ _ h1 h2)
      · refine .inr ⟨hnk, q2, .inr ?_, h2⟩
        rcases hq2 with rfl | hq2
        · exact h1
        · exact seenM_closed hw h o _ _ _ h1 hq2
    · rcases h2 with h2 | ⟨hnk, q2, hq2, h2⟩
      · exact absurd (seenM_dom hw h hN ho h2).1 hnj
      · rcases hq2 with rfl | hq2
        · exact .inr ⟨hnk, q, hq, co_closed hw h _ _ _ h1 h2⟩
        · exact absurd (seenM_dom hw h hN ho hq2).1 hnj
  · by_cases hj : PastP f o j
    · exact .inl (seenM_base hw h hol h1 hj)
    · exact .inr ⟨hj, i, .inl rfl, h1⟩
  · obtain ⟨z, hz, hwr, hs, hl⟩ := (kept19 hN hp).1 hr
    have hro : r ≤ o := by
      rcases Nat.lt_or_ge o r with h1 | h1
      · have := hno r h1 hl
        omega
      · exact h1
    have hpr : PastP f o r := by
      rcases Nat.lt_or_ge r o with h1 | h1
      · exact .inr (co_next hw h hN hz ho (hs.trans hse.symm) h1)
      · exact .inl (by omega)
    rcases har with har | ⟨hnr, -⟩
    · exact .inl (seenM_rule hw h hne hbo ((kept19 hN ho).2 ⟨z, hz, hwr, hs.trans hse.symm, hro⟩) hfr har)
    · exact absurd hpr hnr
/-- without a read from a write there is causal order alone -/
theorem seenM_co (hw : WholeF f) (h : f.items.length ≤ 4096) (hN : Nbr f.items) (hp : f.items[p]? = some y) (hno : ∀ (q : Nat) (z : It), q ≤ p → f.items[q]? = some z → z.se = y.se → f.frm.getD q 0 < 0) {i j : Nat} (hij : Rel (seenM f (coM f) p) i j) : Rel (coM f) i j := by
  have hpl := (List.getElem?_eq_some_iff.1 hp).1
  refine seenM_least hw h hpl (R := Rel (coM f)) (co_closed hw h) (fun i j h1 _ => h1) (fun a b r hne hbo hr hfr har => ?_) hij
  obtain ⟨z, hz, hwr, hs, hl⟩ := (kept19 hN hp).1 hr
  have := hno r z hl hz hs
  omega
theorem mem_ahead_iff {X : List (List Nat)} {r : Nat} {z : Int} {yr : It} (hr : f.items[r]? = some yr) : z ∈ aheadW f X (r : Int) ↔ ∃ q : Nat, z = (q : Int) ∧ q < f.items.length ∧ Rel X q r ∧ wrOK f.items yr.va (q : Int) = true := by
  unfold aheadW wrsF colF colN
  rw [List.mem_filter, List.mem_map, vaF_at hr]
  constructor
  · rintro ⟨⟨q, hq, rfl⟩, h2⟩
    obtain ⟨h3, h4⟩ := List.mem_filter.1 hq
    exact ⟨q, rfl, List.mem_range.1 h3, h4, h2⟩
  · rintro ⟨q, rfl, h1, h2, h3⟩
    exact ⟨⟨q, List.mem_filter.2 ⟨List.mem_range.2 h1, h2⟩, rfl⟩, h3⟩
theorem early_iff {X : List (List Nat)} {k : Int} {reads : List Int} (hrd : ∀ r ∈ reads, 0 ≤ r ∧ r < (f.items.length : Int)) :
    (earlyF f X k reads).isSome = true ↔ ∃ (r q : Nat) (yr : It), (r : Int) ∈ reads ∧ f.items[r]? = some yr ∧ f.frm.getD r 0 = -1 ∧ Rel X q r ∧ q < f.items.length ∧ wrOK f.items yr.va (q : Int) = true := by
  unfold earlyF
  rw [List.findSome?_isSome_iff]
  constructor
  · rintro ⟨r, hr, h⟩
    obtain ⟨h0, h1⟩ := hrd r hr
    obtain ⟨r, rfl⟩ := Int.eq_ofNat_of_zero_le h0
    rw [Int.toNat_natCast] at h
    split at h
    · rename_i hf
      rw [Option.isSome_map] at h
      have hy := List.getElem?_eq_getElem (l := f.items) (i := r) (by omega)
      cases ha : (aheadW f X (r : Int)).head? with
      | none => rw [ha] at h; cases h
      | some z =>
        obtain ⟨q, rfl, h3, h4, h5⟩ := (mem_ahead_iff hy).1 (List.mem_of_head? ha)
        exact ⟨r, q, _, hr, hy, hf, h4, h3, h5⟩
    · cases h
  · rintro ⟨r, q, yr, hr, hy, hf, h4, h3, h5⟩
    refine ⟨(r : Int), hr, ?_⟩
    rw [Int.toNat_natCast, if_pos hf, Option.isSome_map]
    have hm := (mem_ahead_iff (X := X) (z := (q : Int)) hy).2 ⟨q, rfl, h3, h4, h5⟩
    cases hh : (aheadW f X (r : Int)).head? with
    | none => rw [List.head?_eq_none_iff.1 hh] at hm; cases hm
    | some z => rfl
theorem missB_iff : missB f o = true ↔ ∃ (r q : Nat) (yr : It), (r : Int) ∈ keptO f o ∧ f.items[r]? = some yr ∧ f.frm.getD r 0 = -1 ∧ Rel (seenM f (coM f) o) q r ∧ q < f.items.length ∧ wrOK f.items yr.va (q : Int) = true :=
  early_iff fun r hr => keptO_int hr
theorem gorB_iff : gorB f o = true ↔ ∃ i, i < f.items.length ∧ Rel (seenM f (coM f) o) i i := loopB_iff
theorem missB_mono (hw : WholeF f) (h : f.items.length ≤ 4096) (hN : Nbr f.items) (ho : f.items[o]? = some x) (hp : f.items[p]? = some y) (hse : x.se = y.se) (hle : o ≤ p) (hm : missB f o = true) : missB f p = true := by
  obtain ⟨r, q, yr, h1, h2, h3, h4, h5, h6⟩ := missB_iff.1 hm
  obtain ⟨z, hz, hwr, hs, hl⟩ := (kept19 hN ho).1 h1
  exact missB_iff.2 ⟨r, q, yr, (kept19 hN hp).2 ⟨z, hz, hwr, hs.trans hse, by omega⟩, h2, h3, seenM_mono hw h hN ho hp hse hle h4, h5, h6⟩
theorem gorB_mono (hw : WholeF f) (h : f.items.length ≤ 4096) (hN : Nbr f.items) (ho : f.items[o]? = some x) (hp : f.items[p]? = some y) (hse : x.se = y.se) (hle : o ≤ p) (hm : gorB f o = true) : gorB f p = true := by
  obtain ⟨i, h1, h2⟩ := gorB_iff.1 hm
  exact gorB_iff.2 ⟨i, h1, seenM_mono hw h hN ho hp hse hle h2⟩
/-- the last read from a write up to p in its session, or there is none -/
theorem last_read (hp : f.items[p]? = some y) : (∃ (o : Nat) (x : It), o ≤ p ∧ f.items[o]? = some x ∧ x.se = y.se ∧ 0 ≤ f.frm.getD o 0 ∧ ∀ (q : Nat) (z : It), o < q → q ≤ p → f.items[q]? = some z → z.se = y.se → f.frm.getD q 0 < 0) ∨ ∀ (q : Nat) (z : It), q ≤ p → f.items[q]? = some z → z.se = y.se → f.frm.getD q 0 < 0 := by
  rcases Classical.em (∃ o, o ≤ p ∧ ∃ x, f.items[o]? = some x ∧ x.se = y.se ∧ 0 ≤ f.frm.getD o 0) with h | h
  · obtain ⟨o, h1, ⟨x, h2, h3, h4⟩, h5⟩ := max_ex p h
    refine .inl ⟨o, x, h1, h2, h3, h4, fun q z hq hqp hz hs => ?_⟩
    rcases Int.lt_or_le (f.frm.getD q 0) 0 with h6 | h6
    · exact h6
    · exact absurd ⟨z, hz, hs, h6⟩ (h5 q hq hqp)
  · refine .inr fun q z hq hz hs => ?_
    rcases Int.lt_or_le (f.frm.getD q 0) 0 with h6 | h6
    · exact h6
    · exact absurd ⟨q, hq, z, hz, hs, h6⟩ h
theorem between_se (hN : Nbr f.items) (ho : f.items[o]? = some x) (hp : f.items[p]? = some y) (hse : x.se = y.se) {q : Nat} (h1 : o ≤ q) (h2 : q ≤ p) : ∃ z, f.items[q]? = some z ∧ z.se = y.se := by
  have hz := List.getElem?_eq_getElem (l := f.items) (i := q) (by have := (List.getElem?_eq_some_iff.1 hp).1; omega)
  refine ⟨_, hz, ?_⟩
  have h3 := hN.le h1 ho hz
  have h4 := hN.le h2 hz hp
  omega
theorem gorB_desc (hw : WholeF f) (h : f.items.length ≤ 4096) (hN : Nbr f.items) (hk2 : kindF f 2 = none) (hp : f.items[p]? = some y) (hm : gorB f p = true) : ∃ (o : Nat) (x : It), o ≤ p ∧ f.items[o]? = some x ∧ x.se = y.se ∧ 0 ≤ f.frm.getD o 0 ∧ gorB f o = true := by
  obtain ⟨i, h1, h2⟩ := gorB_iff.1 hm
  rcases last_read hp with ⟨o, x, hop, hx, hse, hfr, hno⟩ | hno
  · refine ⟨o, x, hop, hx, hse, hfr, gorB_iff.2 ⟨i, h1, ?_⟩⟩
    rcases seenM_up hw h hN hx hp hse hop (fun q hq hqp => by
      obtain ⟨z, hz, hs⟩ := between_se hN hx hp hse (by omega) hqp
      exact hno q z hq hqp hz hs) h2 with h3 | ⟨h3, k, h4, h5⟩
    · exact h3
    · rcases h4 with rfl | h4
      · exact absurd h5 (no_round hw h hk2 _)
      · exact absurd (seenM_dom hw h hN hx h4).1 h3
  · exact absurd (seenM_co hw h hN hp hno h2) (no_round hw h hk2 _)
theorem missB_desc (hw : WholeF f) (h : f.items.length ≤ 4096) (hN : Nbr f.items) (hfr : f.frm = fromF f.items) (hk2 : kindF f 2 = none) (hk3 : kindF f 3 = none) (hp : f.items[p]? = some y) (hm : missB f p = true) : ∃ (o : Nat) (x : It), o ≤ p ∧ f.items[o]? = some x ∧ x.se = y.se ∧ 0 ≤ f.frm.getD o 0 ∧ missB f o = true := by
  obtain ⟨r, q, yr, h1, h2, h3, h4, h5, h6⟩ := missB_iff.1 hm
  obtain ⟨z, hz, hwr, hs, hl⟩ := (kept19 hN hp).1 h1
  rw [h2] at hz; injection hz with hz; subst hz
  rcases last_read hp with ⟨o, x, hop, hx, hse, hfo, hno⟩ | hno
  · have hor : r ≤ o := by
      rcases Nat.lt_or_ge o r with hlt | hge
      · exfalso
        have hcr := co_next hw h hN hx h2 (hse.trans hs.symm) hlt
        refine no_early hk3 h2 h3 h6 ?_
        rcases seenM_up hw h hN hx hp hse hop (fun q hq hqp => by
          obtain ⟨z, hz, hs⟩ := between_se hN hx hp hse (by omega) hqp
          exact hno q z hq hqp hz hs) h4 with h7 | ⟨h7, k, h8, h9⟩
        · rcases (seenM_dom hw h hN hx h7).2 with rfl | h8
          · omega
          · exact absurd (co_closed hw h _ _ _ hcr h8) (no_round hw h hk2 _)
        · rcases h8 with rfl | h8
          · exact h9
          · rcases (seenM_dom hw h hN hx h8).1 with rfl | h10
            · exact hcr
            · exact co_closed hw h _ _ _ h10 hcr
      · exact hge
    refine ⟨o, x, hop, hx, hse, hfo, missB_iff.2 ⟨r, q, yr, (kept19 hN hx).2 ⟨yr, h2, hwr, hs.trans hse.symm, hor⟩, h2, h3, ?_, h5, h6⟩⟩
    have hpr : PastP f o r := by
      rcases Nat.lt_or_ge r o with h1 | h1
      · exact .inr (co_next hw h hN h2 hx (hs.trans hse.symm) h1)
      · exact .inl (by omega)
    rcases seenM_up hw h hN hx hp hse hop (fun q hq hqp => by
      obtain ⟨z, hz, hs⟩ := between_se hN hx hp hse (by omega) hqp
      exact hno q z hq hqp hz hs) h4 with h7 | ⟨h7, -⟩
    · exact h7
    · exact absurd hpr h7
  · exact absurd (seenM_co hw h hN hp hno h4) (no_early hk3 h2 h3 h6)
end
end Go.Proofs.YtjhjojklfdjmdaaGreat

namespace Go.Proofs.YtjhjojklfdjmdaaGreat
open Go.RowKit
set_option linter.unusedVariables false

def seZ (f : Fac) (z : Int) : Int := match f.items[z.toNat]? with | some x => x.se | none => 0
/-- the last read from a write of each session, up to number k -/
def ldS (f : Fac) (l : List Int) (r : Nat) : List Int := if f.frm.getD r 0 < 0 then l else match l.getLast? with | none => [(r : Int)] | some z => if seZ f z = seZ f (r : Int) then l.dropLast ++ [(r : Int)] else l ++ [(r : Int)]
def ldF (f : Fac) : Nat → List Int
  | 0 => []
  | k + 1 => ldS f (ldF f k) k
structure LdIs (f : Fac) (k : Nat) (l : List Int) : Prop where
  inn : ∀ z ∈ l, ∃ (q : Nat) (y : It), z = (q : Int) ∧ q < k ∧ f.items[q]? = some y ∧ 0 ≤ f.frm.getD q 0
  ord : l.Pairwise (fun a b => seZ f a < seZ f b)
  all : ∀ (q : Nat) (y : It), q < k → f.items[q]? = some y → 0 ≤ f.frm.getD q 0 → ∃ p : Nat, (p : Int) ∈ l ∧ q ≤ p ∧ seZ f (p : Int) = y.se
section
variable {f : Fac}
theorem seZ_at {q : Nat} {y : It} (h : f.items[q]? = some y) : seZ f (q : Int) = y.se := by unfold seZ; rw [Int.toNat_natCast, h]
theorem ldS_len (l : List Int) (r : Nat) : (ldS f l r).length ≤ l.length + 1 := by
  unfold ldS
  split
  · omega
  · split
    · simp
    · split
      · rw [List.length_append, List.length_dropLast, List.length_singleton]; omega
      · rw [List.length_append]; simp
theorem ldF_len : ∀ k, (ldF f k).length ≤ k
  | 0 => Nat.le_refl _
  | k + 1 => by
    have h1 := ldF_len k
    have h2 := ldS_len (f := f) (ldF f k) k
    show (ldS f (ldF f k) k).length ≤ k + 1
    omega
theorem ldF_is (hN : Nbr f.items) : ∀ k, k ≤ f.items.length → LdIs f k (ldF f k)
  | 0, _ => ⟨fun z hz => absurd hz List.not_mem_nil, List.Pairwise.nil, fun q y hq => absurd hq (Nat.not_lt_zero _)⟩
  | k + 1, hk => by
    have ih := ldF_is hN k (by omega)
    show LdIs f (k + 1) (ldS f (ldF f k) k)
    generalize ldF f k = l at ih
    obtain ⟨x, hx⟩ : ∃ x, f.items[k]? = some x := ⟨_, List.getElem?_eq_getElem (by omega)⟩
    have hsk := seZ_at hx
    unfold ldS
    split
    · rename_i hneg
      refine ⟨fun z hz => ?_, ih.ord, fun q y hq hy h0 => ?_⟩
      · obtain ⟨q, y, e, h1, h2⟩ := ih.inn z hz
        exact ⟨q, y, e, by omega, h2⟩
      · refine ih.all q y ?_ hy h0
        rcases Nat.lt_or_ge q k with h1 | h1
        · exact h1
        · obtain rfl : q = k := by omega
          omega
    · rename_i hneg
      have hk0 : 0 ≤ f.frm.getD k 0 := by omega
      have hnew : ∃ (q : Nat) (y : It), (k : Int) = (q : Int) ∧ q < k + 1 ∧ f.items[q]? = some y ∧ 0 ≤ f.frm.getD q 0 := ⟨k, x, rfl, by omega, hx, hk0⟩
      split
      · rename_i hl
        have hl := List.getLast?_eq_none_iff.1 hl
        subst hl
        refine ⟨fun z hz => ?_, List.pairwise_singleton _ _, fun q y hq hy h0 => ?_⟩
        · rw [List.mem_singleton] at hz
          subst hz
          exact hnew
        · rcases Nat.lt_or_ge q k with h1 | h1
          · obtain ⟨p, hp, -⟩ := ih.all q y h1 hy h0
            cases hp
          · obtain rfl : q = k := by omega
            rw [hx] at hy; injection hy with hy
            exact ⟨q, List.mem_singleton.2 rfl, Nat.le_refl _, by rw [hsk, hy]⟩
      · rename_i z hl
        obtain ⟨l', rfl⟩ := List.getLast?_eq_some_iff.1 hl
        obtain ⟨qz, yz, rfl, hqz, hyz, h0z⟩ := ih.inn z (by simp)
        have hsz := seZ_at hyz
        have hle : yz.se ≤ x.se := by
          have := hN.le (show qz ≤ k by omega) hyz hx
          omega
        have hord := ih.ord
        rw [List.pairwise_append] at hord
        have hbef : ∀ w ∈ l', seZ f w < yz.se := fun w hw => by
          have := hord.2.2 w hw (qz : Int) (by simp)
          omega
        split
        · rename_i hse
          rw [hsz, hsk] at hse
          rw [List.dropLast_concat]
          refine ⟨fun z hz => ?_, ?_, fun q y hq hy h0 => ?_⟩
          · rcases List.mem_append.1 hz with h1 | h1
            · obtain ⟨q, y, e, h2, h3⟩ := ih.inn z (List.mem_append.2 (.inl h1))
              exact ⟨q, y, e, by omega, h3⟩
            · rw [List.mem_singleton] at h1
              subst h1
              exact hnew
          · rw [List.pairwise_append]
            refine ⟨hord.1, List.pairwise_singleton _ _, fun w hw v hv => ?_⟩
            rw [List.mem_singleton] at hv
            subst hv
            have := hbef w hw
            omega
          · rcases Nat.lt_or_ge q k with h1 | h1
            · obtain ⟨p, hp, hqp, hs⟩ := ih.all q y h1 hy h0
              rcases List.mem_append.1 hp with h2 | h2
              · exact ⟨p, List.mem_append.2 (.inl h2), hqp, hs⟩
              · rw [List.mem_singleton] at h2
                obtain rfl : p = qz := by omega
                exact ⟨k, by simp, by omega, by omega⟩
            · obtain rfl : q = k := by omega
              rw [hx] at hy; injection hy with hy
              exact ⟨q, by simp, Nat.le_refl _, by rw [hsk, hy]⟩
        · rename_i hse
          rw [hsz, hsk] at hse
          refine ⟨fun z hz => ?_, ?_, fun q y hq hy h0 => ?_⟩
          · rcases List.mem_append.1 hz with h1 | h1
            · obtain ⟨q, y, e, h2, h3⟩ := ih.inn z h1
              exact ⟨q, y, e, by omega, h3⟩
            · rw [List.mem_singleton] at h1
              subst h1
              exact hnew
          · rw [List.pairwise_append]
            refine ⟨ih.ord, List.pairwise_singleton _ _, fun w hw v hv => ?_⟩
            rw [List.mem_singleton] at hv
            subst hv
            rcases List.mem_append.1 hw with h1 | h1
            · have := hbef w h1
              omega
            · rw [List.mem_singleton] at h1
              subst h1
              omega
          · rcases Nat.lt_or_ge q k with h1 | h1
            · obtain ⟨p, hp, hqp, hs⟩ := ih.all q y h1 hy h0
              exact ⟨p, List.mem_append.2 (.inl hp), hqp, hs⟩
            · obtain rfl : q = k := by omega
              rw [hx] at hy; injection hy with hy
              exact ⟨q, by simp, Nat.le_refl _, by rw [hsk, hy]⟩
theorem read_of (hfr : f.frm = fromF f.items) {r : Nat} {y : It} (hy : f.items[r]? = some y) (h : -3 < f.frm.getD r 0) : y.wr = false := by
  rw [hfr, List.getD_eq_getElem?_getD, show (fromF f.items)[r]? = some (fromOne f.items y) from by unfold fromF; rw [List.getElem?_map, hy]; rfl] at h
  have h : -3 < fromOne f.items y := h
  unfold fromOne at h
  split at h
  · omega
  · rename_i h1; simpa using h1
/-- whether operations have seen something that all behind them in their session have, and that a read from a write has seen first -/
structure SeenBy (f : Fac) (p : Nat → Bool) : Prop where
  mono : ∀ (o q : Nat) (x y : It), f.items[o]? = some x → f.items[q]? = some y → x.se = y.se → o ≤ q → p o = true → p q = true
  desc : ∀ (q : Nat) (y : It), f.items[q]? = some y → p q = true → ∃ (o : Nat) (x : It), o ≤ q ∧ f.items[o]? = some x ∧ x.se = y.se ∧ 0 ≤ f.frm.getD o 0 ∧ p o = true
theorem missB_by (hw : WholeF f) (h : f.items.length ≤ 4096) (hN : Nbr f.items) (hfr : f.frm = fromF f.items) (hk2 : kindF f 2 = none) (hk3 : kindF f 3 = none) : SeenBy f (missB f) :=
  ⟨fun _ _ _ _ h1 h2 h3 h4 h5 => missB_mono hw h hN h1 h2 h3 h4 h5, fun _ _ h1 h2 => missB_desc hw h hN hfr hk2 hk3 h1 h2⟩
theorem gorB_by (hw : WholeF f) (h : f.items.length ≤ 4096) (hN : Nbr f.items) (hk2 : kindF f 2 = none) : SeenBy f (gorB f) :=
  ⟨fun _ _ _ _ h1 h2 h3 h4 h5 => gorB_mono hw h hN h1 h2 h3 h4 h5, fun _ _ h1 h2 => gorB_desc hw h hN hk2 h1 h2⟩
variable {p : Nat → Bool}
theorem SeenBy.kept (hP : SeenBy f p) (hN : Nbr f.items) {L a b : Nat} {y : It} (hL : f.items[L]? = some y) (ha : (a : Int) ∈ keptO f L) (hb : (b : Int) ∈ keptO f L) (hab : a ≤ b) (h : p a = true) : p b = true := by
  obtain ⟨x, hx, -, hs, -⟩ := (kept19 hN hL).1 ha
  obtain ⟨z, hz, -, ht, -⟩ := (kept19 hN hL).1 hb
  exact hP.mono a b x z hx hz (hs.trans ht.symm) hab h
theorem SeenBy.none (hP : SeenBy f p) (hN : Nbr f.items) (h : ∀ z : Nat, (z : Int) ∈ ldF f f.items.length → p z = false) : ∀ o, o < f.items.length → p o = false := fun o ho => by
  cases hpo : p o with
  | false => rfl
  | true =>
    exfalso
    obtain ⟨q, x, hqo, hx, hse, h0, hpq⟩ := hP.desc o _ (List.getElem?_eq_getElem ho) hpo
    obtain ⟨P, hPm, hqP, hs⟩ := (ldF_is hN _ (Nat.le_refl _)).all q x (by omega) hx h0
    obtain ⟨P', y, e, hPl, hy, -⟩ := (ldF_is hN _ (Nat.le_refl _)).inn _ hPm
    obtain rfl : P = P' := by omega
    rw [seZ_at hy] at hs
    have h1 := hP.mono q P x y hx hy hs.symm hqP hpq
    rw [h P hPm] at h1
    cases h1
theorem SeenBy.first (hP : SeenBy f p) (hN : Nbr f.items) (hfr : f.frm = fromF f.items) {i L : Nat} (hi : (ldF f f.items.length)[i]? = some (L : Int)) (hbef : ∀ (j z : Nat), j < i → (ldF f f.items.length)[j]? = some (z : Int) → p z = false)
    {o : Nat} (ho : (o : Int) ∈ keptO f L) (hleast : ∀ q : Nat, (q : Int) ∈ keptO f L → q < o → p q = false) : ∀ q, q < o → p q = false := fun q hq => by
  cases hpq : p q with
  | false => rfl
  | true =>
    exfalso
    have hld := ldF_is (f := f) hN _ (Nat.le_refl _)
    obtain ⟨L', yL, e, hLl, hyL, hL0⟩ := hld.inn _ (List.mem_of_getElem? hi)
    obtain rfl : L = L' := by omega
    have hol := keptO_int ho
    obtain ⟨xo, hxo, hwo, hso, hoL⟩ := (kept19 hN hyL).1 ho
    obtain ⟨s, x, hsq, hx, hse, h0, hps⟩ := hP.desc q _ (List.getElem?_eq_getElem (show q < f.items.length by omega)) hpq
    obtain ⟨P, hPm, hsP, hsP'⟩ := hld.all s x (by omega) hx h0
    obtain ⟨P', y, e2, hPl, hy, -⟩ := hld.inn _ hPm
    obtain rfl : P = P' := by omega
    rw [seZ_at hy] at hsP'
    have hpP := hP.mono s P x y hx hy hsP'.symm hsP hps
    obtain ⟨j, hj⟩ := List.getElem?_of_mem hPm
    rcases Nat.lt_trichotomy j i with h1 | h1 | h1
    · rw [hbef j P h1 hj] at hpP; cases hpP
    · subst h1
      rw [hi] at hj
      injection hj with hj
      obtain rfl : L = P := by omega
      rw [hy] at hyL; injection hyL with hyL; subst hyL
      have hks : (s : Int) ∈ keptO f L := (kept19 hN hy).2 ⟨x, hx, read_of hfr hx (by omega), hsP'.symm, hsP⟩
      rw [hleast s hks (by omega)] at hps; cases hps
    · obtain ⟨li, ei⟩ := List.getElem?_eq_some_iff.1 hi
      obtain ⟨lj, ej⟩ := List.getElem?_eq_some_iff.1 hj
      have h2 := List.pairwise_iff_getElem.1 hld.ord i j li lj h1
      rw [ei, ej, seZ_at hyL, seZ_at hy] at h2
      have h3 := hN.le (show s ≤ o by omega) hx hxo
      omega
/-- the reads of an operation's session up to it, by their places in the list -/
theorem kept_nat {L i : Nat} (hi : i < (keptO f L).length) : ∃ z : Nat, (keptO f L)[i]? = some (z : Int) ∧ ((keptO f L).getD i 0).toNat = z ∧ (z : Int) ∈ keptO f L := by
  have h1 := List.getElem?_eq_getElem hi
  have hm := List.getElem_mem hi
  obtain ⟨z, hz⟩ := Int.eq_ofNat_of_zero_le (keptO_int hm).1
  rw [hz] at h1 hm
  exact ⟨z, h1, by rw [List.getD_eq_getElem?_getD, h1]; rfl, hm⟩
theorem kept_lt {L i j : Nat} {a b : Nat} (ha : (keptO f L)[i]? = some (a : Int)) (hb : (keptO f L)[j]? = some (b : Int)) (hij : i < j) : a < b := by
  obtain ⟨li, ei⟩ := List.getElem?_eq_some_iff.1 ha
  obtain ⟨lj, ej⟩ := List.getElem?_eq_some_iff.1 hb
  have h := List.pairwise_iff_getElem.1 (keptO_rise (f := f) (o := L)) i j li lj hij
  rw [ei, ej] at h
  omega
theorem kept_last (hN : Nbr f.items) {L : Nat} {y : It} (hy : f.items[L]? = some y) (hw : y.wr = false) : 0 < (keptO f L).length ∧ (keptO f L)[(keptO f L).length - 1]? = some (L : Int) := by
  have hm : (L : Int) ∈ keptO f L := (kept19 hN hy).2 ⟨y, hy, hw, rfl, Nat.le_refl _⟩
  have h0 := List.length_pos_of_mem hm
  obtain ⟨j, hj⟩ := List.getElem?_of_mem hm
  have hjl := (List.getElem?_eq_some_iff.1 hj).1
  refine ⟨h0, ?_⟩
  rcases Nat.lt_or_ge j ((keptO f L).length - 1) with h1 | h1
  · obtain ⟨z, hz, -, hzm⟩ := kept_nat (f := f) (L := L) (show (keptO f L).length - 1 < (keptO f L).length by omega)
    have h2 := kept_lt hj hz h1
    obtain ⟨x, -, -, -, h3⟩ := (kept19 hN hy).1 hzm
    omega
  · rw [show (keptO f L).length - 1 = j by omega]; exact hj
theorem findSome_first {α : Type} {g : Nat → Option α} {n z : Nat} (hz : z < n) (h : ∀ o, o < z → g o = none) (hs : (g z).isSome = true) : (List.range n).findSome? g = g z := by
  obtain ⟨x, hx⟩ := Option.isSome_iff_exists.1 hs
  rw [hx, List.findSome?_eq_some_iff]
  refine ⟨List.range z, z, (List.range' (z + 1) (n - z - 1)), ?_, hx, fun a ha => h a (List.mem_range.1 ha)⟩
  have : n = z + (1 + (n - z - 1)) := by omega
  conv => lhs; rw [this]
  rw [List.range_eq_range', List.range_eq_range', ← List.range'_append_1, show 1 + (n - z - 1) = (n - z - 1) + 1 by omega, List.range'_succ, Nat.zero_add]
theorem sees6_none (h : ∀ o, o < f.items.length → missB f o = false) : seesF f (coM f) 6 = none := by
  unfold seesF
  rw [List.findSome?_eq_none_iff]
  intro o ho
  rw [if_pos rfl, Option.map_eq_none_iff]
  have := h o (List.mem_range.1 ho)
  unfold missB at this
  simpa using this
theorem sees6_first {o : Nat} (ho : o < f.items.length) (h : ∀ q, q < o → missB f q = false) (hm : missB f o = true) : seesF f (coM f) 6 = (earlyF f (seenM f (coM f) o) 6 (keptO f o)).map fun x => { x with o := (o : Int) } := by
  unfold seesF
  rw [findSome_first ho (fun q hq => ?_) ?_]
  · rw [if_pos rfl]
  · rw [if_pos rfl, Option.isSome_map]
    exact hm
  · rw [if_pos rfl, Option.map_eq_none_iff]
    have := h q hq
    unfold missB at this
    simpa using this
theorem gorB_find {o : Nat} : gorB f o = ((List.range f.items.length).find? fun (i : Nat) => hasM (seenM f (coM f) o) (i : Int) (i : Int)).isSome := by
  unfold gorB loopB
  rw [Bool.eq_iff_iff, List.any_eq_true, List.find?_isSome]
theorem sees7_none (h : ∀ o, o < f.items.length → gorB f o = false) : seesF f (coM f) 7 = none := by
  unfold seesF
  rw [List.findSome?_eq_none_iff]
  intro o ho
  rw [if_neg (by decide), Option.map_eq_none_iff]
  have := h o (List.mem_range.1 ho)
  rw [gorB_find] at this
  simpa using this
theorem sees7_first {o : Nat} (ho : o < f.items.length) (h : ∀ q, q < o → gorB f q = false) (hm : gorB f o = true) : seesF f (coM f) 7 = ((List.range f.items.length).find? fun (i : Nat) => hasM (seenM f (coM f) o) (i : Int) (i : Int)).map fun (i : Nat) => ⟨7, -1, (i : Int), -1, (o : Int), -1, -1⟩ := by
  unfold seesF
  rw [findSome_first ho (fun q hq => ?_) ?_]
  · rw [if_neg (by decide)]
  · rw [if_neg (by decide), Option.isSome_map, ← gorB_find]
    exact hm
  · rw [if_neg (by decide), Option.map_eq_none_iff]
    have := h q hq
    rw [gorB_find] at this
    simpa using this
end
end Go.Proofs.YtjhjojklfdjmdaaGreat
