/- The code's own contracts of layer 18: Of. What the code of layer 18 asks of facts, of a history's. The contract of the document's own answer of layer 11: Of (whole facts of a history). The example of layers 17 and 18: two writes and a read. Layer 18's example, walked. Plain mathematics of layer 18: what an operation has seen is in what a later one of its session has. Nothing of the program is named. Plain mathematics of layer 13: causal order is within the hull of any matrix that has the edges. Nothing of the program is named. Lists of pairs of bytes in memory. -/
import Derived.Test.YtbeigdbljepfkaaGreatSeenLeastPk10
import Derived.Test.YtbeigdbljepfkaaGreatSeenLeastPk11
import Derived.Test.YtbeigdbljepfkaaGreatSeenLeastPk14
import Derived.Test.YtbeigdbljepfkaaGreatSeenLeastPk1
import Derived.Test.YtbeigdbljepfkaaGreatSeenLeastPk7
import Derived.Test.YtbeigdbljepfkaaGreatSeenLeastPk6
import Derived.Test.YtbeigdbljepfkaaGreatSeenLeastPk5
import Derived.Test.YtbeigdbljepfkaaGreatSeenLeastPk9
import Derived.Test.YtbeigdbljepfkaaGreatSeenLeastPk4
import Derived.Test.YtbeigdbljepfkaaGreatSeenLeastPk3
namespace Go.Proofs.YtbeigdbljepfkaaGreat
open Go.RowKit
set_option linter.unusedVariables false
/-- a list whose elements are longer than the block that is written isn't in it -/
theorem LAt.setShort {α : Type} {E : Enc α} {w : World} {A : Option Addr} {n : Nat} {xs : List α} {g i : Nat} {t : TypeId} {cs : List Value} (h : LAt E w A n xs) (k : Blk w g t cs) (hsz : cs.length < E.sz) (u : Value) : LAt E (w.setCell ⟨g, i, none⟩ u) A n xs := by
  rcases Nat.eq_zero_or_pos n with h0 | h0
  · subst h0
    have : xs = [] := List.eq_nil_of_length_eq_zero h.len
    subst this
    exact LAt.nil _ _ _
  · refine h.setFar (fun ad e hb => ?_) u
    obtain ⟨b, off, e2, -, hc⟩ := h.2.2 h0
    rw [e] at e2
    cases e2
    have hb' : b = g := hb
    subst hb'
    have hl : E.sz - 1 < (E.all xs).length := by
      rw [Enc.all_len, h.len]
      have := E.pos
      have : E.sz ≤ n * E.sz := Nat.le_mul_of_pos_left _ h0
      omega
    have h1 := hc (E.sz - 1) _ (List.getElem?_eq_getElem hl)
    rw [Blk.cell k, List.getElem?_eq_none (by omega)] at h1
    cases h1
theorem LAt.keptB {α : Type} {E : Enc α} {w w' : World} {A : Option Addr} {n g : Nat} {xs : List α} (h : LAt E w A n xs) (hb : BelowB g w w') (hne : ∀ ad, A = some ad → ad.block ≠ g) : LAt E w' A n xs :=
  ⟨h.1, h.2.1, fun hn => by
    obtain ⟨b, off, e, hb', hc⟩ := h.2.2 hn
    exact ⟨b, off, e, Nat.lt_of_lt_of_le hb' hb.size, fun j u hu => (hb.cell (p := ⟨b, off + j, none⟩) hb' (show b ≠ g from hne _ e)).trans (hc j u hu)⟩⟩
theorem SlotsM.keptB {α : Type} {E : Enc α} {tS tE : TypeId} {B go n g : Nat} {w w' : World} {vs : List Value} {ls : List (List α)} (h : SlotsM E tS tE B go n w vs ls) (hb : BelowB g w w') (hg : g < B) : SlotsM E tS tE B go n w' vs ls :=
  ⟨own_keptB18 h.o hb hg, ⟨h.s.len, fun i v l h1 h2 => ⟨(h.s.row i v l h1 h2).1, own_keptB18 (h.s.row i v l h1 h2).2 hb hg⟩, h.s.dis⟩⟩
theorem wihO_nodup (a : List (List Nat)) (o : Int) (n : Nat) : (wihO a o n).Nodup := by
  unfold wihO
  split
  · unfold wihF wihN
    refine List.Pairwise.map _ (R := (· ≠ ·)) (fun a b h e => h (by omega)) ?_
    exact List.Pairwise.filter _ List.nodup_range
  · simp
set_option maxRecDepth 100000 in
set_option maxHeartbeats 1000000 in
theorem seen_Of_no (v : FV) (f : Fac) (A : Option Addr) (c : Nat) (co : List (List Nat)) (o : Int) (w : World) (hF : FactsAt w v f) (hr : RowsAt w A v.m co) (h : o < 0 ∨ (v.m : Int) ≤ o) :
    Calls Tryz.prog 9 #[.agg #[.slice v.A v.n v.c, .slice v.B v.m v.d, .slice v.C v.k v.e], .agg #[.int .i64 (v.m : Int), .slice A v.m c], .int .i64 o] w (RetNoSeen w) := by
  -- a call with facts v and the matrix (A v.m c a), hr : RowsAt w ..: boxed at g (W0), gm (W1): hB1, hM1
  -- a call with facts v: they are boxed at g, the world is W0 then
  have hB0 := Lib.hid (FBox.new hF)
  obtain ⟨g, hg⟩ : ∃ g, g = w.heap.size := ⟨_, rfl⟩
  obtain ⟨W0, hW0⟩ : ∃ W, W = w.alloc (.cells #[.slice v.A v.n v.c, .slice v.B v.m v.d, .slice v.C v.k v.e] 29) := ⟨_, rfl⟩
  rw [← hW0, ← hg] at hB0
  clear hF
  replace hr := hr.below hB0.out.o
  have hM1 := Lib.hid (MatK.new (N := (v.m : Int)) (c := c) W0 34 hr)
  obtain ⟨gm, hgm⟩ : ∃ g, g = W0.heap.size := ⟨_, rfl⟩
  obtain ⟨W1, hW1⟩ : ∃ W, W = W0.alloc (.cells #[.int .i64 (v.m : Int), .slice A v.m c] 34) := ⟨_, rfl⟩
  rw [← hW1, ← hgm] at hM1
  have hB1 := Lib.hid (hB0.out.later (show Below W0.heap.size W0 W1 from by rw [hW1]; exact below_alloc _ _))
  clear hr hB0
  obtain ⟨gr, hgr⟩ : ∃ g, g = W1.heap.size := ⟨_, rfl⟩
  obtain ⟨W2, hW2⟩ : ∃ W, W = W1.alloc (.cells #[.int .i64 0, .slice none 0 0] 34) := ⟨_, rfl⟩
  have b2 : Below W1.heap.size W1 W2 := by rw [hW2]; exact below_alloc _ _
  have hB2 := Lib.hid (hB1.out.later b2)
  have hM2 := Lib.hid (hM1.out.below b2)
  have kR := Lib.hid (show MatB W2 gr 34 0 none 0 0 from by rw [hW2, hgr]; exact MatB.new W1 _)
  have hgw := Lib.hid (show w.heap.size ≤ gr from by rw [hgr]; exact hB1.out.o.size)
  clear hM1 hB1 b2
  have p0 := hB2.out.c0
  have p1 := hB2.out.c1
  have p2 := hB2.out.c2
  have m0 := hM2.out.1.c0
  have m1 := hM2.out.1.c1
  by_cases h0 : o < 0
  · have d1 : decide (o < 0) = true := decide_eq_true h0
    have f0 := kR.out.c0
    have f1 := kR.out.c1
    have g0 := kR.out.frozen 0
    have g1 := kR.out.frozen 1
    have hcc := kR.out.two (.int .i64 0) (.slice none 0 0)
    have hd1 := Lib.hid hcc.1
    have hd2 := Lib.hid hcc.2
    have hbf := Lib.hid ((hB2.out.o.setCell (p := ⟨gr, 0, none⟩) hgw.out (.int .i64 0)).setCell (p := ⟨gr, 1, none⟩) hgw.out (.slice none 0 0))
    clear hcc
    go_enter Tryz.func9, Tryz.ntmps9
    go_wp2_with (first | (rw [← hW0, ← hg]; clear hW0 hg) | (rw [← hW1, ← hgm]; clear hW1 hgm) | (rw [← hW2, ← hgr]; clear hW2; replace hgr := Lib.hid hgr))
    exact bodyPost_ret (v := .tuple #[.agg #[.int .i64 0, .slice none 0 0], .slice none 0 0, .int .i64 0, .int .i64 1]) (by simp [results, Tryz.results9, go_sem, hd1.out, hd2.out]) rfl ⟨rfl, hbf.out⟩
  · have d1 : decide (o < 0) = false := decide_eq_false h0
    have h1 : (v.m : Int) ≤ o := by omega
    have d2 : decide ((v.m : Int) ≤ o) = true := decide_eq_true h1
    have f0 := kR.out.c0
    have f1 := kR.out.c1
    have g0 := kR.out.frozen 0
    have g1 := kR.out.frozen 1
    have hcc := kR.out.two (.int .i64 0) (.slice none 0 0)
    have hd1 := Lib.hid hcc.1
    have hd2 := Lib.hid hcc.2
    have hbf := Lib.hid ((hB2.out.o.setCell (p := ⟨gr, 0, none⟩) hgw.out (.int .i64 0)).setCell (p := ⟨gr, 1, none⟩) hgw.out (.slice none 0 0))
    clear hcc
    go_enter Tryz.func9, Tryz.ntmps9
    go_wp2_with (first | (rw [← hW0, ← hg]; clear hW0 hg) | (rw [← hW1, ← hgm]; clear hW1 hgm) | (rw [← hW2, ← hgr]; clear hW2; replace hgr := Lib.hid hgr))
    exact bodyPost_ret (v := .tuple #[.agg #[.int .i64 0, .slice none 0 0], .slice none 0 0, .int .i64 0, .int .i64 1]) (by simp [results, Tryz.results9, go_sem, hd1.out, hd2.out]) rfl ⟨rfl, hbf.out⟩
set_option maxRecDepth 100000 in
set_option maxHeartbeats 8000000 in
theorem seen_Of (v : FV) (f : Fac) (A : Option Addr) (c : Nat) (co : List (List Nat)) (o : Int) (w : World) (hF : FactsAt w v f) (hr : RowsAt w A v.m co) (hG : Good v.m co) (hm : v.m < 64) (hw : WholeF f) (h0 : 0 ≤ o) (h1 : o < (v.m : Int)) (hx : SeenX v f) (hcl : ClosedM co) :
    Calls Tryz.prog 9 #[.agg #[.slice v.A v.n v.c, .slice v.B v.m v.d, .slice v.C v.k v.e], .agg #[.int .i64 (v.m : Int), .slice A v.m c], .int .i64 o] w (RetSeen v.m f (keptF f.items (pastF f.items o f.items.length)) (withinM v.m co (wihO co o v.m)) w) := by
  have hil := hF.is.len
  have hvn := hx.nn
  have d1 : decide (o < 0) = false := decide_eq_false (by omega)
  have d2 : decide ((v.m : Int) ≤ o) = false := decide_eq_false (by omega)
  have hkok := keptF_ok f.items o
  have hklen := keptF_len f.items o
  obtain ⟨wl, hwl⟩ : ∃ l, l = wihO co o v.m := ⟨_, rfl⟩
  have hwok : ∀ z ∈ wl, 0 ≤ z ∧ z < (v.m : Int) := by rw [hwl]; exact wihO_ok co o v.m
  have hwnd : wl.Nodup := by rw [hwl]; exact wihO_nodup co o v.m
  have hwlen : wl.length ≤ v.m := by
    rw [hwl]; unfold wihO
    split
    · exact wihF_len _ _ _
    · simp
  have gB := within_facts hG (l := wl)
  rw [hil] at hkok hklen
  have cP := fun W hW => past_With A v.m c co o W hW hG
  rw [← hwl] at cP ⊢
  have cI := fun L m d W hR hI hmm => hull_Within A L v.m c m d co wl W hR hG hI hmm
  have cR := fun D m d W hF hL hm' => seen_ruled v f D m d wl o W hF hx hw (by omega) hL hwok hm'
  obtain ⟨kept, hke⟩ : ∃ l, l = keptF f.items (pastF f.items o f.items.length) := ⟨_, rfl⟩
  obtain ⟨B, hBe⟩ : ∃ M, M = withinM v.m co wl := ⟨_, rfl⟩
  have hk2 : ∀ r ∈ kept, 0 ≤ r ∧ r < (v.m : Int) := by rw [hke, ← hil]; exact keptF_ok f.items o
  have hkl2 : kept.length ≤ v.m := by rw [hke, ← hil]; exact keptF_len f.items o
  rw [← hke] at cR ⊢
  rw [← hBe] at cI gB ⊢
  have gB' : Good f.items.length B := by rw [hil]; exact gB.1
  have hBc : ClosedM B := fun i j k hij hjk => by
    have h2 := (gB.2 i j).1 hij
    have h3 := (gB.2 j k).1 hjk
    exact (gB.2 i k).2 ⟨hcl i j k h2.1 h3.1, h2.2.1, h3.2.2⟩
  have hfst := Lib.hid (fun k => seX_first (f := f) (kept := kept) gB' (P := fun a => (a : Int) ∈ wl) (fun a y h => ((gB.2 a y).1 h).2.1) k)
  have hsg : Hid (∀ k, Good v.m (seX f kept B k)) := Lib.hid (fun k => by rw [← hil]; exact seX_good gB' k)
  have hsc : Hid (∀ k, ClosedM (seX f kept B k)) := Lib.hid (fun k => seX_closed gB' hBc k)
  have hsl : Hid (∀ k, (seL f kept B k).length ≤ v.m * v.m) := Lib.hid (fun k => Nat.le_trans (seL_len gB' k) (by rw [hil]; exact Nat.mul_le_mul (by rw [← hil]; exact cntW_le _ _) (by rw [← hil]; exact cntW_le _ _)))
  have hsk : Hid (∀ k, ∀ x ∈ seL f kept B k, Ed.Ok x) := Lib.hid (seL_okE gB' (by rw [hil]; exact hk2) (by omega))
  have hsn : Hid (∀ X, (newF f X kept).length ≤ v.m * v.m) := Lib.hid (fun X => by unfold newF; rw [hil]; exact nwA_len _ _)
  have hnp : Hid (∀ X, ∀ e ∈ newF f X kept, ∃ a b : Nat, e.w1 = (a : Int) ∧ e.w2 = (b : Int) ∧ a < v.m ∧ b < v.m) := Lib.hid (fun X e he => by
    obtain ⟨a, b, h1, h2, h3, h4, -⟩ := newF_some he
    exact ⟨a, b, h3, h4, by omega, by omega⟩)
  have hst : Hid (∀ k, seX f kept B (k + 1) = closeK ((edP (newF f (seX f kept B k) kept)).foldl setP (seX f kept B k)) v.m) := Lib.hid (fun k => by rw [← hil]; rfl)
  have hpos : Hid (∀ k, ∀ xs ∈ seX f kept B k, 0 < xs.length) := Lib.hid (fun k xs hxs => rows_len_pos (hsg.out k) (by omega) xs hxs)
  obtain ⟨wsl, hwsl⟩ : ∃ l, l = wl.filter (isW f) := ⟨_, rfl⟩
  have hwsn : wsl.Nodup := by rw [hwsl]; exact hwnd.sublist List.filter_sublist
  have hwso : ∀ z ∈ wsl, 0 ≤ z ∧ z < (v.m : Int) ∧ isW f z = true := fun z hz => by
    rw [hwsl] at hz
    obtain ⟨h2, h3⟩ := List.mem_filter.1 hz
    exact ⟨(hwok z h2).1, (hwok z h2).2, h3⟩
  have hwsle : wsl.length ≤ v.m := by rw [hwsl]; exact Nat.le_trans (List.length_filter_le _ _) hwlen
  have hwin : ∀ k (a y : Nat), Rel (seX f kept B k) a y → isW f (a : Int) = true → (a : Int) ∈ wsl := fun k a y h2 h3 => by
    rw [hwsl]; exact List.mem_filter.2 ⟨hfst.out k a y h2, h3⟩
  have hGB := Lib.hid gB.1
  have cL := Lib.hid (fun (k : Nat) U nu cu go A c W hF hU hR hr (hnu : nu ≤ v.m) => seen_lacks v f U nu cu go wsl kept A c (seX f kept B k) W hF hx hw (by omega) hU hR hr (hsg.out k) hwsn hwso hk2 hkl2 hnu (hwin k))
  rw [show RetRule v f wl kept = fun w e w' => RetRule v f wl kept w e w' from rfl] at cR
  have hF0 := Lib.hid hF
  replace cP := Lib.hid cP
  replace cI := Lib.hid cI
  replace cR := Lib.hid cR
  replace hke := Lib.hid hke
  replace hBe := Lib.hid hBe
  replace hil := Lib.hid hil
  replace hwok := Lib.hid hwok
  clear hw hx gB gB' hG hcl hBc hwnd hwso hwsn hk2 hkok hklen hfst hwin hwl
  replace hwsl := Lib.hid hwsl
  obtain ⟨i0, hi, hz0, hz1, hz2⟩ := info_parts info_edge
  replace hi := Lib.hid hi
  replace hz0 := Lib.hid hz0
  replace hz1 := Lib.hid hz1
  replace hz2 := Lib.hid hz2
  -- a call with facts v and the matrix (A v.m c a), hr : RowsAt w ..: boxed at g (W0), gm (W1): hB1, hM1
  -- a call with facts v: they are boxed at g, the world is W0 then
  have hB0 := Lib.hid (FBox.new hF)
  obtain ⟨g, hg⟩ : ∃ g, g = w.heap.size := ⟨_, rfl⟩
  obtain ⟨W0, hW0⟩ : ∃ W, W = w.alloc (.cells #[.slice v.A v.n v.c, .slice v.B v.m v.d, .slice v.C v.k v.e] 29) := ⟨_, rfl⟩
  rw [← hW0, ← hg] at hB0
  clear hF
  replace hr := hr.below hB0.out.o
  have hM1 := Lib.hid (MatK.new (N := (v.m : Int)) (c := c) W0 34 hr)
  obtain ⟨gm, hgm⟩ : ∃ g, g = W0.heap.size := ⟨_, rfl⟩
  obtain ⟨W1, hW1⟩ : ∃ W, W = W0.alloc (.cells #[.int .i64 (v.m : Int), .slice A v.m c] 34) := ⟨_, rfl⟩
  rw [← hW1, ← hgm] at hM1
  have hB1 := Lib.hid (hB0.out.later (show Below W0.heap.size W0 W1 from by rw [hW1]; exact below_alloc _ _))
  clear hr hB0
  obtain ⟨gr, hgr⟩ : ∃ g, g = W1.heap.size := ⟨_, rfl⟩
  obtain ⟨W2, hW2⟩ : ∃ W, W = W1.alloc (.cells #[.int .i64 0, .slice none 0 0] 34) := ⟨_, rfl⟩
  have b2 : Below W1.heap.size W1 W2 := by rw [hW2]; exact below_alloc _ _
  have hB2 := Lib.hid (hB1.out.later b2)
  have hM2 := Lib.hid (hM1.out.below b2)
  have kR := Lib.hid (show MatB W2 gr 34 0 none 0 0 from by rw [hW2, hgr]; exact MatB.new W1 _)
  have hgw := Lib.hid (show w.heap.size ≤ gr from by rw [hgr]; exact hB1.out.o.size)
  clear hM1 hB1 b2
  have p0 := hB2.out.c0
  have p1 := hB2.out.c1
  have p2 := hB2.out.c2
  have m0 := hM2.out.1.c0
  have m1 := hM2.out.1.c1
  go_enter Tryz.func9, Tryz.ntmps9
  go_wp2_with (first | (rw [← hW0, ← hg]; clear hW0 hg) | (rw [← hW1, ← hgm]; clear hW1 hgm) | (rw [← hW2, ← hgr]; clear hW2; replace hgr := Lib.hid hgr))
  refine (cP.out W2 hM2.out.2).mono ?_; rintro e w3 ⟨D, nd, dd, rfl, hD, hdd, hdm, b⟩
  have hdl := Lib.hid hD.len
  have hnd : nd ≤ v.m := by rw [← hdl.out]; exact hwlen
  replace hB2 := Lib.hid (hB2.out.later b)
  replace hM2 := Lib.hid (hM2.out.below b)
  replace kR := Lib.hid (kR.out.below_ b)
  replace hD := Lib.hid hD
  clear p0 p1 p2 m0 m1 b cP
  have m0 := hM2.out.1.c0
  have m1 := hM2.out.1.c1
  go_wp2_with fail
  refine (cI.out D nd dd w3 hM2.out.2 hD.out.ints (by omega)).mono ?_; rintro e w4 ⟨C, n4, dC, rfl, hC, hdC, b⟩
  obtain rfl : n4 = v.m := by rw [← hC.len]; exact hGB.out.len
  replace hB2 := Lib.hid (hB2.out.later b)
  replace kR := Lib.hid (kR.out.below_ b)
  replace hD := Lib.hid (hD.out.below b)
  clear m0 m1 b cI hM2
  -- the matrix's variable
  have hgr4 : gr < w4.heap.size := Blk.lt kR.out
  have hBU := hC.block_lt (by omega)
  obtain ⟨M, hMe⟩ : ∃ g, g = w4.heap.size := ⟨_, rfl⟩
  obtain ⟨W5, hW5⟩ : ∃ W, W = w4.alloc (.cells #[.int .i64 (v.m : Int), .slice C v.m dC] 34) := ⟨_, rfl⟩
  have b5 : Below w4.heap.size w4 W5 := by rw [hW5]; exact below_alloc _ _
  have hMV := Lib.hid (show MV W5 M v.m C dC (seX f kept B 0) from ⟨by rw [hW5, hMe]; exact MatB.new _ _, by rw [show seX f kept B 0 = B from rfl]; exact hC.below b5, hdC, fun _ ad e => by have := hBU ad e; omega⟩)
  replace hB2 := Lib.hid (hB2.out.later b5)
  replace kR := Lib.hid (kR.out.below_ b5)
  replace hD := Lib.hid (hD.out.below b5)
  have hM5 := Lib.hid (show M < W5.heap.size from hMV.out.loc.lt)
  have hwM := Lib.hid (show w.heap.size ≤ M ∧ gr < M from ⟨by rw [hMe]; have := hgw.out; omega, by rw [hMe]; exact hgr4⟩)
  clear hC hBU b5 hgr4
  go_wp2_with (rw [← hW5, ← hMe]; clear hW5; replace hMe := Lib.hid hMe; have p0 := hB2.out.c0; have p1 := hB2.out.c1; have p2 := hB2.out.c2)
  refine (cR.out D nd dd W5 hB2.out.f hD.out (by omega)).mono ?_; rintro e w6 ⟨U, nu, cu, go, vs, rfl, hU, hnu, hS, b, hUw⟩
  rw [← hwsl.out] at hU
  have hnm : nu ≤ v.m := by rw [← hU.len]; exact hwsle
  have hM6 := hMV.out.later b
  have hb6 := below_trans2 hB2.out.o b
  have kR6 := kR.out.below_ b
  obtain ⟨gu, hgu⟩ : ∃ g, g = w6.heap.size := ⟨_, rfl⟩
  obtain ⟨W7, hW7⟩ : ∃ W, W = w6.alloc (.cells #[.slice v.A v.n v.c, .slice v.B v.m v.d, .slice v.C v.k v.e, .slice U nu cu, .slice (some ⟨go, 0, none⟩) v.n v.n] 70) := ⟨_, rfl⟩
  have b7 : Below w6.heap.size w6 W7 := by rw [hW7]; exact below_alloc _ _
  have kU := Lib.hid (show Blk W7 gu 70 [.slice v.A v.n v.c, .slice v.B v.m v.d, .slice v.C v.k v.e, .slice U nu cu, .slice (some ⟨go, 0, none⟩) v.n v.n] from by rw [hW7, hgu]; exact Blk.new _ _ _)
  have hUM := Lib.hid (show ∀ ad, U = some ad → ad.block ≠ M from fun ad e h => by have := hUw ad e; have := hM5.out; omega)
  have hU7 := Lib.hid (hU.below b7)
  have hS7 := Lib.hid (hS.later b7)
  have hMV7 := Lib.hid (hM6.later b7)
  have hb7 := Lib.hid (below_trans2 hb6 b7)
  have kR7 := Lib.hid (show MatB W7 gr 34 0 none 0 0 from kR6.below_ b7)
  have hguM := Lib.hid (show gu ≠ M ∧ gr ≠ M from by
    refine ⟨fun e => ?_, by have := hwM.out; omega⟩
    have h2 := b.size
    have h3 := hM5.out
    omega)
  clear hU hS hM6 hb6 kR6 b b7 hUw hB2 hMV kR hD p0 p1 p2 cR
  go_wp2_with (rw [← hW7, ← hgu]; clear hW7; replace hgu := Lib.hid hgu)
  obtain ⟨B7, hB7⟩ : ∃ n, n = W7.heap.size := ⟨_, rfl⟩
  have hM7 := Lib.hid (show M < B7 from by rw [hB7]; exact hMV7.out.loc.lt)
  replace hB7 := Lib.hid hB7
  go_loopw [13, 14] (fun u t wr => ∃ (k : Nat) (A2 : Option Addr) (d2 : Nat), t = .int .i64 ((k + 1 : Nat) : Int) ∧ Hid (∀ j, j < k → newF f (seX f kept B j) kept ≠ []) ∧ Hid (BelowB M W7 wr) ∧ Hid (MV wr M v.m A2 d2 (seX f kept B k)) ∧ Hid (wr.ownsRow B7 55 3 u (seL f kept B k).length (encE.all (seL f kept B k))) ∧ Hid (RowsS (fun g => u.ownBlock ≠ some g) wr A2 v.m (seX f kept B k))) (fun _ t _ => v.m * v.m + 2 - (intOf t).toNat)
  case atStart => exact ⟨0, C, dC, rfl, Lib.hid (fun j h => absurd h (by omega)), Lib.hid (BelowB.refl _ _), hMV7, Lib.hid (World.ownsRow_nil _ _ _ _), Lib.hid (RowsS.of hMV7.out.rows (fun g e => by cases e))⟩
  case round =>
    clear hMV7
    obtain ⟨k, A2, d2, rfl, hne, hbB, hN, hown, hRS⟩ := hrel
    have hbw := Lib.hid (show Below w.heap.size w wr from hb7.out.trans (hbB.out.below hb7.out.size hwM.out.1))
    have kU' := Lib.hid (show Blk wr gu 70 [.slice v.A v.n v.c, .slice v.B v.m v.d, .slice v.C v.k v.e, .slice U nu cu, .slice (some ⟨go, 0, none⟩) v.n v.n] from hbB.out.blk kU.out hguM.out.1)
    have kR' := Lib.hid (show MatB wr gr 34 0 none 0 0 from hbB.out.blk kR7.out hguM.out.2)
    have hU' := hU7.out.keptB hbB.out hUM.out
    have hS' := ReadsAt.of (hS7.out.keptB hbB.out (by exact hM5.out))
    have cLk := cL.out k U nu cu go A2 d2 wr (hF0.out.below hbw.out) hU' hS' hN.out.rows hnm
    have gX := hsg.out k
    obtain ⟨X, hX⟩ : ∃ X, X = seX f kept B k := ⟨_, rfl⟩
    obtain ⟨al, hal⟩ : ∃ l, l = seL f kept B k := ⟨_, rfl⟩
    have halm : al.length ≤ v.m * v.m := by rw [hal]; exact hsl.out k
    have halk : k ≤ al.length := by rw [hal]; exact seL_ge k hne.out
    have hmm : v.m * v.m ≤ 64 * 64 := Nat.mul_le_mul (by omega) (by omega)
    rw [← hX] at hN hRS gX cLk
    rw [← hal] at hown
    obtain ⟨nl, hnl⟩ : ∃ l, l = newF f X kept := ⟨_, rfl⟩
    rw [← hnl] at cLk
    have hnlm : nl.length ≤ v.m * v.m := by rw [hnl]; exact hsn.out X
    have hnlp := Lib.hid (hnp.out X)
    rw [← hnl] at hnlp
    replace cLk := Lib.hid cLk
    replace gX := Lib.hid gX
    obtain ⟨la, hla⟩ : ∃ n, n = al.length := ⟨_, rfl⟩
    rw [← hla] at hown halm halk
    replace hla := Lib.hid hla
    replace hX := Lib.hid hX
    replace hal := Lib.hid hal
    replace hnl := Lib.hid hnl
    have n0 := hN.out.loc.c0
    have n1 := hN.out.loc.c1
    have y0 := kU'.out.cell 0
    have y1 := kU'.out.cell 1
    have y2 := kU'.out.cell 2
    have y3 := kU'.out.cell 3
    have y4 := kU'.out.cell 4
    simp only [List.getElem?_cons_zero, List.getElem?_cons_succ] at y0 y1 y2 y3 y4
    clear hU' hS'
    go_wp2_with fail
    refine cLk.out.mono ?_; rintro e w3 ⟨E, ne, ce, rfl, hE, hnc, hcm, b, hEf⟩
    have hnel := Lib.hid hE.len
    have hub := Lib.hid (own_block_lt hown.out)
    replace hown := Lib.hid (own_below hown.out b)
    replace hN := Lib.hid (hN.out.later b)
    replace hbw := Lib.hid (below_trans2 hbw.out b)
    replace hbB := Lib.hid (hbB.out.trans (BelowB.of b))
    have hRT := Lib.hid ((hRS.out.there (by omega) (by rw [hX.out]; exact hpos.out k)).below b)
    have hwr3 := b.size
    replace hE := Lib.hid hE
    replace kR' := Lib.hid (kR'.out.below_ b)
    clear n0 n1 y0 y1 y2 y3 y4 b cLk hRS kU'
    rcases Nat.eq_zero_or_pos ne with hz | hz
    · subst hz
      have hnil : Hid (newF f (seX f kept B k) kept = []) := Lib.hid (by
        have h1 := hnel.out
        rw [hnl.out, hX.out] at h1
        exact List.eq_nil_of_length_eq_zero h1)
      have n0 := hN.out.loc.c0
      have n1 := hN.out.loc.c1
      have f0 := kR'.out.c0
      have f1 := kR'.out.c1
      have g0 := kR'.out.frozen 0
      have g1 := kR'.out.frozen 1
      have hcc := kR'.out.two (.int .i64 (v.m : Int)) (.slice A2 v.m d2)
      have hd1 := Lib.hid hcc.1
      have hd2 := Lib.hid hcc.2
      have hrf := Lib.hid (hN.out.rows.putB kR'.out (fun h0 => hN.out.rows.farZ kR'.out (by rw [hX.out]; exact hpos.out k) h0) (.int .i64 (v.m : Int)) (.slice A2 v.m d2))
      have hbf := Lib.hid ((hbw.out.setCell (p := ⟨gr, 0, none⟩) hgw.out (.int .i64 (v.m : Int))).setCell (p := ⟨gr, 1, none⟩) hgw.out (.slice A2 v.m d2))
      have hown2 := own_farT (i := 1) (own_farT (i := 0) hown.out kR'.out (by decide) (.int .i64 (v.m : Int))) (Blk.set_ kR'.out 0 (.int .i64 (v.m : Int))) (by decide) (.slice A2 v.m d2)
      obtain ⟨A', c', rfl, hnc', hcm', hLA⟩ := LAt.of_own hown2 (by rw [hal.out]; exact hsk.out k) hla.out.symm
      have hcap := Lib.hid hN.out.cap
      replace hLA := Lib.hid hLA
      clear hcc hown hown2 hN hRT kR' hub
      go_wp2_with fail
      exact bodyPost_ret (v := .tuple #[.agg #[.int .i64 (v.m : Int), .slice A2 v.m d2], .slice A' la c', .int .i64 ((k + 1 : Nat) : Int), .int .i64 0]) (by simp [results, Tryz.results9, go_sem, hd1.out, hd2.out]) rfl ⟨k, A2, d2, A', la, c', rfl, ⟨hne.out, hnil.out⟩, by rw [← hX.out]; exact hrf.out, hcap.out, by rw [← hal.out]; exact hLA.out, hnc', hcm', hbf.out⟩
    · have hnep : Hid (newF f (seX f kept B k) kept ≠ []) := Lib.hid (fun h => by
        have h1 := hnel.out
        rw [hnl.out, hX.out, h] at h1
        simp at h1
        omega)
      have hbase := Lib.hid (show B7 ≤ w3.heap.size from by rw [hB7.out]; exact hbB.out.size)
      have hnz : ((ne : Int) == 0) = false := by rw [beq_eq_false_iff_ne]; omega
      have hnl2 := hnel.out
      clear kR'
      go_wp2_with (at_builtin; refine wpList_append_L (E := encE) rfl (.tmp 47) (.tmp 48) _ rfl B7 55 i0 _ 24 Tryz.underlying36 hi.out hz0.out hz1.out hz2.out rfl _ la al (by rfl) hown.out _ ne ce nl rfl hE.out (by unfold maxLen; omega) (by omega) hbase.out ?_; intro v' w7 hown' hb7' hg7 hob7; have n0' := (hN.out.loc.belowB hb7' hM7.out).c0; have n1' := (hN.out.loc.belowB hb7' hM7.out).c1)
      have hE7 := hE.out.grown18 hg7 (fun ad e h => by have := hub.out _ h; have := hEf ad e; omega)
      have hvl := own_block_lt hown'
      have hRS7 := (hRT.out.grown hg7 (fun g e h => h.1 e)).mono (T := fun g => v'.ownBlock ≠ some g) (fun g h e => by
        rcases hob7 with h2 | h2
        · rw [h2] at e; exact h.1 e
        · rw [h2] at e; injection e with e; have := h.2; omega)
      have hN7 := Lib.hid (show MV w7 M v.m A2 d2 X from ⟨hN.out.loc.belowB hb7' hM7.out, hRS7.at, hN.out.cap, hN.out.far⟩)
      have hcX : ClosedM X := by rw [hX.out]; exact hsc.out k
      have cA := seen_added (fun g => v'.ownBlock ≠ some g) A2 v.m d2 X E ne ce nl w7 hRS7 gX.out hcX (by omega) hE7 (by omega) hnlp.out
      rw [show closeK ((edP nl).foldl setP X) v.m = seX f kept B (k + 1) from by rw [hst.out, hnl.out, hX.out]] at cA
      have hbB7 := Lib.hid (show BelowB M W7 w7 from ⟨hb7'.os.trans hbB.out.os, hb7'.tape.trans hbB.out.tape, hb7'.output.trans hbB.out.output, Nat.le_trans (by rw [← hB7.out]; exact hbase.out) hb7'.size, fun i hi2 hne2 => (hb7'.block i (by rw [hB7.out]; exact hi2)).trans (hbB.out.block i hi2 hne2)⟩)
      have hM7' := Lib.hid (show B7 ≤ w7.heap.size from Nat.le_trans hbase.out hb7'.size)
      have hsL : Hid (seL f kept B (k + 1) = al ++ nl) := Lib.hid (by rw [hal.out, hnl.out, hX.out]; rfl)
      have hlen : Hid ((seL f kept B (k + 1)).length = la + ne) := Lib.hid (by rw [hsL.out, List.length_append, hnl2, hla.out])
      have hnx : Hid (∀ j, j < k + 1 → newF f (seX f kept B j) kept ≠ []) := Lib.hid (fun j hj => by
        rcases Nat.lt_succ_iff_lt_or_eq.1 hj with h1 | h1
        · exact hne.out j h1
        · rw [h1]; exact hnep.out)
      replace hvl := Lib.hid hvl
      replace hown' := Lib.hid hown'
      replace cA := Lib.hid cA
      clear hE7 hRS7 hcX hb7' hg7 hob7 hRT hN hbB hE hnl2 hown hub hbw
      refine cA.out.mono ?_; rintro e w8 ⟨C2, c2, rfl, hR2, hcap2, b8, hf2⟩
      have kM := hN7.out.loc.below_ b8
      have hT8 := Lib.hid (hN7.out.put b8 hR2.at hcap2 hf2)
      have hfar2 : 0 < v.m → ∀ ad, C2 = some ad → ad.block ≠ M := fun _ ad e => by have := hf2 ad e; have := hM7.out; have := hM7'.out; omega
      have hRS8 := Lib.hid ((hR2.mono (T := fun g => v'.ownBlock ≠ some g) (fun g h e => by
        rcases h with h | h
        · exact h e
        · have := hvl.out g e; omega)).putB kM hfar2 (.int .i64 (v.m : Int)) (.slice C2 v.m c2))
      have hbB8 := Lib.hid (((hbB7.out.trans (BelowB.of b8)).setG 0 (.int .i64 (v.m : Int))).setG 1 (.slice C2 v.m c2))
      have hown8 := own_farT (i := 1) (own_farT (i := 0) (own_below hown'.out b8) kM (by decide) (.int .i64 (v.m : Int))) (Blk.set_ kM 0 (.int .i64 (v.m : Int))) (by decide) (.slice C2 v.m c2)
      rw [← hsL.out, ← hlen.out] at hown8
      replace hown8 := Lib.hid hown8
      have m0 := kM.c0
      have m1 := kM.c1
      have g0 := kM.frozen 0
      have g1 := kM.frozen 1
      clear kM n0' n1' hR2 b8 hf2 hfar2 cA hN7 hbB7 hown' hvl
      go_wp2_with fail
      exact ⟨⟨k + 1, C2, c2, by go_num, hnx, hbB8, hT8, hown8, hRS8⟩, by simp [intOf]; omega⟩
end Go.Proofs.YtbeigdbljepfkaaGreat

namespace Go.Proofs.YtbeigdbljepfkaaGreat
open Go.RowKit
set_option linter.unusedVariables false
theorem hisF_vars18 (hs : List (List OpT)) : (hisF hs).1.length ≤ (allO hs).length := by
  rw [← hisF_len]
  induction hs using snoc_ind with
  | h0 => simp [hisF_nil]
  | h1 hs os ih =>
    rw [hisF_snoc]
    have := sesF_len hs.length os (hisF hs)
    omega
theorem seenX_hist {hs : List (List OpT)} {x : FV} {f : Fac} {W : World} (hF : FactsAt W x f) (hf : f = fillF (facO hs)) (hl : x.m ≤ 1048576) : SeenX x f := by
  have hn := hF.vs.len
  have hm := hF.is.len
  subst hf
  have e1 : (fillF (facO hs)).items = (hisF hs).2 := rfl
  have e2 : (fillF (facO hs)).vars = (hisF hs).1 := rfl
  rw [e1] at hm
  rw [e2] at hn
  have h1 := hisF_len hs
  have h2 := hisF_vars18 hs
  refine ⟨rfl, nbr_hist hs, by omega, fun y hy => ?_⟩
  rw [e1] at hy
  obtain ⟨i, hi⟩ := List.getElem?_of_mem hy
  have hil := (List.getElem?_eq_some_iff.1 hi).1
  obtain ⟨s, p, va, -, h4, h5, h6⟩ := hisF_item hs i _ (List.getElem?_eq_getElem (show i < (allO hs).length by omega))
  rw [hi] at h4
  injection h4 with h4
  have h7 := (List.getElem?_eq_some_iff.1 h6).1
  rw [h4]
  simp only
  omega
end Go.Proofs.YtbeigdbljepfkaaGreat

namespace Go.Proofs.YtbeigdbljepfkaaGreat
open Go.RowKit
set_option linter.unusedVariables false
/-- has a history whole facts? -/
def okO11 (hs : List (List OpT)) : Bool := rightL hs && decide ((checkF (facO hs).items).2.2 = 0)
def RetO11 (hs : List (List OpT)) (w : World) (e : Ending) (w' : World) : Prop := ∃ x : FV, e = .returned (.tuple #[.agg #[.slice x.A x.n x.c, .slice x.B x.m x.d, .slice x.C x.k x.e], .bool (okO11 hs)]) ∧ (okO11 hs = true → FactsAt w' x (fillF (facO hs))) ∧ Below w.heap.size w w'
set_option maxRecDepth 100000 in
set_option maxHeartbeats 2000000 in
theorem ref11_Of (A : Option Addr) (n c : Nat) (hs : List (List OpT)) (w : World) (hX : HistAt w A n hs) (hn : n ≤ 1099511627776) (hF : (allO hs).length ≤ 1048576) :
    Calls Tryz.prog 7 #[.slice A n c] w (RetO11 hs w) := by
  obtain ⟨gr, hgr⟩ : ∃ g, g = w.heap.size := ⟨_, rfl⟩
  obtain ⟨W1, hW1⟩ : ∃ W, W = w.alloc (.cells #[.slice none 0 0, .slice none 0 0, .slice none 0 0] 29) := ⟨_, rfl⟩
  have b0 : Below w.heap.size w W1 := by rw [hW1]; exact (Below.refl _ _).alloc (Nat.le_refl _) _
  have kR : Blk W1 gr 29 [.slice none 0 0, .slice none 0 0, .slice none 0 0] := by rw [hW1, hgr]; exact Blk.new w _ _
  have hgw : Hid (w.heap.size ≤ gr) := Lib.hid (by rw [hgr]; exact Nat.le_refl _)
  have c1 := ref9_Of A n c hs W1 (hX.below b0) hn (by omega)
  clear hX
  cases hri : rightL hs with
  | false =>
    have hno := Lib.hid (show okO11 hs = false from by unfold okO11; rw [hri]; rfl)
    rw [hri, if_neg (by simp), if_neg (by simp)] at c1
    replace c1 := Lib.hid c1
    clear hri
    go_enter Tryz.func7, Tryz.ntmps7
    go_wp2_with (rw [← hW1, ← hgr]; clear hW1; replace hgr := Lib.hid hgr)
    refine c1.out.mono ?_; rintro e w3 ⟨x, rfl, -, b3⟩
    obtain ⟨V, hV⟩ : ∃ W, W = w3.alloc (.cells #[.slice x.A x.n x.c, .slice x.B x.m x.d, .slice x.C x.k x.e] 29) := ⟨_, rfl⟩
    obtain ⟨g, hg⟩ : ∃ g, g = w3.heap.size := ⟨_, rfl⟩
    have bV : Below w3.heap.size w3 V := by rw [hV]; exact (Below.refl _ _).alloc (Nat.le_refl _) _
    replace kR := (kR.below b3 kR.lt)
    replace kR := (kR.below bV kR.lt)
    have bb := below_trans2 (below_trans2 b0 b3) bV
    clear b0 b3 bV c1
    have e0 := (((kR.set_ 0 (.slice none 0 0)).set_ 1 (.slice none 0 0)).set_ 2 (.slice none 0 0)).cell 0
    have e1 := (((kR.set_ 0 (.slice none 0 0)).set_ 1 (.slice none 0 0)).set_ 2 (.slice none 0 0)).cell 1
    have e2 := (((kR.set_ 0 (.slice none 0 0)).set_ 1 (.slice none 0 0)).set_ 2 (.slice none 0 0)).cell 2
    have c0 := Blk.cell kR 0
    have c1 := Blk.cell kR 1
    have c2 := Blk.cell kR 2
    have f0 := Blk.frozen kR 0
    have f1 := Blk.frozen kR 1
    have f2 := Blk.frozen kR 2
    have hb3 := Lib.hid (((bb.setCell (p := ⟨gr, 0, none⟩) hgw.out (.slice none 0 0)).setCell (p := ⟨gr, 1, none⟩) hgw.out (.slice none 0 0)).setCell (p := ⟨gr, 2, none⟩) hgw.out (.slice none 0 0))
    clear kR
    go_wp2_with (rw [← hV, ← hg]; clear hV; replace hg := Lib.hid hg)
    exact bodyPost_ret (v := .tuple #[.agg #[.slice none 0 0, .slice none 0 0, .slice none 0 0], .bool false]) (by simp [results, Tryz.results7, go_sem, e0, e1, e2]) rfl ⟨⟨none, 0, 0, none, 0, 0, none, 0, 0⟩, by rw [hno.out], (fun h => by rw [hno.out] at h; cases h), hb3.out⟩
  | true =>
    rw [hri, if_pos rfl, if_pos rfl] at c1
    obtain ⟨f, hf⟩ : ∃ f : Fac, f = facO hs := ⟨_, rfl⟩
    rw [← hf] at c1
    have hri' := Lib.hid hri
    replace c1 := Lib.hid c1
    clear hri
    replace hf := Lib.hid hf
    go_enter Tryz.func7, Tryz.ntmps7
    go_wp2_with (rw [← hW1, ← hgr]; clear hW1; replace hgr := Lib.hid hgr)
    refine c1.out.mono ?_; rintro e w3 ⟨x, rfl, hG, b3⟩
    have hB := Lib.hid ((FBox.new hG).from_ (below_trans2 b0 b3))
    obtain ⟨V, hV⟩ : ∃ W, W = w3.alloc (.cells #[.slice x.A x.n x.c, .slice x.B x.m x.d, .slice x.C x.k x.e] 29) := ⟨_, rfl⟩
    obtain ⟨g, hg⟩ : ∃ g, g = w3.heap.size := ⟨_, rfl⟩
    replace kR := Lib.hid (show Blk V gr 29 [.slice none 0 0, .slice none 0 0, .slice none 0 0] from by rw [hV]; exact (kR.below b3 kR.lt).alloc _)
    rw [← hV, ← hg] at hB
    clear b3 c1 hG b0
    have hxm : x.m ≤ 1048576 := by
      rw [← hB.out.f.is.len, hf.out]
      show (hisF hs).2.length ≤ _
      rw [hisF_len]; omega
    have p0 := hB.out.c0
    have p1 := hB.out.c1
    have p2 := hB.out.c2
    obtain ⟨⟨r1, r2, r3⟩, hr⟩ : ∃ r, r = checkF f.items := ⟨_, rfl⟩
    have cC := ref10_Check x f V hB.out.f
    rw [← hr] at cC
    replace cC := Lib.hid cC
    have hok : okO11 hs = decide (r3 = 0) := by
      unfold okO11
      rw [hri'.out, ← hf.out, ← hr, Bool.true_and]
    replace hr := Lib.hid hr
    replace hok := Lib.hid hok
    go_wp2_with (rw [← hV, ← hg]; clear hV; replace hg := Lib.hid hg)
    refine cC.out.mono ?_; rintro e w4 ⟨rfl, b4⟩
    replace hB := Lib.hid (hB.out.later b4)
    replace kR := kR.out.below b4 kR.out.lt
    clear p0 p1 p2 b4 cC
    by_cases h3 : r3 = 0
    · have hyes := Lib.hid (show okO11 hs = true from by rw [hok.out]; exact decide_eq_true h3)
      have e3 : (r3 != 0) = false := by rw [h3]; rfl
      replace h3 := Lib.hid h3
      have p0 := hB.out.c0
      have p1 := hB.out.c1
      have p2 := hB.out.c2
      have cF := Lib.hid (ref11_Fill x f w4 hB.out.f hxm)
      go_wp2_with fail
      refine cF.out.mono ?_; rintro e w5 ⟨y, rfl, hY, b5⟩
      replace hB := Lib.hid (hB.out.later b5)
      replace kR := kR.below b5 kR.lt
      clear p0 p1 p2 b5 cF
      have hY3 := Lib.hid (hY.put kR (fun u hu => by simp only [List.mem_cons, List.not_mem_nil, or_false] at hu; rcases hu with rfl | rfl | rfl <;> exact ⟨_, _, _, rfl⟩))
      have e0 := (((kR.set_ 0 (.slice y.A y.n y.c)).set_ 1 (.slice y.B y.m y.d)).set_ 2 (.slice y.C y.k y.e)).cell 0
      have e1 := (((kR.set_ 0 (.slice y.A y.n y.c)).set_ 1 (.slice y.B y.m y.d)).set_ 2 (.slice y.C y.k y.e)).cell 1
      have e2 := (((kR.set_ 0 (.slice y.A y.n y.c)).set_ 1 (.slice y.B y.m y.d)).set_ 2 (.slice y.C y.k y.e)).cell 2
      have c0 := Blk.cell kR 0
      have c1 := Blk.cell kR 1
      have c2 := Blk.cell kR 2
      have f0 := Blk.frozen kR 0
      have f1 := Blk.frozen kR 1
      have f2 := Blk.frozen kR 2
      have hb3 := Lib.hid (((hB.out.o.setCell (p := ⟨gr, 0, none⟩) hgw.out (.slice y.A y.n y.c)).setCell (p := ⟨gr, 1, none⟩) hgw.out (.slice y.B y.m y.d)).setCell (p := ⟨gr, 2, none⟩) hgw.out (.slice y.C y.k y.e))
      clear kR
      go_wp2_with fail
      rw [hf.out] at hY3
      exact bodyPost_ret (v := .tuple #[.agg #[.slice y.A y.n y.c, .slice y.B y.m y.d, .slice y.C y.k y.e], .bool true]) (by simp [results, Tryz.results7, go_sem, e0, e1, e2]) rfl ⟨y, by rw [hyes.out], (fun _ => hY3.out), hb3.out⟩
    · have hno := Lib.hid (show okO11 hs = false from by rw [hok.out]; exact decide_eq_false h3)
      have e3 : (r3 != 0) = true := by simpa using h3
      have bb := hB.out.o
      replace h3 := Lib.hid h3
      -- no facts: bb : Below w.heap.size w w4, kR : the result's variable in w4
      have e0 := (((kR.set_ 0 (.slice none 0 0)).set_ 1 (.slice none 0 0)).set_ 2 (.slice none 0 0)).cell 0
      have e1 := (((kR.set_ 0 (.slice none 0 0)).set_ 1 (.slice none 0 0)).set_ 2 (.slice none 0 0)).cell 1
      have e2 := (((kR.set_ 0 (.slice none 0 0)).set_ 1 (.slice none 0 0)).set_ 2 (.slice none 0 0)).cell 2
      have c0 := Blk.cell kR 0
      have c1 := Blk.cell kR 1
      have c2 := Blk.cell kR 2
      have f0 := Blk.frozen kR 0
      have f1 := Blk.frozen kR 1
      have f2 := Blk.frozen kR 2
      have hb3 := Lib.hid (((bb.setCell (p := ⟨gr, 0, none⟩) hgw.out (.slice none 0 0)).setCell (p := ⟨gr, 1, none⟩) hgw.out (.slice none 0 0)).setCell (p := ⟨gr, 2, none⟩) hgw.out (.slice none 0 0))
      clear kR
      go_wp2_with fail
      exact bodyPost_ret (v := .tuple #[.agg #[.slice none 0 0, .slice none 0 0, .slice none 0 0], .bool false]) (by simp [results, Tryz.results7, go_sem, e0, e1, e2]) rfl ⟨⟨none, 0, 0, none, 0, 0, none, 0, 0⟩, by rw [hno.out], (fun h => by rw [hno.out] at h; cases h), hb3.out⟩
end Go.Proofs.YtbeigdbljepfkaaGreat

namespace Go.Proofs.YtbeigdbljepfkaaGreat
open Go.RowKit
set_option linter.unusedVariables false
def ex17A : List OpT := [(true, ⟨#[120]⟩, 1)]
def ex17B : List OpT := [(true, ⟨#[120]⟩, 2), (false, ⟨#[120]⟩, 1)]
theorem ok17A : OkO ex17A := fun o ho => by
  simp only [ex17A, List.mem_cons, List.not_mem_nil, or_false] at ho
  subst ho; exact ⟨⟨by decide, by decide⟩, by decide⟩
theorem ok17B : OkO ex17B := fun o ho => by
  simp only [ex17B, List.mem_cons, List.not_mem_nil, or_false] at ho
  rcases ho with rfl | rfl <;> exact ⟨⟨by decide, by decide⟩, by decide⟩
def fx17 : Fac := ⟨[⟨#[120]⟩], [⟨0, 0, true, 0, 1⟩, ⟨1, 0, true, 0, 2⟩, ⟨1, 1, false, 0, 1⟩], [-3, -3, 0]⟩
theorem ex17_facts : okO11 [ex17A, ex17B] = true ∧ fillF (facO [ex17A, ex17B]) = fx17 := by decide
theorem ex17_mat : coM fx17 = [[4], [4], [0]] := by decide
theorem ex17_whole : WholeF fx17 := by rw [← ex17_facts.2]; exact fillF_whole _
theorem ex17_good : Good 3 [[4], [4], [0]] := by rw [← ex17_mat]; exact (coM_hull ex17_whole (by decide)).1
def kept17 : List Int := keptF fx17.items (pastF fx17.items 2 3)
def base17 : List (List Nat) := withinM 3 [[4], [4], [0]] (wihO [[4], [4], [0]] 2 3)
theorem ex17_seen : SeenIs fx17 kept17 base17 1 := ⟨by decide, by decide⟩
theorem ex17_rounds : seX fx17 kept17 base17 1 = [[4], [5], [0]] ∧ seL fx17 kept17 base17 1 = [⟨1, 0, 2⟩] := by decide
end Go.Proofs.YtbeigdbljepfkaaGreat

namespace Go.Proofs.YtbeigdbljepfkaaGreat
open Go.RowKit
set_option linter.unusedVariables false
theorem cut_eight {T1 T2 T3 T4 T5 T6 T7 T8 : Type} {Goal F : T1 → T2 → T3 → T4 → T5 → T6 → T7 → T8 → Prop} {R : Prop} (h1 : (∀ a b c d e f g h, F a b c d e f g h → Goal a b c d e f g h) → R) (h2 : ∀ a b c d e f g h, F a b c d e f g h → Goal a b c d e f g h) : R := h1 h2
set_option maxRecDepth 100000 in
set_option maxHeartbeats 4000000 in
theorem law18_awake (w : World) : Calls Tryz.prog 6 #[] w (RetBool true w) := by
  -- the example's facts: walked to the variable f: hB : FBox w g x fx17 V
  obtain ⟨Z1, hZ1⟩ : ∃ W, W = w.alloc (.cells #[.bool true, .string ⟨#[120]⟩, .int .i64 1] 61) := ⟨_, rfl⟩
  obtain ⟨a1, ha1⟩ : ∃ g, g = w.heap.size := ⟨_, rfl⟩
  obtain ⟨Z2, hZ2⟩ : ∃ W, W = Z1.alloc (.cells #[.bool true, .string ⟨#[120]⟩, .int .i64 2, .bool false, .string ⟨#[120]⟩, .int .i64 1] 61) := ⟨_, rfl⟩
  obtain ⟨a2, ha2⟩ : ∃ g, g = Z1.heap.size := ⟨_, rfl⟩
  obtain ⟨Z3, hZ3⟩ : ∃ W, W = Z2.alloc (.cells #[.slice (some ⟨a1, 0, none⟩) 1 1, .slice (some ⟨a2, 0, none⟩) 2 2] 58) := ⟨_, rfl⟩
  obtain ⟨a3, ha3⟩ : ∃ g, g = Z2.heap.size := ⟨_, rfl⟩
  have b1 : Below w.heap.size w Z1 := by rw [hZ1]; exact (Below.refl _ w).alloc (Nat.le_refl _) _
  have b2 : Below Z1.heap.size Z1 Z2 := by rw [hZ2]; exact (Below.refl _ _).alloc (Nat.le_refl _) _
  have b3 : Below Z2.heap.size Z2 Z3 := by rw [hZ3]; exact (Below.refl _ _).alloc (Nat.le_refl _) _
  have hH : HistAt Z3 (some ⟨a3, 0, none⟩) 2 [ex17A, ex17B] := by
    have h1 : Blk Z1 a1 61 (cellsO ex17A) := by rw [hZ1, ha1]; exact Blk.new w _ _
    have h2 : Blk Z2 a2 61 (cellsO ex17B) := by rw [hZ2, ha2]; exact Blk.new Z1 _ _
    have h3 : Blk Z3 a3 58 [.slice (some ⟨a1, 0, none⟩) 1 1, .slice (some ⟨a2, 0, none⟩) 2 2] := by rw [hZ3, ha3]; exact Blk.new Z2 _ _
    have h1' := (h1.below b2 h1.lt).below b3 (h1.below b2 h1.lt).lt
    exact HistAt.two h3 (OpsAt.of_blk h1' ok17A rfl) (OpsAt.of_blk (h2.below b3 h2.lt) ok17B rfl) (by omega) (by omega) (by omega) (by omega)
  have c1 := Lib.hid (ref11_Of _ 2 2 [ex17A, ex17B] Z3 hH (by omega) (by decide))
  have bW := Lib.hid (below_trans2 (below_trans2 b1 b2) b3)
  clear hH b1 b2 b3
  go_enter Tryz.func6, Tryz.ntmps6
  go_wp2_with (first | (rw [← hZ1, ← ha1]; clear hZ1; replace ha1 := Lib.hid ha1) | (rw [← hZ2, ← ha2]; clear hZ2; replace ha2 := Lib.hid ha2) | (rw [← hZ3, ← ha3]; clear hZ3; replace ha3 := Lib.hid ha3))
  refine c1.out.mono ?_; rintro e w3 ⟨x, rfl, hG, b3⟩
  replace hG := hG ex17_facts.1
  rw [ex17_facts.2] at hG
  rw [ex17_facts.1]
  have hB := Lib.hid ((FBox.new hG).from_ (below_trans2 bW.out b3))
  have hxm : x.m = 3 := by rw [← hG.is.len]; rfl
  obtain ⟨V, hV⟩ : ∃ W, W = w3.alloc (.cells #[.slice x.A x.n x.c, .slice x.B x.m x.d, .slice x.C x.k x.e] 29) := ⟨_, rfl⟩
  obtain ⟨g, hg⟩ : ∃ g, g = w3.heap.size := ⟨_, rfl⟩
  rw [← hV, ← hg] at hB
  replace hxm := Lib.hid hxm
  clear b3 c1 hG bW
  have cP := fun W hW => ref13_Co x fx17 W hW (by rw [hxm.out]; decide) ex17_whole
  have cS : Hid (∀ (A : Option Addr) (c : Nat) (W : World), FactsAt W x fx17 → RowsAt W A 3 [[4], [4], [0]] → 3 ≤ c → Calls Tryz.prog 9 #[.agg #[.slice x.A x.n x.c, .slice x.B x.m x.d, .slice x.C x.k x.e], .agg #[.int .i64 3, .slice A 3 c], .int .i64 2] W (fun e w' => ∃ A3 d3 E ce, e = .returned (.tuple #[.agg #[.int .i64 3, .slice A3 3 d3], .slice E 1 ce, .int .i64 2, .int .i64 0]) ∧ RowsAt w' A3 3 [[4], [5], [0]] ∧ 3 ≤ d3 ∧ LAt encE w' E 1 [⟨1, 0, 2⟩] ∧ Below W.heap.size W w')) := Lib.hid (fun A c W hW hR hc => by
    have h := seen_Of x fx17 A c [[4], [4], [0]] 2 W hW (by rw [hxm.out]; exact hR) (by rw [hxm.out]; exact ex17_good) (by rw [hxm.out]; decide) ex17_whole (by decide) (by rw [hxm.out]; decide) (seenX_hist hW ex17_facts.2.symm (by rw [hxm.out]; decide)) (by rw [← ex17_mat]; exact (coM_hull ex17_whole (by decide)).closed)
    rw [hxm.out] at h ⊢
    refine h.mono ?_
    rintro e w' ⟨k, A3, d3, E, ne, ce, rfl, hsn, hrows, hnd, hL, hnc, hcm, b⟩
    obtain rfl : k = 1 := SeenIs.unique hsn ex17_seen
    have e1 : seX fx17 (keptF fx17.items (pastF fx17.items 2 fx17.items.length)) (withinM 3 [[4], [4], [0]] (wihO [[4], [4], [0]] 2 3)) 1 = [[4], [5], [0]] := ex17_rounds.1
    have e2 : seL fx17 (keptF fx17.items (pastF fx17.items 2 fx17.items.length)) (withinM 3 [[4], [4], [0]] (wihO [[4], [4], [0]] 2 3)) 1 = [⟨1, 0, 2⟩] := ex17_rounds.2
    rw [e1] at hrows
    rw [e2] at hL
    obtain rfl : ne = 1 := by have := hL.len; simpa using this.symm
    exact ⟨A3, d3, E, ce, rfl, hrows, hnd, hL, b⟩)
  have cT : Hid (∀ (A : Option Addr) (c : Nat) (W : World), FactsAt W x fx17 → RowsAt W A 3 [[4], [4], [0]] → Calls Tryz.prog 9 #[.agg #[.slice x.A x.n x.c, .slice x.B x.m x.d, .slice x.C x.k x.e], .agg #[.int .i64 3, .slice A 3 c], .int .i64 3] W (RetNoSeen W)) := Lib.hid (fun A c W hW hR => by
    have h := seen_Of_no x fx17 A c [[4], [4], [0]] 3 W hW (by rw [hxm.out]; exact hR) (.inr (by rw [hxm.out]; decide))
    rw [hxm.out] at h ⊢
    exact h)
  rw [ex17_mat, show ((x.m : Nat) : Int) = 3 from by rw [hxm.out]; rfl] at cP
  replace cP := Lib.hid cP
  have hpos : Hid (∀ xs ∈ ([[4], [5], [0]] : List (List Nat)), 0 < xs.length) := Lib.hid (by decide)
  go_wp2_with (rw [← hV, ← hg]; clear hV; replace hg := Lib.hid hg)
  refine wp_region_tree (.flt 0 (.flt 1 (.two 2 9 (.two 3 9 (.flt 4 (.flt 5 (.flt 6 (.flt 7 (.flt 8 (.one 9 (.one 10 (.flt 11 (.flt 12 (.flt 13 .done)))))))))) (.one 3 (.flt 4 (.flt 5 (.flt 6 (.flt 7 (.flt 8 (.one 10 (.flt 11 (.flt 12 (.flt 13 .done))))))))))) (.one 2 (.one 3 (.flt 4 (.flt 5 (.flt 6 (.flt 7 (.flt 8 (.one 10 (.flt 11 (.flt 12 (.flt 13 .done)))))))))))))) (by kernel_rfl) (by kernel_rfl) (fun U hU => ?_)
  replace hB := Lib.hid (show FBox w g x fx17 U from by rw [hU.out]; exact hB.out.later (Below.refl _ _).drew)
  clear hU
  have bW : Below U.heap.size U U := Below.refl _ _
  apply cut_eight (F := fun (M : Nat) (w9 : World) (A1 : Option Addr) (c1 : Nat) (A3 : Option Addr) (d3 : Nat) (E : Option Addr) (ce : Nat) => RowsAt w9 A3 3 [[4], [5], [0]] ∧ MatB w9 M 34 3 A3 3 d3 ∧ LAt encE w9 E 1 [⟨1, 0, 2⟩] ∧ Below U.heap.size U w9)
  · intro key
    have p0 := hB.out.c0
    have p1 := hB.out.c1
    have p2 := hB.out.c2
    iterate 2
      refine wpPT_float (v := ?_) rfl (by rfl) (fun w' hw' => ?_) (fun K hK => ?_)
      rotate_left
      · (go_simp; try with_reducible rfl)
      go_simp
      refine hK _ ?_
      clear hK K
    clear p0 p1 p2
    refine wpPT_two rfl (by rfl) rfl (by rfl) (fun K hK => ?_) (fun K hK => ?_)
    · skip
      go_simp
      refine (cP.out U (hB.out.later bW).f).mono ?_; rintro e v3 ⟨A1, n1, c1, rfl, r1, hc1, b⟩
      obtain rfl : n1 = 3 := by have := r1.len; simpa using this.symm
      replace bW := below_trans2 bW b
      refine hK _ _ bW ?_
      clear hK K
      refine wpPT_two rfl (by rfl) rfl (by rfl) (fun K hK => ?_) (fun K hK => ?_)
      · skip
        go_simp
        refine (cS.out A1 c1 v3 (hB.out.later bW).f r1 hc1).mono ?_; rintro e v4 ⟨A3, d3, E, ce, rfl, r3, hc3, hL, b⟩
        replace bW := below_trans2 bW b
        refine hK _ _ bW ?_
        clear hK K
        iterate 5
          refine wpPT_float (v := ?_) rfl (by rfl) (fun w' hw' => ?_) (fun K hK => ?_)
          rotate_left
          · (go_simp; try with_reducible rfl)
          go_simp
          refine hK _ ?_
          clear hK K
        refine wpPT_one rfl (by rfl) (fun K hK => ?_)
        go_simp
        obtain ⟨M, hM⟩ : ∃ M, M = (World.heap v4).size := ⟨_, rfl⟩
        obtain ⟨v5, hw⟩ : ∃ X : World, X = World.alloc v4 (.cells #[.int .i64 0, .slice none 0 0] 34) := ⟨_, rfl⟩
        rw [← hw, ← hM]
        have b : Below (World.heap v4).size v4 v5 := by rw [hw]; exact below_alloc _ _
        have hUM : U.heap.size ≤ M := by rw [hM]; exact bW.size
        replace bW := below_trans2 bW b
        refine hK _ _ bW ?_
        clear hK K
        have kM := Lib.hid (show MatB v5 M 34 0 none 0 0 from by rw [hw, hM]; exact MatB.new _ _)
        have hne : ∀ ad, A3 = some ad → ad.block ≠ M := fun ad e => by have := r3.block_lt (by omega) ad e; omega
        replace r3 := r3.below b
        replace hL := hL.below b
        clear hM hw
        have f0 := kM.out.c0
        have f1 := kM.out.c1
        have g0 := kM.out.frozen 0
        have g1 := kM.out.frozen 1
        refine wpPT_one rfl (by rfl) (fun K hK => ?_)
        go_simp
        obtain ⟨wz, hw⟩ : ∃ X : World, X = (World.setCell v5 ⟨M, 0, none⟩ (.int .i64 3)).setCell ⟨M, 1, none⟩ (.slice A3 3 d3) := ⟨_, rfl⟩
        rw [← hw]
        have r4 := Lib.hid (show RowsAt wz A3 3 [[4], [5], [0]] from by rw [hw]; exact r3.putB kM.out (fun _ => hne) _ _)
        have k4 := Lib.hid (show MatB wz M 34 3 A3 3 d3 from by rw [hw]; exact kM.out.put _ _ _ _)
        have l4 := Lib.hid (show LAt encE wz E 1 [⟨1, 0, 2⟩] from by rw [hw]; exact (hL.setShort (i := 0) kM.out (by decide) (.int .i64 3)).setShort (i := 1) (Blk.set_ kM.out 0 (.int .i64 3)) (by rw [List.length_set]; decide) (.slice A3 3 d3))
        replace bW : Below U.heap.size U wz := by rw [hw]; exact (bW.setCell (p := ⟨M, 0, none⟩) hUM _).setCell (p := ⟨M, 1, none⟩) hUM _
        refine hK _ _ bW ?_
        clear hK K f0 f1 g0 g1 hw r3 kM hne hL
        iterate 3
          refine wpPT_float (v := ?_) rfl (by rfl) (fun w' hw' => ?_) (fun K hK => ?_)
          rotate_left
          · (go_simp; try with_reducible rfl)
          go_simp
          refine hK _ ?_
          clear hK K
        refine wpPT_done (NoPanic.normal ?_)
        exact key M wz A1 c1 A3 d3 E ce ⟨r4.out, k4.out, l4.out, bW⟩
      · skip
        go_simp
        obtain ⟨M, hM⟩ : ∃ M, M = (World.heap v3).size := ⟨_, rfl⟩
        obtain ⟨v6, hw⟩ : ∃ X : World, X = World.alloc v3 (.cells #[.int .i64 0, .slice none 0 0] 34) := ⟨_, rfl⟩
        rw [← hw, ← hM]
        have b : Below (World.heap v3).size v3 v6 := by rw [hw]; exact below_alloc _ _
        have hUM : U.heap.size ≤ M := by rw [hM]; exact bW.size
        replace bW := below_trans2 bW b
        refine hK _ _ bW ?_
        clear hK K
        have kM := Lib.hid (show MatB v6 M 34 0 none 0 0 from by rw [hw, hM]; exact MatB.new _ _)
        replace r1 := r1.below b
        clear hM hw
        refine wpPT_one rfl (by rfl) (fun K hK => ?_)
        go_simp
        refine (cS.out A1 c1 v6 (hB.out.later bW).f r1 hc1).mono ?_; rintro e v7 ⟨A3, d3, E, ce, rfl, r3, hc3, hL, b⟩
        replace bW := below_trans2 bW b
        refine hK _ _ bW ?_
        clear hK K
        replace kM := Lib.hid (kM.out.below_ b)
        have hne : ∀ ad, A3 = some ad → ad.block ≠ M := r3.farZ kM.out hpos.out (by omega)
        iterate 5
          refine wpPT_float (v := ?_) rfl (by rfl) (fun w' hw' => ?_) (fun K hK => ?_)
          rotate_left
          · (go_simp; try with_reducible rfl)
          go_simp
          refine hK _ ?_
          clear hK K
        have f0 := kM.out.c0
        have f1 := kM.out.c1
        have g0 := kM.out.frozen 0
        have g1 := kM.out.frozen 1
        refine wpPT_one rfl (by rfl) (fun K hK => ?_)
        go_simp
        obtain ⟨wz, hw⟩ : ∃ X : World, X = (World.setCell v7 ⟨M, 0, none⟩ (.int .i64 3)).setCell ⟨M, 1, none⟩ (.slice A3 3 d3) := ⟨_, rfl⟩
        rw [← hw]
        have r4 := Lib.hid (show RowsAt wz A3 3 [[4], [5], [0]] from by rw [hw]; exact r3.putB kM.out (fun _ => hne) _ _)
        have k4 := Lib.hid (show MatB wz M 34 3 A3 3 d3 from by rw [hw]; exact kM.out.put _ _ _ _)
        have l4 := Lib.hid (show LAt encE wz E 1 [⟨1, 0, 2⟩] from by rw [hw]; exact (hL.setShort (i := 0) kM.out (by decide) (.int .i64 3)).setShort (i := 1) (Blk.set_ kM.out 0 (.int .i64 3)) (by rw [List.length_set]; decide) (.slice A3 3 d3))
        replace bW : Below U.heap.size U wz := by rw [hw]; exact (bW.setCell (p := ⟨M, 0, none⟩) hUM _).setCell (p := ⟨M, 1, none⟩) hUM _
        refine hK _ _ bW ?_
        clear hK K f0 f1 g0 g1 hw r3 kM hne hL
        iterate 3
          refine wpPT_float (v := ?_) rfl (by rfl) (fun w' hw' => ?_) (fun K hK => ?_)
          rotate_left
          · (go_simp; try with_reducible rfl)
          go_simp
          refine hK _ ?_
          clear hK K
        refine wpPT_done (NoPanic.normal ?_)
        exact key M wz A1 c1 A3 d3 E ce ⟨r4.out, k4.out, l4.out, bW⟩
    · skip
      go_simp
      obtain ⟨M, hM⟩ : ∃ M, M = (World.heap U).size := ⟨_, rfl⟩
      obtain ⟨v8, hw⟩ : ∃ X : World, X = World.alloc U (.cells #[.int .i64 0, .slice none 0 0] 34) := ⟨_, rfl⟩
      rw [← hw, ← hM]
      have b : Below (World.heap U).size U v8 := by rw [hw]; exact below_alloc _ _
      have hUM : U.heap.size ≤ M := by rw [hM]; exact bW.size
      replace bW := below_trans2 bW b
      refine hK _ _ bW ?_
      clear hK K
      have kM := Lib.hid (show MatB v8 M 34 0 none 0 0 from by rw [hw, hM]; exact MatB.new _ _)
      clear hM hw
      refine wpPT_one rfl (by rfl) (fun K hK => ?_)
      go_simp
      refine (cP.out v8 (hB.out.later bW).f).mono ?_; rintro e v9 ⟨A1, n1, c1, rfl, r1, hc1, b⟩
      obtain rfl : n1 = 3 := by have := r1.len; simpa using this.symm
      replace bW := below_trans2 bW b
      refine hK _ _ bW ?_
      clear hK K
      replace kM := Lib.hid (kM.out.below_ b)
      refine wpPT_one rfl (by rfl) (fun K hK => ?_)
      go_simp
      refine (cS.out A1 c1 v9 (hB.out.later bW).f r1 hc1).mono ?_; rintro e v10 ⟨A3, d3, E, ce, rfl, r3, hc3, hL, b⟩
      replace bW := below_trans2 bW b
      refine hK _ _ bW ?_
      clear hK K
      replace kM := Lib.hid (kM.out.below_ b)
      have hne : ∀ ad, A3 = some ad → ad.block ≠ M := r3.farZ kM.out hpos.out (by omega)
      iterate 5
        refine wpPT_float (v := ?_) rfl (by rfl) (fun w' hw' => ?_) (fun K hK => ?_)
        rotate_left
        · (go_simp; try with_reducible rfl)
        go_simp
        refine hK _ ?_
        clear hK K
      have f0 := kM.out.c0
      have f1 := kM.out.c1
      have g0 := kM.out.frozen 0
      have g1 := kM.out.frozen 1
      refine wpPT_one rfl (by rfl) (fun K hK => ?_)
      go_simp
      obtain ⟨wz, hw⟩ : ∃ X : World, X = (World.setCell v10 ⟨M, 0, none⟩ (.int .i64 3)).setCell ⟨M, 1, none⟩ (.slice A3 3 d3) := ⟨_, rfl⟩
      rw [← hw]
      have r4 := Lib.hid (show RowsAt wz A3 3 [[4], [5], [0]] from by rw [hw]; exact r3.putB kM.out (fun _ => hne) _ _)
      have k4 := Lib.hid (show MatB wz M 34 3 A3 3 d3 from by rw [hw]; exact kM.out.put _ _ _ _)
      have l4 := Lib.hid (show LAt encE wz E 1 [⟨1, 0, 2⟩] from by rw [hw]; exact (hL.setShort (i := 0) kM.out (by decide) (.int .i64 3)).setShort (i := 1) (Blk.set_ kM.out 0 (.int .i64 3)) (by rw [List.length_set]; decide) (.slice A3 3 d3))
      replace bW : Below U.heap.size U wz := by rw [hw]; exact (bW.setCell (p := ⟨M, 0, none⟩) hUM _).setCell (p := ⟨M, 1, none⟩) hUM _
      refine hK _ _ bW ?_
      clear hK K f0 f1 g0 g1 hw r3 kM hne hL
      iterate 3
        refine wpPT_float (v := ?_) rfl (by rfl) (fun w' hw' => ?_) (fun K hK => ?_)
        rotate_left
        · (go_simp; try with_reducible rfl)
        go_simp
        refine hK _ ?_
        clear hK K
      refine wpPT_done (NoPanic.normal ?_)
      exact key M wz A1 c1 A3 d3 E ce ⟨r4.out, k4.out, l4.out, bW⟩
  · intro G w9 B1 e1 A3 d3 E ce hk
    obtain ⟨hr, hk, hl, hb⟩ := hk
    replace hB := Lib.hid (hB.out.later hb)
    replace hr := Lib.hid hr
    replace hk := Lib.hid hk
    replace hl := Lib.hid hl
    clear bW hb cS hpos
    go_wp2_with fail
    refine wp_region_tree (.flt 0 (.flt 1 (.two 2 9 (.two 3 9 (.flt 4 (.flt 5 (.flt 6 (.flt 7 (.flt 8 (.one 9 (.one 10 (.flt 11 (.flt 12 (.flt 13 .done)))))))))) (.one 3 (.flt 4 (.flt 5 (.flt 6 (.flt 7 (.flt 8 (.one 10 (.flt 11 (.flt 12 (.flt 13 .done))))))))))) (.one 2 (.one 3 (.flt 4 (.flt 5 (.flt 6 (.flt 7 (.flt 8 (.one 10 (.flt 11 (.flt 12 (.flt 13 .done)))))))))))))) (by kernel_rfl) (by kernel_rfl) (fun U hU => ?_)
    have hU' : Below w9.heap.size w9 U := by rw [hU.out]; exact (Below.refl _ _).drew
    replace hB := Lib.hid (hB.out.later hU')
    replace hr := Lib.hid (hr.out.below hU')
    replace hk := Lib.hid (hk.out.below_ hU')
    replace hl := Lib.hid (hl.out.below hU')
    clear hU hU'
    have bW : Below U.heap.size U U := Below.refl _ _
    have p0 := hB.out.c0
    have p1 := hB.out.c1
    have p2 := hB.out.c2
    iterate 2
      refine wpPT_float (v := ?_) rfl (by rfl) (fun w' hw' => ?_) (fun K hK => ?_)
      rotate_left
      · (go_simp; try with_reducible rfl)
      go_simp
      refine hK _ ?_
      clear hK K
    clear p0 p1 p2
    refine wpPT_two rfl (by rfl) rfl (by rfl) (fun K hK => ?_) (fun K hK => ?_)
    · skip
      go_simp
      refine (cP.out U (hB.out.later bW).f).mono ?_; rintro e v3 ⟨A1, n1, c1, rfl, r1, hc1, b⟩
      obtain rfl : n1 = 3 := by have := r1.len; simpa using this.symm
      replace bW := below_trans2 bW b
      refine hK _ _ bW ?_
      clear hK K
      refine wpPT_two rfl (by rfl) rfl (by rfl) (fun K hK => ?_) (fun K hK => ?_)
      · skip
        go_simp
        refine (cT.out A1 c1 v3 (hB.out.later bW).f r1).mono ?_; rintro e v4 ⟨rfl, b⟩
        replace bW := below_trans2 bW b
        refine hK _ _ bW ?_
        clear hK K
        iterate 5
          refine wpPT_float (v := ?_) rfl (by rfl) (fun w' hw' => ?_) (fun K hK => ?_)
          rotate_left
          · (go_simp; try with_reducible rfl)
          go_simp
          refine hK _ ?_
          clear hK K
        refine wpPT_one rfl (by rfl) (fun K hK => ?_)
        go_simp
        obtain ⟨M, hM⟩ : ∃ M, M = (World.heap v4).size := ⟨_, rfl⟩
        obtain ⟨v5, hw⟩ : ∃ X : World, X = World.alloc v4 (.cells #[.int .i64 0, .slice none 0 0] 34) := ⟨_, rfl⟩
        rw [← hw, ← hM]
        have b : Below (World.heap v4).size v4 v5 := by rw [hw]; exact below_alloc _ _
        have hUM : U.heap.size ≤ M := by rw [hM]; exact bW.size
        replace bW := below_trans2 bW b
        refine hK _ _ bW ?_
        clear hK K
        have kM := Lib.hid (show MatB v5 M 34 0 none 0 0 from by rw [hw, hM]; exact MatB.new _ _)
        clear hM hw
        have f0 := kM.out.c0
        have f1 := kM.out.c1
        have g0 := kM.out.frozen 0
        have g1 := kM.out.frozen 1
        refine wpPT_one rfl (by rfl) (fun K hK => ?_)
        go_simp
        obtain ⟨wz, hw⟩ : ∃ X : World, X = (World.setCell v5 ⟨M, 0, none⟩ (.int .i64 0)).setCell ⟨M, 1, none⟩ (.slice none 0 0) := ⟨_, rfl⟩
        rw [← hw]
        replace bW : Below U.heap.size U wz := by rw [hw]; exact (bW.setCell (p := ⟨M, 0, none⟩) hUM _).setCell (p := ⟨M, 1, none⟩) hUM _
        refine hK _ _ bW ?_
        clear hK K f0 f1 g0 g1 hw kM
        iterate 3
          refine wpPT_float (v := ?_) rfl (by rfl) (fun w' hw' => ?_) (fun K hK => ?_)
          rotate_left
          · (go_simp; try with_reducible rfl)
          go_simp
          refine hK _ ?_
          clear hK K
        refine wpPT_done (NoPanic.normal ?_)
        replace hB := Lib.hid (hB.out.later bW)
        replace hr := Lib.hid (hr.out.below bW)
        replace hk := Lib.hid (hk.out.below_ bW)
        replace hl := Lib.hid (hl.out.below bW)
        obtain ⟨eb, eo, y, hE, -, hy, -, y0, y1, y2⟩ := hl.out.edge (show 0 < 1 by omega)
        obtain rfl : y = ⟨1, 0, 2⟩ := by simpa using hy.symm
        subst hE
        simp only [Nat.zero_mul, Nat.add_zero] at y0 y1 y2
        have m0 := hk.out.c0
        have m1 := hk.out.c1
        have cH := ref3_Has A3 3 d3 [[4], [5], [0]] 1 0 wz hr.out (by decide) (fun k xs hx => by
          have := List.mem_of_getElem? hx
          simp only [List.mem_cons, List.not_mem_nil, or_false] at this
          rcases this with rfl | rfl | rfl <;> decide)
        rw [show (inM ((3 : Nat) : Int) 1 0 && hasM [[4], [5], [0]] 1 0) = true from by decide] at cH
        replace cH := Lib.hid cH
        clear hy
        go_wp2_with fail
        refine cH.out.mono ?_; rintro e w9 ⟨rfl, b9⟩
        go_wp2_with fail
        go_ret
        exact ⟨rfl, below_trans2 hB.out.o b9⟩
      · skip
        go_simp
        obtain ⟨M, hM⟩ : ∃ M, M = (World.heap v3).size := ⟨_, rfl⟩
        obtain ⟨v6, hw⟩ : ∃ X : World, X = World.alloc v3 (.cells #[.int .i64 0, .slice none 0 0] 34) := ⟨_, rfl⟩
        rw [← hw, ← hM]
        have b : Below (World.heap v3).size v3 v6 := by rw [hw]; exact below_alloc _ _
        have hUM : U.heap.size ≤ M := by rw [hM]; exact bW.size
        replace bW := below_trans2 bW b
        refine hK _ _ bW ?_
        clear hK K
        have kM := Lib.hid (show MatB v6 M 34 0 none 0 0 from by rw [hw, hM]; exact MatB.new _ _)
        replace r1 := r1.below b
        clear hM hw
        refine wpPT_one rfl (by rfl) (fun K hK => ?_)
        go_simp
        refine (cT.out A1 c1 v6 (hB.out.later bW).f r1).mono ?_; rintro e v7 ⟨rfl, b⟩
        replace bW := below_trans2 bW b
        refine hK _ _ bW ?_
        clear hK K
        replace kM := Lib.hid (kM.out.below_ b)
        iterate 5
          refine wpPT_float (v := ?_) rfl (by rfl) (fun w' hw' => ?_) (fun K hK => ?_)
          rotate_left
          · (go_simp; try with_reducible rfl)
          go_simp
          refine hK _ ?_
          clear hK K
        have f0 := kM.out.c0
        have f1 := kM.out.c1
        have g0 := kM.out.frozen 0
        have g1 := kM.out.frozen 1
        refine wpPT_one rfl (by rfl) (fun K hK => ?_)
        go_simp
        obtain ⟨wz, hw⟩ : ∃ X : World, X = (World.setCell v7 ⟨M, 0, none⟩ (.int .i64 0)).setCell ⟨M, 1, none⟩ (.slice none 0 0) := ⟨_, rfl⟩
        rw [← hw]
        replace bW : Below U.heap.size U wz := by rw [hw]; exact (bW.setCell (p := ⟨M, 0, none⟩) hUM _).setCell (p := ⟨M, 1, none⟩) hUM _
        refine hK _ _ bW ?_
        clear hK K f0 f1 g0 g1 hw kM
        iterate 3
          refine wpPT_float (v := ?_) rfl (by rfl) (fun w' hw' => ?_) (fun K hK => ?_)
          rotate_left
          · (go_simp; try with_reducible rfl)
          go_simp
          refine hK _ ?_
          clear hK K
        refine wpPT_done (NoPanic.normal ?_)
        replace hB := Lib.hid (hB.out.later bW)
        replace hr := Lib.hid (hr.out.below bW)
        replace hk := Lib.hid (hk.out.below_ bW)
        replace hl := Lib.hid (hl.out.below bW)
        obtain ⟨eb, eo, y, hE, -, hy, -, y0, y1, y2⟩ := hl.out.edge (show 0 < 1 by omega)
        obtain rfl : y = ⟨1, 0, 2⟩ := by simpa using hy.symm
        subst hE
        simp only [Nat.zero_mul, Nat.add_zero] at y0 y1 y2
        have m0 := hk.out.c0
        have m1 := hk.out.c1
        have cH := ref3_Has A3 3 d3 [[4], [5], [0]] 1 0 wz hr.out (by decide) (fun k xs hx => by
          have := List.mem_of_getElem? hx
          simp only [List.mem_cons, List.not_mem_nil, or_false] at this
          rcases this with rfl | rfl | rfl <;> decide)
        rw [show (inM ((3 : Nat) : Int) 1 0 && hasM [[4], [5], [0]] 1 0) = true from by decide] at cH
        replace cH := Lib.hid cH
        clear hy
        go_wp2_with fail
        refine cH.out.mono ?_; rintro e w9 ⟨rfl, b9⟩
        go_wp2_with fail
        go_ret
        exact ⟨rfl, below_trans2 hB.out.o b9⟩
    · skip
      go_simp
      obtain ⟨M, hM⟩ : ∃ M, M = (World.heap U).size := ⟨_, rfl⟩
      obtain ⟨v8, hw⟩ : ∃ X : World, X = World.alloc U (.cells #[.int .i64 0, .slice none 0 0] 34) := ⟨_, rfl⟩
      rw [← hw, ← hM]
      have b : Below (World.heap U).size U v8 := by rw [hw]; exact below_alloc _ _
      have hUM : U.heap.size ≤ M := by rw [hM]; exact bW.size
      replace bW := below_trans2 bW b
      refine hK _ _ bW ?_
      clear hK K
      have kM := Lib.hid (show MatB v8 M 34 0 none 0 0 from by rw [hw, hM]; exact MatB.new _ _)
      clear hM hw
      refine wpPT_one rfl (by rfl) (fun K hK => ?_)
      go_simp
      refine (cP.out v8 (hB.out.later bW).f).mono ?_; rintro e v9 ⟨A1, n1, c1, rfl, r1, hc1, b⟩
      obtain rfl : n1 = 3 := by have := r1.len; simpa using this.symm
      replace bW := below_trans2 bW b
      refine hK _ _ bW ?_
      clear hK K
      replace kM := Lib.hid (kM.out.below_ b)
      refine wpPT_one rfl (by rfl) (fun K hK => ?_)
      go_simp
      refine (cT.out A1 c1 v9 (hB.out.later bW).f r1).mono ?_; rintro e v10 ⟨rfl, b⟩
      replace bW := below_trans2 bW b
      refine hK _ _ bW ?_
      clear hK K
      replace kM := Lib.hid (kM.out.below_ b)
      iterate 5
        refine wpPT_float (v := ?_) rfl (by rfl) (fun w' hw' => ?_) (fun K hK => ?_)
        rotate_left
        · (go_simp; try with_reducible rfl)
        go_simp
        refine hK _ ?_
        clear hK K
      have f0 := kM.out.c0
      have f1 := kM.out.c1
      have g0 := kM.out.frozen 0
      have g1 := kM.out.frozen 1
      refine wpPT_one rfl (by rfl) (fun K hK => ?_)
      go_simp
      obtain ⟨wz, hw⟩ : ∃ X : World, X = (World.setCell v10 ⟨M, 0, none⟩ (.int .i64 0)).setCell ⟨M, 1, none⟩ (.slice none 0 0) := ⟨_, rfl⟩
      rw [← hw]
      replace bW : Below U.heap.size U wz := by rw [hw]; exact (bW.setCell (p := ⟨M, 0, none⟩) hUM _).setCell (p := ⟨M, 1, none⟩) hUM _
      refine hK _ _ bW ?_
      clear hK K f0 f1 g0 g1 hw kM
      iterate 3
        refine wpPT_float (v := ?_) rfl (by rfl) (fun w' hw' => ?_) (fun K hK => ?_)
        rotate_left
        · (go_simp; try with_reducible rfl)
        go_simp
        refine hK _ ?_
        clear hK K
      refine wpPT_done (NoPanic.normal ?_)
      replace hB := Lib.hid (hB.out.later bW)
      replace hr := Lib.hid (hr.out.below bW)
      replace hk := Lib.hid (hk.out.below_ bW)
      replace hl := Lib.hid (hl.out.below bW)
      obtain ⟨eb, eo, y, hE, -, hy, -, y0, y1, y2⟩ := hl.out.edge (show 0 < 1 by omega)
      obtain rfl : y = ⟨1, 0, 2⟩ := by simpa using hy.symm
      subst hE
      simp only [Nat.zero_mul, Nat.add_zero] at y0 y1 y2
      have m0 := hk.out.c0
      have m1 := hk.out.c1
      have cH := ref3_Has A3 3 d3 [[4], [5], [0]] 1 0 wz hr.out (by decide) (fun k xs hx => by
        have := List.mem_of_getElem? hx
        simp only [List.mem_cons, List.not_mem_nil, or_false] at this
        rcases this with rfl | rfl | rfl <;> decide)
      rw [show (inM ((3 : Nat) : Int) 1 0 && hasM [[4], [5], [0]] 1 0) = true from by decide] at cH
      replace cH := Lib.hid cH
      clear hy
      go_wp2_with fail
      refine cH.out.mono ?_; rintro e w9 ⟨rfl, b9⟩
      go_wp2_with fail
      go_ret
      exact ⟨rfl, below_trans2 hB.out.o b9⟩
end Go.Proofs.YtbeigdbljepfkaaGreat

namespace Go.Proofs.YtbeigdbljepfkaaGreat
set_option linter.unusedVariables false

theorem within_closed {n : Nat} {a : List (List Nat)} (hG : Good n a) (hc : ClosedM a) (l : List Int) : ClosedM (withinM n a l) := fun i j k h1 h2 => by
  rw [(within_facts hG l).2] at h1 h2 ⊢
  exact ⟨hc i j k h1.1 h2.1, h1.2.1, h2.2.2⟩
end Go.Proofs.YtbeigdbljepfkaaGreat

namespace Go.Proofs.YtbeigdbljepfkaaGreat
set_option linter.unusedVariables false

end Go.Proofs.YtbeigdbljepfkaaGreat

namespace Go.Proofs.YtbeigdbljepfkaaGreat
open Go.RowKit
set_option linter.unusedVariables false

/-- the slice '.slice A n c' of pairs of bytes reads as ps -/
def Pairs8 (w : World) (A : Option Addr) (n : Nat) (ps : List (Nat × Nat)) : Prop :=
  ps.length = n ∧ (∀ p ∈ ps, p.1 < 256 ∧ p.2 < 256) ∧
  (0 < n → ∃ b off, A = some ⟨b, off, none⟩ ∧ b < w.heap.size ∧ ∀ (j : Nat) (p : Nat × Nat), ps[j]? = some p → w.cell? ⟨b, off + j * 2, none⟩ = some (.int .u8 (p.1 : Int)) ∧ w.cell? ⟨b, off + j * 2 + 1, none⟩ = some (.int .u8 (p.2 : Int)))
theorem Pairs8.below {w w' : World} {A : Option Addr} {n : Nat} {ps : List (Nat × Nat)} (h : Pairs8 w A n ps) (hb : Below w.heap.size w w') : Pairs8 w' A n ps :=
  ⟨h.1, h.2.1, fun hn => by
    obtain ⟨b, off, e, hbl, hc⟩ := h.2.2 hn
    exact ⟨b, off, e, Nat.lt_of_lt_of_le hbl hb.size, fun j p hp => by
      obtain ⟨h1, h2⟩ := hc j p hp
      exact ⟨(hb.cell (p := ⟨b, off + j * 2, none⟩) hbl).trans h1, (hb.cell (p := ⟨b, off + j * 2 + 1, none⟩) hbl).trans h2⟩⟩⟩
theorem Pairs8.at_ {w : World} {A : Option Addr} {n : Nat} {ps : List (Nat × Nat)} {k : Nat} (h : Pairs8 w A n ps) (hk : k < n) : ∃ b off x y, A = some ⟨b, off, none⟩ ∧ b < w.heap.size ∧ ps[k]? = some (x, y) ∧ (x < 256 ∧ y < 256) ∧
    w.cell? ⟨b, off + k * 2, none⟩ = some (.int .u8 (x : Int)) ∧ w.cell? ⟨b, off + k * 2 + 1, none⟩ = some (.int .u8 (y : Int)) := by
  obtain ⟨b, off, e, hb, hc⟩ := h.2.2 (by omega)
  have hl : k < ps.length := by rw [h.1]; exact hk
  exact ⟨b, off, ps[k].1, ps[k].2, e, hb, List.getElem?_eq_getElem hl, h.2.1 _ (List.getElem_mem hl), (hc k _ (List.getElem?_eq_getElem hl)).1, (hc k _ (List.getElem?_eq_getElem hl)).2⟩
end Go.Proofs.YtbeigdbljepfkaaGreat
