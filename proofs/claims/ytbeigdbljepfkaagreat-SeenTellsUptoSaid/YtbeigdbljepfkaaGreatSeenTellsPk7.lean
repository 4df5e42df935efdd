/- The contracts of the document's own answers of layer 12: Ahead, Past, Po. Contracts of package hull: place, below, Closed, Loop. Contracts of the document's own answers of layer 4: Closed, Loop. The contracts of the document's own answers of layer 16: Of, With, Writes, Kept. The contracts of the document's own answers of layer 17: Edges. The contracts of the document's own answers of layer 18: New. A queue of numbers of a call's own: 'q = q[1:]', 'q = append(q, x)'. No function of the program is named here. And the search over a matrix's pairs, as plain mathematics. -/
import Derived.Test.YtbeigdbljepfkaaGreatSeenTellsPk3
import Derived.Test.YtbeigdbljepfkaaGreatSeenTellsPk5
import Derived.Test.YtbeigdbljepfkaaGreatSeenTellsPk6
import Derived.BigQuiet
import Derived.Test.YtbeigdbljepfkaaGreatSeenTellsPk4
import Derived.ArgAppend
namespace Go.Proofs.YtbeigdbljepfkaaGreat
open Go.RowKit
set_option linter.unusedVariables false
set_option maxRecDepth 100000 in
set_option maxHeartbeats 2000000 in
theorem ref12_Ahead (v : FV) (f : Fac) (i j : Int) (w : World) (hF : FactsAt w v f) :
    Calls Tryz.prog 71 #[.agg #[.slice v.A v.n v.c, .slice v.B v.m v.d, .slice v.C v.k v.e], .int .i64 i, .int .i64 j] w (RetBool (aheadF f.items i j) w) := by
  have hil := hF.is.len
  -- a call with facts v: they are boxed at g, the world is W0 then
  have hB0 := Lib.hid (FBox.new hF)
  obtain ⟨g, hg⟩ : ∃ g, g = w.heap.size := ⟨_, rfl⟩
  obtain ⟨W0, hW0⟩ : ∃ W, W = w.alloc (.cells #[.slice v.A v.n v.c, .slice v.B v.m v.d, .slice v.C v.k v.e] 29) := ⟨_, rfl⟩
  rw [← hW0, ← hg] at hB0
  clear hF
  have p0 := hB0.out.c0
  have p1 := hB0.out.c1
  have p2 := hB0.out.c2
  by_cases hi : 0 ≤ i
  · have d1 : decide (0 ≤ i) = true := decide_eq_true hi
    by_cases hj : 0 ≤ j
    · have d2 : decide (0 ≤ j) = true := decide_eq_true hj
      by_cases him : i < (v.m : Int)
      · have d3 : decide (i < (v.m : Int)) = true := decide_eq_true him
        by_cases hjm : j < (v.m : Int)
        · have d4 : decide (j < (v.m : Int)) = true := decide_eq_true hjm
          obtain ⟨ib, io, x, hxB, hib, hx, hxo, i0, i1, -, -, -⟩ := hB0.out.f.is.item (show i.toNat < v.m by omega)
          obtain ⟨jb, jo, y, hyB, hjb, hy, hyo, j0, j1, -, -, -⟩ := hB0.out.f.is.item (show j.toNat < v.m by omega)
          rw [hxB] at p1 hyB
          injection hyB with hyB
          injection hyB with h1 h2
          subst h1; subst h2
          have hres := aheadF_at hi hj hx hy
          have bi : 0 ≤ i ∧ i < (v.m : Int) := ⟨hi, him⟩
          have bj : 0 ≤ j ∧ j < (v.m : Int) := ⟨hj, hjm⟩
          by_cases hse : x.se = y.se
          · have e1 : (x.se == y.se) = true := by simp [hse]
            rw [decide_eq_true hse, Bool.true_and] at hres
            replace hres := Lib.hid hres
            replace hse := Lib.hid hse
            clear hxB hx hy hxo hyo hib hjb
            clear hil
            go_enter Tryz.func71, Tryz.ntmps71
            go_wp2_with (rw [← hW0, ← hg]; clear hW0 hg)
            go_quiet (fail)
            go_wp2_with fail
            go_ret
            rw [hres.out]
            exact ⟨rfl, below_drewN hB0.out.o _⟩
          · have e1 : (x.se == y.se) = false := by simpa using hse
            rw [decide_eq_false hse, Bool.false_and] at hres
            replace hres := Lib.hid hres
            replace hse := Lib.hid hse
            clear hxB hx hy hxo hyo hib hjb
            clear hil
            go_enter Tryz.func71, Tryz.ntmps71
            go_wp2_with (rw [← hW0, ← hg]; clear hW0 hg)
            go_quiet (fail)
            go_wp2_with fail
            go_ret
            rw [hres.out]
            exact ⟨rfl, below_drewN hB0.out.o _⟩
        · have d4 : decide (j < (v.m : Int)) = false := decide_eq_false hjm
          have hres := Lib.hid (aheadF_out (is := f.items) (i := i) (j := j) (by omega))
          clear hil
          go_enter Tryz.func71, Tryz.ntmps71
          go_wp2_with (rw [← hW0, ← hg]; clear hW0 hg)
          go_quiet (fail)
          go_wp2_with fail
          go_ret
          rw [hres.out]
          exact ⟨rfl, below_drewN hB0.out.o _⟩
      · have d3 : decide (i < (v.m : Int)) = false := decide_eq_false him
        have hres := Lib.hid (aheadF_out (is := f.items) (i := i) (j := j) (by omega))
        clear hil
        go_enter Tryz.func71, Tryz.ntmps71
        go_wp2_with (rw [← hW0, ← hg]; clear hW0 hg)
        go_quiet (fail)
        go_wp2_with fail
        go_ret
        rw [hres.out]
        exact ⟨rfl, below_drewN hB0.out.o _⟩
    · have d2 : decide (0 ≤ j) = false := decide_eq_false hj
      have hres := Lib.hid (aheadF_out (is := f.items) (i := i) (j := j) (by omega))
      clear hil
      go_enter Tryz.func71, Tryz.ntmps71
      go_wp2_with (rw [← hW0, ← hg]; clear hW0 hg)
      go_quiet (fail)
      go_wp2_with fail
      go_ret
      rw [hres.out]
      exact ⟨rfl, below_drewN hB0.out.o _⟩
  · have d1 : decide (0 ≤ i) = false := decide_eq_false hi
    have hres := Lib.hid (aheadF_out (is := f.items) (i := i) (j := j) (by omega))
    clear hil
    go_enter Tryz.func71, Tryz.ntmps71
    go_wp2_with (rw [← hW0, ← hg]; clear hW0 hg)
    go_quiet (fail)
    go_wp2_with fail
    go_ret
    rw [hres.out]
    exact ⟨rfl, below_drewN hB0.out.o _⟩
theorem info_int3 : (Tryz.prog.info? 3).map (fun i => (i.zero, i.size, i.bytes)) = some (some (.int .i64 0), 1, 8) := by kernel_rfl
set_option maxRecDepth 100000 in
set_option maxHeartbeats 1000000 in
theorem ref12_Past (v : FV) (f : Fac) (o : Int) (w : World) (hF : FactsAt w v f) (hm : v.m ≤ 1048576) :
    Calls Tryz.prog 42 #[.agg #[.slice v.A v.n v.c, .slice v.B v.m v.d, .slice v.C v.k v.e], .int .i64 o] w (RetIL (pastF f.items o f.items.length) w) := by
  have hil := hF.is.len
  rw [hil]
  obtain ⟨i0, hi, hz0, hz1, hz2⟩ := info_parts info_int3
  replace hi := Lib.hid hi
  replace hz0 := Lib.hid hz0
  replace hz1 := Lib.hid hz1
  replace hz2 := Lib.hid hz2
  replace hil := Lib.hid hil
  -- a call with facts v: they are boxed at g, the world is W0 then
  have hB0 := Lib.hid (FBox.new hF)
  obtain ⟨g, hg⟩ : ∃ g, g = w.heap.size := ⟨_, rfl⟩
  obtain ⟨W0, hW0⟩ : ∃ W, W = w.alloc (.cells #[.slice v.A v.n v.c, .slice v.B v.m v.d, .slice v.C v.k v.e] 29) := ⟨_, rfl⟩
  rw [← hW0, ← hg] at hB0
  clear hF
  go_enter Tryz.func42, Tryz.ntmps42
  go_wp2_with (rw [← hW0, ← hg]; clear hW0 hg)
  go_loopw [5, 6] (fun u t wr => ∃ k : Nat, k ≤ v.m ∧ t = .int .i64 k ∧ Hid (Below W0.heap.size W0 wr) ∧ Hid (wr.ownsRow W0.heap.size 3 1 u (pastF f.items o k).length (encI.all (pastF f.items o k)))) (fun _ t _ => v.m - (intOf t).toNat)
  case atStart => exact ⟨0, Nat.zero_le _, rfl, Lib.hid (Below.refl _ _), Lib.hid (World.ownsRow_nil _ _ _ _)⟩
  case round =>
    obtain ⟨k, hkm, rfl, hb, hown⟩ := hrel
    have hB := Lib.hid (hB0.out.later hb.out)
    have p0 := hB.out.c0
    have p1 := hB.out.c1
    have p2 := hB.out.c2
    have hrl := pastF_len f.items o k
    have hrs := pastF_succ f.items o k
    obtain ⟨L, hL⟩ : ∃ L, L = (pastF f.items o k).length := ⟨_, rfl⟩
    rw [← hL] at hown hrl
    replace hL := Lib.hid hL
    by_cases hlt : k < v.m
    · have hlt' : (k : Int) < (v.m : Int) := by omega
      by_cases hko : (k : Int) = o
      · rw [if_pos (by simp [hko])] at hrs
        have e0 : ((k : Int) == o) = true := by simp [hko]
        replace hrs := Lib.hid hrs
        replace hko := Lib.hid hko
        clear hlt
        obtain ⟨gl, hgl⟩ : ∃ g, g = (wr).heap.size := ⟨_, rfl⟩
        obtain ⟨VL, hVL⟩ : ∃ W, W = World.alloc (wr) (.cells #[.int .i64 (k : Int)] 3) := ⟨_, rfl⟩
        have bL : Below (wr).heap.size (wr) VL := by rw [hVL]; exact (Below.refl _ _).alloc (Nat.le_refl _) _
        have hlit := Lib.hid (show LAt encI VL (some ⟨gl, 0, none⟩) 1 [(k : Int)] from by rw [hVL, hgl]; exact LAt.lit1 (E := encI) (wr) 3 (k : Int) ⟨by omega, by omega⟩)
        have hownL := Lib.hid (own_below hown.out bL)
        have bWL := Lib.hid (below_trans2 hb.out bL)
        have hbase := Lib.hid bWL.out.size
        clear bL
        go_wp2_with (first
          | (rw [← hVL, ← hgl]; clear hVL hgl)
          | (at_builtin; refine wpList_append_L (E := encI) rfl (.tmp 23) (.tmp 25) _ rfl W0.heap.size 3 i0 _ 8 Tryz.underlying27 hi.out hz0.out hz1.out hz2.out rfl _ L (pastF f.items o k) (by rfl) hownL.out _ 1 1 _ rfl hlit.out (by unfold maxLen; omega) (by omega) hbase.out ?_; intro v' w7 hown' hb7 _ _))
        refine ⟨⟨k + 1, by omega, by go_num, Lib.hid (bWL.out.trans hb7), Lib.hid (by rw [hrs.out, List.length_append, ← hL.out]; exact hown')⟩, by simp [intOf]; omega⟩
      · have e0 : ((k : Int) == o) = false := by simpa using hko
        rw [decide_eq_false hko, Bool.false_or] at hrs
        have cA := ref12_Ahead v f k o wr hB.out.f
        replace hko := Lib.hid hko
        cases ha : aheadF f.items k o with
        | true =>
          rw [ha] at cA
          rw [ha, if_pos rfl] at hrs
          replace hrs := Lib.hid hrs
          replace cA := Lib.hid cA
          clear hlt ha
          go_wp2_with fail
          refine cA.out.mono ?_; rintro e w3 ⟨rfl, b3⟩
          have hown3 := Lib.hid (own_below hown.out b3)
          have hb3 := Lib.hid (below_trans2 hb.out b3)
          clear b3 cA p0 p1 p2
          obtain ⟨gl, hgl⟩ : ∃ g, g = (w3).heap.size := ⟨_, rfl⟩
          obtain ⟨VL, hVL⟩ : ∃ W, W = World.alloc (w3) (.cells #[.int .i64 (k : Int)] 3) := ⟨_, rfl⟩
          have bL : Below (w3).heap.size (w3) VL := by rw [hVL]; exact (Below.refl _ _).alloc (Nat.le_refl _) _
          have hlit := Lib.hid (show LAt encI VL (some ⟨gl, 0, none⟩) 1 [(k : Int)] from by rw [hVL, hgl]; exact LAt.lit1 (E := encI) (w3) 3 (k : Int) ⟨by omega, by omega⟩)
          have hownL := Lib.hid (own_below hown3.out bL)
          have bWL := Lib.hid (below_trans2 hb3.out bL)
          have hbase := Lib.hid bWL.out.size
          clear bL
          go_wp2_with (first
            | (rw [← hVL, ← hgl]; clear hVL hgl)
            | (at_builtin; refine wpList_append_L (E := encI) rfl (.tmp 23) (.tmp 25) _ rfl W0.heap.size 3 i0 _ 8 Tryz.underlying27 hi.out hz0.out hz1.out hz2.out rfl _ L (pastF f.items o k) (by rfl) hownL.out _ 1 1 _ rfl hlit.out (by unfold maxLen; omega) (by omega) hbase.out ?_; intro v' w7 hown' hb7 _ _))
          refine ⟨⟨k + 1, by omega, by go_num, Lib.hid (bWL.out.trans hb7), Lib.hid (by rw [hrs.out, List.length_append, ← hL.out]; exact hown')⟩, by simp [intOf]; omega⟩
        | false =>
          rw [ha] at cA
          rw [ha, if_neg (by simp)] at hrs
          replace hrs := Lib.hid hrs
          replace cA := Lib.hid cA
          clear hlt ha
          go_wp2_with fail
          refine cA.out.mono ?_; rintro e w3 ⟨rfl, b3⟩
          have hown3 := Lib.hid (own_below hown.out b3)
          have hb3 := Lib.hid (below_trans2 hb.out b3)
          clear b3 cA p0 p1 p2
          go_wp2_with fail
          exact ⟨⟨k + 1, by omega, by go_num, hb3, Lib.hid (by rw [hrs.out, ← hL.out]; exact hown3.out)⟩, by simp [intOf]; omega⟩
    · have hlt' : ¬ (k : Int) < (v.m : Int) := by omega
      have hkm : k = v.m := by omega
      subst hkm
      obtain ⟨A, c, rfl, hnc, hcm, hLA⟩ := LAt.of_own hown.out (fun z hz => by
        have := pastF_ok f.items o v.m z hz
        exact ⟨by omega, by omega⟩) hL.out.symm
      clear hlt
      go_wp2_with fail
      go_ret
      exact ⟨A, L, c, rfl, hLA, hnc, hcm, hB.out.o⟩
/-- a variable at M that holds a matrix of n rows; its rows lie apart from it -/
structure MV (wr : World) (M n : Nat) (A : Option Addr) (c : Nat) (xss : List (List Nat)) : Prop where
  loc : MatB wr M 34 (n : Int) A n c
  rows : RowsAt wr A n xss
  cap : n ≤ c
  far : 0 < n → ∀ ad, A = some ad → ad.block ≠ M
theorem MV.later {wr w' : World} {M n c : Nat} {A : Option Addr} {xss : List (List Nat)} (h : MV wr M n A c xss) (hb : Below wr.heap.size wr w') : MV w' M n A c xss := ⟨h.loc.below_ hb, h.rows.below hb, h.cap, h.far⟩
/-- another matrix, of a call's own, is laid into it -/
theorem MV.put {wr w' : World} {M n c : Nat} {A : Option Addr} {xss : List (List Nat)} (h : MV wr M n A c xss) (hb : Below wr.heap.size wr w') {C : Option Addr} {d : Nat} {yss : List (List Nat)} (hr : RowsAt w' C n yss) (hd : n ≤ d) (hf : ∀ ad, C = some ad → wr.heap.size ≤ ad.block) :
    MV ((w'.setCell ⟨M, 0, none⟩ (.int .i64 (n : Int))).setCell ⟨M, 1, none⟩ (.slice C n d)) M n C d yss := by
  have hM := h.loc.lt
  refine ⟨(h.loc.below_ hb).put _ _ _ _, hr.putB (h.loc.below_ hb) (fun _ ad e => by have := hf ad e; omega) _ _, hd, fun _ ad e => by have := hf ad e; omega⟩
theorem poM_len {n : Nat} (hn : n ≤ 4096) (ps : List (Int × Int)) : ∀ xs ∈ foldP n ps, xs.length ≤ 1024 := fun xs hxs => by
  obtain ⟨i, hi⟩ := List.getElem?_of_mem hxs
  have := (DimM.fold n ps).2 i xs hi
  have := words_le hn
  omega
/-- a call's answer: a matrix, whose outer cells are new -/
def RetMat1F (N : Int) (xss : List (List Nat)) (w : World) (e : Ending) (w' : World) : Prop :=
  ∃ A n c, e = .returned (.agg #[.int .i64 N, .slice A n c]) ∧ RowsAt w' A n xss ∧ n ≤ c ∧ Below w.heap.size w w' ∧ ∀ ad, A = some ad → w.heap.size ≤ ad.block
set_option maxRecDepth 100000 in
set_option maxHeartbeats 2000000 in
theorem ref12_Po (v : FV) (f : Fac) (w : World) (hF : FactsAt w v f) (hm : v.m ≤ 4096) :
    Calls Tryz.prog 51 #[.agg #[.slice v.A v.n v.c, .slice v.B v.m v.d, .slice v.C v.k v.e]] w (RetMat1F (v.m : Int) (poM f.items) w) := by
  have hil := hF.is.len
  unfold poM
  rw [hil]
  have cN := Lib.hid (ref3_NewF v.m hm)
  replace hil := Lib.hid hil
  -- a call with facts v: they are boxed at g, the world is W0 then
  have hB0 := Lib.hid (FBox.new hF)
  obtain ⟨g, hg⟩ : ∃ g, g = w.heap.size := ⟨_, rfl⟩
  obtain ⟨W0, hW0⟩ : ∃ W, W = w.alloc (.cells #[.slice v.A v.n v.c, .slice v.B v.m v.d, .slice v.C v.k v.e] 29) := ⟨_, rfl⟩
  rw [← hW0, ← hg] at hB0
  clear hF
  obtain ⟨gr, hgr⟩ : ∃ g, g = W0.heap.size := ⟨_, rfl⟩
  obtain ⟨W1, hW1⟩ : ∃ W, W = W0.alloc (.cells #[.int .i64 0, .slice none 0 0] 34) := ⟨_, rfl⟩
  have b1 : Below W0.heap.size W0 W1 := by rw [hW1]; exact (Below.refl _ _).alloc (Nat.le_refl _) _
  have kR : MatB W1 gr 34 0 none 0 0 := by rw [hW1, hgr]; exact MatB.new W0 _
  have hB1 := Lib.hid (hB0.out.later b1)
  have p0 := hB1.out.c0
  have p1 := hB1.out.c1
  have p2 := hB1.out.c2
  go_enter Tryz.func51, Tryz.ntmps51
  go_wp2_with (first | (rw [← hW0, ← hg]; clear hW0 hg) | (rw [← hW1, ← hgr]; clear hW1))
  refine (cN.out _).mono ?_; rintro e w2 ⟨C, p, q, rfl, hrows, hcap, b2, hfar⟩
  have hpn : p = v.m := by rw [← hrows.len]; exact (DimM.new v.m).1
  subst hpn
  obtain ⟨M, hM⟩ : ∃ M, M = w2.heap.size := ⟨_, rfl⟩
  obtain ⟨W2, hW2⟩ : ∃ W2, W2 = w2.alloc (.cells #[.int .i64 v.m, .slice C v.m q] 34) := ⟨_, rfl⟩
  have b3 : Below w2.heap.size w2 W2 := by rw [hW2]; exact (Below.refl _ _).alloc (Nat.le_refl _) _
  have hbb := Lib.hid (below_trans2 (below_trans2 b1 b2) b3)
  have hMV := Lib.hid (show MV W2 M v.m C q (foldP v.m (uptoPo f.items v.m 0)) from ⟨by rw [hW2, hM]; exact MatB.new w2 _, by rw [show uptoPo f.items v.m 0 = [] from rfl, foldP_nil]; exact hrows.below b3, hcap, fun h0 ad e => by have := hrows.block_lt h0 ad e; omega⟩)
  have hgrM : gr < M := by have := kR.lt; have := b2.size; omega
  have kR2 := Lib.hid ((kR.below_ b2).below_ b3)
  have hgW : W0.heap.size ≤ gr := by omega
  have hAf := Lib.hid (show ∀ ad, C = some ad → gr < ad.block from fun ad e => by have := hfar ad e; have := kR.lt; omega)
  replace hgr := Lib.hid hgr
  clear hrows hcap b2 b3 hfar kR b1 hB1 p0 p1 p2 cN
  go_wp2_with (rw [← hW2, ← hM]; clear hW2; replace hM := Lib.hid hM)
  go_loopw [5] (fun t wr => ∃ (i : Nat) (A : Option Addr) (c : Nat), i ≤ v.m ∧ t = .int .i64 i ∧ Hid (Below W0.heap.size W0 wr) ∧ Hid (MatB wr gr 34 0 none 0 0) ∧ Hid (MV wr M v.m A c (foldP v.m (uptoPo f.items v.m i))) ∧ Hid (∀ ad, A = some ad → gr < ad.block)) (fun t _ => v.m - (intOf t).toNat)
  case atStart => exact ⟨0, _, _, Nat.zero_le _, rfl, hbb, kR2, hMV, hAf⟩
  case round =>
    clear hbb kR2 hMV hAf
    obtain ⟨i, A, c, hi, rfl, hbb, kR, hMV, hAf⟩ := hrel
    have hB := Lib.hid (hB0.out.later hbb.out)
    by_cases hlt : i < v.m
    · have hlt' : (i : Int) < (v.m : Int) := by omega
      have p1 := hB.out.c1
      go_wp2_with fail
      clear p1 hB
      obtain ⟨Wo, rfl⟩ : ∃ Wo, Wo = wr := ⟨_, rfl⟩
      go_loopw [6] (fun t wr => ∃ (j : Nat) (A : Option Addr) (c : Nat), j ≤ v.m ∧ t = .int .i64 j ∧ Hid (Below W0.heap.size W0 wr) ∧ Hid (MatB wr gr 34 0 none 0 0) ∧ Hid (MV wr M v.m A c (foldP v.m (uptoPo f.items v.m i ++ rowPo f.items i j))) ∧ Hid (∀ ad, A = some ad → gr < ad.block)) (fun t _ => v.m - (intOf t).toNat)
      case atStart => exact ⟨0, _, _, Nat.zero_le _, rfl, hbb, kR, Lib.hid (by rw [show rowPo f.items i 0 = [] from rfl, List.append_nil]; exact hMV.out), hAf⟩
      case round =>
        clear hbb kR hMV hAf
        obtain ⟨j, A, c, hj, rfl, hbb, kR, hMV, hAf⟩ := hrel
        have hB := Lib.hid (hB0.out.later hbb.out)
        have p0 := hB.out.c0
        have p1 := hB.out.c1
        have p2 := hB.out.c2
        by_cases hlj : j < v.m
        · have hlj' : (j : Int) < (v.m : Int) := by omega
          have cA := ref12_Ahead v f i j wr hB.out.f
          have hrs := rowPo_succ f.items i j
          cases ha : aheadF f.items i j with
          | false =>
            rw [ha] at cA
            rw [ha, if_neg (by simp)] at hrs
            replace cA := Lib.hid cA
            replace hrs := Lib.hid hrs
            clear ha hlj
            go_wp2_with fail
            refine cA.out.mono ?_; rintro e w3 ⟨rfl, b3⟩
            have hbb3 := Lib.hid (below_trans2 hbb.out b3)
            have kR3 := Lib.hid (kR.out.below_ b3)
            have hMV3 := Lib.hid (hMV.out.later b3)
            clear p0 p1 p2 b3 cA
            go_wp2_with fail
            exact ⟨⟨j + 1, A, c, by omega, by go_num, hbb3, kR3, Lib.hid (by rw [hrs.out]; exact hMV3.out), hAf⟩, by simp [intOf]; omega⟩
          | true =>
            rw [ha] at cA
            rw [ha, if_pos rfl] at hrs
            replace cA := Lib.hid cA
            replace hrs := Lib.hid hrs
            clear ha
            go_wp2_with fail
            refine cA.out.mono ?_; rintro e w3 ⟨rfl, b3⟩
            have hbb3 := Lib.hid (below_trans2 hbb.out b3)
            have kR3 := Lib.hid (kR.out.below_ b3)
            have hMV3 := Lib.hid (hMV.out.later b3)
            clear p0 p1 p2 b3 cA
            have cS := Lib.hid (ref3_SetF (v.m : Int) A v.m c _ (i : Int) (j : Int) w3 hMV3.out.rows rfl hm (poM_len hm _) (by unfold inM; simp; omega))
            have m0 := hMV3.out.loc.c0
            have m1 := hMV3.out.loc.c1
            go_wp2_with fail
            refine cS.out.mono ?_; rintro e w4 ⟨C2, n2, c2, rfl, hrows2, hcap2, b4, hfar2⟩
            have hn2 : n2 = v.m := by
              have h1 := hrows2.len
              rw [← foldP_last v.m (uptoPo f.items v.m i ++ rowPo f.items i j) ((i : Int), (j : Int))] at h1
              rw [← h1]; exact (DimM.fold v.m _).1
            subst hn2
            have hMV4 := Lib.hid (hMV3.out.put b4 hrows2 hcap2 hfar2)
            have hAf4 := Lib.hid (show ∀ ad, C2 = some ad → gr < ad.block from fun ad e => by have := hfar2 ad e; have := kR3.out.lt; omega)
            have kM := hMV3.out.loc.below_ b4
            have hbb4 := Lib.hid (((below_trans2 hbb3.out b4).setCell (p := ⟨M, 0, none⟩) (by show W0.heap.size ≤ M; omega) (.int .i64 (v.m : Int))).setCell (p := ⟨M, 1, none⟩) (by show W0.heap.size ≤ M; omega) (.slice C2 v.m c2))
            have kR4 := Lib.hid (((kR3.out.below_ b4).farB (p := ⟨M, 0, none⟩) (by show gr ≠ M; omega) (.int .i64 (v.m : Int))).farB (p := ⟨M, 1, none⟩) (by show gr ≠ M; omega) (.slice C2 v.m c2))
            clear m0 m1 cS hrows2 hfar2 b4 hlj
            have m0 := kM.c0
            have m1 := kM.c1
            have g0 := kM.frozen 0
            have g1 := kM.frozen 1
            clear kM
            go_wp2_with fail
            exact ⟨⟨j + 1, C2, c2, by omega, by go_num, hbb4, kR4, Lib.hid (by rw [hrs.out, ← List.append_assoc, foldP_last]; exact hMV4.out), hAf4⟩, by simp [intOf]; omega⟩
        · have hlj' : ¬ (j : Int) < (v.m : Int) := by omega
          have hjm : j = v.m := by omega
          have hus := uptoPo_succ f.items v.m i
          rw [hjm] at hMV
          clear hlj
          replace hus := Lib.hid hus
          replace hjm := Lib.hid hjm
          go_wp2_with fail
          exact ⟨⟨i + 1, A, c, by omega, by go_num, hbb, kR, Lib.hid (by rw [hus.out]; exact hMV.out), hAf⟩, by simp [intOf]; omega⟩
    · have hlt' : ¬ (i : Int) < (v.m : Int) := by omega
      have him : i = v.m := by omega
      rw [him] at hMV
      replace him := Lib.hid him
      have p1 := hB.out.c1
      have m0 := hMV.out.loc.c0
      have m1 := hMV.out.loc.c1
      have f0 := kR.out.c0
      have f1 := kR.out.c1
      have g0 := kR.out.frozen 0
      have g1 := kR.out.frozen 1
      have hcc := kR.out.two (.int .i64 (v.m : Int)) (.slice A v.m c)
      have hc1 := Lib.hid hcc.1
      have hc2 := Lib.hid hcc.2
      have hrf := Lib.hid (show RowsAt ((wr.setCell ⟨gr, 0, none⟩ (.int .i64 (v.m : Int))).setCell ⟨gr, 1, none⟩ (.slice A v.m c)) A v.m (foldP v.m (uptoPo f.items v.m v.m)) from hMV.out.rows.putB kR.out (fun h0 ad e hb => by have := hAf.out ad e; omega) _ _)
      have hbf := Lib.hid (((below_trans2 hB0.out.o hbb.out).setCell (p := ⟨gr, 0, none⟩) (by have := hB0.out.o.size; show w.heap.size ≤ gr; omega) (.int .i64 (v.m : Int))).setCell (p := ⟨gr, 1, none⟩) (by have := hB0.out.o.size; show w.heap.size ≤ gr; omega) (.slice A v.m c))
      clear hcc hlt
      go_wp2_with fail
      exact bodyPost_ret (v := .agg #[.int .i64 (v.m : Int), .slice A v.m c]) (by simp [results, Tryz.results51, go_sem, hc1.out, hc2.out]) rfl ⟨A, v.m, c, rfl, hrf.out, hMV.out.cap, hbf.out, fun ad e => by have := hAf.out ad e; have := hB0.out.o.size; omega⟩
end Go.Proofs.YtbeigdbljepfkaaGreat

namespace Go.Proofs.YtbeigdbljepfkaaGreat
open Go.RowKit
set_option linter.unusedVariables false

set_option maxHeartbeats 400000 in
theorem hull_place (m : Nat) (hm : m ≤ 1073741824) (w : World) :
    Calls Tryz.prog 84 #[.int .i64 (m : Int)] w fun e w' => e = .returned (.tuple #[.int .i64 ((m / 64 : Nat) : Int), .int .u64 ((p2 (m % 64) : Nat) : Int)]) ∧ w = w' := by
  have hA := Lib.hid (i64_and_63 m (by omega))
  have hB := Lib.hid (word_BitN (m % 64) (by omega) w)
  go_enter Tryz.func84, Tryz.ntmps84
  go_wp2_with fail
  rw [hA.out]
  refine hB.out.mono ?_; rintro e w' ⟨rfl, rfl⟩
  go_wp2_with fail
  exact bodyPost_ret (v := .tuple #[.int .i64 ((m / 64 : Nat) : Int), .int .u64 ((p2 (m % 64) : Nat) : Int)]) (by simp [results, Tryz.results84, go_sem]) rfl ⟨rfl, rfl⟩
theorem below_u64 (i n : Int) (h1 : -9223372036854775808 ≤ i) (h2 : i < 9223372036854775808) (h0 : 0 ≤ n) (hn : n ≤ 4611686018427387904) : decide (IntKind.u64.wrap i < n) = belowZ i n := by
  by_cases h : 0 ≤ i
  · have e1 : IntKind.u64.wrap i = i := by rw [IntKind.wrap_u64]; omega
    rw [e1]
    unfold belowZ
    rw [decide_eq_true h, Bool.true_and]
  · rw [belowZ_no (.inl (by omega))]
    refine decide_eq_false ?_
    rw [IntKind.wrap_u64]; omega
set_option maxHeartbeats 400000 in
theorem hull_below (i n : Int) (h1 : -9223372036854775808 ≤ i) (h2 : i < 9223372036854775808) (h0 : 0 ≤ n) (hn : n ≤ 4611686018427387904) (w : World) :
    Calls Tryz.prog 83 #[.int .i64 i, .int .i64 n] w fun e w' => e = .returned (.bool (belowZ i n)) ∧ w = w' := by
  have H := Lib.hid (below_u64 i n h1 h2 h0 hn)
  go_enter Tryz.func83, Tryz.ntmps83
  go_wp2
  go_ret
  rw [← H.out]; exact ⟨rfl, rfl⟩

end Go.Proofs.YtbeigdbljepfkaaGreat

namespace Go.Proofs.YtbeigdbljepfkaaGreat
open Go.RowKit
set_option linter.unusedVariables false

theorem ref3_HasG (A : Option Addr) (n c : Nat) (a : List (List Nat)) (hG : Good n a) (i j : Int) (w : World) (hr : RowsAt w A n a) :
    Calls Tryz.prog 25 #[.agg #[.int .i64 (n : Int), .slice A n c], .int .i64 i, .int .i64 j] w (RetB (hasM a i j) w) := by
  have h := ref3_Has A n c a i j w hr hG.le (fun k xs hx => by have := hG.small xs (List.mem_of_getElem? hx); omega)
  rwa [hG.in_has] at h

end Go.Proofs.YtbeigdbljepfkaaGreat

namespace Go.Proofs.YtbeigdbljepfkaaGreat
open Go.RowKit
set_option linter.unusedVariables false
theorem info_int16 : (Tryz.prog.info? 3).map (fun i => (i.zero, i.size, i.bytes)) = some (some (.int .i64 0), 1, 8) := by kernel_rfl
set_option maxRecDepth 100000 in
set_option maxHeartbeats 2000000 in
theorem ref16_With (A : Option Addr) (n c : Nat) (a : List (List Nat)) (o : Int) (w : World) (hr : RowsAt w A n a) (hG : Good n a) :
    Calls Tryz.prog 14 #[.agg #[.int .i64 (n : Int), .slice A n c], .int .i64 o] w (RetIL (wihO a o n) w) := by
  have hnn := hG.le
  obtain ⟨i0, hi, hz0, hz1, hz2⟩ := info_parts info_int16
  replace hi := Lib.hid hi
  replace hz0 := Lib.hid hz0
  replace hz1 := Lib.hid hz1
  replace hz2 := Lib.hid hz2
  -- a call with the matrix (A n c a): it is boxed at g, the world is W0 then
  have hM0 := Lib.hid (MatK.new (N := (n : Int)) (c := c) w 34 hr)
  obtain ⟨g, hg⟩ : ∃ g, g = w.heap.size := ⟨_, rfl⟩
  obtain ⟨W0, hW0⟩ : ∃ W, W = w.alloc (.cells #[.int .i64 (n : Int), .slice A n c] 34) := ⟨_, rfl⟩
  rw [← hW0, ← hg] at hM0
  have hbo := Lib.hid (show Below w.heap.size w W0 from by rw [hW0]; exact below_alloc _ _)
  by_cases hin : 0 ≤ o ∧ o < (n : Int)
  · obtain ⟨h0, h1⟩ := hin
    have hwo : Hid (wihO a o n = wihF a o n) := Lib.hid (if_pos ⟨h0, h1⟩)
    have d2 : decide (0 ≤ o) = true := decide_eq_true h0
    have d3 : decide (o < (n : Int)) = true := decide_eq_true h1
    go_enter Tryz.func14, Tryz.ntmps14
    go_wp2_with (rw [← hW0, ← hg]; clear hW0 hg)
    go_loopw [5, 6] (fun u t wr => ∃ k : Nat, k ≤ n ∧ t = .int .i64 k ∧ Hid (Below W0.heap.size W0 wr) ∧ Hid (wr.ownsRow W0.heap.size 3 1 u (wihF a o k).length (encI.all (wihF a o k)))) (fun _ t _ => n - (intOf t).toNat)
    case atStart => exact ⟨0, Nat.zero_le _, rfl, Lib.hid (Below.refl _ _), Lib.hid (World.ownsRow_nil _ _ _ _)⟩
    case round =>
      obtain ⟨k, hk, rfl, hb, hown⟩ := hrel
      have hM := Lib.hid (hM0.out.below hb.out)
      have m0 := hM.out.1.c0
      have m1 := hM.out.1.c1
      have hrl := wihF_len a o k
      have hrs := wihF_succ a o k
      obtain ⟨L, hL⟩ : ∃ L, L = (wihF a o k).length := ⟨_, rfl⟩
      rw [← hL] at hown hrl
      replace hL := Lib.hid hL
      by_cases hlt : k < n
      · have hlt' : (k : Int) < (n : Int) := by omega
        have d1 : decide ((k : Int) < (n : Int)) = true := decide_eq_true hlt'
        by_cases hko : (k : Int) = o
        · rw [if_pos (by simp [hko])] at hrs
          have e0 : ((k : Int) == o) = true := by simp [hko]
          replace hrs := Lib.hid hrs
          replace hko := Lib.hid hko
          clear hlt
          -- 'append(out, (k : Int))' (temps 32 34) in the world wr: hown : the row (wihF a o k) of length L (hL), hb : Below W0 .. wr; behind it: hown', hb7
          obtain ⟨gl, hgl⟩ : ∃ g, g = (wr).heap.size := ⟨_, rfl⟩
          obtain ⟨VL, hVL⟩ : ∃ W, W = World.alloc (wr) (.cells #[.int .i64 (k : Int)] 3) := ⟨_, rfl⟩
          have bL : Below (wr).heap.size (wr) VL := by rw [hVL]; exact (Below.refl _ _).alloc (Nat.le_refl _) _
          have hlit := Lib.hid (show LAt encI VL (some ⟨gl, 0, none⟩) 1 [(k : Int)] from by rw [hVL, hgl]; exact LAt.lit1 (E := encI) (wr) 3 (k : Int) ⟨by omega, by omega⟩)
          have hownL := Lib.hid (own_below hown.out bL)
          have bWL := Lib.hid (below_trans2 hb.out bL)
          have hbase := Lib.hid bWL.out.size
          clear bL
          go_wp2_with (first
            | (rw [← hVL, ← hgl]; clear hVL hgl)
            | (at_builtin; refine wpList_append_L (E := encI) rfl (.tmp 32) (.tmp 34) _ rfl W0.heap.size 3 i0 _ 8 Tryz.underlying27 hi.out hz0.out hz1.out hz2.out rfl _ L (wihF a o k) (by rfl) hownL.out _ 1 1 _ rfl hlit.out (by unfold maxLen; omega) (by omega) hbase.out ?_; intro v' w7 hown' hb7 _ _))
          exact ⟨⟨k + 1, by omega, by go_num, Lib.hid (bWL.out.trans hb7), Lib.hid (by rw [hrs.out, List.length_append, ← hL.out]; exact hown')⟩, by simp [intOf]; omega⟩
        · have e0 : ((k : Int) == o) = false := by simpa using hko
          rw [decide_eq_false hko, Bool.false_or] at hrs
          have cH := ref3_HasG A n c a hG (k : Int) o wr hM.out.2
          replace hko := Lib.hid hko
          cases ha : hasM a (k : Int) o with
          | true =>
            rw [ha] at cH
            rw [if_pos ha] at hrs
            replace hrs := Lib.hid hrs
            replace cH := Lib.hid cH
            clear hlt ha
            go_wp2_with fail
            refine cH.out.mono ?_; rintro e w3 ⟨rfl, b3⟩
            have hown3 := Lib.hid (own_below hown.out b3)
            have hb3 := Lib.hid (below_trans2 hb.out b3)
            clear b3 cH m0 m1
            -- 'append(out, (k : Int))' (temps 32 34) in the world w3: hown : the row (wihF a o k) of length L (hL), hb : Below W0 .. w3; behind it: hown', hb7
            obtain ⟨gl, hgl⟩ : ∃ g, g = (w3).heap.size := ⟨_, rfl⟩
            obtain ⟨VL, hVL⟩ : ∃ W, W = World.alloc (w3) (.cells #[.int .i64 (k : Int)] 3) := ⟨_, rfl⟩
            have bL : Below (w3).heap.size (w3) VL := by rw [hVL]; exact (Below.refl _ _).alloc (Nat.le_refl _) _
            have hlit := Lib.hid (show LAt encI VL (some ⟨gl, 0, none⟩) 1 [(k : Int)] from by rw [hVL, hgl]; exact LAt.lit1 (E := encI) (w3) 3 (k : Int) ⟨by omega, by omega⟩)
            have hownL := Lib.hid (own_below hown3.out bL)
            have bWL := Lib.hid (below_trans2 hb3.out bL)
            have hbase := Lib.hid bWL.out.size
            clear bL
            go_wp2_with (first
              | (rw [← hVL, ← hgl]; clear hVL hgl)
              | (at_builtin; refine wpList_append_L (E := encI) rfl (.tmp 32) (.tmp 34) _ rfl W0.heap.size 3 i0 _ 8 Tryz.underlying27 hi.out hz0.out hz1.out hz2.out rfl _ L (wihF a o k) (by rfl) hownL.out _ 1 1 _ rfl hlit.out (by unfold maxLen; omega) (by omega) hbase.out ?_; intro v' w7 hown' hb7 _ _))
            exact ⟨⟨k + 1, by omega, by go_num, Lib.hid (bWL.out.trans hb7), Lib.hid (by rw [hrs.out, List.length_append, ← hL.out]; exact hown')⟩, by simp [intOf]; omega⟩
          | false =>
            rw [ha] at cH
            rw [if_neg (by simp [ha])] at hrs
            replace hrs := Lib.hid hrs
            replace cH := Lib.hid cH
            clear hlt ha
            go_wp2_with fail
            refine cH.out.mono ?_; rintro e w3 ⟨rfl, b3⟩
            have hown3 := Lib.hid (own_below hown.out b3)
            have hb3 := Lib.hid (below_trans2 hb.out b3)
            clear b3 cH m0 m1
            go_wp2_with fail
            exact ⟨⟨k + 1, by omega, by go_num, hb3, Lib.hid (by rw [hrs.out, ← hL.out]; exact hown3.out)⟩, by simp [intOf]; omega⟩
      · have hlt' : ¬ (k : Int) < (n : Int) := by omega
        have d1 : decide ((k : Int) < (n : Int)) = false := decide_eq_false hlt'
        obtain rfl : k = n := by omega
        obtain ⟨A2, c2, rfl, hnc, hcm, hLA⟩ := LAt.of_own hown.out (fun z hz => by
          have := wihF_ok a o k z hz
          exact ⟨by omega, by omega⟩) hL.out.symm
        clear hlt
        go_wp2_with fail
        go_ret
        exact ⟨A2, L, c2, rfl, by rw [hwo.out]; exact hLA, hnc, hcm, below_trans2 hbo.out hb.out⟩
  · have hwo : Hid (wihO a o n = []) := Lib.hid (if_neg hin)
    have hM := hM0
    have m0 := hM0.out.1.c0
    rcases Nat.eq_zero_or_pos n with hn0 | hn0
    · have d1 : decide (0 < n) = false := decide_eq_false (by omega)
      have d1' : decide ((0 : Int) < (n : Int)) = false := decide_eq_false (by omega)
      replace hn0 := Lib.hid hn0
      go_enter Tryz.func14, Tryz.ntmps14
      go_wp2_with (rw [← hW0, ← hg]; clear hW0 hg)
      go_loopw [5, 6] (fun u t wr => u = .slice none 0 0 ∧ t = .int .i64 0 ∧ wr = W0) (fun _ _ _ => 0)
      case atStart => exact ⟨rfl, rfl, rfl⟩
      case round =>
        obtain ⟨rfl, rfl, rfl⟩ := hrel
        go_wp2_with fail
        go_ret
        exact ⟨none, 0, 0, rfl, by rw [hwo.out]; exact LAt.nil _ _ _, Nat.le_refl _, by omega, hbo.out⟩
    · have d1 : decide (0 < n) = true := decide_eq_true hn0
      have d1' : decide ((0 : Int) < (n : Int)) = true := decide_eq_true (by omega)
      by_cases h0 : 0 ≤ o
      · have h1 : ¬ o < (n : Int) := by omega
        have d2 : decide (0 ≤ o) = true := decide_eq_true h0
        have d3 : decide (o < (n : Int)) = false := decide_eq_false h1
        go_enter Tryz.func14, Tryz.ntmps14
        go_wp2_with (rw [← hW0, ← hg]; clear hW0 hg)
        go_loopw [5, 6] (fun u t wr => u = .slice none 0 0 ∧ t = .int .i64 0 ∧ wr = W0) (fun _ _ _ => 0)
        case atStart => exact ⟨rfl, rfl, rfl⟩
        case round =>
          obtain ⟨rfl, rfl, rfl⟩ := hrel
          go_wp2_with fail
          go_ret
          exact ⟨none, 0, 0, rfl, by rw [hwo.out]; exact LAt.nil _ _ _, Nat.le_refl _, by omega, hbo.out⟩
      · have d2 : decide (0 ≤ o) = false := decide_eq_false h0
        go_enter Tryz.func14, Tryz.ntmps14
        go_wp2_with (rw [← hW0, ← hg]; clear hW0 hg)
        go_loopw [5, 6] (fun u t wr => u = .slice none 0 0 ∧ t = .int .i64 0 ∧ wr = W0) (fun _ _ _ => 0)
        case atStart => exact ⟨rfl, rfl, rfl⟩
        case round =>
          obtain ⟨rfl, rfl, rfl⟩ := hrel
          go_wp2_with fail
          go_ret
          exact ⟨none, 0, 0, rfl, by rw [hwo.out]; exact LAt.nil _ _ _, Nat.le_refl _, by omega, hbo.out⟩
/-- a list in a block of the call's own -/
def RetILF (xs : List Int) (w : World) (e : Ending) (w' : World) : Prop := ∃ A n c, e = .returned (.slice A n c) ∧ LAt encI w' A n xs ∧ n ≤ c ∧ c ≤ 9223372036854775807 ∧ Below w.heap.size w w' ∧ ∀ ad, A = some ad → w.heap.size ≤ ad.block
set_option maxRecDepth 100000 in
set_option maxHeartbeats 2000000 in
theorem ref16_KeptF (v : FV) (f : Fac) (o : Int) (w : World) (hF : FactsAt w v f) (hvm : v.m ≤ 1048576) :
    Calls Tryz.prog 18 #[.agg #[.slice v.A v.n v.c, .slice v.B v.m v.d, .slice v.C v.k v.e], .int .i64 o] w (RetILF (keptF f.items (pastF f.items o f.items.length)) w) := by
  have hil := hF.is.len
  obtain ⟨i0, hi, hz0, hz1, hz2⟩ := info_parts info_int16
  replace hi := Lib.hid hi
  replace hz0 := Lib.hid hz0
  replace hz1 := Lib.hid hz1
  replace hz2 := Lib.hid hz2
  -- a call with facts v: they are boxed at g, the world is W0 then
  have hB0 := Lib.hid (FBox.new hF)
  obtain ⟨g, hg⟩ : ∃ g, g = w.heap.size := ⟨_, rfl⟩
  obtain ⟨W0, hW0⟩ : ∃ W, W = w.alloc (.cells #[.slice v.A v.n v.c, .slice v.B v.m v.d, .slice v.C v.k v.e] 29) := ⟨_, rfl⟩
  rw [← hW0, ← hg] at hB0
  clear hF
  obtain ⟨l, hl⟩ : ∃ l, l = pastF f.items o f.items.length := ⟨_, rfl⟩
  have cP := ref12_Past v f o W0 hB0.out.f hvm
  rw [← hl] at cP ⊢
  have hlr : Hid (∀ z ∈ l, 0 ≤ z ∧ z < (v.m : Int)) := Lib.hid (by rw [hl, ← hil]; exact pastF_ok _ _ _)
  have hlm : l.length ≤ v.m := by rw [hl, ← hil]; exact pastF_len _ _ _
  replace cP := Lib.hid cP
  replace hil := Lib.hid hil
  clear hl
  have p0 := hB0.out.c0
  have p1 := hB0.out.c1
  have p2 := hB0.out.c2
  go_enter Tryz.func18, Tryz.ntmps18
  go_wp2_with (rw [← hW0, ← hg]; clear hW0 hg)
  refine cP.out.mono ?_; rintro e w1 ⟨D, m, d, rfl, hL, hmd, hdm, b1⟩
  have hml : m ≤ v.m := by rw [← hL.len]; exact hlm
  have hB1 := Lib.hid (hB0.out.later b1)
  replace hL := Lib.hid hL
  clear b1 cP hlm p0 p1 p2
  go_wp2_with fail
  go_loopw [5, 7] (fun u t wr => ∃ k : Nat, k ≤ m ∧ t = .int .i64 k ∧ Hid (Below w1.heap.size w1 wr) ∧ Hid (wr.ownsRow w1.heap.size 3 1 u (keptF f.items (l.take k)).length (encI.all (keptF f.items (l.take k))))) (fun _ t _ => m - (intOf t).toNat)
  case atStart => exact ⟨0, Nat.zero_le _, rfl, Lib.hid (Below.refl _ _), Lib.hid (World.ownsRow_nil _ _ _ _)⟩
  case round =>
    obtain ⟨k, hk, rfl, hb, hown⟩ := hrel
    obtain ⟨W0, hW0⟩ : ∃ W0, W0 = w1 := ⟨_, rfl⟩
    rw [← hW0] at hb hown
    have hB := Lib.hid (hB1.out.later (by rw [← hW0]; exact hb.out))
    have hLr := hL.out.below (by rw [← hW0]; exact hb.out)
    replace hW0 := Lib.hid hW0
    have p0 := hB.out.c0
    have p1 := hB.out.c1
    have p2 := hB.out.c2
    have hrl : (keptF f.items (l.take k)).length ≤ k := Nat.le_trans (List.length_filter_le _ _) (List.length_take_le _ _)
    obtain ⟨L, hLl⟩ : ∃ L, L = (keptF f.items (l.take k)).length := ⟨_, rfl⟩
    rw [← hLl] at hown hrl
    replace hLl := Lib.hid hLl
    by_cases hlt : k < m
    · have hlt' : (k : Int) < (m : Int) := by omega
      have k0 : 0 ≤ (k : Int) ∧ (k : Int) < (m : Int) := ⟨by omega, hlt'⟩
      obtain ⟨lb, lo, z, rfl, hlb, hz, ⟨z0, z1⟩, j0⟩ := hLr.int hlt
      have hrs : keptF f.items (l.take (k + 1)) = if rdOK f.items z = true then keptF f.items (l.take k) ++ [z] else keptF f.items (l.take k) := filter_take hz
      have hzb := hlr.out z (List.mem_of_getElem? hz)
      obtain ⟨ib, io, it, hxB, hib, hq, -, i0, i1, i2, i3, i4⟩ := hB.out.f.is.item (show z.toNat < v.m by omega)
      rw [hxB] at p1
      rw [rdOK_at hq] at hrs
      obtain ⟨s1, t1, w1', a1, l1⟩ := it
      simp only at i2 hrs
      clear i0 i1 i3 i4 hxB hq hib hz hlb
      go_wp2_with fail
      refine wp_region_plan 10 [(true, 0), (true, 1), (true, 2), (true, 3), (true, 4), (true, 5), (true, 6), (true, 7), (true, 8), (true, 9)] (by kernel_rfl) (by kernel_rfl) (fun Wq hWq => ?_)
      have hown3 := Lib.hid (show Wq.ownsRow W0.heap.size 3 1 _ L (encI.all (keptF f.items (l.take k))) from by rw [hWq.out]; exact hown.out.drew)
      have hb3 := Lib.hid (show Below W0.heap.size W0 Wq from by rw [hWq.out]; exact hb.out.drew)
      have j0' : Wq.cell? ⟨lb, lo + k, none⟩ = some (.int .i64 z) := by rw [hWq.out]; exact j0
      have q1 : Wq.cell? ⟨g, 1, none⟩ = some (.slice (some ⟨ib, io, none⟩) v.m v.d) := by rw [hWq.out]; exact p1
      have q2 : Wq.cell? ⟨ib, io + z.toNat * 5 + 2, none⟩ = some (.bool w1') := by rw [hWq.out]; exact i2
      clear hWq j0 p0 p1 p2 i2
      simp only [List.drop_succ_cons, List.drop_nil]
      iterate 10
        refine wpPlan_float (v := ?_) rfl (by rfl) (fun w' hw' => ?_) (fun K hK => ?_)
        rotate_left
        · (go_simp; try with_reducible rfl)
        go_simp
        refine hK _ ?_
        clear hK K
      refine wpPlan_nil (NoPanic.normal ?_)
      cases w1' with
      | true =>
        rw [if_neg (by simp)] at hrs
        replace hrs := Lib.hid hrs
        replace hlt := Lib.hid hlt
        go_wp2_with fail
        exact ⟨⟨k + 1, by omega, by go_num, Lib.hid (by have := hb3.out; rw [hW0.out] at this; exact this), Lib.hid (by rw [hrs.out, ← hLl.out, ← hW0.out]; exact hown3.out)⟩, by simp [intOf]; omega⟩
      | false =>
        rw [if_pos (by simp)] at hrs
        replace hrs := Lib.hid hrs
        replace hlt := Lib.hid hlt
        -- 'append(out, z)' (temps 27 32) in the world Wq: hown : the row (keptF f.items (l.take k)) of length L (hL), hb : Below W0 .. Wq; behind it: hown', hb7
        obtain ⟨gl, hgl⟩ : ∃ g, g = (Wq).heap.size := ⟨_, rfl⟩
        obtain ⟨VL, hVL⟩ : ∃ W, W = World.alloc (Wq) (.cells #[.int .i64 z] 3) := ⟨_, rfl⟩
        have bL : Below (Wq).heap.size (Wq) VL := by rw [hVL]; exact (Below.refl _ _).alloc (Nat.le_refl _) _
        have hlit := Lib.hid (show LAt encI VL (some ⟨gl, 0, none⟩) 1 [z] from by rw [hVL, hgl]; exact LAt.lit1 (E := encI) (Wq) 3 z ⟨by omega, by omega⟩)
        have hownL := Lib.hid (own_below hown3.out bL)
        have bWL := Lib.hid (below_trans2 hb3.out bL)
        have hbase := Lib.hid bWL.out.size
        clear bL
        go_wp2_with (first
          | (rw [← hVL, ← hgl]; clear hVL hgl)
          | (at_builtin; refine wpList_append_L (E := encI) rfl (.tmp 27) (.tmp 32) _ rfl W0.heap.size 3 i0 _ 8 Tryz.underlying27 hi.out hz0.out hz1.out hz2.out rfl _ L (keptF f.items (l.take k)) (by rfl) hownL.out _ 1 1 _ rfl hlit.out (by unfold maxLen; omega) (by omega) hbase.out ?_; intro v' w7 hown' hb7 _ _))
        exact ⟨⟨k + 1, by omega, by go_num, Lib.hid (by have := bWL.out.trans hb7; rw [hW0.out] at this; exact this), Lib.hid (by rw [hrs.out, List.length_append, ← hLl.out, ← hW0.out]; exact hown')⟩, by simp [intOf]; omega⟩
    · have hlt' : ¬ (k : Int) < (m : Int) := by omega
      obtain rfl : k = m := by omega
      have hta : l.take k = l := List.take_of_length_le (by rw [hL.out.len]; omega)
      rw [hta] at hown hLl
      have hfr := Lib.hid (own_lt_block hown.out)
      obtain ⟨A2, c2, rfl, hnc, hcm, hLA⟩ := LAt.of_own hown.out (fun z hz => hL.out.okAll z (List.mem_filter.1 hz).1) hLl.out.symm
      clear hlt hta hLr
      go_wp2_with fail
      go_ret
      exact ⟨A2, L, c2, rfl, hLA, hnc, hcm, hB.out.o, fun ad e => by subst e; have h1 := hfr.out _ rfl; have h2 := hB1.out.o.size; rw [hW0.out] at h1; exact Nat.le_trans h2 h1⟩
theorem ref16_Kept (v : FV) (f : Fac) (o : Int) (w : World) (hF : FactsAt w v f) (hvm : v.m ≤ 1048576) :
    Calls Tryz.prog 18 #[.agg #[.slice v.A v.n v.c, .slice v.B v.m v.d, .slice v.C v.k v.e], .int .i64 o] w (RetIL (keptF f.items (pastF f.items o f.items.length)) w) :=
  (ref16_KeptF v f o w hF hvm).mono fun _ _ ⟨A', n', c', h1, h2, h3, h4, h5, _⟩ => ⟨A', n', c', h1, h2, h3, h4, h5⟩
end Go.Proofs.YtbeigdbljepfkaaGreat

namespace Go.Proofs.YtbeigdbljepfkaaGreat
open Go.RowKit
set_option linter.unusedVariables false
theorem info_edge : (Tryz.prog.info? 55).map (fun i => (i.zero, i.size, i.bytes)) = some (some (.agg #[.int .i64 0, .int .i64 0, .int .i64 0]), 3, 24) := by kernel_rfl
end Go.Proofs.YtbeigdbljepfkaaGreat

namespace Go.Proofs.YtbeigdbljepfkaaGreat
open Go.RowKit
set_option linter.unusedVariables false
theorem encI_all18 (ds : List Int) : encI.all ds = ds.map i64v := by
  induction ds with
  | nil => rfl
  | cons d ds ih => rw [Enc.all_cons, ih]; rfl
theorem LAt.ints {w : World} {A : Option Addr} {n : Nat} {zs : List Int} (h : LAt encI w A n zs) : Ints w A n zs :=
  ⟨⟨by rw [List.length_map]; exact h.len, fun hn => by
    obtain ⟨b, off, e, hb, hc⟩ := h.2.2 hn
    exact ⟨b, off, e, hb, fun j u hu => hc j u (by rw [encI_all18]; exact hu)⟩⟩, h.okAll⟩
/-- a list of conflicts in a block of the call's own -/
def RetELF (xs : List Ed) (w : World) (e : Ending) (w' : World) : Prop := ∃ A n c, e = .returned (.slice A n c) ∧ LAt encE w' A n xs ∧ n ≤ c ∧ c ≤ 9223372036854775807 ∧ Below w.heap.size w w' ∧ ∀ ad, A = some ad → w.heap.size ≤ ad.block
set_option maxRecDepth 100000 in
set_option maxHeartbeats 4000000 in
theorem ref18_NewF (v : FV) (f : Fac) (A : Option Addr) (c : Nat) (X : List (List Nat)) (D : Option Addr) (m d : Nat) (kept : List Int) (w : World) (hF : FactsAt w v f) (hr : RowsAt w A v.m X) (hG : Good v.m X) (hL : LAt encI w D m kept) (hk : ∀ r ∈ kept, 0 ≤ r ∧ r < (v.m : Int)) (hvm : v.m ≤ 64) (hm : m ≤ 64) (hw : WholeF f) :
    Calls Tryz.prog 19 #[.agg #[.slice v.A v.n v.c, .slice v.B v.m v.d, .slice v.C v.k v.e], .agg #[.int .i64 (v.m : Int), .slice A v.m c], .slice D m d] w (RetELF (newF f X kept) w) := by
  have hil := hF.is.len
  have hkm := Lib.hid (show v.k = v.m from by rw [← hil, ← hF.fs.len]; exact hw.len)
  have hEok := Lib.hid (newF_okE (f := f) (X := X) (kept := kept) (by rw [hil]; exact hk) (by omega))
  unfold newF at hEok ⊢
  rw [hil] at hEok ⊢
  replace hk := Lib.hid hk
  clear hw hil
  obtain ⟨i0, hi, hz0, hz1, hz2⟩ := info_parts info_edge
  replace hi := Lib.hid hi
  replace hz0 := Lib.hid hz0
  replace hz1 := Lib.hid hz1
  replace hz2 := Lib.hid hz2
  replace hL := Lib.hid hL
  -- a call with facts v and the matrix (A v.m c a), hr : RowsAt w ..: boxed at g (W0), gm (W1): hB1, hM1
  -- a call with facts v: they are boxed at g, the world is W0 then
  have hB0 := Lib.hid (FBox.new hF)
  obtain ⟨g, hg⟩ : ∃ g, g = w.heap.size := ⟨_, rfl⟩
  obtain ⟨W0, hW0⟩ : ∃ W, W = w.alloc (.cells #[.slice v.A v.n v.c, .slice v.B v.m v.d, .slice v.C v.k v.e] 29) := ⟨_, rfl⟩
  rw [← hW0, ← hg] at hB0
  clear hF
  replace hr := hr.below hB0.out.o
  have hM1 := Lib.hid (MatK.new (N := (v.m : Int)) (c := c) W0 34 hr)
  obtain ⟨gm, hgm⟩ : ∃ g, g = W0.heap.size := ⟨_, rfl⟩
  obtain ⟨W1, hW1⟩ : ∃ W, W = W0.alloc (.cells #[.int .i64 (v.m : Int), .slice A v.m c] 34) := ⟨_, rfl⟩
  rw [← hW1, ← hgm] at hM1
  have hB1 := Lib.hid (hB0.out.later (show Below W0.heap.size W0 W1 from by rw [hW1]; exact below_alloc _ _))
  clear hr hB0
  have hL1 := Lib.hid (hL.out.below hB1.out.o)
  go_enter Tryz.func19, Tryz.ntmps19
  go_wp2_with (first | (rw [← hW0, ← hg]; clear hW0 hg) | (rw [← hW1, ← hgm]; clear hW1 hgm))
  go_loopw [7, 8] (fun u t wr => ∃ i : Nat, i ≤ v.m ∧ t = .int .i64 (i : Int) ∧ Hid (Below W1.heap.size W1 wr) ∧ Hid (wr.ownsRow W1.heap.size 55 3 u (nwA f X kept v.m i).length (encE.all (nwA f X kept v.m i)))) (fun _ t _ => v.m - (intOf t).toNat)
  case atStart => exact ⟨0, Nat.zero_le _, rfl, Lib.hid (Below.refl _ _), Lib.hid (World.ownsRow_nil _ _ _ _)⟩
  case round =>
    obtain ⟨i, hi0, rfl, hb, hown⟩ := hrel
    have hB := Lib.hid (hB1.out.later hb.out)
    have p0 := hB.out.c0
    have p1 := hB.out.c1
    have p2 := hB.out.c2
    by_cases hli : i < v.m
    · have hli' : (i : Int) < (v.m : Int) := by omega
      go_wp2_with fail
      clear p0 p1 p2 hB
      go_loopw [7, 9] (fun u t wr => ∃ j : Nat, j ≤ v.m ∧ t = .int .i64 (j : Int) ∧ Hid (Below W1.heap.size W1 wr) ∧ Hid (wr.ownsRow W1.heap.size 55 3 u (nwA f X kept v.m i ++ nwB f X kept i j).length (encE.all (nwA f X kept v.m i ++ nwB f X kept i j)))) (fun _ t _ => v.m - (intOf t).toNat)
      case atStart => exact ⟨0, Nat.zero_le _, rfl, hb, Lib.hid (by rw [nwB_zero, List.append_nil]; exact hown.out)⟩
      case round =>
        clear hb hown
        obtain ⟨j, hj0, rfl, hb, hown⟩ := hrel
        have hB := Lib.hid (hB1.out.later hb.out)
        have hM := Lib.hid (hM1.out.below hb.out)
        have p0 := hB.out.c0
        have p1 := hB.out.c1
        have p2 := hB.out.c2
        have m0 := hM.out.1.c0
        have m1 := hM.out.1.c1
        by_cases hlj : j < v.m
        · have hlj' : (j : Int) < (v.m : Int) := by omega
          have bi : 0 ≤ (i : Int) ∧ (i : Int) < (v.m : Int) := by omega
          have bj : 0 ≤ (j : Int) ∧ (j : Int) < (v.m : Int) := by omega
          obtain ⟨ib, io, x, hxB, hib, hx, -, i0, i1, i2, i3, i4⟩ := hB.out.f.is.item hli
          rw [hxB] at p1
          by_cases hij : i = j
          · have e0 : ((i : Int) == (j : Int)) = true := by simp [hij]
            have hno : nwG f X i j = false := by unfold nwG; rw [decide_eq_false (by omega)]; rfl
            replace hij := Lib.hid hij
            clear i0 i1 i2 i3 i4 hx hxB hib
            -- this b is passed over: hno : nwG f X a b = false
            have hnw : Hid (nwO f X kept i j = none) := Lib.hid (by unfold nwO; rw [if_neg (by rw [hno]; simp)])
            replace hno := Lib.hid hno
            clear hlj
            go_wp2_with fail
            go_quiet (fail)
            go_wp2_with fail
            exact ⟨⟨j + 1, by have := hlj'; omega, by go_num, Lib.hid (below_drewN hb.out _), Lib.hid (by rw [nwB_succ, hnw.out]; simp only [Option.toList_none, List.append_nil]; exact own_below hown.out (below_drewN (Below.refl _ _) _))⟩, by have := hlj'; simp [intOf]; omega⟩
          · have e0 : ((i : Int) == (j : Int)) = false := by simp; omega
            obtain ⟨jb, jo, y, hyB, hjb, hy, -, j0, j1, j2, j3, j4⟩ := hB.out.f.is.item hlj
            rw [hxB] at hyB
            injection hyB with hyB
            injection hyB with h1 h2
            subst h1; subst h2
            have hno : nwG f X i j = ((x.wr && y.wr && decide (x.va = y.va)) && !(hasM X (i : Int) (j : Int))) := by
              unfold nwG; rw [bothW_at hx hy, decide_eq_true hij, Bool.true_and]
            replace hij := Lib.hid hij
            obtain ⟨xs, xp, xw, xa, xl⟩ := x
            obtain ⟨ys, yp, yw, ya, yl⟩ := y
            simp only at i2 i3 j2 j3 hno
            clear i0 i1 i4 j0 j1 j4 hx hy hxB hib hjb
            cases xw with
            | false =>
              rw [Bool.false_and, Bool.false_and, Bool.false_and] at hno
              -- this b is passed over: hno : nwG f X a b = false
              have hnw : Hid (nwO f X kept i j = none) := Lib.hid (by unfold nwO; rw [if_neg (by rw [hno]; simp)])
              replace hno := Lib.hid hno
              clear hlj
              go_wp2_with fail
              go_quiet (fail)
              go_wp2_with fail
              exact ⟨⟨j + 1, by have := hlj'; omega, by go_num, Lib.hid (below_drewN hb.out _), Lib.hid (by rw [nwB_succ, hnw.out]; simp only [Option.toList_none, List.append_nil]; exact own_below hown.out (below_drewN (Below.refl _ _) _))⟩, by have := hlj'; simp [intOf]; omega⟩
            | true =>
              cases yw with
              | false =>
                rw [Bool.and_false, Bool.false_and, Bool.false_and] at hno
                -- this b is passed over: hno : nwG f X a b = false
                have hnw : Hid (nwO f X kept i j = none) := Lib.hid (by unfold nwO; rw [if_neg (by rw [hno]; simp)])
                replace hno := Lib.hid hno
                clear hlj
                go_wp2_with fail
                go_quiet (fail)
                go_wp2_with fail
                exact ⟨⟨j + 1, by have := hlj'; omega, by go_num, Lib.hid (below_drewN hb.out _), Lib.hid (by rw [nwB_succ, hnw.out]; simp only [Option.toList_none, List.append_nil]; exact own_below hown.out (below_drewN (Below.refl _ _) _))⟩, by have := hlj'; simp [intOf]; omega⟩
              | true =>
                by_cases hva : xa = ya
                · have e1 : (xa != ya) = false := by simp [hva]
                  rw [decide_eq_true hva, Bool.and_true, Bool.and_true, Bool.true_and] at hno
                  replace hva := Lib.hid hva
                  have cH := fun W hW => ref3_HasG A v.m c X hG (i : Int) (j : Int) W hW
                  go_wp2_with fail
                  refine wp_region_plan 42 [(true, 0), (true, 1), (true, 2), (true, 3), (true, 4), (true, 5), (true, 6), (true, 7), (true, 8), (true, 9), (true, 10), (true, 11), (true, 12), (true, 13), (true, 14), (true, 15), (true, 16), (true, 17), (true, 18), (true, 19), (true, 20), (true, 21), (true, 22), (true, 23), (true, 24), (true, 25), (true, 26), (true, 27), (true, 28), (true, 29), (true, 30), (true, 31), (true, 32), (true, 33), (true, 34), (true, 35), (true, 36), (true, 37), (true, 38), (true, 39), (false, 40), (true, 41)] (by kernel_rfl) (by kernel_rfl) (fun U hU => ?_)
                  have hU' : Below wr.heap.size wr U := by rw [hU.out]; exact (Below.refl _ _).drew
                  have drw : ∀ p u, wr.cell? p = some u → U.cell? p = some u := fun p u h => by rw [hU.out]; exact h
                  replace i2 := drw _ _ i2
                  replace i3 := drw _ _ i3
                  replace j2 := drw _ _ j2
                  replace j3 := drw _ _ j3
                  replace p1 := drw _ _ p1
                  replace m0 := drw _ _ m0
                  replace m1 := drw _ _ m1
                  clear drw
                  replace hM := Lib.hid (hM.out.below hU')
                  replace hown := Lib.hid (own_below hown.out hU')
                  replace hb := Lib.hid (below_trans2 hb.out hU')
                  clear hU hU' p0 p2
                  simp only [List.drop_succ_cons, List.drop_nil]
                  replace hlj := Lib.hid hlj
                  iterate 40
                    refine wpPlan_float (v := ?_) rfl (by rfl) (fun w' hw' => ?_) (fun K hK => ?_)
                    rotate_left
                    · (go_simp; try with_reducible rfl)
                    go_simp
                    refine hK _ ?_
                    clear hK K
                  clear p1 m0 m1 i2 i3 j2 j3
                  cases hh : hasM X (i : Int) (j : Int) with
                  | true =>
                    rw [hh] at hno cH
                    have hnw : Hid (nwO f X kept i j = none) := Lib.hid (by unfold nwO; rw [if_neg (by rw [hno]; simp)])
                    replace hno := Lib.hid hno
                    replace cH := Lib.hid cH
                    clear hh
                    refine wpPlan_only rfl (by rfl) (fun K hK => ?_)
                    go_simp
                    refine (cH.out U hM.out.2).mono ?_
                    rintro e x3 ⟨rfl, bx⟩
                    refine hK _ _ bx ?_
                    clear hK K
                    replace hown := Lib.hid (own_below hown.out bx)
                    replace hb := Lib.hid (below_trans2 hb.out bx)
                    clear bx hM
                    iterate 1
                      refine wpPlan_float (v := ?_) rfl (by rfl) (fun w' hw' => ?_) (fun K hK => ?_)
                      rotate_left
                      · (go_simp; try with_reducible rfl)
                      go_simp
                      refine hK _ ?_
                      clear hK K
                    refine wpPlan_nil (NoPanic.normal ?_)
                    go_wp2_with fail
                    exact ⟨⟨j + 1, by have := hlj.out; omega, by go_num, hb, Lib.hid (by rw [nwB_succ, hnw.out]; simp only [Option.toList_none, List.append_nil]; exact hown.out)⟩, by have := hlj.out; simp [intOf]; omega⟩
                  | false =>
                    rw [hh] at hno cH
                    have hnw : Hid (nwO f X kept i j = (kept.find? (nwK f X i j)).map (fun r => ⟨(i : Int), (j : Int), r⟩)) := Lib.hid (by unfold nwO; rw [if_pos (by rw [hno]; rfl)])
                    replace hno := Lib.hid hno
                    replace cH := Lib.hid cH
                    clear hh
                    refine wpPlan_only rfl (by rfl) (fun K hK => ?_)
                    go_simp
                    refine (cH.out U hM.out.2).mono ?_
                    rintro e x3 ⟨rfl, bx⟩
                    refine hK _ _ bx ?_
                    clear hK K
                    replace hown := Lib.hid (own_below hown.out bx)
                    replace hb := Lib.hid (below_trans2 hb.out bx)
                    clear bx hM cH
                    have hS0 := nwA_len (f := f) (X := X) (kept := kept) v.m i
                    have hS1 := nwB_len (f := f) (X := X) (kept := kept) i j
                    obtain ⟨S2, hS2⟩ : ∃ S, S = nwA f X kept v.m i ++ nwB f X kept i j := ⟨_, rfl⟩
                    have hS2l : S2.length ≤ 1048576 := by
                      rw [hS2, List.length_append]
                      have q1 : i * v.m ≤ 64 * 64 := Nat.mul_le_mul (by omega) hvm
                      omega
                    rw [← hS2] at hown
                    obtain ⟨L, hLl⟩ : ∃ L, L = S2.length := ⟨_, rfl⟩
                    rw [← hLl] at hown hS2l
                    replace hLl := Lib.hid hLl
                    replace hS2 := Lib.hid hS2
                    clear hS0 hS1
                    iterate 1
                      refine wpPlan_float (v := ?_) rfl (by rfl) (fun w' hw' => ?_) (fun K hK => ?_)
                      rotate_left
                      · (go_simp; try with_reducible rfl)
                      go_simp
                      refine hK _ ?_
                      clear hK K
                    refine wpPlan_nil (NoPanic.normal ?_)
                    go_wp2_with fail
                    go_loopw [7, 10] (fun u t wr => ∃ k : Nat, k ≤ m ∧ t = .int .i64 (k : Int) ∧ Hid (∀ q, q < k → ∀ r, kept[q]? = some r → nwK f X i j r = false) ∧ Hid (Below W1.heap.size W1 wr) ∧ Hid (wr.ownsRow W1.heap.size 55 3 u L (encE.all S2))) (fun _ t _ => m - (intOf t).toNat)
                    case atStart => exact ⟨0, Nat.zero_le _, rfl, Lib.hid (fun q h => absurd h (by omega)), hb, hown⟩
                    case round =>
                      clear hb hown
                      obtain ⟨k, hk0, rfl, hall, hb, hown⟩ := hrel
                      by_cases hkl : k < m
                      · have hkl' : (k : Int) < (m : Int) := by omega
                        have bk : 0 ≤ (k : Int) ∧ (k : Int) < (m : Int) := by omega
                        have hB := Lib.hid (hB1.out.later hb.out)
                        have hM := Lib.hid (hM1.out.below hb.out)
                        have p0 := hB.out.c0
                        have p1 := hB.out.c1
                        have p2 := hB.out.c2
                        have m0 := hM.out.1.c0
                        have m1 := hM.out.1.c1
                        obtain ⟨rb, ro, r, hDr, -, hr, -, r0⟩ := (hL1.out.below hb.out).int hkl
                        have hrr := hk.out r (List.mem_of_getElem? hr)
                        obtain ⟨zb, zo, z, hzC, -, hz, -, k0⟩ := hB.out.f.fs.int (show r.toNat < v.k by have := hkm.out; omega)
                        rw [hzC] at p2
                        subst hDr
                        have hgd : f.frm.getD r.toNat 0 = z := by rw [List.getD_eq_getElem?_getD, hz]; rfl
                        have brr : 0 ≤ r ∧ r < (v.k : Int) := by have := hkm.out; omega
                        have hnk : nwK f X i j r = (decide (z = (j : Int)) && hasM X (i : Int) r) := by unfold nwK; rw [hgd]
                        have cH := ref3_HasG A v.m c X hG (i : Int) r wr hM.out.2
                        have hnx : nwK f X i j r = false → Hid (∀ q, q < k + 1 → ∀ r, kept[q]? = some r → nwK f X i j r = false) := fun h => Lib.hid (fun q hq y hy => by
                          rcases Nat.lt_succ_iff_lt_or_eq.1 hq with h1 | h1
                          · exact hall.out q h1 y hy
                          · subst h1
                            rw [hr] at hy
                            injection hy with hy
                            rw [← hy]; exact h)
                        replace hgd := Lib.hid hgd
                        replace hrr := Lib.hid hrr
                        replace hkl := Lib.hid hkl
                        replace hr := Lib.hid hr
                        clear hz hzC
                        by_cases hzj : z = (j : Int)
                        · have e2 : (z == (j : Int)) = true := by simp [hzj]
                          rw [decide_eq_true hzj, Bool.true_and] at hnk
                          replace hzj := Lib.hid hzj
                          cases hh : hasM X (i : Int) r with
                          | true =>
                            rw [hh] at hnk cH
                            have hfo : Hid (nwO f X kept i j = some ⟨(i : Int), (j : Int), r⟩) := Lib.hid (by
                              have hq := (List.getElem?_eq_some_iff.1 hr.out).1
                              rw [hnw.out, List.find?_eq_some_iff_getElem.2 ⟨hnk, k, hq, (List.getElem?_eq_some_iff.1 hr.out).2, fun q hq' => by
                                rw [hall.out q hq' _ (List.getElem?_eq_getElem (by omega))]; rfl⟩]
                              rfl)
                            replace cH := Lib.hid cH
                            clear hh hnk hnx
                            have hrr' := hrr.out
                            go_wp2_with fail
                            refine cH.out.mono ?_; rintro e w5 ⟨rfl, b5⟩
                            have hown5 := Lib.hid (own_below hown.out b5)
                            have hb5 := Lib.hid (below_trans2 hb.out b5)
                            clear b5 cH k0 p0 p1 p2 m0 m1 r0
                            -- 'append(out, Edge{(i : Int), (j : Int), r})' (temps 91 96) in the world w5: hown : the row S2 of length L (hL), hb : Below W1 .. w5; behind it: hown', hb7
                            obtain ⟨gl, hgl⟩ : ∃ g, g = (w5).heap.size := ⟨_, rfl⟩
                            obtain ⟨VL, hVL⟩ : ∃ W, W = World.alloc (w5) (.cells #[.int .i64 (i : Int), .int .i64 (j : Int), .int .i64 r] 55) := ⟨_, rfl⟩
                            have bL : Below (w5).heap.size (w5) VL := by rw [hVL]; exact (Below.refl _ _).alloc (Nat.le_refl _) _
                            have hlit := Lib.hid (show LAt encE VL (some ⟨gl, 0, none⟩) 1 [⟨(i : Int), (j : Int), r⟩] from by rw [hVL, hgl]; exact LAt.lit1 (E := encE) (w5) 55 ⟨(i : Int), (j : Int), r⟩ ⟨by simp only; omega, by simp only; omega, by simp only; omega, by simp only; omega, by simp only; omega, by simp only; omega⟩)
                            have hownL := Lib.hid (own_below hown5.out bL)
                            have bWL := Lib.hid (below_trans2 hb5.out bL)
                            have hbase := Lib.hid bWL.out.size
                            clear bL
                            go_wp2_with (first
                              | (rw [← hVL, ← hgl]; clear hVL hgl)
                              | (at_builtin; refine wpList_append_L (E := encE) rfl (.tmp 91) (.tmp 96) _ rfl W1.heap.size 55 i0 _ 24 Tryz.underlying36 hi.out hz0.out hz1.out hz2.out rfl _ L S2 (by rfl) hownL.out _ 1 1 _ rfl hlit.out (by unfold maxLen; omega) (by omega) hbase.out ?_; intro v' w7 hown' hb7 _ _))
                            exact ⟨⟨j + 1, by have := hlj.out; omega, by go_num, Lib.hid (bWL.out.trans hb7), Lib.hid (by rw [nwB_succ, hfo.out, ← List.append_assoc, ← hS2.out]; simp only [Option.toList_some]; rw [List.length_append, ← hLl.out]; exact hown')⟩, by have := hlj.out; simp [intOf]; omega⟩
                          | false =>
                            rw [hh] at hnk cH
                            have hnn := hnx hnk
                            replace cH := Lib.hid cH
                            clear hh hnk hnx
                            go_wp2_with fail
                            refine cH.out.mono ?_; rintro e w5 ⟨rfl, b5⟩
                            have hown5 := Lib.hid (own_below hown.out b5)
                            have hb5 := Lib.hid (below_trans2 hb.out b5)
                            clear b5 cH k0 p0 p1 p2 m0 m1 r0
                            go_wp2_with fail
                            exact ⟨⟨k + 1, by have := hkl.out; omega, by go_num, hnn, hb5, hown5⟩, by have := hkl.out; simp [intOf]; omega⟩
                        · have e2 : (z == (j : Int)) = false := by simpa using hzj
                          rw [decide_eq_false hzj, Bool.false_and] at hnk
                          have hnn := hnx hnk
                          replace hzj := Lib.hid hzj
                          clear hnk hnx cH
                          go_wp2_with fail
                          exact ⟨⟨k + 1, by have := hkl.out; omega, by go_num, hnn, hb, hown⟩, by have := hkl.out; simp [intOf]; omega⟩
                      · have hkl' : ¬ (k : Int) < (m : Int) := by omega
                        have hno' : Hid (nwO f X kept i j = none) := Lib.hid (by
                          rw [hnw.out, List.find?_eq_none.2 (fun r hr => by
                            obtain ⟨q, hq, e⟩ := List.getElem_of_mem hr
                            rw [hall.out q (by have := hL.out.len; omega) r (by rw [List.getElem?_eq_getElem hq, e])]
                            simp)]
                          rfl)
                        clear hkl
                        go_wp2_with fail
                        exact ⟨⟨j + 1, by have := hlj.out; omega, by go_num, hb, Lib.hid (by rw [nwB_succ, hno'.out]; simp only [Option.toList_none, List.append_nil]; rw [← hS2.out, ← hLl.out]; exact hown.out)⟩, by have := hlj.out; simp [intOf]; omega⟩
                · have e1 : (xa != ya) = true := by simpa using hva
                  rw [decide_eq_false hva, Bool.and_false, Bool.false_and] at hno
                  replace hva := Lib.hid hva
                  -- this b is passed over: hno : nwG f X a b = false
                  have hnw : Hid (nwO f X kept i j = none) := Lib.hid (by unfold nwO; rw [if_neg (by rw [hno]; simp)])
                  replace hno := Lib.hid hno
                  clear hlj
                  go_wp2_with fail
                  go_quiet (fail)
                  go_wp2_with fail
                  exact ⟨⟨j + 1, by have := hlj'; omega, by go_num, Lib.hid (below_drewN hb.out _), Lib.hid (by rw [nwB_succ, hnw.out]; simp only [Option.toList_none, List.append_nil]; exact own_below hown.out (below_drewN (Below.refl _ _) _))⟩, by have := hlj'; simp [intOf]; omega⟩
        · have hlj' : ¬ (j : Int) < (v.m : Int) := by omega
          obtain rfl : j = v.m := by omega
          clear hlj
          go_wp2_with fail
          exact ⟨⟨i + 1, by omega, by go_num, hb, Lib.hid (by rw [nwA_succ]; exact hown.out)⟩, by simp [intOf]; omega⟩
    · have hli' : ¬ (i : Int) < (v.m : Int) := by omega
      obtain rfl : i = v.m := by omega
      have hfr := Lib.hid (own_lt_block hown.out)
      obtain ⟨A2, c2, rfl, hnc, hcm, hLA⟩ := LAt.of_own hown.out hEok.out rfl
      clear hli
      go_wp2_with fail
      go_ret
      exact ⟨A2, _, c2, rfl, hLA, hnc, hcm, below_trans2 hB1.out.o hb.out, fun ad e => by subst e; exact Nat.le_trans hB1.out.o.size (hfr.out _ rfl)⟩
end Go.Proofs.YtbeigdbljepfkaaGreat

namespace Go.Proofs.YtbeigdbljepfkaaGreat
open Go.RowKit
set_option linter.unusedVariables false

/-- a slice somewhere in a block of the call's own, that reads as the numbers zs -/
def QN (w : World) (base : Nat) (t : TypeId) (v : Value) (zs : List Nat) : Prop :=
  ∃ g off cap cs, v = .slice (some ⟨g, off, none⟩) zs.length cap ∧ base ≤ g ∧ w.heap[g]? = some (.cells cs t (0, 0)) ∧ zs.length ≤ cap ∧ cap ≤ maxLen ∧ off + cap ≤ cs.size ∧ ∀ (j z : Nat), zs[j]? = some z → cs[off + j]? = some (.int .i64 (z : Int))
def qlen : Value → Nat
  | .slice _ n _ => n
  | _ => 0
section
variable {w w' : World} {base : Nat} {t : TypeId} {v : Value} {zs : List Nat}
theorem cell_cells {w : World} {g : Nat} {cs : Array Value} {t : TypeId} {fr : Nat × Nat} (h : w.heap[g]? = some (.cells cs t fr)) (i : Nat) : w.cell? ⟨g, i, none⟩ = cs[i]? := cell_of_row w g i cs t fr h
theorem frozen_cells {w : World} {g : Nat} {cs : Array Value} {t : TypeId} (h : w.heap[g]? = some (.cells cs t (0, 0))) (i : Nat) : w.frozen? ⟨g, i, none⟩ = false := by simp [World.frozen?, h]
theorem QN.qlen_ (h : QN w base t v zs) : qlen v = zs.length := by obtain ⟨g, off, cap, cs, rfl, _⟩ := h; rfl
theorem QN.of_own {n : Nat} (h : w.ownsRow base t 1 v n (zs.map natv)) (h0 : 0 < n) : QN w base t v zs := by
  have hl : zs.length = n := by have := h.1; simpa using this
  rcases h.2 with ⟨h1, h2⟩ | ⟨g, cap, cur, rfl, hbg, hg, hnc, hcm, hcs, htake⟩
  · omega
  · refine ⟨g, 0, cap, cur, by rw [hl], hbg, hg, by omega, hcm, by omega, fun j z hj => ?_⟩
    have hjl := (List.getElem?_eq_some_iff.1 hj).1
    have : (zs.map natv)[j]? = some (natv z) := by rw [List.getElem?_map, hj]; rfl
    rw [← htake, List.getElem?_take_of_lt (by omega)] at this
    rw [Nat.zero_add]
    simpa [natv] using this
theorem QN.lt (h : QN w base t v zs) : ∀ g, v.ownBlock = some g → base ≤ g ∧ g < w.heap.size := by
  obtain ⟨g, off, cap, cs, rfl, hb, hg, _⟩ := h
  intro k hk
  have : g = k := by simpa [Value.ownBlock] using hk
  subst this
  exact ⟨hb, (Array.getElem?_eq_some_iff.1 hg).1⟩
theorem QN.below (h : QN w base t v zs) (hb : Below w.heap.size w w') : QN w' base t v zs := by
  obtain ⟨g, off, cap, cs, hv, h1, hg, r⟩ := h
  exact ⟨g, off, cap, cs, hv, h1, (hb.block g (Array.getElem?_eq_some_iff.1 hg).1).trans hg, r⟩
theorem QN.far (h : QN w base t v zs) {p : Addr} (hp : v.ownBlock ≠ some p.block) (u : Value) : QN (w.setCell p u) base t v zs := by
  obtain ⟨g, off, cap, cs, rfl, h1, hg, r⟩ := h
  refine ⟨g, off, cap, cs, rfl, h1, ?_, r⟩
  rw [Below.heap_setCell w p u g (fun e => hp (by rw [← e]; rfl))]; exact hg
/-- 'q[0]', 'q[1:]' -/
theorem QN.pop {z : Nat} (h : QN w base t v (z :: zs)) : ∃ g off cap, v = .slice (some ⟨g, off, none⟩) (zs.length + 1) cap ∧ w.cell? ⟨g, off, none⟩ = some (.int .i64 (z : Int)) ∧ zs.length + 1 ≤ cap ∧
    (cap = 1 → QN w base t (.slice (some ⟨g, off, none⟩) zs.length 0) zs) ∧ (cap ≠ 1 → QN w base t (.slice (some ⟨g, off + 1, none⟩) zs.length (cap - 1)) zs) := by
  obtain ⟨g, off, cap, cs, hv, h1, hg, hl, hm, hs, hc⟩ := h
  have hl' : zs.length + 1 ≤ cap := by simpa using hl
  refine ⟨g, off, cap, by rw [hv]; simp, ?_, hl', fun hc1 => ?_, fun hc1 => ?_⟩
  · rw [cell_cells hg]
    have := hc 0 z rfl
    simpa using this
  · have : zs = [] := List.eq_nil_of_length_eq_zero (by omega)
    subst this
    exact ⟨g, off, 0, cs, rfl, h1, hg, Nat.le_refl _, by omega, by omega, fun j z h => by simp at h⟩
  · refine ⟨g, off + 1, cap - 1, cs, rfl, h1, hg, by omega, by omega, by omega, fun j z' hj => ?_⟩
    have := hc (j + 1) z' (by simpa using hj)
    rw [show off + 1 + j = off + (j + 1) by omega]; exact this
theorem QN.nil (h : QN w base t v []) : ∃ g off cap, v = .slice (some ⟨g, off, none⟩) 0 cap := by
  obtain ⟨g, off, cap, cs, hv, _⟩ := h
  exact ⟨g, off, cap, by simpa using hv⟩
end
section
variable {P : Program}
/-- 'q = append(q, x)' -/
theorem run_append_q (w : World) (base : Nat) (t ty e : TypeId) (i : TypeInfo) (z : Value) (ht : P.underlying t = some (.slice e)) (hi : P.info? e = some i) (hz : i.zero = some z) (hsize : i.size = 1) (hby : i.bytes = 8) (hzs : z.cells.size = 1)
    {v : Value} {zs : List Nat} (hq : QN w base e v zs) (ad : Addr) (c x : Nat) (hx : w.cell? ad = some (.int .i64 (x : Int))) (hn : zs.length ≤ 1073741824) (hbase : base ≤ w.heap.size) :
    ∃ v' w', (Builtin.append_ #[t, t] ty #[v, .slice (some ad) 1 c]).run P w = .ok v' w' ∧ QN w' base e v' (zs ++ [x]) ∧ w.grownBy w' v.ownBlock := by
  obtain ⟨g, off, cap, cs, rfl, hb, hg, hl, hm, hs, hc⟩ := hq
  have hnews : ∀ j u, [Value.int .i64 (x : Int)][j]? = some u → w.cell? (ad.add j) = some u := fun j u hj => by
    match j, hj with
    | 0, hj =>
      have ha : ad.add 0 = ad := by obtain ⟨b, o, s⟩ := ad; unfold Addr.add; split <;> simp_all
      rw [ha, hx]
      simpa using hj
    | j + 1, hj => simp at hj
  by_cases hr : zs.length + 1 ≤ cap
  · have hcell : (w.cell? ⟨g, off + zs.length, none⟩).isSome = true := by
      rw [cell_cells hg, Array.getElem?_eq_getElem (by omega)]; rfl
    have hrun := run_append_room_cells (P := P) w t ty e i ht hi g off zs.length cap ad 1 c [.int .i64 (x : Int)] (by rw [hsize]; rfl) hnews (by simp [Value.oneCell']) hr
      (fun j hj => by
        have : j = 0 := by simpa using hj
        subst this
        rw [hsize]; simpa using hcell)
      (fun j hj => frozen_cells hg _)
    rw [hsize, Nat.mul_one] at hrun
    have hset : w.setCells g (off + zs.length) [.int .i64 (x : Int)] = w.setCell ⟨g, off + zs.length, none⟩ (.int .i64 (x : Int)) := rfl
    rw [hset] at hrun
    refine ⟨_, _, hrun, ⟨g, off, cap, cs.set! (off + zs.length) (.int .i64 (x : Int)), by simp, hb, ?_, by simpa using hr, hm, by simpa using hs, fun j z' hj => ?_⟩, ?_⟩
    · simp [World.setCell, Array.getElem?_modify, hg]
    · simp only [Array.set!_eq_setIfInBounds, Array.getElem?_setIfInBounds]
      rcases Nat.lt_or_ge j zs.length with hj' | hj'
      · rw [List.getElem?_append_left hj'] at hj
        rw [if_neg (by omega)]
        exact hc j z' hj
      · rw [List.getElem?_append_right hj'] at hj
        have hj0 : j - zs.length = 0 := by
          have := (List.getElem?_eq_some_iff.1 hj).1
          simpa using this
        rw [hj0] at hj
        simp at hj
        rw [if_pos (by omega), if_pos (by omega), hj]
    · exact ⟨rfl, rfl, rfl, by simp, fun k hk hne => Below.heap_setCell w _ _ k (by
        intro e'
        apply hne
        have e2 : k = g := e'
        rw [e2]; rfl)⟩
  · obtain ⟨v', w', hrun, hown, hgrow⟩ := run_append_arg_grows (P := P) w t ty e i z 1 8 ht hi hz hsize hby hzs (by omega) ⟨g, off, none⟩ zs.length cap (zs.map natv) (by simp)
      (fun j u hj => by
        rw [List.getElem?_map] at hj
        cases hh : zs[j]? with
        | none => rw [hh] at hj; cases hj
        | some y =>
          rw [hh] at hj
          have ha : (⟨g, off, none⟩ : Addr).add j = ⟨g, off + j, none⟩ := by unfold Addr.add; split <;> simp_all
          rw [ha, cell_cells hg, hc j y hh]
          simpa [natv] using hj)
      ad 1 c [.int .i64 (x : Int)] rfl hnews (by omega) (by unfold maxLen; omega) (by omega)
    refine ⟨v', w', hrun, ?_, ⟨hgrow.os, hgrow.tape, hgrow.output, hgrow.size, fun k hk _ => hgrow.block k hk (by simp)⟩⟩
    have h2 : w'.ownsRow base e 1 v' (zs.length + 1) ((zs ++ [x]).map natv) := by
      rw [List.map_append]
      exact own_base hown hbase
    exact QN.of_own h2 (by omega)
theorem wpList_append_q (w : World) {ops : Array Oper} {rest : List Oper} {o : Oper} {a : Act} {Q : Exit → Act → World → Prop} (hgd : o.guard = none) (s x : Operand) (t : TypeId)
    (ho : o.op = .call { callee := .builtin .append, args := #[s, x], argTypes := #[t, t] })
    (base : Nat) (e : TypeId) (i : TypeInfo) (z : Value) (ht : P.underlying t = some (.slice e)) (hi : P.info? e = some i) (hz : i.zero = some z) (hsize : i.size = 1) (hby : i.bytes = 8) (hzs : z.cells.size = 1)
    {v : Value} {zs : List Nat} (hs : a.eval s = v) (hq : QN w base e v zs) (ad : Addr) (c y : Nat) (hx : a.eval x = .slice (some ad) 1 c) (hy : w.cell? ad = some (.int .i64 (y : Int))) (hn : zs.length ≤ 1073741824) (hbase : base ≤ w.heap.size)
    (hK : ∀ v' w', QN w' base e v' (zs ++ [y]) → w.grownBy w' v.ownBlock → wpList P ops Q rest (a.put o.dst v') w') : wpList P ops Q (o :: rest) a w := by
  refine wpList_plain hgd fun K hK' => ?_
  obtain ⟨v', w', hrun, h1, h2⟩ := run_append_q (P := P) w base t o.type e i z ht hi hz hsize hby hzs hq ad c y hy hn hbase
  unfold Oper.wp
  simp [execOp, ho, resolve, invoke, builtin, hs, hx, hrun, Result.andThen]
  exact hK' _ _ (hK v' w' h1 h2)
end

/-! ### how many are not seen yet -/
def zeroOf : Bool → Nat
  | true => 0
  | false => 1
def unseen (bs : List Bool) : Nat := (bs.map zeroOf).sum
theorem unseen_set {bs : List Bool} {j : Nat} (h : bs[j]? = some false) : unseen (bs.set j true) + 1 = unseen bs := by
  unfold unseen
  rw [List.map_set]
  have := sum_set (bs.map zeroOf) j (zeroOf true) (zeroOf false) (by rw [List.getElem?_map, h]; rfl)
  simpa [zeroOf] using this
theorem unseen_all (n : Nat) : unseen (List.replicate n false) = n := by
  unfold unseen
  induction n with
  | zero => rfl
  | succ n ih => rw [List.replicate_succ, List.map_cons, List.sum_cons, ih]; simp [zeroOf]; omega
def zeroV : Value → Nat
  | .bool false => 1
  | _ => 0
/-- .. as memory has it -/
def unseenW (w : World) (g : Nat) : Nat := match w.heap[g]? with
  | some (.cells cs _ _) => (cs.toList.map zeroV).sum
  | _ => 0
theorem unseenW_blk {w : World} {g : Nat} {t : TypeId} {bs : List Bool} (h : Blk w g t (bs.map .bool)) : unseenW w g = unseen bs := by
  unfold Blk at h
  unfold unseenW unseen
  rw [h]
  simp only [List.map_map]
  congr 1
  apply List.map_congr_left
  intro b _
  cases b <;> rfl

/-! ### the search -/
structure ReachI (n : Nat) (a : List (List Nat)) (i : Nat) (E : Nat → Nat → Prop) (bs : List Bool) (zs : List Nat) : Prop where
  len : bs.length = n
  seen : ∀ x : Nat, bs[x]? = some true → Conn (Rel a) i x
  todo : ∀ z ∈ zs, z < n ∧ (z = i ∨ Conn (Rel a) i z)
  done : ∀ x y : Nat, (x = i ∨ bs[x]? = some true) → Rel a x y → bs[y]? = some true ∨ x ∈ zs ∨ E x y
section
variable {n : Nat} {a : List (List Nat)} {i : Nat} {bs : List Bool} {zs : List Nat}
theorem ReachI.start (hi : i < n) : ReachI n a i (fun _ _ => False) (List.replicate n false) [i] :=
  ⟨by simp, fun x h => by rw [List.getElem?_replicate] at h; split at h <;> simp at h, fun z hz => by rw [List.mem_singleton.1 hz]; exact ⟨hi, .inl rfl⟩, fun x y h _ => by
    rcases h with rfl | h
    · exact .inr (.inl (List.mem_singleton.2 rfl))
    · rw [List.getElem?_replicate] at h; split at h <;> simp at h⟩
theorem ReachI.pop {z : Nat} (h : ReachI n a i (fun _ _ => False) bs (z :: zs)) : ReachI n a i (fun x y => x = z ∧ 0 ≤ y) bs zs :=
  ⟨h.len, h.seen, fun y hy => h.todo y (List.mem_cons_of_mem _ hy), fun x y h1 h2 => by
    rcases h.done x y h1 h2 with h3 | h3 | h3
    · exact .inl h3
    · rcases List.mem_cons.1 h3 with rfl | h4
      · exact .inr (.inr ⟨rfl, Nat.zero_le _⟩)
      · exact .inr (.inl h4)
    · exact h3.elim⟩
theorem ReachI.skip {z j : Nat} (h : ReachI n a i (fun x y => x = z ∧ j ≤ y) bs zs) (hj : ¬ Rel a z j ∨ bs[j]? = some true) : ReachI n a i (fun x y => x = z ∧ j + 1 ≤ y) bs zs :=
  ⟨h.len, h.seen, h.todo, fun x y h1 h2 => by
    rcases h.done x y h1 h2 with h3 | h3 | ⟨rfl, h4⟩
    · exact .inl h3
    · exact .inr (.inl h3)
    · rcases Nat.lt_or_ge j y with h5 | h5
      · exact .inr (.inr ⟨rfl, h5⟩)
      · obtain rfl : j = y := by omega
        rcases hj with hj | hj
        · exact absurd h2 hj
        · exact .inl hj⟩
theorem ReachI.push {z j : Nat} (h : ReachI n a i (fun x y => x = z ∧ j ≤ y) bs zs) (hz : z = i ∨ Conn (Rel a) i z) (hj : Rel a z j) (hjn : j < n) : ReachI n a i (fun x y => x = z ∧ j + 1 ≤ y) (bs.set j true) (zs ++ [j]) := by
  have hc : Conn (Rel a) i j := by
    rcases hz with rfl | hz
    · exact .one hj
    · exact .step hz hj
  have hjs : (bs.set j true)[j]? = some true := by rw [List.getElem?_set, if_pos rfl, if_pos (by rw [h.len]; exact hjn)]
  have old : ∀ x : Nat, (bs.set j true)[x]? = some true → x = j ∨ bs[x]? = some true := fun x hx => by
    rw [List.getElem?_set] at hx
    by_cases e : j = x
    · exact .inl e.symm
    · rw [if_neg e] at hx; exact .inr hx
  have new : ∀ x : Nat, bs[x]? = some true → (bs.set j true)[x]? = some true := fun x hx => by
    by_cases e : j = x
    · subst e; exact hjs
    · rw [List.getElem?_set, if_neg e]; exact hx
  refine ⟨by rw [List.length_set]; exact h.len, fun x hx => ?_, fun y hy => ?_, fun x y h1 h2 => ?_⟩
  · rcases old x hx with rfl | hx
    · exact hc
    · exact h.seen x hx
  · rcases List.mem_append.1 hy with hy | hy
    · exact h.todo y hy
    · rw [List.mem_singleton.1 hy]; exact ⟨hjn, .inr hc⟩
  · have h1' : x = j ∨ (x = i ∨ bs[x]? = some true) := by
      rcases h1 with h1 | h1
      · exact .inr (.inl h1)
      · rcases old x h1 with h3 | h3
        · exact .inl h3
        · exact .inr (.inr h3)
    rcases h1' with rfl | h1'
    · exact .inr (.inl (List.mem_append.2 (.inr (List.mem_singleton.2 rfl))))
    · rcases h.done x y h1' h2 with h3 | h3 | ⟨rfl, h4⟩
      · exact .inl (new y h3)
      · exact .inr (.inl (List.mem_append.2 (.inl h3)))
      · rcases Nat.lt_or_ge j y with h5 | h5
        · exact .inr (.inr ⟨rfl, h5⟩)
        · obtain rfl : j = y := by omega
          exact .inl hjs
theorem ReachI.next {z : Nat} (hG : Good n a) (h : ReachI n a i (fun x y => x = z ∧ n ≤ y) bs zs) : ReachI n a i (fun _ _ => False) bs zs :=
  ⟨h.len, h.seen, h.todo, fun x y h1 h2 => by
    rcases h.done x y h1 h2 with h3 | h3 | ⟨rfl, h4⟩
    · exact .inl h3
    · exact .inr (.inl h3)
    · exact absurd (hG.has_lt h2).2 (by omega)⟩
theorem ReachI.all (h : ReachI n a i (fun _ _ => False) bs []) (x : Nat) : bs[x]? = some true ↔ Conn (Rel a) i x := by
  refine ⟨h.seen x, fun hc => ?_⟩
  induction hc with
  | one h1 =>
    rcases h.done i _ (.inl rfl) h1 with h2 | h2 | h2
    · exact h2
    · cases h2
    · exact h2.elim
  | step _ h1 ih =>
    rcases h.done _ _ (.inr ih) h1 with h2 | h2 | h2
    · exact h2
    · cases h2
    · exact h2.elim
end

end Go.Proofs.YtbeigdbljepfkaaGreat
