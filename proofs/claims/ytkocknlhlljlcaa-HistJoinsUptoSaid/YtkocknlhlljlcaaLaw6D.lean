/- Layer 6's law HistJoins, walked (where what comes in is of no more than 2^40 operations). -/
import Derived.Test.YtkocknlhlljlcaaLaw6B
import Derived.Test.YtkocknlhlljlcaaHistJoin
namespace Go.Proofs.Ytkocknlhlljlcaa
open Go.RowKit
set_option linter.unusedVariables false

/-- what HistJoins keeps: both histories, and what was there -/
structure JoinI (w : World) (A : Option Addr) (n : Nat) (xs : List (List OpT)) (B : Option Addr) (m : Nat) (ys : List (List OpT)) (wr : World) : Prop where
  x : HistAt wr A n xs
  y : HistAt wr B m ys
  b : Below w.heap.size w wr
theorem JoinI.later {w : World} {A : Option Addr} {n : Nat} {xs : List (List OpT)} {B : Option Addr} {m : Nat} {ys : List (List OpT)} {wr w' : World} (h : JoinI w A n xs B m ys wr) (hb : Below wr.heap.size wr w') : JoinI w A n xs B m ys w' := ⟨h.x.below hb, h.y.below hb, below_trans2 h.b hb⟩
theorem rightL_append {xs ys : List (List OpT)} (hx : (allO xs).length ≤ 60) (hy : (allO ys).length ≤ 60) : rightL (xs ++ ys) = (rightL xs && rightL ys) := by
  unfold rightL
  rw [allO_append, List.all_append, decide_eq_true (by rw [List.length_append]; omega : (allO xs ++ allO ys).length ≤ 4096), decide_eq_true (by omega : (allO xs).length ≤ 4096), decide_eq_true (by omega : (allO ys).length ≤ 4096)]
  simp
theorem info_sess : (Try.prog.info? 36).map (fun i => (i.zero, i.size, i.bytes)) = some (some (.slice none 0 0), 1, 24) := by kernel_rfl
set_option maxRecDepth 100000 in
set_option maxHeartbeats 2000000 in
theorem law6_HistJoins (A B : Option Addr) (n c m d : Nat) (xs ys : List (List OpT)) (w : World) (hX : HistAt w A n xs) (hY : HistAt w B m ys) (hnc : n ≤ c) (hc : c ≤ 1099511627776) (hmd : m ≤ d) (hd : d ≤ 1099511627776)
    (hFx : (allO xs).length ≤ 1099511627776) (hFy : (allO ys).length ≤ 1099511627776) :
    Calls Try.prog 5 #[.slice A n c, .slice B m d] w (RetBool true w) := by
  have hXl := hX.len
  have hYl := hY.len
  have hI := Lib.hid (⟨hX, hY, Below.refl _ _⟩ : JoinI w A n xs B m ys w)
  clear hX hY
  replace hXl := Lib.hid hXl
  replace hYl := Lib.hid hYl
  have cSa := Lib.hid (ref6_Small A n c 60 xs w hI.out.x (by omega) (by omega))
  cases hsa : smallL xs 60 with
  | false =>
    rw [hsa] at cSa
    clear hsa
    go_enter Try.func5, Try.ntmps5
    go_wp2_with fail
    refine cSa.out.mono ?_; rintro e w1 ⟨rfl, b4⟩
    replace hI := Lib.hid (hI.out.later b4)
    go_wp2_with fail
    refine (law6_awake w1).mono ?_; rintro e w9 ⟨rfl, b9⟩
    go_wp2_with fail
    go_ret
    exact ⟨rfl, below_trans2 hI.out.b b9⟩
  | true =>
    rw [hsa] at cSa
    obtain ⟨hnx, hFx60, -⟩ := smallL_says hsa
    rw [hXl.out] at hnx
    clear hsa
    go_enter Try.func5, Try.ntmps5
    go_wp2_with fail
    refine cSa.out.mono ?_; rintro e w1 ⟨rfl, b4⟩
    replace hI := Lib.hid (hI.out.later b4)
    clear b4 cSa
    have cSb := Lib.hid (ref6_Small B m d 60 ys w1 hI.out.y (by omega) (by omega))
    cases hsb : smallL ys 60 with
    | false =>
      rw [hsb] at cSb
      clear hsb
      go_wp2_with fail
      refine cSb.out.mono ?_; rintro e w2 ⟨rfl, b5⟩
      replace hI := Lib.hid (hI.out.later b5)
      go_wp2_with fail
      refine (law6_awake w2).mono ?_; rintro e w9 ⟨rfl, b9⟩
      go_wp2_with fail
      go_ret
      exact ⟨rfl, below_trans2 hI.out.b b9⟩
    | true =>
      rw [hsb] at cSb
      obtain ⟨hny, hFy60, -⟩ := smallL_says hsb
      rw [hYl.out] at hny
      clear hsb
      go_wp2_with fail
      refine cSb.out.mono ?_; rintro e w2 ⟨rfl, b5⟩
      replace hI := Lib.hid (hI.out.later b5)
      clear b5 cSb
      obtain ⟨i0, hi, hz0, hz1, hz2⟩ := info_parts info_sess
      obtain ⟨j0, ji, jz0, jz1, jz2⟩ := info_parts info_op
      replace hi := Lib.hid hi
      replace hz0 := Lib.hid hz0
      replace hz1 := Lib.hid hz1
      replace hz2 := Lib.hid hz2
      replace ji := Lib.hid ji
      replace jz0 := Lib.hid jz0
      replace jz1 := Lib.hid jz1
      replace jz2 := Lib.hid jz2
      obtain ⟨vs, hvr, hvl, hv1, hvs⟩ := hI.out.x.rd
      obtain ⟨us, hur, hul, hu1, hus⟩ := hI.out.y.rd
      have hlit : (w2.alloc (.cells #[] 36)).ownsRow w2.heap.size 36 1 (.slice (some ⟨w2.heap.size, 0, none⟩) 0 0) 0 [] := by
        have h := World.ownsRow_lit (size := 1) (base := w2.heap.size) (e := 36) w2 #[] 0 (Nat.le_refl _) (by omega) (by simp)
        simpa using h
      have hb0 : Below w2.heap.size w2 (w2.alloc (.cells #[] 36)) := (Below.refl _ _).alloc (Nat.le_refl _) _
      have hrd := Lib.hid (hvr.below hb0)
      have hrd2 := Lib.hid hur
      replace hlit := Lib.hid hlit
      replace hb0 := Lib.hid hb0
      replace hv1 := Lib.hid hv1
      replace hu1 := Lib.hid hu1
      replace hvs := Lib.hid hvs
      replace hus := Lib.hid hus
      replace hvl := Lib.hid hvl
      replace hul := Lib.hid hul
      have hvn := Lib.hid hvr.1
      have hun := Lib.hid hur.1
      clear hvr hur
      go_wp2_with (first
        | (at_builtin; refine wpList_append_rd rfl (.tmp 15) (.tmp 16) _ rfl w2.heap.size 36 i0 _ 24 Try.underlying22 hi.out hz0.out hz1.out hz2.out rfl _ 0 _ (by rfl) hlit.out _ n c _ rfl hrd.out hv1.out (by unfold maxLen; omega) (by omega) hb0.out.size ?_; intro v1 w3 hown1 hbb hform; clear hform; rw [Nat.zero_add, List.nil_append] at hown1; replace hown1 := Lib.hid hown1; replace hb0 := Lib.hid (hb0.out.trans hbb); replace hrd2 := Lib.hid (hrd2.out.below hb0.out); clear hbb)
        | (at_builtin; refine wpList_append_rd rfl (.tmp 17) (.tmp 18) _ rfl w2.heap.size 36 i0 _ 24 Try.underlying22 hi.out hz0.out hz1.out hz2.out rfl _ n _ (by rfl) hown1.out _ m d _ rfl hrd2.out hu1.out (by unfold maxLen; omega) (by omega) hb0.out.size ?_; intro v2 w4 hown2 hbb2 hform; clear hform; replace hown2 := Lib.hid hown2; replace hb0 := Lib.hid (hb0.out.trans hbb2); clear hbb2))
      obtain ⟨C, cc, rfl, hnmc, hcc, hH⟩ := HistAt.joined hown2.out hvn.out hun.out hvl.out hul.out (fun i v os h1 h2 => (hvs.out i v os h1 h2).below hb0.out) (fun i v os h1 h2 => (hus.out i v os h1 h2).below hb0.out)
      replace hI := Lib.hid (hI.out.later hb0.out)
      replace hH := Lib.hid hH
      clear hrd hrd2 hlit hown1 hown2 hb0 hv1 hu1 hvs hus hvl hul hvn hun hi hz0 hz1 hz2 i0 vs us
      obtain ⟨q, hq⟩ : ∃ q, q = n + m := ⟨_, rfl⟩
      rw [← hq] at hH hnmc ⊢
      have hFj : (allO (xs ++ ys)).length ≤ 1099511627776 := by rw [allO_append, List.length_append]; omega
      refine (law6_awake w4).mono ?_; rintro e w5 ⟨rfl, b5⟩
      replace hI := Lib.hid (hI.out.later b5)
      replace hH := Lib.hid (hH.out.below b5)
      have cC := Lib.hid (hist_Flat C q cc (xs ++ ys) w5 hH.out hnmc (by omega) hcc hFj)
      replace hq := Lib.hid hq
      replace hnmc := Lib.hid hnmc
      go_wp2_with fail
      refine cC.out.mono ?_; rintro e w6 ⟨L1, N1, C1, rfl, hN1, hL1, hNc1, b5⟩
      replace hI := Lib.hid (hI.out.later b5)
      replace hH := Lib.hid (hH.out.below b5)
      clear cC b5
      have hN1' : N1 ≤ 120 := by rw [hN1, allO_append, List.length_append]; omega
      replace hN1 := Lib.hid hN1
      replace hNc1 := Lib.hid hNc1
      obtain ⟨V, hV⟩ : ∃ V, V = w6.alloc (.cells #[] 41) := ⟨_, rfl⟩
      obtain ⟨G, hG⟩ : ∃ G, G = w6.heap.size := ⟨_, rfl⟩
      have b5 : Below w6.heap.size w6 V := by rw [hV]; exact (Below.refl _ _).alloc (Nat.le_refl _) _
      have hlit : V.ownsRow G 41 3 (.slice (some ⟨G, 0, none⟩) 0 0) 0 (cellsO []) := by
        rw [hV, hG]
        have h := World.ownsRow_lit (size := 3) (base := w6.heap.size) (e := 41) w6 #[] 0 (Nat.le_refl _) (by omega) (by simp)
        simpa [cellsO] using h
      have hGV : G ≤ V.heap.size := by rw [hG]; exact b5.size
      have cC := Lib.hid (hist_Flat A n c xs V (hI.out.x.below b5) hnc (by omega) (by omega) hFx)
      -- from here on all is carried from w6, of whose blocks none is written to
      replace hL1 := Lib.hid hL1
      replace b5 := Lib.hid b5
      replace hlit := Lib.hid hlit
      replace hGV := Lib.hid hGV
      have hG6 := Lib.hid hG
      go_wp2_with (rw [← hV, ← hG]; clear hV hG)
      refine cC.out.mono ?_; rintro e w7 ⟨L2, N2, C2, rfl, hN2, hL2, hNc2, b7⟩
      replace hlit := Lib.hid (own_below hlit.out b7)
      replace hGV := Lib.hid (Nat.le_trans hGV.out b7.size)
      replace b5 := Lib.hid (below_trans2 b5.out b7)
      clear cC b7
      have hN2' : N2 ≤ 60 := by rw [hN2]; omega
      replace hN2 := Lib.hid hN2
      replace hNc2 := Lib.hid hNc2
      replace hL2 := Lib.hid hL2
      go_wp2_with (at_builtin; refine wpList_append_ops_g (by rfl) (.tmp 24) (.tmp 26) _ rfl G 41 j0 _ Try.underlying36 ji.out jz0.out jz1.out jz2.out rfl _ 0 [] (by rfl) hlit.out _ N2 C2 _ rfl hL2.out (by omega) hGV.out ?_; intro v3 w8 hown3 hbb; rw [Nat.zero_add, List.nil_append] at hown3)
      replace b5 := Lib.hid (b5.out.trans (by rw [← hG6.out]; exact hbb))
      replace hGV := Lib.hid (Nat.le_trans hGV.out hbb.size)
      clear hbb hL2 hlit
      have cC := Lib.hid (hist_Flat B m d ys w8 (hI.out.y.below b5.out) hmd (by omega) (by omega) hFy)
      refine cC.out.mono ?_; rintro e w9 ⟨L3, N3, C3, rfl, hN3, hL3, hNc3, b7⟩
      replace hown3 := Lib.hid (own_below hown3 b7)
      replace hGV := Lib.hid (Nat.le_trans hGV.out b7.size)
      replace b5 := Lib.hid (below_trans2 b5.out b7)
      clear cC b7
      have hN3' : N3 ≤ 60 := by rw [hN3]; omega
      replace hN3 := Lib.hid hN3
      replace hNc3 := Lib.hid hNc3
      replace hL3 := Lib.hid hL3
      go_wp2_with (at_builtin; refine wpList_append_ops_g (by rfl) (.tmp 27) (.tmp 29) _ rfl G 41 j0 _ Try.underlying36 ji.out jz0.out jz1.out jz2.out rfl _ N2 _ (by rfl) hown3.out _ N3 C3 _ rfl hL3.out (by omega) hGV.out ?_; intro v4 w10 hown4 hbb)
      replace b5 := Lib.hid (b5.out.trans (by rw [← hG6.out]; exact hbb))
      replace hGV := Lib.hid (Nat.le_trans hGV.out hbb.size)
      clear hbb hL3 hown3
      obtain ⟨C4, c4, rfl, hO4⟩ := OpsAt.of_own hown4 (okO_append (hI.out.x.okO) (hI.out.y.okO)) (by rw [List.length_append, ← hN2.out, ← hN3.out])
      have hcap := OwnsRow.cap_le hown4
      replace hI := Lib.hid (hI.out.later b5.out)
      replace hH := Lib.hid (hH.out.below b5.out)
      replace hL1 := Lib.hid (hL1.out.below b5.out)
      have cC := Lib.hid (law6_flat L1 C4 N1 C1 (N2 + N3) c4 (allO (xs ++ ys)) (allO xs ++ allO ys) w10 hL1.out hO4 hNc1.out hcap (by omega) (by omega))
      rw [show decide (allO (xs ++ ys) = allO xs ++ allO ys) = true from decide_eq_true (allO_append xs ys)] at cC
      replace hO4 := Lib.hid hO4
      replace hcap := Lib.hid hcap
      clear hown4 hGV b5 hG6
      go_wp2_with fail
      refine cC.out.mono ?_; rintro e w11 ⟨rfl, b5⟩
      replace hI := Lib.hid (hI.out.later b5)
      replace hH := Lib.hid (hH.out.below b5)
      clear cC b5 hO4 hL1
      obtain ⟨X, hX⟩ : ∃ X, X = (allO xs).length := ⟨_, rfl⟩
      obtain ⟨Y, hY⟩ : ∃ Y, Y = (allO ys).length := ⟨_, rfl⟩
      have hXY : (allO (xs ++ ys)).length = X + Y := by rw [allO_append, List.length_append, hX, hY]
      have hX60 : X ≤ 60 := by omega
      have hY60 : Y ≤ 60 := by omega
      have cC := Lib.hid (hist_Count C q cc (xs ++ ys) w11 hH.out hnmc.out (by have := hq.out; omega) hcc hFj)
      rw [hXY] at cC
      replace hX := Lib.hid hX
      replace hY := Lib.hid hY
      replace hXY := Lib.hid hXY
      go_wp2_with fail
      refine cC.out.mono ?_; rintro e w12 ⟨rfl, b5⟩
      replace hI := Lib.hid (hI.out.later b5)
      replace hH := Lib.hid (hH.out.below b5)
      clear cC b5
      have cC := Lib.hid (hist_Count A n c xs w12 hI.out.x hnc (by omega) (by omega) hFx)
      rw [← hX.out] at cC
      go_wp2_with fail
      refine cC.out.mono ?_; rintro e w13 ⟨rfl, b5⟩
      replace hI := Lib.hid (hI.out.later b5)
      replace hH := Lib.hid (hH.out.below b5)
      clear cC b5
      have cC := Lib.hid (hist_Count B m d ys w13 hI.out.y hmd (by omega) (by omega) hFy)
      rw [← hY.out] at cC
      go_wp2_with fail
      refine cC.out.mono ?_; rintro e w14 ⟨rfl, b5⟩
      replace hI := Lib.hid (hI.out.later b5)
      replace hH := Lib.hid (hH.out.below b5)
      clear cC b5
      have y0 : (((X + Y : Nat) : Int) == (X : Int) + (Y : Int)) = true := by simp
      have y1 : wrap64 ((X : Int) + (Y : Int)) = (X : Int) + (Y : Int) := by unfold wrap64; omega
      have hrr := rightL_append (xs := xs) (ys := ys) (by rw [← hX.out]; exact hX60) (by rw [← hY.out]; exact hY60)
      obtain ⟨r1, hr1⟩ : ∃ r, r = rightL xs := ⟨_, rfl⟩
      obtain ⟨r2, hr2⟩ : ∃ r, r = rightL ys := ⟨_, rfl⟩
      rw [← hr1, ← hr2] at hrr
      have cC := Lib.hid (hist_Right C q cc (xs ++ ys) w14 hH.out hnmc.out (by have := hq.out; omega) hcc hFj)
      rw [hrr] at cC
      replace hr1 := Lib.hid hr1
      replace hr2 := Lib.hid hr2
      replace hrr := Lib.hid hrr
      go_wp2_with fail
      refine cC.out.mono ?_; rintro e w15 ⟨rfl, b5⟩
      replace hI := Lib.hid (hI.out.later b5)
      replace hH := Lib.hid (hH.out.below b5)
      clear cC b5 y0 y1
      have cC := Lib.hid (hist_Right A n c xs w15 hI.out.x hnc (by omega) (by omega) hFx)
      rw [← hr1.out] at cC
      go_wp2_with fail
      refine cC.out.mono ?_; rintro e w16 ⟨rfl, b5⟩
      replace hI := Lib.hid (hI.out.later b5)
      replace hH := Lib.hid (hH.out.below b5)
      clear cC b5
      have hnq : (n : Int) ≤ (cc : Int) := by have := hnmc.out; have := hq.out; omega
      have hnn : (0 : Int) ≤ (n : Int) ∧ (n : Int) ≤ (cc : Int) := ⟨by omega, hnq⟩
      cases hc1 : r1 with
      | false =>
        subst hc1
        have cC := Lib.hid (hist_Same C A n cc n c xs xs w16 (by have h := hH.out.take (k := n) (by have := hq.out; omega); rwa [List.take_append_of_le_length (by rw [hXl.out]; exact Nat.le_refl _), List.take_of_length_le (by rw [hXl.out]; exact Nat.le_refl _)] at h) hI.out.x (by omega) hnc (by omega) (by omega))
        rw [decide_eq_true (rfl : xs = xs)] at cC
        go_wp2_with fail
        refine cC.out.mono ?_; rintro e w17 ⟨rfl, b5⟩
        go_wp2_with fail
        go_ret
        exact ⟨rfl, below_trans2 hI.out.b b5⟩
      | true =>
        subst hc1
        have cC := Lib.hid (hist_Right B m d ys w16 hI.out.y hmd (by omega) (by omega) hFy)
        rw [← hr2.out] at cC
        go_wp2_with fail
        refine cC.out.mono ?_; rintro e w18 ⟨rfl, b5⟩
        replace hI := Lib.hid (hI.out.later b5)
        replace hH := Lib.hid (hH.out.below b5)
        clear cC b5
        have cC := Lib.hid (hist_Same C A n cc n c xs xs w18 (by have h := hH.out.take (k := n) (by have := hq.out; omega); rwa [List.take_append_of_le_length (by rw [hXl.out]; exact Nat.le_refl _), List.take_of_length_le (by rw [hXl.out]; exact Nat.le_refl _)] at h) hI.out.x (by omega) hnc (by omega) (by omega))
        rw [decide_eq_true (rfl : xs = xs)] at cC
        go_wp2_with fail
        refine cC.out.mono ?_; rintro e w17 ⟨rfl, b5⟩
        go_wp2_with fail
        go_ret
        exact ⟨rfl, below_trans2 hI.out.b b5⟩

end Go.Proofs.Ytkocknlhlljlcaa
