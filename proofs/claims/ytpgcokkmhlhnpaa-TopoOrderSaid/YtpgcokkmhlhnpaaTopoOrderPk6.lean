/- The code's own contracts of layer 15: once (a mask of numbers), Perm, Respects. Plain mathematics of a search breadth first: why the path by which a number is met first is the first path. Nothing of the program is named. A search breadth first over a matrix, its memory: who isn't met as a row of bits, from whom as numbers, the queue. No function of the program is named. The code's own contracts of layer 15: the queue (take, free). The code's own contracts of layer 15: the queue (free). A region that draws its order, walked by a tree of orders: what only reads (in every world that meets S) is taken as soon as it may come up; what changes memory, and stays in S, comes up alone, or as one of two: then both ways are walked. S is the prover's: as a rule 'the blocks that were there at the region's start are as they were': so an alloc beside calls, and stores into what the region made, are steps too. No function of the program is named here. The code's own contracts of layer 15: the queue (begin). -/
import Derived.Test.YtpgcokkmhlhnpaaTopoOrderPk5
import Derived.Test.YtpgcokkmhlhnpaaTopoOrderPk3
import Derived.Test.YtpgcokkmhlhnpaaTopoOrderPk4
import Derived.Test.YtpgcokkmhlhnpaaTopoOrderPk1
import Derived.Test.YtpgcokkmhlhnpaaTopoOrderPk2
import Derived.Laws.MakeOwn
namespace Go.Proofs.Ytpgcokkmhlhnpaa
open Go.RowKit
set_option linter.unusedVariables false
theorem Blk.row15 {w : World} {g n : Nat} {t : TypeId} {ms : List Nat} (h : Blk w g t (ms.map u64v)) (hl : ms.length = n) (hw : W64 ms) : Row w (some ⟨g, 0, none⟩) n ms :=
  ⟨by have := h.rd; rwa [List.length_map, hl] at this, hw⟩
theorem words15 {n nw : Nat} (h : nw = (wordsZ (n : Int)).toNat) : wordsZ (n : Int) = (nw : Int) ∧ n ≤ 64 * nw ∧ 64 * nw ≤ n + 63 := by
  have h1 : wordsZ (n : Int) = ((n : Int) + 63) / 64 := by unfold wordsZ; rw [if_neg (by omega)]
  refine ⟨?_, ?_, ?_⟩ <;> rw [h, h1] <;> omega
/-- a mask of the numbers, where they are a matrix's, and unlike -/
def RetOnce (n nw : Nat) (zs : List Int) (w : World) (e : Ending) (w' : World) : Prop :=
  (FineZ n zs ∧ ∃ (g : Nat) (ms : List Nat), e = .returned (.tuple #[.slice (some ⟨g, 0, none⟩) nw nw, .bool true]) ∧ w.heap.size ≤ g ∧ Blk w' g 99 (ms.map u64v) ∧ MaskIs nw zs ms ∧ Below w.heap.size w w') ∨
  (¬ FineZ n zs ∧ e = .returned (.tuple #[.slice none 0 0, .bool false]) ∧ Below w.heap.size w w')
set_option maxRecDepth 100000 in
set_option maxHeartbeats 2000000 in
theorem topo_once (D : Option Addr) (m d : Nat) (zs : List Int) (n nw : Nat) (w : World) (hL : LAt encI w D m zs) (hm : m ≤ 1048576) (hn : n ≤ 1048576) (hnw : nw = (wordsZ (n : Int)).toNat) :
    Calls Try.prog 39 #[.slice D m d, .int .i64 (n : Int)] w (RetOnce n nw zs w) := by
  obtain ⟨hnz, hn1, hn2⟩ := words15 hnw
  have hWds := Lib.hid (fun W => row_Words (n : Int) (by omega) (by omega) W)
  rw [hnz] at hWds
  have mk64 := mk_u64 .i64 .i64 nw nw (Nat.le_refl _) (by omega)
  replace hnz := Lib.hid hnz
  replace hnw := Lib.hid hnw
  have hml := Lib.hid hL.len
  obtain ⟨g, hg⟩ : ∃ g, g = w.heap.size := ⟨_, rfl⟩
  obtain ⟨W1, hW1⟩ : ∃ W, W = w.alloc (.cells (zeros nw (.int .u64 0)) 99) := ⟨_, rfl⟩
  have hB0 := Lib.hid (show Blk W1 g 99 ((List.replicate nw 0).map u64v) from by rw [hW1, hg, ← replicate_zero_u64]; exact Blk.new w _ _)
  have hb0 := Lib.hid (show Below w.heap.size w W1 from by rw [hW1]; exact below_alloc _ _)
  have hgl := Lib.hid (show w.heap.size ≤ g from by rw [hg]; exact Nat.le_refl _)
  have hLw := Lib.hid hL
  clear hL
  go_enter Try.func39, Try.ntmps39
  go_wp2_with fail
  refine (hWds.out _).mono ?_; rintro e w' ⟨rfl, rfl⟩
  go_wp2_with (rw [← hW1, ← hg]; clear hW1 hg)
  clear mk64
  go_loopw [14] (fun t wr => ∃ (q : Nat) (ms : List Nat), q ≤ m ∧ t = .int .i64 (q : Int) ∧ Hid (MaskIs nw (zs.take q) ms) ∧ Hid (FineZ n (zs.take q)) ∧ Hid (Blk wr g 99 (ms.map u64v)) ∧ Hid (Below w.heap.size w wr)) (fun t _ => m - (intOf t).toNat)
  case atStart => exact ⟨0, _, Nat.zero_le _, rfl, Lib.hid (MaskIs.zero nw), Lib.hid ⟨fun z hz => (by cases hz), List.nodup_nil⟩, hB0, hb0⟩
  case round =>
    clear hB0 hb0
    obtain ⟨q, ms, hq, rfl, hM, hF, hB, hb⟩ := hrel
    by_cases hlt : q < m
    · have hlt' : (q : Int) < (m : Int) := by omega
      obtain ⟨lb, lo, z, rfl, hlb, hz, zok, j0⟩ := (hLw.out.below hb.out).int hlt
      have bq : 0 ≤ (q : Int) := by omega
      have hbel := Lib.hid (fun W => topo_below z (n : Int) W)
      have hno := Lib.hid (fun h => not_fine_at (n := n) hz h)
      have hts := Lib.hid (take_snoc hz)
      replace hz := Lib.hid hz
      replace hlt := Lib.hid hlt
      by_cases hin : 0 ≤ z ∧ z < (n : Int)
      · rw [belowZ_yes hin.1 hin.2] at hbel
        have hrow := Lib.hid (hB.out.row15 hM.out.len hM.out.w64)
        have hhas := Lib.hid (row_Has _ nw nw ms z wr hrow.out (by omega) zok.1 zok.2)
        obtain ⟨j, rfl⟩ := Int.eq_ofNat_of_zero_le hin.1
        have hj : j < 64 * nw := by omega
        cases hh : hasR ms (j : Int) with
        | true =>
          have hn := Lib.hid (hno.out (.inr ((hM.out.has j).1 hh)))
          rw [hh] at hhas
          replace hh := Lib.hid hh
          replace hin := Lib.hid hin
          go_wp2_with fail
          refine (hbel.out _).mono ?_; rintro e w' ⟨rfl, rfl⟩
          go_wp2_with fail
          refine hhas.out.mono ?_; rintro e w' ⟨rfl, rfl⟩
          go_wp2_with fail
          exact bodyPost_ret (v := .tuple #[.slice none 0 0, .bool false]) (by simp [results, go_sem]) rfl (.inr ⟨hn.out, rfl, hb.out⟩)
        | false =>
          have hnm : Hid ((j : Int) ∉ zs.take q) := Lib.hid (fun h => by have := (hM.out.has j).2 h; rw [hh] at this; cases this)
          have hput := Lib.hid (topo_put g nw nw ms j wr hB.out hM.out.len hM.out.w64 hj (by omega))
          rw [hh] at hhas
          replace hh := Lib.hid hh
          replace hin := Lib.hid hin
          go_wp2_with fail
          refine (hbel.out _).mono ?_; rintro e w' ⟨rfl, rfl⟩
          go_wp2_with fail
          refine hhas.out.mono ?_; rintro e w' ⟨rfl, rfl⟩
          go_wp2_with fail
          refine hput.out.mono ?_; rintro e w2 ⟨rfl, hB2, hO2⟩
          clear j0
          go_wp2_with fail
          go_roundw
          case rel =>
            refine ⟨q + 1, _, by have := hlt.out; omega, by go_num, Lib.hid ?_, Lib.hid ?_, Lib.hid hB2, Lib.hid (below_only hb.out hO2 hgl.out)⟩
            · rw [hts.out]; exact hM.out.snoc hj
            · rw [hts.out]; exact hF.out.snoc hin.out hnm.out
          case measure => have := hlt.out; simp [intOf]; omega
      · rw [belowZ_no (by omega)] at hbel
        have hn := Lib.hid (hno.out (.inl hin))
        replace hin := Lib.hid hin
        go_wp2_with fail
        refine (hbel.out _).mono ?_; rintro e w' ⟨rfl, rfl⟩
        go_wp2_with fail
        exact bodyPost_ret (v := .tuple #[.slice none 0 0, .bool false]) (by simp [results, go_sem]) rfl (.inr ⟨hn.out, rfl, hb.out⟩)
    · obtain rfl : q = m := by omega
      have e : zs.take q = zs := List.take_of_length_le (by rw [hml.out]; exact Nat.le_refl _)
      rw [e] at hM hF
      replace e := Lib.hid e
      go_wp2_with fail
      exact bodyPost_ret (v := .tuple #[.slice (some ⟨g, 0, none⟩) nw nw, .bool true]) (by simp [results, go_sem]) rfl (.inl ⟨hF.out, g, ms, rfl, hgl.out, hB.out, hM.out, hb.out⟩)
set_option maxRecDepth 100000 in
set_option maxHeartbeats 2000000 in
theorem topo_Perm (D : Option Addr) (m d : Nat) (zs : List Int) (N : Int) (w : World) (hL : LAt encI w D m zs) (hm : m ≤ 1048576) :
    Calls Try.prog 21 #[.slice D m d, .int .i64 N] w (RetIff (PermB zs N) w) := by
  have hml := hL.len
  by_cases hN : N = (m : Int)
  · subst hN
    have hiff := Lib.hid (show PermB zs (m : Int) ↔ FineZ m zs from by unfold PermB FineZ; rw [hml]; exact ⟨fun h => h.2, fun h => ⟨rfl, h⟩⟩)
    have cO := Lib.hid (topo_once D m d zs m _ w hL hm hm rfl)
    clear hL hml
    have e0 : ((m : Int) != (m : Int)) = false := by simp
    go_enter Try.func21, Try.ntmps21
    go_wp2_with fail
    refine cO.out.mono ?_; rintro e w' (⟨hF, g, ms, rfl, -, -, -, hb⟩ | ⟨hF, rfl, hb⟩)
    · replace hF := Lib.hid hF
      go_wp2_with fail
      go_ret
      exact ⟨true, rfl, ⟨fun _ => hiff.out.2 hF.out, fun _ => rfl⟩, hb⟩
    · replace hF := Lib.hid hF
      go_wp2_with fail
      go_ret
      exact ⟨false, rfl, ⟨fun h => (by cases h), fun h => absurd (hiff.out.1 h) hF.out⟩, hb⟩
  · have hno := Lib.hid (show ¬ PermB zs N from fun h => hN (by rw [← h.1, hml]))
    clear hL hml
    have e0 : ((m : Int) != N) = true := by rw [bne_iff_ne]; exact fun e => hN e.symm
    replace hN := Lib.hid hN
    go_enter Try.func21, Try.ntmps21
    go_wp2_with fail
    go_ret
    exact ⟨false, rfl, ⟨fun h => (by cases h), fun h => absurd h hno.out⟩, Below.refl _ _⟩
theorem respO_iff {r : Int → Int → Prop} {l : List Int} : RespO r l ↔ ∀ q (z : Int), l[q]? = some z → ∀ y ∈ l.take (q + 1), ¬ r z y := by
  unfold RespO
  constructor
  · intro h q z hz y hy
    obtain ⟨k, hk, rfl⟩ := List.getElem_of_mem hy
    rw [List.length_take] at hk
    have hq := (List.getElem?_eq_some_iff.1 hz).1
    have := h q k hq (by omega)
    rw [List.getD_eq_getElem?_getD, hz, List.getD_eq_getElem?_getD, List.getElem?_eq_getElem (by omega)] at this
    rw [List.getElem_take]
    exact this
  · intro h i k hi hk
    have h1 := h i l[i] (List.getElem?_eq_getElem hi) (l.getD k 0) (by
      rw [List.getD_eq_getElem?_getD, List.getElem?_eq_getElem (by omega : k < l.length)]
      exact List.mem_take_iff_getElem.2 ⟨k, by omega, rfl⟩)
    rw [List.getD_eq_getElem?_getD, List.getElem?_eq_getElem hi]
    exact h1
set_option maxRecDepth 100000 in
set_option maxHeartbeats 2000000 in
theorem topo_Respects (A : Option Addr) (n c : Nat) (a : List (List Nat)) (D : Option Addr) (m d : Nat) (zs : List Int) (w : World) (hr : RowsAt w A n a) (hG : Good n a) (hL : LAt encI w D m zs) (hm : m ≤ 1048576) :
    Calls Try.prog 22 #[.agg #[.int .i64 (n : Int), .slice A n c], .slice D m d] w (RetIff (RespO (RelZ a) zs) w) := by
  obtain ⟨nw, hnw⟩ : ∃ nw, nw = (wordsZ (n : Int)).toNat := ⟨_, rfl⟩
  obtain ⟨hnz, hn1, hn2⟩ := words15 hnw
  have hn4 := hG.le
  have hWds := Lib.hid (fun W => row_Words (n : Int) (by omega) (by omega) W)
  rw [hnz] at hWds
  have mk64 := mk_u64 .i64 .i64 nw nw (Nat.le_refl _) (by omega)
  replace hnz := Lib.hid hnz
  replace hnw := Lib.hid hnw
  have hml := Lib.hid hL.len
  -- a call with the matrix (A n c a): it is boxed at g, the world is W0 then
  have hM0 := Lib.hid (MatK.new (N := (n : Int)) (c := c) w 39 hr)
  obtain ⟨g, hg⟩ : ∃ g, g = w.heap.size := ⟨_, rfl⟩
  obtain ⟨W0, hW0⟩ : ∃ W, W = w.alloc (.cells #[.int .i64 (n : Int), .slice A n c] 39) := ⟨_, rfl⟩
  rw [← hW0, ← hg] at hM0
  have hbo := Lib.hid (show Below w.heap.size w W0 from by rw [hW0]; exact below_alloc _ _)
  have m0 := hM0.out.1.c0
  have m1 := hM0.out.1.c1
  obtain ⟨gm, hgm⟩ : ∃ g, g = W0.heap.size := ⟨_, rfl⟩
  obtain ⟨W1, hW1⟩ : ∃ W, W = W0.alloc (.cells (zeros nw (.int .u64 0)) 99) := ⟨_, rfl⟩
  have hB0 := Lib.hid (show Blk W1 gm 99 ((List.replicate nw 0).map u64v) from by rw [hW1, hgm, ← replicate_zero_u64]; exact Blk.new W0 _ _)
  have b1 : Below W0.heap.size W0 W1 := by rw [hW1]; exact below_alloc _ _
  have hb0 := Lib.hid (below_trans2 hbo.out b1)
  have hMs := Lib.hid (Blk.below hM0.out.1 b1 hM0.out.1.lt)
  have hgl := Lib.hid (show w.heap.size ≤ gm from by rw [hgm]; exact hbo.out.size)
  have hne := Lib.hid (show g ≠ gm from by rw [hgm]; exact Nat.ne_of_lt hM0.out.1.lt)
  have hLw := Lib.hid hL
  have hrw := Lib.hid hr
  replace hG := Lib.hid hG
  clear hL hr b1 hM0 hbo
  go_enter Try.func22, Try.ntmps22
  go_wp2_with (rw [← hW0, ← hg]; clear hW0 hg)
  refine (hWds.out _).mono ?_; rintro e w' ⟨rfl, rfl⟩
  go_wp2_with (rw [← hW1, ← hgm]; clear hW1 hgm)
  clear mk64 m0 m1
  go_loopw [14] (fun t wr => ∃ (q : Nat) (ms : List Nat), q ≤ m ∧ t = .int .i64 (q : Int) ∧ Hid (ms.length = nw ∧ W64 ms ∧ ∀ j : Nat, hasR ms (j : Int) = true ↔ (j < n ∧ (j : Int) ∈ zs.take q)) ∧ Hid (∀ p (z : Int), p < q → zs[p]? = some z → ∀ y ∈ zs.take (p + 1), ¬ RelZ a z y) ∧ Hid (Blk wr gm 99 (ms.map u64v)) ∧ Hid (Blk wr g 39 [.int .i64 (n : Int), .slice A n c]) ∧ Hid (Below w.heap.size w wr)) (fun t _ => m - (intOf t).toNat)
  case atStart => exact ⟨0, _, Nat.zero_le _, rfl, Lib.hid ⟨by simp, (MaskIs.zero nw).w64, fun j => by rw [hasR_zeros]; simp⟩, Lib.hid (fun p z h => by omega), hB0, hMs, hb0⟩
  case round =>
    clear hB0 hb0 hMs
    obtain ⟨q, ms, hq, rfl, hM, hF, hB, hMs, hb⟩ := hrel
    by_cases hlt : q < m
    · have hlt' : (q : Int) < (m : Int) := by omega
      obtain ⟨lb, lo, z, rfl, hlb, hz, zok, j0⟩ := (hLw.out.below hb.out).int hlt
      have bq : 0 ≤ (q : Int) := by omega
      have hbel := Lib.hid (fun W => topo_below z (n : Int) W)
      have hts := Lib.hid (take_snoc hz)
      replace hz := Lib.hid hz
      replace hlt := Lib.hid hlt
      have m0 := Blk.cell hMs.out 0
      have m1 := Blk.cell hMs.out 1
      by_cases hin : 0 ≤ z ∧ z < (n : Int)
      · rw [belowZ_yes hin.1 hin.2] at hbel
        obtain ⟨j, rfl⟩ := Int.eq_ofNat_of_zero_le hin.1
        have hjn : j < n := by omega
        have hj : j < 64 * nw := by omega
        have hput := Lib.hid (topo_put gm nw nw ms j wr hB.out hM.out.1 hM.out.2.1 hj (by omega))
        replace hin := Lib.hid hin
        go_wp2_with fail
        refine (hbel.out _).mono ?_; rintro e w' ⟨rfl, rfl⟩
        go_wp2_with fail
        refine hput.out.mono ?_; rintro e w2 ⟨rfl, hB2, hO2⟩
        have hb2 := Lib.hid (below_only hb.out hO2 hgl.out)
        have hMs2 := Lib.hid (Blk.only hMs.out hO2 hne.out)
        have hM2 : Hid ((setR ms (j : Int)).length = nw ∧ W64 (setR ms (j : Int)) ∧ ∀ i : Nat, hasR (setR ms (j : Int)) (i : Int) = true ↔ (i < n ∧ (i : Int) ∈ zs.take (q + 1))) := Lib.hid ⟨by rw [setR_len]; exact hM.out.1, setR_w64 hM.out.2.1 j, fun i => by
          rw [hasR_setR ms j i (by rw [hM.out.1]; exact hj), Bool.or_eq_true, hM.out.2.2, decide_eq_true_eq, hts.out, List.mem_append, List.mem_singleton]
          constructor
          · rintro (⟨h1, h2⟩ | rfl)
            · exact ⟨h1, .inl h2⟩
            · exact ⟨hjn, .inr rfl⟩
          · rintro ⟨h1, h2 | h2⟩
            · exact .inl ⟨h1, h2⟩
            · exact .inr (by omega)⟩
        obtain ⟨rb, ro, B, mm, dd, xs, rfl, hrb, hxs, hr0, hRow⟩ := (hrw.out.below hb2.out).at_ hjn
        have hrow := hG.out.row xs (List.mem_of_getElem? hxs)
        have hxl : mm = nw := by rw [← hRow.len, hrow.2.2.1]; exact hnw.out.symm
        have m0 := Blk.cell hMs2.out 0
        have m1 := Blk.cell hMs2.out 1
        have hRel := Lib.hid (fun y : Int => hasM_in (j := y) hxs)
        have cM := Lib.hid (topo_meet B (some ⟨gm, 0, none⟩) mm nw dd nw xs (setR ms (j : Int)) w2 hRow (Blk.row15 hB2 hM2.out.1 hM2.out.2.1) (by omega) (by omega))
        have hmeet : Hid (MeetR xs (setR ms (j : Int)) ↔ ∃ y ∈ zs.take (q + 1), RelZ a (j : Int) y) := Lib.hid (by
          constructor
          · rintro ⟨i, h1, h2⟩
            exact ⟨(i : Int), ((hM2.out.2.2 i).1 h2).2, by unfold RelZ; rw [hRel.out]; exact h1⟩
          · rintro ⟨y, h1, h2⟩
            obtain ⟨i', j', h3, rfl, h4, h5, h6⟩ := RelZ.nat hG.out h2
            refine ⟨j', ?_, (hM2.out.2.2 j').2 ⟨h5, h1⟩⟩
            unfold RelZ at h2; rw [hRel.out] at h2; exact h2)
        have hjn' : (j : Int) < (n : Int) := by omega
        have hj0 : 0 ≤ (j : Int) := by omega
        replace hB2 := Lib.hid hB2
        replace hxs := Lib.hid hxs
        replace hrow := Lib.hid hrow
        replace hxl := Lib.hid hxl
        clear hRow j0 hO2 hrb
        go_wp2_with fail
        refine cM.out.mono ?_; rintro e w3 ⟨⟨bb, rfl, hbb⟩, rfl⟩
        rw [hmeet.out] at hbb
        replace hbb := Lib.hid hbb
        cases bb with
        | true =>
          go_wp2_with fail
          go_ret
          refine ⟨false, rfl, ⟨fun h => (by cases h), fun h => ?_⟩, hb2.out⟩
          obtain ⟨y, h1, h2⟩ := hbb.out.1 trivial
          exact absurd h2 (respO_iff.1 h q _ hz.out y h1)
        | false =>
          go_wp2_with fail
          go_roundw
          case rel =>
            refine ⟨q + 1, _, by have := hlt.out; omega, by go_num, hM2, Lib.hid (fun p x hp hx y hy hR => ?_), hB2, hMs2, hb2⟩
            rcases Nat.lt_or_ge p q with h1 | h1
            · exact hF.out p x h1 hx y hy hR
            · obtain rfl : p = q := by omega
              have e := hz.out
              rw [hx] at e
              injection e with e
              subst e
              have := hbb.out.2 ⟨y, hy, hR⟩
              cases this
          case measure => have := hlt.out; simp [intOf]; omega
      · rw [belowZ_no (by omega)] at hbel
        have hM2 : Hid (ms.length = nw ∧ W64 ms ∧ ∀ i : Nat, hasR ms (i : Int) = true ↔ (i < n ∧ (i : Int) ∈ zs.take (q + 1))) := Lib.hid ⟨hM.out.1, hM.out.2.1, fun i => by
          rw [hM.out.2.2, hts.out, List.mem_append, List.mem_singleton]
          constructor
          · rintro ⟨h1, h2⟩
            exact ⟨h1, .inl h2⟩
          · rintro ⟨h1, h2 | h2⟩
            · exact ⟨h1, h2⟩
            · exact absurd ⟨by omega, by omega⟩ hin⟩
        have hF2 : Hid (∀ p (x : Int), p < q + 1 → zs[p]? = some x → ∀ y ∈ zs.take (p + 1), ¬ RelZ a x y) := Lib.hid (fun p x hp hx y hy hR => by
          rcases Nat.lt_or_ge p q with h1 | h1
          · exact hF.out p x h1 hx y hy hR
          · obtain rfl : p = q := by omega
            have e := hz.out
            rw [hx] at e
            injection e with e
            subst e
            obtain ⟨i', j', h3, h4, h5, h6, h7⟩ := RelZ.nat hG.out hR
            exact hin ⟨by omega, by omega⟩)
        replace hin := Lib.hid hin
        go_wp2_with fail
        refine (hbel.out _).mono ?_; rintro e w' ⟨rfl, rfl⟩
        go_wp2_with fail
        go_roundw
        case rel => exact ⟨q + 1, _, by have := hlt.out; omega, by go_num, hM2, hF2, hB, hMs, hb⟩
        case measure => have := hlt.out; simp [intOf]; omega
    · obtain rfl : q = m := by omega
      have hyes := Lib.hid (show RespO (RelZ a) zs from respO_iff.2 (fun p z hz => hF.out p z (by have := (List.getElem?_eq_some_iff.1 hz).1; rw [hml.out] at this; exact this) hz))
      go_wp2_with fail
      go_ret
      exact ⟨true, rfl, ⟨fun _ => hyes.out, fun _ => rfl⟩, hb.out⟩
end Go.Proofs.Ytpgcokkmhlhnpaa

namespace Go.Proofs.Ytpgcokkmhlhnpaa
set_option linter.unusedVariables false

section
variable {r : Nat → Nat → Prop} {n x : Nat} {T D : Nat → Prop} {p : Nat → List Nat} {q : List (Nat × List Nat)}

end
end Go.Proofs.Ytpgcokkmhlhnpaa

namespace Go.Proofs.Ytpgcokkmhlhnpaa
open Go.RowKit
set_option linter.unusedVariables false

/-! ### rows of bits -/
theorem hasR_off {ls : List Nat} {k L i : Nat} (h : ls[k]? = some L) (hi : i < 64) (u : Nat) : hasR (ls.set k (offN L i)) (u : Int) = (hasR ls (u : Int) && decide (u ≠ 64 * k + i)) := by
  have hk : k < ls.length := (List.getElem?_eq_some_iff.1 h).1
  rw [hasR_nat, hasR_nat]
  by_cases e : u / 64 = k
  · have e1 : (ls.set k (offN L i)).getD (u / 64) 0 = offN L i := by
      rw [List.getD_eq_getElem?_getD, e, List.getElem?_set, if_pos rfl, if_pos hk]; rfl
    have e2 : ls.getD (u / 64) 0 = L := by rw [e]; exact Row.get h
    rw [e1, e2, offN_bit L i (u % 64) hi (by omega)]
    congr 1
    rw [decide_eq_decide]; omega
  · have e1 : (ls.set k (offN L i)).getD (u / 64) 0 = ls.getD (u / 64) 0 := by
      rw [List.getD_eq_getElem?_getD, List.getElem?_set, if_neg (by omega), ← List.getD_eq_getElem?_getD]
    rw [e1, decide_eq_true (show u ≠ 64 * k + i by omega), Bool.and_true]

/-! ### the search -/
section
variable {n : Nat} {a : List (List Nat)} {x N z b : Nat} {ls fs zs : List Nat}
end

/-! ### memory -/
end Go.Proofs.Ytpgcokkmhlhnpaa

namespace Go.Proofs.Ytpgcokkmhlhnpaa
open Go.RowKit
set_option linter.unusedVariables false
/-- two blocks alone have changed -/
structure TwoAt (g k : Nat) (w w' : World) : Prop where
  os : w'.os = w.os
  tape : w'.tape = w.tape
  output : w'.output = w.output
  size : w'.heap.size = w.heap.size
  block : ∀ i, i ≠ g → i ≠ k → w'.heap[i]? = w.heap[i]?
theorem TwoAt.refl (g k : Nat) (w : World) : TwoAt g k w w := ⟨rfl, rfl, rfl, rfl, fun _ _ _ => rfl⟩
theorem TwoAt.drewN {g k : Nat} {w w' : World} (h : TwoAt g k w w') (n : Nat) : TwoAt g k w (w'.drewN n) := ⟨h.os, h.tape, h.output, h.size, h.block⟩
theorem TwoAt.trans {g k : Nat} {a b c : World} (h : TwoAt g k a b) (h2 : TwoAt g k b c) : TwoAt g k a c :=
  ⟨h2.os.trans h.os, h2.tape.trans h.tape, h2.output.trans h.output, h2.size.trans h.size, fun i h3 h4 => (h2.block i h3 h4).trans (h.block i h3 h4)⟩
theorem TwoAt.one {g k : Nat} {w w' : World} (h : OnlyAt g w w') : TwoAt g k w w' := ⟨h.os, h.tape, h.output, h.size, fun i h1 _ => h.block i h1⟩
theorem TwoAt.two {g k : Nat} {w w' : World} (h : OnlyAt k w w') : TwoAt g k w w' := ⟨h.os, h.tape, h.output, h.size, fun i _ h1 => h.block i h1⟩
theorem TwoAt.set {g k : Nat} {w w' : World} (h : TwoAt g k w w') (o : Nat) (u : Value) : TwoAt g k w (w'.setCell ⟨g, o, none⟩ u) :=
  h.trans (TwoAt.one ((OnlyAt.refl g w').set o u))
theorem TwoAt.own {w w' : World} {g j base : Nat} {e : TypeId} {size n : Nat} {v : Value} {vs : List Value} (ho : TwoAt g j w w') (h : w.ownsRow base e size v n vs) (hne : v.ownBlock ≠ some g) (hne2 : v.ownBlock ≠ some j) : w'.ownsRow base e size v n vs := by
  refine ⟨h.1, ?_⟩
  rcases h.2 with ⟨h1, h2⟩ | ⟨k, cap, cur, rfl, hbg, hg, r⟩
  · exact .inl ⟨h1, h2⟩
  · exact .inr ⟨k, cap, cur, rfl, hbg, (ho.block k (fun e => hne (by rw [← e]; rfl)) (fun e => hne2 (by rw [← e]; rfl))).trans hg, r⟩
/-- the queue's variable at g, the mask of all at gm, of those that may go at gn, the counts at gc -/
structure QuS (w0 : World) (g gm gn gc nw : Nat) (A : Option Addr) (n c : Nat) (ms ns : List Nat) (css : List (List Nat)) (w : World) : Prop where
  s : Blk w g 98 [.slice A n c, .slice (some ⟨gm, 0, none⟩) nw nw, .slice (some ⟨gn, 0, none⟩) nw nw, .slice (some ⟨gc, 0, none⟩) nw nw]
  m : Blk w gm 99 (ms.map u64v)
  x : Blk w gn 99 (ns.map u64v)
  k : Blk w gc 101 (css.flatten.map u64v)
  nmn : gm ≠ gn
  bg : w0.heap.size ≤ g
  bm : w0.heap.size ≤ gm
  bn : w0.heap.size ≤ gn
  bc : w0.heap.size ≤ gc
  bel : Below w0.heap.size w0 w
section
variable {w0 w w' : World} {g gm gn gc nw n c : Nat} {A : Option Addr} {ms ns : List Nat} {css : List (List Nat)}
theorem blk_ne {g k : Nat} {t t' : TypeId} {cs cs' : List Value} (h : Blk w g t cs) (h' : Blk w k t' cs') (ht : t ≠ t') : g ≠ k := fun e => by
  subst e
  have := h.symm.trans h'
  simp only [Option.some.injEq, Obj.cells.injEq] at this
  exact ht this.2.1
theorem QuS.gn' (h : QuS w0 g gm gn gc nw A n c ms ns css w) : g ≠ gn := blk_ne h.s h.x (by decide)
theorem QuS.gc' (h : QuS w0 g gm gn gc nw A n c ms ns css w) : g ≠ gc := blk_ne h.s h.k (by decide)
theorem QuS.mc (h : QuS w0 g gm gn gc nw A n c ms ns css w) : gm ≠ gc := blk_ne h.m h.k (by decide)
theorem QuS.nc (h : QuS w0 g gm gn gc nw A n c ms ns css w) : gn ≠ gc := blk_ne h.x h.k (by decide)
theorem QuS.later (h : QuS w0 g gm gn gc nw A n c ms ns css w) (hb : Below w.heap.size w w') : QuS w0 g gm gn gc nw A n c ms ns css w' :=
  ⟨h.s.below hb h.s.lt, h.m.below hb h.m.lt, h.x.below hb h.x.lt, h.k.below hb h.k.lt, h.nmn, h.bg, h.bm, h.bn, h.bc, below_trans2 h.bel hb⟩
theorem QuS.cells (h : QuS w0 g gm gn gc nw A n c ms ns css w) : w.cell? ⟨g, 0, none⟩ = some (.slice A n c) ∧ w.cell? ⟨g, 1, none⟩ = some (.slice (some ⟨gm, 0, none⟩) nw nw) ∧ w.cell? ⟨g, 2, none⟩ = some (.slice (some ⟨gn, 0, none⟩) nw nw) ∧ w.cell? ⟨g, 3, none⟩ = some (.slice (some ⟨gc, 0, none⟩) nw nw) :=
  ⟨h.s.cell 0, h.s.cell 1, h.s.cell 2, h.s.cell 3⟩
theorem QuS.setN (h : QuS w0 g gm gn gc nw A n c ms ns css w) (k y : Nat) : QuS w0 g gm gn gc nw A n c ms (ns.set k y) css (w.setCell ⟨gn, k, none⟩ (.int .u64 (y : Int))) :=
  ⟨h.s.far h.gn' _, h.m.far h.nmn _, by rw [List.map_set]; exact h.x.set_ k _, h.k.far (Ne.symm h.nc) _, h.nmn, h.bg, h.bm, h.bn, h.bc, h.bel.setCell h.bn _⟩
theorem QuS.setC (h : QuS w0 g gm gn gc nw A n c ms ns css w) {css' : List (List Nat)} (hk : Blk w' gc 101 (css'.flatten.map u64v)) (ho : OnlyAt gc w w') : QuS w0 g gm gn gc nw A n c ms ns css' w' :=
  ⟨h.s.only ho h.gc', h.m.only ho h.mc, h.x.only ho h.nc, hk, h.nmn, h.bg, h.bm, h.bn, h.bc, below_only h.bel ho h.bc⟩
theorem QuS.grown {row : Option Nat} (h : QuS w0 g gm gn gc nw A n c ms ns css w) (hb : w.grownBy w' row) (h1 : row ≠ some g) (h2 : row ≠ some gm) (h3 : row ≠ some gn) (h4 : row ≠ some gc) (hbel : Below w0.heap.size w w') : QuS w0 g gm gn gc nw A n c ms ns css w' :=
  ⟨h.s.grown hb (Ne.symm h1), h.m.grown hb (Ne.symm h2), h.x.grown hb (Ne.symm h3), h.k.grown hb (Ne.symm h4), h.nmn, h.bg, h.bm, h.bn, h.bc, h.bel.trans hbel⟩
end
/-- the least number that may go was taken off, or there is none -/
def RetTake (w0 : World) (g gm gn gc nw : Nat) (A : Option Addr) (n c : Nat) (ms ns : List Nat) (css : List (List Nat)) (w : World) (e : Ending) (w' : World) : Prop :=
  ((∀ j : Nat, hasR ns (j : Int) = false) ∧ e = .returned (.tuple #[.int .i64 0, .bool false]) ∧ QuS w0 g gm gn gc nw A n c ms ns css w' ∧ OnlyAt gn w w') ∨
  (∃ (x : Nat) (ns' : List Nat), hasR ns (x : Int) = true ∧ (∀ j : Nat, j < x → hasR ns (j : Int) = false) ∧ ns'.length = nw ∧ W64 ns' ∧ (∀ j : Nat, hasR ns' (j : Int) = (hasR ns (j : Int) && decide (j ≠ x))) ∧ x < 64 * nw ∧
    e = .returned (.tuple #[.int .i64 (x : Int), .bool true]) ∧ QuS w0 g gm gn gc nw A n c ms ns' css w' ∧ OnlyAt gn w w')
set_option maxRecDepth 100000 in
set_option maxHeartbeats 2000000 in
theorem topo_take (w0 : World) (g gm gn gc nw : Nat) (A : Option Addr) (n c : Nat) (ms ns : List Nat) (css : List (List Nat)) (w : World) (h : QuS w0 g gm gn gc nw A n c ms ns css w) (hl : ns.length = nw) (hw : W64 ns) (hnw : nw ≤ 1048576) :
    Calls Try.prog 41 #[.pointer (some ⟨g, 0, none⟩)] w (RetTake w0 g gm gn gc nw A n c ms ns css w) := by
  obtain ⟨s0, s1, s2, s3⟩ := h.cells
  replace h := Lib.hid h
  have hll := Lib.hid hl
  go_enter Try.func41, Try.ntmps41
  go_wp2_with fail
  go_loopw [12] (fun i wr => ∃ k : Nat, k ≤ nw ∧ i = .int .i64 k ∧ Hid (∀ q, q < k → ns.getD q 0 = 0) ∧ wr = w) (fun i _ => nw - (intOf i).toNat)
  case atStart => exact ⟨0, Nat.zero_le _, rfl, Lib.hid (fun q h => by omega), rfl⟩
  case round =>
    obtain ⟨k, hk, rfl, hz, rfl⟩ := hrel
    by_cases hlt : k < nw
    · obtain ⟨y, hy⟩ : ∃ y, ns[k]? = some y := ⟨_, List.getElem?_eq_getElem (by omega)⟩
      have hy64 := hw y (List.mem_of_getElem? hy)
      have hyd := Lib.hid (Row.get hy)
      have cL : wr.cell? ⟨gn, k, none⟩ = some (.int .u64 (y : Int)) := by rw [Blk.cell h.out.x k, List.getElem?_map, hy]; rfl
      have hk0 : (0 : Int) ≤ (k : Int) := by omega
      have hkn : (k : Int) < (nw : Int) := by omega
      replace hy := Lib.hid hy
      by_cases h0 : y = 0
      · subst h0
        go_wp2_with fail
        go_roundw
        case rel =>
          refine ⟨k + 1, by omega, by go_num, Lib.hid (fun q hq => ?_), trivial⟩
          rcases Nat.lt_or_ge q k with h1 | h1
          · exact hz.out q h1
          · obtain rfl : q = k := by omega
            exact hyd.out
        case measure => simp [intOf]; omega
      · have hne : ((y : Int) != 0) = true := by rw [bne_iff_ne]; omega
        have hl64 := low0_lt y hy64 h0
        have hfirst := word_First y hy64
        obtain ⟨i, hie⟩ : ∃ i, i = low0 y := ⟨_, rfl⟩
        have hbit := low0_bit y hl64
        have hbef := low0_before y
        rw [← hie] at hl64 hfirst hbit hbef
        have hoff := Lib.hid (off_eq y i hy64 hl64)
        have hof64 := offN_lt y i hy64
        have hBit := Lib.hid (fun W => word_BitN i hl64 W)
        have hw1 : IntKind.i64.wrap ((k : Int) * 64) = (k : Int) * 64 := by rw [IntKind.wrap_i64]; omega
        have hw2 : IntKind.i64.wrap ((k : Int) * 64 + (i : Int)) = (k : Int) * 64 + (i : Int) := by rw [IntKind.wrap_i64]; omega
        have hx1 : hasR ns ((64 * k + i : Nat) : Int) = true := by rw [hasR_w _ _ _ hl64, hyd.out]; exact hbit
        have hx2 : ∀ j : Nat, j < 64 * k + i → hasR ns (j : Int) = false := fun j hj => by
          rw [hasR_nat]
          rcases Nat.lt_or_ge (j / 64) k with h1 | h1
          · rw [hz.out _ h1, Nat.zero_testBit]
          · rw [show j / 64 = k by omega, hyd.out]; exact hbef _ (by omega)
        have hx3 : ∀ j : Nat, hasR (ns.set k (offN y i)) (j : Int) = (hasR ns (j : Int) && decide (j ≠ 64 * k + i)) := fun j => hasR_off hy.out hl64 j
        replace hx1 := Lib.hid hx1
        replace hx2 := Lib.hid hx2
        replace hx3 := Lib.hid hx3
        replace hbit := Lib.hid hbit
        replace hbef := Lib.hid hbef
        replace hie := Lib.hid hie
        replace hfirst := Lib.hid hfirst
        replace h0 := Lib.hid h0
        go_wp2_with fail
        refine (hfirst.out _).mono ?_; rintro e w' ⟨rfl, rfl⟩
        go_wp2_with fail
        refine wp_region_plan 11 [(true, 0), (true, 1), (true, 2), (true, 3), (true, 4), (true, 5), (true, 6), (true, 7), (false, 8), (true, 9), (true, 10)] (by kernel_rfl) (by kernel_rfl) (fun U hU => ?_)
        have hSU := Lib.hid (show QuS w0 g gm gn gc nw A n c ms ns css U from by rw [hU.out]; exact h.out.later (Below.refl _ _).drew)
        have hOU := Lib.hid (show OnlyAt gn wr U from by rw [hU.out]; exact (OnlyAt.refl _ _).drewN 1)
        clear hU h s0 s1 s2 s3
        obtain ⟨s0, s1, s2, s3⟩ := hSU.out.cells
        have cL : U.cell? ⟨gn, k, none⟩ = some (.int .u64 (y : Int)) := by rw [Blk.cell hSU.out.x k, List.getElem?_map, hy.out]; rfl
        have fL := Blk.frozen hSU.out.x k
        simp only [List.drop_succ_cons]
        iterate 8
          refine wpPlan_float (v := ?_) rfl (by rfl) (fun w' hw' => ?_) (fun K hK => ?_)
          rotate_left
          · (go_simp; try with_reducible rfl)
          go_simp
          refine hK _ ?_
          clear hK K
        refine wpPlan_only rfl (by rfl) (fun K hK => ?_)
        go_simp
        refine (hBit.out U).mono ?_
        rintro e x1 ⟨rfl, rfl⟩
        refine hK _ _ (Below.refl _ _) ?_
        clear hK K
        iterate 2
          refine wpPlan_float (v := ?_) rfl (by rfl) (fun w' hw' => ?_) (fun K hK => ?_)
          rotate_left
          · (go_simp; try with_reducible rfl)
          go_simp
          refine hK _ ?_
          clear hK K
        rw [hoff.out]
        obtain ⟨V, hV⟩ : ∃ V, V = U.setCell ⟨gn, k, none⟩ (.int .u64 ((offN y i : Nat) : Int)) := ⟨_, rfl⟩
        have hSV := Lib.hid (show QuS w0 g gm gn gc nw A n c ms (ns.set k (offN y i)) css V from by rw [hV]; exact hSU.out.setN k _)
        have hOV := Lib.hid (show OnlyAt gn wr V from by rw [hV]; exact hOU.out.set _ _)
        refine wpPlan_nil ?_
        go_wp2_with (rw [← hV]; clear hV)
        refine NoPanic.normal ?_
        clear s0 s1 s2 s3 cL fL
        go_wp2_with fail
        rw [show ((k : Int) * 64 + (i : Int)) = ((64 * k + i : Nat) : Int) by omega]
        exact bodyPost_ret (v := .tuple #[.int .i64 ((64 * k + i : Nat) : Int), .bool true]) (by simp [results, go_sem]) rfl (.inr ⟨64 * k + i, _, hx1.out, hx2.out, by rw [List.length_set]; exact hll.out, mem_set_lt hw hof64, hx3.out, by omega, rfl, hSV.out, hOV.out⟩)
    · obtain rfl : k = nw := by omega
      have hno : Hid (∀ j : Nat, hasR ns (j : Int) = false) := Lib.hid (fun j => by
        rw [hasR_nat]
        rcases Nat.lt_or_ge (j / 64) k with h1 | h1
        · rw [hz.out _ h1, Nat.zero_testBit]
        · rw [getD_out _ _ (by rw [hll.out]; exact h1), Nat.zero_testBit])
      go_wp2_with fail
      exact bodyPost_ret (v := .tuple #[.int .i64 0, .bool false]) (by simp [results, go_sem]) rfl (.inl ⟨hno.out, rfl, h.out, OnlyAt.refl _ _⟩)
end Go.Proofs.Ytpgcokkmhlhnpaa

namespace Go.Proofs.Ytpgcokkmhlhnpaa
open Go.RowKit
set_option linter.unusedVariables false
def RetFree (w0 : World) (g gm gn gc nw : Nat) (A : Option Addr) (n c : Nat) (a : List (List Nat)) (zs O L : List Int) (ms : List Nat) (w : World) (e : Ending) (w' : World) : Prop :=
  e = .returned (.tuple #[]) ∧ ∃ ns' css', QuS w0 g gm gn gc nw A n c ms ns' css' w' ∧ KahnS a n nw zs O L ms ns' css' ∧ TwoAt gn gc w w'
set_option maxRecDepth 100000 in
set_option maxHeartbeats 1000000 in
theorem topo_free (w0 : World) (g gm gn gc nw : Nat) (A : Option Addr) (n c : Nat) (a : List (List Nat)) (zs O L : List Int) (x : Nat) (ms ns : List Nat) (css : List (List Nat)) (w : World)
    (h : QuS w0 g gm gn gc nw A n c ms ns css w) (hT : KahnT a n nw zs O L x ms ns css) (hr : RowsAt w0 A n a) (hG : Good n a) (hnw : nw = (wordsZ (n : Int)).toNat) :
    Calls Try.prog 42 #[.pointer (some ⟨g, 0, none⟩), .int .i64 (x : Int)] w (RetFree w0 g gm gn gc nw A n c a zs (O ++ [(x : Int)]) (L.erase (x : Int)) ms w) := by
  have hn4 := hG.le
  obtain ⟨hnz, hn1, hn2⟩ := words15 hnw
  have hxn : x < n := by
    have := hT.F.1 _ (hT.s.p.mem_iff.1 (List.mem_append.2 (.inr hT.xL)))
    omega
  obtain ⟨rb, ro, B, m, d, ws, rfl, hrb, hxs, hr0, hRow⟩ := hr.at_ hxn
  have hrow := hG.row ws (List.mem_of_getElem? hxs)
  have hml : m = nw := by rw [← hRow.len, hrow.2.2.1, hnw]
  subst hml
  have hRel : ∀ j : Nat, hasM a (x : Int) (j : Int) = hasR ws (j : Int) := fun j => hasM_in hxs
  have hw64 : W64 ws := hrow.1
  have hfits := Lib.hid (fun k => hT.fits hRel hw64 k)
  have hxn' : 0 ≤ (x : Int) ∧ (x : Int) < (n : Int) := by omega
  obtain ⟨s0, s1, s2, s3⟩ := h.cells
  have r0 : w.cell? ⟨rb, ro + x, none⟩ = some (.slice B m d) := (h.bel.cell (p := ⟨rb, ro + x, none⟩) hrb).trans hr0
  have hMl := Lib.hid hT.M.len
  have hMw := Lib.hid hT.M.w64
  have hD0 := Lib.hid (DownI.start (ws := ws) (ms := ms) hT.D hT.nl hT.nw64)
  replace h := Lib.hid h
  replace hT := Lib.hid hT
  replace hRow := Lib.hid hRow
  replace hrow := Lib.hid hrow
  replace hxs := Lib.hid hxs
  replace hG := Lib.hid hG
  replace hRel := Lib.hid hRel
  replace hw64 := Lib.hid hw64
  replace hr := Lib.hid hr
  replace hr0 := Lib.hid hr0
  replace hrb := Lib.hid hrb
  replace hnw := Lib.hid hnw
  replace hnz := Lib.hid hnz
  have hO0 := Lib.hid (TwoAt.refl gn gc w)
  go_enter Try.func42, Try.ntmps42
  go_wp2_with fail
  clear s0 s1 s2 s3 r0
  go_loopw [15] (fun t wr => ∃ (k : Nat) (css' : List (List Nat)) (ns' : List Nat), k ≤ m ∧ t = .int .i64 (k : Int) ∧ Hid (DownI m css ns ws ms k css' ns') ∧ Hid (QuS w0 g gm gn gc m (some ⟨rb, ro, none⟩) n c ms ns' css' wr) ∧ Hid (TwoAt gn gc w wr)) (fun t _ => m - (intOf t).toNat)
  case atStart => exact ⟨0, css, ns, Nat.zero_le _, rfl, hD0, h, hO0⟩
  case round =>
    clear h hD0 hO0
    obtain ⟨k, css', ns', hk, rfl, hD, hS, hO⟩ := hrel
    by_cases hlt : k < m
    · obtain ⟨xb, xo, W, rfl, hxb, hW, hW64, hWc⟩ := (hRow.out.below hS.out.bel).at_ hlt
      obtain ⟨M, hM⟩ : ∃ M, ms[k]? = some M := ⟨_, List.getElem?_eq_getElem (by rw [hMl.out]; exact hlt)⟩
      have hM64 := hMw.out M (List.mem_of_getElem? hM)
      have cM : wr.cell? ⟨gm, k, none⟩ = some (.int .u64 (M : Int)) := by rw [Blk.cell hS.out.m k, List.getElem?_map, hM]; rfl
      have hand := Lib.hid (u64_and_nat W M hW64 hM64)
      have hWd := Lib.hid (Row.get hW)
      have hMd := Lib.hid (Row.get hM)
      obtain ⟨t0, t1, t2, t3⟩ := hS.out.cells
      have hbk : 0 ≤ (k : Int) ∧ (k : Int) < (m : Int) := by omega
      obtain ⟨cs, hcs, hcd, hc13, hcw⟩ := hD.out.u.d.at_ hlt
      have hce : css.getD k [] = cs := by have := hD.out.u.v k hlt; rw [if_neg (Nat.lt_irrefl k)] at this; rw [← this]; exact hcd
      replace hW := Lib.hid hW
      replace hM := Lib.hid hM
      replace hlt := Lib.hid hlt
      obtain ⟨y, hy⟩ : ∃ y, y = W &&& M := ⟨_, rfl⟩
      have hy64 : y < 18446744073709551616 := by rw [hy]; exact and_lt64 hW64
      rw [← hy] at hand
      have hye := Lib.hid (show ws.getD k 0 &&& ms.getD k 0 = y from by rw [hWd.out, hMd.out, hy])
      replace hy := Lib.hid hy
      by_cases h0 : y = 0
      · have hD2 := Lib.hid (hD.out.skip hw64.out hlt.out (by rw [hye.out]; exact h0))
        have ht : (bits BinOp.and IntKind.u64 (W : Int) (M : Int) != 0) = false := by rw [hand.out, h0]; rfl
        replace h0 := Lib.hid h0
        go_wp2_with fail
        go_roundw
        case rel => exact ⟨k + 1, css', ns', by have := hlt.out; omega, by go_num, hD2, hS, hO⟩
        case measure => have := hlt.out; simp [intOf]; omega
      · have hD2 := Lib.hid (hD.out.step hw64.out hlt.out)
        rw [hye.out, hcd] at hD2
        have hfit := hfits.out k
        rw [hye.out, hce] at hfit
        have hkl : k ≤ m := hk
        obtain ⟨o, ho⟩ : ∃ o, o = k * 13 := ⟨_, rfl⟩
        have hpl : (css'.take k).flatten.length = o := by rw [hD.out.u.d.take_len hkl]; omega
        have hBk := hS.out.k
        rw [flat_parts hcs] at hBk
        have hless := Lib.hid (topo_less gc o _ cs _ y wr hBk hpl hc13 hcw hy64 hfit)
        have hfs := Lib.hid (flat_set (d := goC lessF cs y) hcs)
        have hcw2 := goC_w64 lessF_kept hcw hy64
        have hcl2 : (goC lessF cs y).length = 13 := by rw [goC_len]; exact hc13
        have hne : (bits BinOp.and IntKind.u64 (W : Int) (M : Int) != 0) = true := by rw [hand.out, bne_iff_ne]; omega
        replace hpl := Lib.hid hpl
        replace hcs := Lib.hid hcs
        replace hcd := Lib.hid hcd
        replace hce := Lib.hid hce
        replace hc13 := Lib.hid hc13
        replace hcl2 := Lib.hid hcl2
        replace h0 := Lib.hid h0
        replace hfit := Lib.hid hfit
        clear hBk
        obtain ⟨N, hN⟩ : ∃ N, ns'[k]? = some N := ⟨_, List.getElem?_eq_getElem (by rw [hD.out.len]; exact hlt.out)⟩
        have hN64 := hD.out.w64 N (List.mem_of_getElem? hN)
        rw [Row.get hN] at hD2
        replace hN := Lib.hid hN
        have hno := noneC_lt (goC lessF cs y)
        obtain ⟨z, hz⟩ : ∃ z, z = noneC (goC lessF cs y) := ⟨_, rfl⟩
        have hE1 := Lib.hid (u64_and_nat y z hy64 (by rw [hz]; exact hno))
        have hE2 := Lib.hid (u64_or_nat N (y &&& z) hN64 (and_lt64 hy64))
        rw [← hz] at hD2
        have hnone := Lib.hid (fun U hB => topo_none gc o (css'.take k).flatten (goC lessF cs y) (css'.drop (k + 1)).flatten U hB hpl.out hcl2.out hcw2)
        rw [← hz] at hnone
        replace hz := Lib.hid hz
        clear hno
        go_wp2_with fail
        rw [hand.out, ← ho]
        replace ho := Lib.hid ho
        refine hless.out.mono ?_; rintro e w2 ⟨rfl, hB2, hO2⟩
        rw [← hfs.out] at hB2
        have hS2 := Lib.hid (hS.out.setC hB2 hO2)
        have hO3 := Lib.hid (hO.out.trans (TwoAt.two (g := gn) hO2))
        clear hB2 hO2 t0 t1 t2 t3 cM hWc hS hO
        go_wp2_with fail
        refine wp_region_plan 18 [(true, 0), (true, 1), (true, 2), (true, 3), (true, 4), (true, 5), (true, 6), (true, 7), (true, 8), (true, 9), (true, 10), (true, 11), (true, 12), (true, 13), (false, 14), (true, 15), (true, 16), (true, 17)] (by kernel_rfl) (by kernel_rfl) (fun U hU => ?_)
        have hSU := Lib.hid (show QuS w0 g gm gn gc m (some ⟨rb, ro, none⟩) n c ms ns' (css'.set k (goC lessF cs y)) U from by rw [hU.out]; exact hS2.out.later (Below.refl _ _).drew)
        have hOU := Lib.hid (show TwoAt gn gc w U from by rw [hU.out]; exact hO3.out.drewN 1)
        clear hU hS2 hO3
        obtain ⟨t0, t1, t2, t3⟩ := hSU.out.cells
        have cN : U.cell? ⟨gn, k, none⟩ = some (.int .u64 (N : Int)) := by rw [Blk.cell hSU.out.x k, List.getElem?_map, hN.out]; rfl
        have fN := Blk.frozen hSU.out.x k
        simp only [List.drop_succ_cons]
        iterate 14
          refine wpPlan_float (v := ?_) rfl (by rfl) (fun w' hw' => ?_) (fun K hK => ?_)
          rotate_left
          · (go_simp; try with_reducible rfl)
          go_simp
          refine hK _ ?_
          clear hK K
        refine wpPlan_only rfl (by rfl) (fun K hK => ?_)
        go_simp
        rw [← ho.out]
        refine (hnone.out U (by rw [← hfs.out]; exact hSU.out.k)).mono ?_
        rintro e x1 ⟨rfl, rfl⟩
        refine hK _ _ (Below.refl _ _) ?_
        clear hK K
        iterate 3
          refine wpPlan_float (v := ?_) rfl (by rfl) (fun w' hw' => ?_) (fun K hK => ?_)
          rotate_left
          · (go_simp; try with_reducible rfl)
          go_simp
          refine hK _ ?_
          clear hK K
        rw [hE1.out, hE2.out]
        obtain ⟨V, hV⟩ : ∃ V, V = U.setCell ⟨gn, k, none⟩ (.int .u64 ((N ||| (y &&& z) : Nat) : Int)) := ⟨_, rfl⟩
        have hSV := Lib.hid (show QuS w0 g gm gn gc m (some ⟨rb, ro, none⟩) n c ms (ns'.set k (N ||| (y &&& z))) (css'.set k (goC lessF cs y)) V from by rw [hV]; exact hSU.out.setN k _)
        have hOV := Lib.hid (show TwoAt gn gc w V from by rw [hV]; exact hOU.out.set _ _)
        refine wpPlan_nil ?_
        go_wp2_with (rw [← hV]; clear hV)
        refine NoPanic.normal ?_
        clear t0 t1 t2 t3 cN fN hSU
        go_wp2_with fail
        go_roundw
        case rel => exact ⟨k + 1, _, _, by have := hlt.out; omega, by go_num, hD2, hSV, hOV⟩
        case measure => have := hlt.out; simp [intOf]; omega
    · obtain rfl : k = m := by omega
      have hK := Lib.hid (hT.out.next hRel.out hw64.out hD.out)
      go_wp2_with fail
      go_end0
      exact ⟨rfl, ns', css', hS.out, hK.out, hO.out⟩
end Go.Proofs.Ytpgcokkmhlhnpaa

namespace Go.Proofs.Ytpgcokkmhlhnpaa
open Go.RowKit
set_option linter.unusedVariables false

section
variable {P : Program} {ops : Array Oper} {md : Region.Mode} {Q : Exit → Act → World → Prop} {S : World → Prop}

def wpAnyS (S : World → Prop) (P : Program) (md : Region.Mode) (ops : Array Oper) (Q : Exit → Act → World → Prop) : Nat → Array Bool → Act → World → Prop
  | 0, listed, a, w => Region.ready md ops listed = [] ∧ Q .normal a w
  | f + 1, listed, a, w => Region.ready md ops listed ≠ [] ∧ ∀ i ∈ Region.ready md ops listed, wpOp P ops Q i (fun a' w' => S w' ∧ wpAnyS S P md ops Q f (listed.setIfInBounds i true) a' w') a w
theorem wpAny_of_S : ∀ (f : Nat) (listed : Array Bool) (a : Act) (w : World), wpAnyS S P md ops Q f listed a w → wpAny P md ops Q f listed a w
  | 0, _, _, _, h => h
  | f + 1, listed, a, w, h => ⟨fun h0 => absurd h0 h.1, fun i hi => wpOp_mono (fun a' w' h' => wpAny_of_S f _ a' w' h'.2) (h.2 i hi)⟩

theorem wpAnyS_first {i : Nat} {oi : Oper} {v : Value} (hi : ops[i]? = some oi) (hsel : ∀ (j : Nat) (o : Oper) cs b, ops[j]? = some o → o.op ≠ .select cs b)
    (hQ : ∀ c a w, Q (.panic c) (a.put oi.dst v) w → Q (.panic c) a w) :
    ∀ (f : Nat) (listed : Array Bool) (a : Act) (w : World), S w →
      (∀ j oj, ops[j]? = some oj → j ≠ i → listed.getD j true = false → (∀ e ∈ oj.after, Region.binds md e = true → e.on ≠ i) → oi.apart ops oj = true) →
      i ∈ Region.ready md ops listed → YieldsIf P ops S oi v a →
      wpAnyS S P md ops Q f (listed.setIfInBounds i true) (a.put oi.dst v) w → wpAnyS S P md ops Q (f + 1) listed a w := by
  intro f
  induction f with
  | zero =>
    intro listed a w hS _ hr hy H
    refine ⟨fun h => (by rw [h] at hr; cases hr), fun j hj => ?_⟩
    by_cases hji : j = i
    · subst hji; exact hy.wpOp hi hS ⟨hS, H⟩
    · have h1 := ready_mono hj hji
      rw [H.1] at h1
      cases h1
  | succ f ih =>
    intro listed a w hS hfree hr hy H
    have hun := (mem_ready.1 hr).1
    refine ⟨fun h => (by rw [h] at hr; cases hr), fun j hj => ?_⟩
    by_cases hji : j = i
    · subst hji; exact hy.wpOp hi hS ⟨hS, H⟩
    · have h1 := H.2 j (ready_mono hj hji)
      obtain ⟨hjun, oj, hoj, hall⟩ := mem_ready.1 hj
      have hnot : ∀ e ∈ oj.after, Region.binds md e = true → e.on ≠ i := fun e he hb heq => by
        have h1 := hall e he hb
        rw [heq, getD_both hun] at h1
        cases h1
      have h2 := wpOp_putIf hoj (hfree j oj hoj hji hjun hnot) (fun cs b => hsel i oi cs b hi) (fun cs b => hsel j oj cs b hoj) hQ hy h1
      have hfree' : ∀ k ok, ops[k]? = some ok → k ≠ i → (listed.setIfInBounds j true).getD k true = false →
          (∀ e ∈ ok.after, Region.binds md e = true → e.on ≠ i) → oi.apart ops ok = true := fun k ok hk hki hun hno => by
        refine hfree k ok hk hki ?_ hno
        by_cases hjk : j = k
        · subst hjk; exact hjun
        · rw [getD_set_ne true hjk] at hun; exact hun
      refine wpOp_mono (fun a' w' h3 => ⟨h3.2.1, ih (listed.setIfInBounds j true) a' w' h3.2.1 hfree' (ready_mono hr (Ne.symm hji)) h3.1 ?_⟩) h2
      rw [Array.setIfInBounds_comm _ _ hji]
      exact h3.2.2

/-- a tree of orders -/
inductive PT where
  | done
  | flt (i : Nat) (t : PT)
  | one (i : Nat) (t : PT)
  | two (i j : Nat) (ti tj : PT)
  | three (i j k : Nat) (ti tj tk : PT)
def PT.depth : PT → Nat
  | .done => 0
  | .flt _ t => t.depth + 1
  | .one _ t => t.depth + 1
  | .two _ _ t _ => t.depth + 1
  | .three _ _ _ t _ _ => t.depth + 1
def PT.ok (md : Region.Mode) (ops : Array Oper) : PT → Array Bool → Bool
  | .done, listed => (Region.ready md ops listed).isEmpty
  | .flt i t, listed => (Region.ready md ops listed).contains i && Region.free md ops listed i && t.ok md ops (listed.setIfInBounds i true)
  | .one i t, listed => decide (Region.ready md ops listed = [i]) && t.ok md ops (listed.setIfInBounds i true)
  | .two i j t u, listed => decide (Region.ready md ops listed = [i, j]) && decide (t.depth = u.depth) && t.ok md ops (listed.setIfInBounds i true) && u.ok md ops (listed.setIfInBounds j true)
  | .three i j k t u v, listed => decide (Region.ready md ops listed = [i, j, k]) && (decide (t.depth = u.depth) && decide (t.depth = v.depth)) && t.ok md ops (listed.setIfInBounds i true) && u.ok md ops (listed.setIfInBounds j true) && v.ok md ops (listed.setIfInBounds k true)
def wpPT (S : World → Prop) (P : Program) (ops : Array Oper) (Q : Exit → Act → World → Prop) : PT → Act → World → Prop
  | .done, a, w => Q .normal a w
  | .flt i t, a, w => ∃ o v, ops[i]? = some o ∧ YieldsIf P ops S o v a ∧ wpPT S P ops Q t (a.put o.dst v) w
  | .one i t, a, w => wpOp P ops Q i (fun a' w' => S w' ∧ wpPT S P ops Q t a' w') a w
  | .two i j t u, a, w => wpOp P ops Q i (fun a' w' => S w' ∧ wpPT S P ops Q t a' w') a w ∧ wpOp P ops Q j (fun a' w' => S w' ∧ wpPT S P ops Q u a' w') a w
  | .three i j k t u v, a, w => wpOp P ops Q i (fun a' w' => S w' ∧ wpPT S P ops Q t a' w') a w ∧ wpOp P ops Q j (fun a' w' => S w' ∧ wpPT S P ops Q u a' w') a w ∧ wpOp P ops Q k (fun a' w' => S w' ∧ wpPT S P ops Q v a' w') a w

theorem wpAnyS_tree (hsel : Region.noSelect ops = true) (hQ : ∀ c a d v w, Q (.panic c) (a.put d v) w → Q (.panic c) a w) :
    ∀ (t : PT) (listed : Array Bool) (a : Act) (w : World), S w → t.ok md ops listed = true → wpPT S P ops Q t a w → wpAnyS S P md ops Q t.depth listed a w
  | .done, listed, a, w, _, hB, h => ⟨by simpa [PT.ok] using hB, h⟩
  | .flt i t, listed, a, w, hS, hB, h => by
    simp only [PT.ok, Bool.and_eq_true] at hB
    obtain ⟨⟨hr, hf⟩, hB'⟩ := hB
    obtain ⟨o, v, ho, hy, h'⟩ := h
    exact wpAnyS_first ho (Region.noSelect_spec hsel) (fun c a w => hQ c a o.dst v w) t.depth listed a w hS (Region.free_spec ho hf) (by simpa using hr) hy (wpAnyS_tree hsel hQ t _ _ _ hS hB' h')
  | .one i t, listed, a, w, hS, hB, h => by
    simp only [PT.ok, Bool.and_eq_true, decide_eq_true_eq] at hB
    refine ⟨by rw [hB.1]; simp, fun j hj => ?_⟩
    rw [hB.1] at hj
    have hji : j = i := by simpa using hj
    subst hji
    exact wpOp_mono (fun a' w' h3 => ⟨h3.1, wpAnyS_tree hsel hQ t _ a' w' h3.1 hB.2 h3.2⟩) h
  | .two i k t u, listed, a, w, hS, hB, h => by
    simp only [PT.ok, Bool.and_eq_true, decide_eq_true_eq] at hB
    obtain ⟨⟨⟨hr, hd⟩, h1⟩, h2⟩ := hB
    refine ⟨by rw [hr]; simp, fun j hj => ?_⟩
    rw [hr] at hj
    have hjik : j = i ∨ j = k := by simpa using hj
    rcases hjik with rfl | rfl
    · exact wpOp_mono (fun a' w' h3 => ⟨h3.1, wpAnyS_tree hsel hQ t _ a' w' h3.1 h1 h3.2⟩) h.1
    · refine wpOp_mono (fun a' w' h3 => ⟨h3.1, ?_⟩) h.2
      rw [hd]
      exact wpAnyS_tree hsel hQ u _ a' w' h3.1 h2 h3.2
  | .three i j k t u v, listed, a, w, hS, hB, h => by
    simp only [PT.ok, Bool.and_eq_true, decide_eq_true_eq] at hB
    obtain ⟨⟨⟨⟨hr, hd, hd2⟩, h1⟩, h2⟩, h3⟩ := hB
    refine ⟨by rw [hr]; simp, fun q hq => ?_⟩
    rw [hr] at hq
    have hqs : q = i ∨ q = j ∨ q = k := by simpa using hq
    rcases hqs with rfl | rfl | rfl
    · exact wpOp_mono (fun a' w' h3' => ⟨h3'.1, wpAnyS_tree hsel hQ t _ a' w' h3'.1 h1 h3'.2⟩) h.1
    · refine wpOp_mono (fun a' w' h3' => ⟨h3'.1, ?_⟩) h.2.1
      rw [hd]
      exact wpAnyS_tree hsel hQ u _ a' w' h3'.1 h2 h3'.2
    · refine wpOp_mono (fun a' w' h3' => ⟨h3'.1, ?_⟩) h.2.2
      rw [hd2]
      exact wpAnyS_tree hsel hQ v _ a' w' h3'.1 h3 h3'.2

theorem wp_region_tree {id : Nat} {a : Act} {w : World} {l : List Oper} (t : PT) (hm : P.follows .mixedOrders = true) (hB : (Region.noSelect l.toArray && decide (t.depth = l.toArray.size) && t.ok .any l.toArray (Array.replicate l.toArray.size false)) = true)
    (h : ∀ W : World, Hid (W = w.drew) → wpPT (fun x => Below W.heap.size W x) P l.toArray (NoPanic Q) t a W) : (Code.region id l.toArray true).wp P Q a w := by
  refine wp_region_noPanic ?_
  have hQ : ∀ c a d v w, NoPanic Q (.panic c) (a.put d v) w → NoPanic Q (.panic c) a w := fun _ _ _ _ _ h => h
  simp only [Bool.and_eq_true, decide_eq_true_eq] at hB
  obtain ⟨⟨hsel, hd⟩, hok⟩ := hB
  refine wp_region_any hm ?_
  have H := wpAny_of_S _ _ _ _ (wpAnyS_tree (md := .any) hsel hQ t _ a w.drew (Below.refl _ _) hok (h w.drew (Lib.hid rfl)))
  rw [hd] at H
  exact H

/-! ### the steps -/
section
variable {W : World} {t u : PT} {a : Act} {w : World} {i j : Nat} {o : Oper}
theorem wpPT_float {v : Value} (hi : ops[i]? = some o) (hw : Region.wanted o (yielded ops a.tmps) = true)
    (hy : ∀ w' : World, (∀ p, (W.cell? p).isSome = true → w'.cell? p = W.cell? p) → (execOp a.eval o).run P w' = .ok (.value v) w') (h : ∀ K : Act → Prop, (∀ a', wpPT (fun x => Below W.heap.size W x) P ops Q t a' w → K a') → K (a.put o.dst v)) : wpPT (fun x => Below W.heap.size W x) P ops Q (.flt i t) a w :=
  ⟨o, v, hi, .inl ⟨hw, fun w' hb => hy w' (fun p hp => by
    have hlt : p.block < W.heap.size := by
      cases hc : W.cell? p with
      | none => rw [hc] at hp; cases hp
      | some u => exact block_lt_of_cell hc
    exact hb.cell hlt)⟩, h _ (fun _ h => h)⟩
theorem wpOp_step {K0 : Act → World → Prop} (hi : ops[i]? = some o) (hw : Region.wanted o (yielded ops a.tmps) = true)
    (h : ∀ K : Act → World → Prop, (∀ a' w', S w' → K0 a' w' → K a' w') → o.wp P a w K Q) : wpOp P ops Q i (fun a' w' => S w' ∧ K0 a' w') a w := by
  unfold wpOp
  simp only [hi, hw, if_true]
  exact .inl (h _ (fun a' w' hb hp => ⟨hb, hp⟩))
theorem wpPT_one (hi : ops[i]? = some o) (hw : Region.wanted o (yielded ops a.tmps) = true)
    (h : ∀ K : Act → World → Prop, (∀ a' w', S w' → wpPT S P ops Q t a' w' → K a' w') → o.wp P a w K Q) : wpPT S P ops Q (.one i t) a w := wpOp_step hi hw h
theorem wpPT_two {o' : Oper} (hi : ops[i]? = some o) (hw : Region.wanted o (yielded ops a.tmps) = true) (hj : ops[j]? = some o') (hw' : Region.wanted o' (yielded ops a.tmps) = true)
    (h : ∀ K : Act → World → Prop, (∀ a' w', S w' → wpPT S P ops Q t a' w' → K a' w') → o.wp P a w K Q)
    (h' : ∀ K : Act → World → Prop, (∀ a' w', S w' → wpPT S P ops Q u a' w' → K a' w') → o'.wp P a w K Q) : wpPT S P ops Q (.two i j t u) a w := ⟨wpOp_step hi hw h, wpOp_step hj hw' h'⟩
theorem wpPT_done (h : Q .normal a w) : wpPT S P ops Q .done a w := h
end
end
end Go.Proofs.Ytpgcokkmhlhnpaa

namespace Go.Proofs.Ytpgcokkmhlhnpaa
open Go.RowKit
set_option linter.unusedVariables false
theorem cut_four15 {T1 T2 T3 T4 : Type} {Goal F : T1 → T2 → T3 → T4 → Prop} {R : Prop} (h1 : (∀ a b c d, F a b c d → Goal a b c d) → R) (h2 : ∀ a b c d, F a b c d → Goal a b c d) : R := h1 h2
theorem info_counts : (Try.prog.info? 101).map (fun i => (i.zero, i.size, i.bytes)) = some (some (.agg #[.int .u64 0, .int .u64 0, .int .u64 0, .int .u64 0, .int .u64 0, .int .u64 0, .int .u64 0, .int .u64 0, .int .u64 0, .int .u64 0, .int .u64 0, .int .u64 0, .int .u64 0]), 13, 104) := by kernel_rfl
theorem cells13 (nw : Nat) : (madeCells (Value.agg #[.int .u64 0, .int .u64 0, .int .u64 0, .int .u64 0, .int .u64 0, .int .u64 0, .int .u64 0, .int .u64 0, .int .u64 0, .int .u64 0, .int .u64 0, .int .u64 0, .int .u64 0]).cells (nw * 13)).toList = ((List.replicate nw (List.replicate 13 0)).flatten).map u64v := by
  have hz : (Value.agg #[.int .u64 0, .int .u64 0, .int .u64 0, .int .u64 0, .int .u64 0, .int .u64 0, .int .u64 0, .int .u64 0, .int .u64 0, .int .u64 0, .int .u64 0, .int .u64 0, .int .u64 0]).cells = Array.replicate 13 (.int .u64 0) := rfl
  rw [hz, List.flatten_replicate_replicate, List.map_replicate]
  unfold madeCells
  rw [Array.toList_map, Array.toList_range, Array.size_replicate]
  apply List.ext_getElem (by simp)
  intro i h1 h2
  rw [List.getElem_map, List.getElem_range, List.getElem_replicate, getElem!_pos _ _ (by rw [Array.size_replicate]; omega), Array.getElem_replicate]
  rfl
theorem mk_counts (kl kc : IntKind) (n : Nat) (hc : n ≤ 1099511627776) (W : World) :
    (Instr.makeSlice 96 (.int kl (n : Int)) (.int kc (n : Int))).run Try.prog W = .ok (.slice (some ⟨W.heap.size, 0, none⟩) n n) (W.alloc (.cells (madeCells (Value.agg #[.int .u64 0, .int .u64 0, .int .u64 0, .int .u64 0, .int .u64 0, .int .u64 0, .int .u64 0, .int .u64 0, .int .u64 0, .int .u64 0, .int .u64 0, .int .u64 0, .int .u64 0]).cells (n * 13)) 101)) := by
  obtain ⟨i, hi, hz0, hz1, hz2⟩ := info_parts info_counts
  have hr := run_make (P := Try.prog) W _ _ i _ Try.underlying96 hi hz0 kl kc n n (by omega) (by omega) (by rw [hz2]; omega) (by omega)
  rw [hr, hz1]
  rfl
/-- a queue that begins -/
def RetBegin15 (w0 : World) (gm nw : Nat) (A : Option Addr) (n c : Nat) (a : List (List Nat)) (zs : List Int) (ms : List Nat) (w : World) (e : Ending) (w' : World) : Prop :=
  ∃ g gn gc ns css, e = .returned (.pointer (some ⟨g, 0, none⟩)) ∧ QuS w0 g gm gn gc nw A n c ms ns css w' ∧ KahnS a n nw zs [] zs ms ns css
set_option maxRecDepth 100000 in
set_option maxHeartbeats 4000000 in
theorem topo_begin (w0 : World) (gm nw : Nat) (A : Option Addr) (n c : Nat) (a : List (List Nat)) (D : Option Addr) (m d : Nat) (zs : List Int) (ms : List Nat) (w : World) (hr : RowsAt w0 A n a) (hG : Good n a) (hL : LAt encI w0 D m zs)
    (hbel : Below w0.heap.size w0 w) (hB : Blk w gm 99 (ms.map u64v)) (hbm : w0.heap.size ≤ gm) (hM : MaskIs nw zs ms) (hF : FineZ n zs) (hnw : nw = (wordsZ (n : Int)).toNat) :
    Calls Try.prog 40 #[.agg #[.int .i64 (n : Int), .slice A n c], .slice D m d, .slice (some ⟨gm, 0, none⟩) nw nw] w (RetBegin15 w0 gm nw A n c a zs ms w) := by
  have hn4 := hG.le
  obtain ⟨hnz, hn1, hn2⟩ := words15 hnw
  have hml := Lib.hid hL.len
  have hm4 : m ≤ 4096 := by have := hF.len; have := hml.out; omega
  have mk64 := mk_u64 .i64 .i64 nw nw (Nat.le_refl _) (by omega)
  have mkc := mk_counts .i64 .i64 nw (by omega)
  obtain ⟨Z13, hZ⟩ : ∃ Z, Z = madeCells (Value.agg #[.int .u64 0, .int .u64 0, .int .u64 0, .int .u64 0, .int .u64 0, .int .u64 0, .int .u64 0, .int .u64 0, .int .u64 0, .int .u64 0, .int .u64 0, .int .u64 0, .int .u64 0]).cells (nw * 13) := ⟨_, rfl⟩
  rw [← hZ] at mkc
  have hZl := Lib.hid (show Z13.toList = ((List.replicate nw (List.replicate 13 0)).flatten).map u64v from by rw [hZ]; exact cells13 nw)
  clear hZ
  replace hnz := Lib.hid hnz
  replace hnw := Lib.hid hnw
  replace hr := Lib.hid hr
  replace hG := Lib.hid hG
  replace hL := Lib.hid hL
  replace hM := Lib.hid hM
  replace hF := Lib.hid hF
  replace hbm := Lib.hid hbm
  obtain ⟨gb, hgb⟩ : ∃ g, g = w.heap.size := ⟨_, rfl⟩
  obtain ⟨W0, hW0⟩ : ∃ W, W = w.alloc (.cells #[.int .i64 (n : Int), .slice A n c] 39) := ⟨_, rfl⟩
  have hMb := Lib.hid (show Blk W0 gb 39 [.int .i64 (n : Int), .slice A n c] from by rw [hW0, hgb]; exact Blk.new w _ _)
  have b0 : Below w.heap.size w W0 := by rw [hW0]; exact below_alloc _ _
  have hBm := Lib.hid (hB.below b0 hB.lt)
  have hbel0 := Lib.hid (below_trans2 hbel b0)
  clear hB hbel b0
  have m0 := Blk.cell hMb.out 0
  have m1 := Blk.cell hMb.out 1
  go_enter Try.func40, Try.ntmps40
  go_wp2_with (rw [← hW0, ← hgb]; clear hW0 hgb)
  refine wp_region_tree (.flt 0 (.flt 1 (.flt 2 (.flt 3 (.flt 4 (.flt 6 (.flt 7 (.two 5 8 (.one 8 (.flt 9 (.one 10 (.flt 11 .done)))) (.one 5 (.flt 9 (.one 10 (.flt 11 .done)))))))))))) (by kernel_rfl) (by kernel_rfl) (fun U hU => ?_)
  have hMU := Lib.hid (show Blk U gb 39 [.int .i64 (n : Int), .slice A n c] from by rw [hU.out]; exact hMb.out.drew)
  have hBU := Lib.hid (show Blk U gm 99 (ms.map u64v) from by rw [hU.out]; exact hBm.out.drew)
  have hbU := Lib.hid (show Below w0.heap.size w0 U from by rw [hU.out]; exact hbel0.out.drew)
  clear hU hMb hBm hbel0 m0 m1
  have bW : Below U.heap.size U U := Below.refl _ _
  apply cut_four15 (F := fun (gn gc gs : Nat) (w9 : World) => Blk w9 gn 99 (List.replicate nw (.int .u64 0)) ∧ Blk w9 gc 101 Z13.toList ∧ Blk w9 gs 98 [.slice A n c, .slice (some ⟨gm, 0, none⟩) nw nw, .slice (some ⟨gn, 0, none⟩) nw nw, .slice (some ⟨gc, 0, none⟩) nw nw] ∧ U.heap.size ≤ gn ∧ U.heap.size ≤ gc ∧ U.heap.size ≤ gs ∧ Below U.heap.size U w9)
  · intro key
    have m0 := Blk.cell hMU.out 0
    have m1 := Blk.cell hMU.out 1
    iterate 7
      refine wpPT_float (v := ?_) rfl (by rfl) (fun w' hw' => ?_) (fun K hK => ?_)
      rotate_left
      · (go_simp; try with_reducible rfl)
      go_simp
      refine hK _ ?_
      clear hK K
    clear m0 m1
    refine wpPT_two rfl (by rfl) rfl (by rfl) (fun K hK => ?_) (fun K hK => ?_)
    · go_simp
      obtain ⟨gn, hG⟩ : ∃ G, G = (World.heap U).size := ⟨_, rfl⟩
      obtain ⟨v1, hw⟩ : ∃ X : World, X = World.alloc U (.cells (zeros nw (.int .u64 0)) 99) := ⟨_, rfl⟩
      rw [← hw, ← hG]
      have b : Below (World.heap U).size U v1 := by rw [hw]; exact (Below.refl _ _).alloc (Nat.le_refl _) _
      have hgn : U.heap.size ≤ gn := by rw [hG]; exact bW.size
      replace bW := below_trans2 bW b
      refine hK _ _ bW ?_
      clear hK K
      have kn := Lib.hid (show Blk v1 gn 99 (List.replicate nw (.int .u64 0)) from by rw [hw, hG]; exact Blk.new _ _ _)
      clear hw hG
      clear b
      refine wpPT_one rfl (by rfl) (fun K hK => ?_)
      go_simp
      obtain ⟨gc, hG⟩ : ∃ G, G = (World.heap v1).size := ⟨_, rfl⟩
      obtain ⟨v2, hw⟩ : ∃ X : World, X = World.alloc v1 (.cells Z13 101) := ⟨_, rfl⟩
      rw [← hw, ← hG]
      have b : Below (World.heap v1).size v1 v2 := by rw [hw]; exact (Below.refl _ _).alloc (Nat.le_refl _) _
      have hgc : U.heap.size ≤ gc := by rw [hG]; exact bW.size
      replace bW := below_trans2 bW b
      refine hK _ _ bW ?_
      clear hK K
      have kc := Lib.hid (show Blk v2 gc 101 Z13.toList from by rw [hw, hG]; exact Blk.new _ _ _)
      clear hw hG
      replace kn := Lib.hid (kn.out.below b kn.out.lt)
      clear b
      iterate 1
        refine wpPT_float (v := ?_) rfl (by rfl) (fun w' hw' => ?_) (fun K hK => ?_)
        rotate_left
        · (go_simp; try with_reducible rfl)
        go_simp
        refine hK _ ?_
        clear hK K
      refine wpPT_one rfl (by rfl) (fun K hK => ?_)
      go_simp
      obtain ⟨gs, hG⟩ : ∃ G, G = (World.heap v2).size := ⟨_, rfl⟩
      obtain ⟨v3, hw⟩ : ∃ X : World, X = World.alloc v2 (.cells #[.slice A n c, .slice (some ⟨gm, 0, none⟩) nw nw, .slice (some ⟨gn, 0, none⟩) nw nw, .slice (some ⟨gc, 0, none⟩) nw nw] 98) := ⟨_, rfl⟩
      rw [← hw, ← hG]
      have b : Below (World.heap v2).size v2 v3 := by rw [hw]; exact (Below.refl _ _).alloc (Nat.le_refl _) _
      have hgs : U.heap.size ≤ gs := by rw [hG]; exact bW.size
      replace bW := below_trans2 bW b
      refine hK _ _ bW ?_
      clear hK K
      have ks := Lib.hid (show Blk v3 gs 98 [.slice A n c, .slice (some ⟨gm, 0, none⟩) nw nw, .slice (some ⟨gn, 0, none⟩) nw nw, .slice (some ⟨gc, 0, none⟩) nw nw] from by rw [hw, hG]; exact Blk.new _ _ _)
      clear hw hG
      replace kn := Lib.hid (kn.out.below b kn.out.lt)
      replace kc := Lib.hid (kc.out.below b kc.out.lt)
      clear b
      iterate 1
        refine wpPT_float (v := ?_) rfl (by rfl) (fun w' hw' => ?_) (fun K hK => ?_)
        rotate_left
        · (go_simp; try with_reducible rfl)
        go_simp
        refine hK _ ?_
        clear hK K
      refine wpPT_done (NoPanic.normal ?_)
      exact key gn gc gs v3 ⟨kn.out, kc.out, ks.out, hgn, hgc, hgs, bW⟩
    · go_simp
      obtain ⟨gc, hG⟩ : ∃ G, G = (World.heap U).size := ⟨_, rfl⟩
      obtain ⟨v4, hw⟩ : ∃ X : World, X = World.alloc U (.cells Z13 101) := ⟨_, rfl⟩
      rw [← hw, ← hG]
      have b : Below (World.heap U).size U v4 := by rw [hw]; exact (Below.refl _ _).alloc (Nat.le_refl _) _
      have hgc : U.heap.size ≤ gc := by rw [hG]; exact bW.size
      replace bW := below_trans2 bW b
      refine hK _ _ bW ?_
      clear hK K
      have kc := Lib.hid (show Blk v4 gc 101 Z13.toList from by rw [hw, hG]; exact Blk.new _ _ _)
      clear hw hG
      clear b
      refine wpPT_one rfl (by rfl) (fun K hK => ?_)
      go_simp
      obtain ⟨gn, hG⟩ : ∃ G, G = (World.heap v4).size := ⟨_, rfl⟩
      obtain ⟨v5, hw⟩ : ∃ X : World, X = World.alloc v4 (.cells (zeros nw (.int .u64 0)) 99) := ⟨_, rfl⟩
      rw [← hw, ← hG]
      have b : Below (World.heap v4).size v4 v5 := by rw [hw]; exact (Below.refl _ _).alloc (Nat.le_refl _) _
      have hgn : U.heap.size ≤ gn := by rw [hG]; exact bW.size
      replace bW := below_trans2 bW b
      refine hK _ _ bW ?_
      clear hK K
      have kn := Lib.hid (show Blk v5 gn 99 (List.replicate nw (.int .u64 0)) from by rw [hw, hG]; exact Blk.new _ _ _)
      clear hw hG
      replace kc := Lib.hid (kc.out.below b kc.out.lt)
      clear b
      iterate 1
        refine wpPT_float (v := ?_) rfl (by rfl) (fun w' hw' => ?_) (fun K hK => ?_)
        rotate_left
        · (go_simp; try with_reducible rfl)
        go_simp
        refine hK _ ?_
        clear hK K
      refine wpPT_one rfl (by rfl) (fun K hK => ?_)
      go_simp
      obtain ⟨gs, hG⟩ : ∃ G, G = (World.heap v5).size := ⟨_, rfl⟩
      obtain ⟨v6, hw⟩ : ∃ X : World, X = World.alloc v5 (.cells #[.slice A n c, .slice (some ⟨gm, 0, none⟩) nw nw, .slice (some ⟨gn, 0, none⟩) nw nw, .slice (some ⟨gc, 0, none⟩) nw nw] 98) := ⟨_, rfl⟩
      rw [← hw, ← hG]
      have b : Below (World.heap v5).size v5 v6 := by rw [hw]; exact (Below.refl _ _).alloc (Nat.le_refl _) _
      have hgs : U.heap.size ≤ gs := by rw [hG]; exact bW.size
      replace bW := below_trans2 bW b
      refine hK _ _ bW ?_
      clear hK K
      have ks := Lib.hid (show Blk v6 gs 98 [.slice A n c, .slice (some ⟨gm, 0, none⟩) nw nw, .slice (some ⟨gn, 0, none⟩) nw nw, .slice (some ⟨gc, 0, none⟩) nw nw] from by rw [hw, hG]; exact Blk.new _ _ _)
      clear hw hG
      replace kc := Lib.hid (kc.out.below b kc.out.lt)
      replace kn := Lib.hid (kn.out.below b kn.out.lt)
      clear b
      iterate 1
        refine wpPT_float (v := ?_) rfl (by rfl) (fun w' hw' => ?_) (fun K hK => ?_)
        rotate_left
        · (go_simp; try with_reducible rfl)
        go_simp
        refine hK _ ?_
        clear hK K
      refine wpPT_done (NoPanic.normal ?_)
      exact key gn gc gs v6 ⟨kn.out, kc.out, ks.out, hgn, hgc, hgs, bW⟩
  · intro gn gc gs w9 hF9
    obtain ⟨kn, kc, ks, hgn, hgc, hgs, bW9⟩ := hF9
    have hwu := hbU.out.size
    have hlm := hBU.out.lt
    have hS0 : QuS w0 gs gm gn gc nw A n c ms (List.replicate nw 0) (List.replicate nw (List.replicate 13 0)) w9 :=
      { s := ks
        m := hBU.out.below bW9 hBU.out.lt
        x := by rw [← replicate_zero_u64]; exact kn
        k := by rw [← hZl.out]; exact kc
        nmn := by omega
        bg := by omega
        bm := hbm.out
        bn := by omega
        bc := by omega
        bel := below_trans2 hbU.out bW9 }
    have hMb := Lib.hid (hMU.out.below bW9 hMU.out.lt)
    have hS := Lib.hid hS0
    have hC0 : Hid (CntOk a zs (zs.take 0) (List.replicate nw (List.replicate 13 0))) := Lib.hid (fun j hj => by rw [cntQ_zero]; rfl)
    have hD0 := Lib.hid (DimC.zero nw)
    clear kn kc ks hgn hgc hgs hwu bW bW9 hS0 mk64 mkc hZl hbU hBU hMU hlm
    go_wp2_with fail
    go_loopw [27] (fun t wr => ∃ (q : Nat) (css : List (List Nat)), q ≤ m ∧ t = .int .i64 (q : Int) ∧ Hid (CntOk a zs (zs.take q) css) ∧ Hid (DimC nw css) ∧ Hid (QuS w0 gs gm gn gc nw A n c ms (List.replicate nw 0) css wr) ∧ Hid (Blk wr gb 39 [.int .i64 (n : Int), .slice A n c])) (fun t _ => m - (intOf t).toNat)
    case atStart => exact ⟨0, _, Nat.zero_le _, rfl, hC0, hD0, hS, hMb⟩
    case round =>
      clear hS hMb hC0 hD0
      obtain ⟨q, css, hq, rfl, hC, hD, hS, hMb⟩ := hrel
      by_cases hlt : q < m
      · have hlt' : (q : Int) < (m : Int) := by omega
        obtain ⟨lb, lo, z, rfl, hlb, hz, zok, j0⟩ := (hL.out.below hS.out.bel).int hlt
        have hzf := fine_at hF.out hz
        obtain ⟨x, rfl⟩ := Int.eq_ofNat_of_zero_le hzf.1
        have hxn : x < n := by omega
        have hxn' : (x : Int) < (n : Int) := by omega
        have bq : 0 ≤ (q : Int) := by omega
        have hts := Lib.hid (take_snoc hz)
        obtain ⟨rb, ro, B, mm, dd, ws, rfl, hrb, hxs, hr0, hRow⟩ := hr.out.at_ hxn
        have hrow := hG.out.row ws (List.mem_of_getElem? hxs)
        have hml2 : mm = nw := by rw [← hRow.len, hrow.2.2.1]; exact hnw.out.symm
        subst hml2
        have hRel := Lib.hid (show ∀ j : Nat, hasM a (x : Int) (j : Int) = hasR ws (j : Int) from fun j => hasM_in hxs)
        have hw64 := Lib.hid (show W64 ws from hrow.1)
        have hLq : (zs.take q).length ≤ 4096 := by rw [List.length_take]; have := hml.out; omega
        have hr9 := Lib.hid hr0
        have r0 : wr.cell? ⟨rb, ro + x, none⟩ = some (.slice B mm dd) := (hS.out.bel.cell (p := ⟨rb, ro + x, none⟩) hrb).trans hr0
        have m1 := Blk.cell hMb.out 1
        have hU0 := Lib.hid (UpI.start (nw := mm) (f := moreF) (ws := ws) (ms := ms) hD.out)
        replace hRow := Lib.hid hRow
        replace hlt := Lib.hid hlt
        replace hz := Lib.hid hz
        replace hzf := Lib.hid hzf
        replace hrow := Lib.hid hrow
        replace hxs := Lib.hid hxs
        clear hr0
        replace hrb := Lib.hid hrb
        replace hLq := Lib.hid hLq
        replace hnz := Lib.hid True.intro
        go_wp2_with fail
        clear m1 r0 j0
        go_loopw [37] (fun t wi => ∃ (k : Nat) (css' : List (List Nat)), k ≤ mm ∧ t = .int .i64 (k : Int) ∧ Hid (UpI mm moreF css ws ms k css') ∧ Hid (QuS w0 gs gm gn gc mm (some ⟨rb, ro, none⟩) n c ms (List.replicate mm 0) css' wi) ∧ Hid (Blk wi gb 39 [.int .i64 (n : Int), .slice (some ⟨rb, ro, none⟩) n c])) (fun t _ => mm - (intOf t).toNat)
        case atStart => exact ⟨0, css, Nat.zero_le _, rfl, hU0, hS, hMb⟩
        case round =>
          clear hS hMb hU0
          obtain ⟨k, css', hk, rfl, hU, hS, hMb⟩ := hrel
          by_cases hkm : k < mm
          · obtain ⟨xb, xo, W, rfl, hxb, hW, hW64, hWc⟩ := (hRow.out.below hS.out.bel).at_ hkm
            obtain ⟨M, hMM⟩ : ∃ M, ms[k]? = some M := ⟨_, List.getElem?_eq_getElem (by rw [hM.out.len]; exact hkm)⟩
            have hM64 := hM.out.w64 M (List.mem_of_getElem? hMM)
            have hand := Lib.hid (u64_and_nat W M hW64 hM64)
            have hWd := Lib.hid (Row.get hW)
            have hMd := Lib.hid (Row.get hMM)
            have hbk : 0 ≤ (k : Int) ∧ (k : Int) < (mm : Int) := by omega
            obtain ⟨cs, hcs, hcd, hc13, hcw⟩ := hU.out.d.at_ hkm
            have hce : css.getD k [] = cs := by have := hU.out.v k hkm; rw [if_neg (Nat.lt_irrefl k)] at this; rw [← this]; exact hcd
            have hfit := more_fits hD.out hM.out hC.out hLq.out hkm hw64.out
            have hU2 := Lib.hid (hU.out.step moreF_kept hw64.out hkm)
            obtain ⟨y, hy⟩ : ∃ y, y = W &&& M := ⟨_, rfl⟩
            have hy64 : y < 18446744073709551616 := by rw [hy]; exact and_lt64 hW64
            rw [← hy] at hand
            have hye : ws.getD k 0 &&& ms.getD k 0 = y := by rw [hWd.out, hMd.out, hy]
            rw [hye, hcd] at hU2
            rw [hye, hce] at hfit
            obtain ⟨o, ho⟩ : ∃ o, o = k * 13 := ⟨_, rfl⟩
            have hpl : (css'.take k).flatten.length = o := by rw [hU.out.d.take_len hk]; omega
            have hmore := Lib.hid (fun U hB => topo_more gc o (css'.take k).flatten cs (css'.drop (k + 1)).flatten y U hB hpl hc13 hcw hy64 hfit)
            have hfp := Lib.hid (flat_parts hcs)
            have hfs := Lib.hid (flat_set (d := goC moreF cs y) hcs)
            have hWc' := Lib.hid (show ∀ V, Below w0.heap.size w0 V → V.cell? ⟨xb, xo + k, none⟩ = some (.int .u64 (W : Int)) from fun V hV => by
              obtain ⟨xb', xo', W', hBe, hxb', hW', hW64', hWc'⟩ := (hRow.out.below hV).at_ hkm
              injection hBe with hBe
              injection hBe with hB1 hB2
              subst hB1; subst hB2
              rw [hW] at hW'
              injection hW' with hW'
              subst hW'
              exact hWc')
            replace hpl := Lib.hid hpl
            replace hcs := Lib.hid hcs
            replace hcd := Lib.hid hcd
            replace hce := Lib.hid hce
            replace hc13 := Lib.hid hc13
            replace hfit := Lib.hid hfit
            replace hW := Lib.hid hW
            replace hMM := Lib.hid hMM
            replace hy := Lib.hid hy
            replace hye := Lib.hid hye
            replace hkm := Lib.hid hkm
            replace ho := Lib.hid ho
            go_wp2_with fail
            clear hWc
            refine wp_region_plan 12 [(true, 0), (true, 1), (true, 2), (true, 3), (true, 4), (true, 5), (true, 6), (true, 7), (true, 8), (true, 9), (true, 10), (true, 11)] (by kernel_rfl) (by kernel_rfl) (fun U hU => ?_)
            have hSU := Lib.hid (show QuS w0 gs gm gn gc mm (some ⟨rb, ro, none⟩) n c ms (List.replicate mm 0) css' U from by rw [hU.out]; exact hS.out.later (Below.refl _ _).drew)
            have hMU := Lib.hid (show Blk U gb 39 [.int .i64 (n : Int), .slice (some ⟨rb, ro, none⟩) n c] from by rw [hU.out]; exact hMb.out.drew)
            clear hU hS hMb
            obtain ⟨t0, t1, t2, t3⟩ := hSU.out.cells
            have cM : U.cell? ⟨gm, k, none⟩ = some (.int .u64 (M : Int)) := by rw [Blk.cell hSU.out.m k, List.getElem?_map, hMM.out]; rfl
            simp only [List.drop_succ_cons]
            iterate 12
              refine wpPlan_float (v := ?_) rfl (by rfl) (fun w' hw' => ?_) (fun K hK => ?_)
              rotate_left
              · (go_simp; try with_reducible rfl)
              go_simp
              refine hK _ ?_
              clear hK K
            rw [hand.out]
            refine wpPlan_nil ?_
            go_wp2_with fail
            rw [← ho.out]
            refine (hmore.out U (by rw [← hfp.out]; exact hSU.out.k)).mono ?_; rintro e w2 ⟨rfl, hB2, hO2⟩
            rw [← hfs.out] at hB2
            have hS2 := Lib.hid (hSU.out.setC hB2 hO2)
            have hM2 := Lib.hid (Blk.only hMU.out hO2 (blk_ne hMU.out hSU.out.k (by decide)))
            clear hB2 hO2 hSU hMU t0 t1 t2 t3 cM
            go_wp2_with fail
            refine NoPanic.normal ?_
            go_wp2_with fail
            go_roundw
            case rel => exact ⟨k + 1, _, by have := hkm.out; omega, by go_num, hU2, hS2, hM2⟩
            case measure => have := hkm.out; simp [intOf]; omega
          · obtain rfl : k = mm := by omega
            have hC2 : Hid (CntOk a zs (zs.take (q + 1)) css') := Lib.hid (by rw [hts.out]; exact CntOk.up hM.out hC.out hD.out hLq.out hw64.out hRel.out hU.out)
            have hD2 := Lib.hid hU.out.d
            go_wp2_with fail
            go_roundw
            case rel => exact ⟨q + 1, css', by have := hlt.out; omega, by go_num, hC2, hD2, hS, hMb⟩
            case measure => have := hlt.out; simp [intOf]; omega
      · obtain rfl : q = m := by omega
        have e : zs.take q = zs := List.take_of_length_le (by rw [hml.out]; exact Nat.le_refl _)
        rw [e] at hC
        replace e := Lib.hid e
        clear hMb
        have hN0 := Lib.hid (NxI.start (nw := nw) (css := css) (ms := ms))
        go_wp2_with fail
        go_loopw [59] (fun t wr => ∃ (k : Nat) (ns : List Nat), k ≤ nw ∧ t = .int .i64 (k : Int) ∧ Hid (NxI nw css ms k ns) ∧ Hid (QuS w0 gs gm gn gc nw A n c ms ns css wr)) (fun t _ => nw - (intOf t).toNat)
        case atStart => exact ⟨0, _, Nat.zero_le _, rfl, hN0, hS⟩
        case round =>
          clear hS hN0
          obtain ⟨k, ns, hk, rfl, hN, hS⟩ := hrel
          by_cases hkm : k < nw
          · obtain ⟨M, hMM⟩ : ∃ M, ms[k]? = some M := ⟨_, List.getElem?_eq_getElem (by rw [hM.out.len]; exact hkm)⟩
            have hM64 := hM.out.w64 M (List.mem_of_getElem? hMM)
            have hbk : 0 ≤ (k : Int) ∧ (k : Int) < (nw : Int) := by omega
            obtain ⟨cs, hcs, hcd, hc13, hcw⟩ := hD.out.at_ hkm
            obtain ⟨o, ho⟩ : ∃ o, o = k * 13 := ⟨_, rfl⟩
            have hpl : (css.take k).flatten.length = o := by rw [hD.out.take_len hk]; omega
            have hN2 := Lib.hid (hN.out.step hM.out.w64 hkm)
            rw [hcd, Row.get hMM] at hN2
            obtain ⟨N, hNe⟩ : ∃ N, ns[k]? = some N := ⟨_, List.getElem?_eq_getElem (by rw [hN.out.len]; exact hkm)⟩
            have hno := noneC_lt cs
            obtain ⟨z, hz⟩ : ∃ z, z = noneC cs := ⟨_, rfl⟩
            have hE1 := Lib.hid (u64_and_nat M z hM64 (by rw [hz]; exact hno))
            have hnone := Lib.hid (fun U hB => topo_none gc o (css.take k).flatten cs (css.drop (k + 1)).flatten U hB hpl hc13 hcw)
            rw [← hz] at hnone hN2
            have hfp := Lib.hid (flat_parts hcs)
            have cM : wr.cell? ⟨gm, k, none⟩ = some (.int .u64 (M : Int)) := by rw [Blk.cell hS.out.m k, List.getElem?_map, hMM]; rfl
            replace hz := Lib.hid hz
            replace hpl := Lib.hid hpl
            replace hcs := Lib.hid hcs
            replace hcd := Lib.hid hcd
            replace hc13 := Lib.hid hc13
            replace hMM := Lib.hid hMM
            replace hNe := Lib.hid hNe
            replace hkm := Lib.hid hkm
            replace ho := Lib.hid ho
            clear hno
            go_wp2_with fail
            clear cM
            refine wp_region_plan 15 [(true, 0), (true, 1), (true, 2), (true, 3), (true, 4), (true, 5), (true, 6), (true, 7), (true, 8), (true, 9), (true, 10), (true, 11), (false, 12), (true, 13), (true, 14)] (by kernel_rfl) (by kernel_rfl) (fun U hU => ?_)
            have hSU := Lib.hid (show QuS w0 gs gm gn gc nw A n c ms ns css U from by rw [hU.out]; exact hS.out.later (Below.refl _ _).drew)
            clear hU hS
            obtain ⟨t0, t1, t2, t3⟩ := hSU.out.cells
            have cN : U.cell? ⟨gn, k, none⟩ = some (.int .u64 (N : Int)) := by rw [Blk.cell hSU.out.x k, List.getElem?_map, hNe.out]; rfl
            have fN := Blk.frozen hSU.out.x k
            simp only [List.drop_succ_cons]
            iterate 12
              refine wpPlan_float (v := ?_) rfl (by rfl) (fun w' hw' => ?_) (fun K hK => ?_)
              rotate_left
              · (go_simp; try with_reducible rfl)
              go_simp
              refine hK _ ?_
              clear hK K
            refine wpPlan_only rfl (by rfl) (fun K hK => ?_)
            go_simp
            rw [← ho.out]
            refine (hnone.out U (by rw [← hfp.out]; exact hSU.out.k)).mono ?_
            rintro e x1 ⟨rfl, rfl⟩
            refine hK _ _ (Below.refl _ _) ?_
            clear hK K
            iterate 2
              refine wpPlan_float (v := ?_) rfl (by rfl) (fun w' hw' => ?_) (fun K hK => ?_)
              rotate_left
              · (go_simp; try with_reducible rfl)
              go_simp
              refine hK _ ?_
              clear hK K
            rw [hE1.out]
            obtain ⟨V, hV⟩ : ∃ V, V = U.setCell ⟨gn, k, none⟩ (.int .u64 ((M &&& z : Nat) : Int)) := ⟨_, rfl⟩
            have hSV := Lib.hid (show QuS w0 gs gm gn gc nw A n c ms (ns.set k (M &&& z)) css V from by rw [hV]; exact hSU.out.setN k _)
            refine wpPlan_nil ?_
            go_wp2_with (rw [← hV]; clear hV)
            refine NoPanic.normal ?_
            clear t0 t1 t2 t3 cN fN hSU
            go_wp2_with fail
            go_roundw
            case rel => exact ⟨k + 1, _, by have := hkm.out; omega, by go_num, hN2, hSV⟩
            case measure => have := hkm.out; simp [intOf]; omega
          · obtain rfl : k = nw := by omega
            have hK := Lib.hid (KahnS.start hF.out hM.out hD.out hC.out hN.out)
            go_wp2_with fail
            go_ret
            exact ⟨gs, gn, gc, ns, css, rfl, hS.out, hK.out⟩
end Go.Proofs.Ytpgcokkmhlhnpaa
