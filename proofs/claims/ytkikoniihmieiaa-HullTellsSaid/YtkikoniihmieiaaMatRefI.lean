/- Contracts of the document's own answers for matrices: Pairs. Contracts of the document's own answers for matrices: Turn. -/
import Derived.Test.YtkikoniihmieiaaMatRefH
import Derived.Test.YtkikoniihmieiaaMatPairs
import Derived.Test.YtkikoniihmieiaaMatTurnB
namespace Go.Proofs.Ytkikoniihmieiaa
open Go.RowKit
set_option linter.unusedVariables false

set_option maxRecDepth 100000 in
set_option maxHeartbeats 2000000 in
theorem ref3_Pairs (A : Option Addr) (n c : Nat) (xss : List (List Nat)) (w : World) (hr : RowsAt w A n xss) (hn : n ≤ 4096) (hl : ∀ (i : Nat) (xs : List Nat), xss[i]? = some xs → xs.length ≤ 1024) :
    Calls Try.prog 21 #[.agg #[.int .i64 (n : Int), .slice A n c]] w (RetPairs (pairsM xss) w) := by
  have hlen := hr.len
  obtain ⟨i0, hi, hz0, hz1, hz2⟩ := info_parts info_pair
  replace hi := Lib.hid hi
  replace hz0 := Lib.hid hz0
  replace hz1 := Lib.hid hz1
  replace hz2 := Lib.hid hz2
  obtain ⟨W0, hW0⟩ : ∃ W0, W0 = w.alloc (.cells #[.int .i64 n, .slice A n c] 24) := ⟨_, rfl⟩
  have ha : Below w.heap.size w W0 := by rw [hW0]; exact (Below.refl _ _).alloc (Nat.le_refl _) _
  have hB : MatB W0 w.heap.size 24 n A n c := by rw [hW0]; exact MatB.new w _
  have hsl : ∀ k, k ≤ n → sumK xss k ≤ 268435456 := fun k hk => by
    have := sumK_le 1024 hl k
    have : k * (64 * 1024) ≤ 4096 * 65536 := Nat.mul_le_mul (by omega) (by omega)
    omega
  have hok := Lib.hid (pairsM_ok xss (by omega) (fun i xs hx => Nat.le_trans (hl i xs hx) (by omega)))
  have hs0 : w.heap.size + 1 ≤ W0.heap.size := by rw [hW0]; simp
  have hown0 : W0.ownsRow (w.heap.size + 1) 55 2 (.slice none 0 0) 0 [] := World.ownsRow_nil _ _ _ _
  replace hB := Lib.hid hB
  replace ha := Lib.hid ha
  replace hown0 := Lib.hid hown0
  replace hr := Lib.hid hr
  replace hl := Lib.hid hl
  replace hlen := Lib.hid hlen
  replace hsl := Lib.hid hsl
  go_enter Try.func21, Try.ntmps21
  go_wp2_with fail
  rw [← hW0]
  clear hW0
  go_loopw [3, 4] (fun l i wr => ∃ q : Nat, q ≤ n ∧ i = .int .i64 q ∧ Hid (wr.ownsRow (w.heap.size + 1) 55 2 l (pairsK xss q).length (cellsP (pairsK xss q))) ∧ Hid (Below w.heap.size w wr) ∧ Hid (MatB wr w.heap.size 24 n A n c) ∧ Hid (w.heap.size + 1 ≤ wr.heap.size)) (fun _ i _ => n - (intOf i).toNat)
  case atStart => exact ⟨0, Nat.zero_le _, rfl, hown0, ha, hB, Lib.hid hs0⟩
  case round =>
    obtain ⟨q, hq, rfl, hown, hbr, hBr, hsr⟩ := hrel
    clear hown0 hB hs0 ha
    have l0 := hBr.out.c0
    have l1 := hBr.out.c1
    by_cases hlt : q < n
    · obtain ⟨b, off, B, m, d, xs, rfl, hbl, hx, hc, hxr⟩ := (hr.out.below hbr.out).at_ hlt
      have hm : m ≤ 1024 := by have := hxr.len; have := hl.out q xs hx; omega
      have hL := Lib.hid (ref2_ListO B m d xs wr hxr (by omega))
      have hst := Lib.hid (pairsK_succ hx)
      have hcl := Lib.hid (listR_len xs)
      have hcount : countR xs ≤ 65536 := by have := countR_le xs; have := hxr.len; omega
      have hpl : (pairsK xss q).length ≤ 268435456 := by rw [pairsK_len]; exact hsl.out q hq
      clear hx hxr
      go_wp2_with fail
      refine hL.out.mono ?_; rintro e w1 ⟨C, y, z, rfl, hIo, hI64, hb1⟩
      have hI := Ints.of_own hIo hI64
      have hy : y ≤ 65536 := by have := hI.len; rw [hcl.out] at this; omega
      have hlist := Lib.hid hI.len
      have hown1 := own_below hown.out hb1
      have hbr1 := Lib.hid (below_trans2 hbr.out hb1)
      have hB1 := Lib.hid (MatB.below_ hBr.out hb1)
      have hib : wr.heap.size ≤ w1.heap.size := hb1.size
      have hs1 := Lib.hid (show w.heap.size + 1 ≤ w1.heap.size from Nat.le_trans hsr.out hib)
      replace hI64 := Lib.hid hI64
      clear hI hb1 hL l0 l1 hc
      go_wp2_with fail
      go_loopw [3, 6] (fun l i wi => ∃ (u : Nat) (D : List (Int × Int)), u ≤ y ∧ i = .int .i64 u ∧ Hid (D = pairsK xss q ++ ((listR xs).take u).map fun j => ((q : Int), j)) ∧ wi.ownsRow (w.heap.size + 1) 55 2 l D.length (cellsP D) ∧ wi.ownsRow (w.heap.size + 1) 3 1 (.slice C y z) y ((listR xs).map i64v) ∧ Below w.heap.size w wi ∧ Hid (MatB wi w.heap.size 24 n (some ⟨b, off, none⟩) n c) ∧ Hid (w.heap.size + 1 ≤ wi.heap.size)) (fun _ i _ => y - (intOf i).toNat)
      case atStart => exact ⟨0, _, Nat.zero_le _, rfl, Lib.hid (by simp), hown1, own_base hIo hsr.out, hbr1.out, hB1, hs1⟩
      case round =>
        obtain ⟨u, D, hu, rfl, hD, hownD, hIo', hbD, hBD, hsD⟩ := hrel
        clear hown1 hIo hB1 hs1
        have hDl : D.length ≤ 268500992 := by
          rw [hD.out, List.length_append, List.length_map, List.length_take]; omega
        by_cases hlu : u < y
        · obtain ⟨b2, o2, x, rfl, hbl2, hx2, hx64, hc2⟩ := (Ints.of_own hIo' hI64.out).at_ hlu
          have hD2 : Hid (D ++ [((q : Int), x)] = pairsK xss q ++ ((listR xs).take (u + 1)).map fun j => ((q : Int), j)) := Lib.hid (by
            rw [List.take_succ_eq_append_getElem (List.getElem?_eq_some_iff.1 hx2).1, (List.getElem?_eq_some_iff.1 hx2).2, hD.out]; simp)
          clear hx2 hx64 hD
          have hsz := hsD.out
          go_wp2_with (at_builtin; refine wpList_append_lies _ rfl (.tmp 25) (.tmp 32) _ rfl (w.heap.size + 1) 55 i0 _ 2 16 Try.underlying37 hi.out hz0.out hz1.out hz2.out rfl (by omega) _ _ _ (by rfl) (hownD.alloc _) ⟨wr.heap.size, 0, none⟩ 1 1 [.int .i64 (q : Int), .int .i64 x] rfl rfl (cell_two_new _ _ _ _) (by simp [Value.oneCell']) (by omega) (by unfold maxLen; omega) (by omega) (by simp; omega) _ rfl ?_; intro g cap w2 hown2 hgrow hat hlt1; have hb2 := (hbD.alloc hbD.size _).grown hgrow (by have := hbD.size; simp; omega) (fun g e => by have := own_lt_block hownD g e; omega); have hB2 := Lib.hid (Blk.grown (Blk.alloc hBD.out _) hgrow (fun e => by have := own_lt_block hownD _ e.symm; omega)); have hs2 := Lib.hid (show w.heap.size + 1 ≤ w2.heap.size by have := hgrow.size; simp at this; omega); have hIo2 := own_grown (own_below hIo' ((Below.refl _ _).alloc (Nat.le_refl _) _)) (own_below hownD ((Below.refl _ _).alloc (Nat.le_refl _) _)) (by decide) hgrow; clear hgrow hat hlt1)
          go_roundw
          case rel =>
            refine ⟨u + 1, D ++ [((q : Int), x)], by omega, by go_num, hD2, ?_, hIo2, hb2, hB2, hs2⟩
            rw [List.length_append, cellsP_snoc]
            exact hown2
          case measure => simp [intOf]; omega
        · have hDe : D = pairsK xss (q + 1) := by
            rw [hD.out, hst.out, List.take_of_length_le (by rw [hlist.out]; omega)]
          have hbr2 := Lib.hid hbD
          rw [hDe] at hownD
          clear hDe hD hDl hbD hIo'
          go_wp2_with fail
          go_roundw
          case rel => exact ⟨q + 1, by omega, by go_num, Lib.hid hownD, hbr2, hBD, hsD⟩
          case measure => simp [intOf]; omega
    · obtain rfl : q = n := by omega
      have he : pairsK xss q = pairsM xss := by unfold pairsM; rw [hlen.out]
      have hown2 := hown.out
      rw [he] at hown2
      obtain ⟨A', c', rfl, hP⟩ := PairsAt.of_own hown2 hok.out
      have hbf := hbr
      clear he hown2 hown
      go_wp2_with fail
      go_ret
      exact ⟨_, _, _, rfl, hP, hbf.out⟩

end Go.Proofs.Ytkikoniihmieiaa

namespace Go.Proofs.Ytkikoniihmieiaa
open Go.RowKit
set_option linter.unusedVariables false

def turned (ps : List (Int × Int)) : List (Int × Int) := ps.map fun x => (x.2, x.1)
theorem turned_len (ps : List (Int × Int)) : (turned ps).length = ps.length := by simp [turned]
theorem turned_at {ps : List (Int × Int)} {k : Nat} {x y : Int} (h : ps[k]? = some (x, y)) : (turned ps)[k]? = some (y, x) := by unfold turned; rw [List.getElem?_map, h]; rfl
theorem pairsM_len2 (xss : List (List Nat)) {n : Nat} (hn : n ≤ 4096) (hlen : xss.length = n) (hl : ∀ (i : Nat) (xs : List Nat), xss[i]? = some xs → xs.length ≤ 1024) : (pairsM xss).length ≤ 268435456 := by
  unfold pairsM
  rw [pairsK_len]
  have h1 := sumK_le 1024 hl xss.length
  have h2 : xss.length * (64 * 1024) ≤ 4096 * 65536 := Nat.mul_le_mul (by omega) (by omega)
  omega
set_option maxRecDepth 100000 in
set_option maxHeartbeats 4000000 in
theorem ref3_Turn (A : Option Addr) (n c : Nat) (xss : List (List Nat)) (w : World) (hr : RowsAt w A n xss) (hn : n ≤ 4096) (hl : ∀ (i : Nat) (xs : List Nat), xss[i]? = some xs → xs.length ≤ 1024)
    (hok : ∀ x ∈ turned (pairsM xss), okP (n : Int) x = true) :
    Calls Try.prog 23 #[.agg #[.int .i64 (n : Int), .slice A n c]] w (RetMat1 (n : Int) (foldP n (turned (pairsM xss))) w) := by
  have hN := Lib.hid (ref3_NewF n hn)
  obtain ⟨R, hR⟩ : ∃ R, R = w.heap.size + 1 := ⟨_, rfl⟩
  obtain ⟨W0, hW0⟩ : ∃ W0, W0 = (w.alloc (.cells #[.int .i64 n, .slice A n c] 24)).alloc (.cells #[.int .i64 0, .slice none 0 0] 24) := ⟨_, rfl⟩
  have ha : Below w.heap.size w W0 := by rw [hW0]; exact ((Below.refl _ _).alloc (Nat.le_refl _) _).alloc (by simp) _
  have hA0 : MatB W0 w.heap.size 24 n A n c := by rw [hW0]; exact (MatB.new w _).below_ ((Below.refl _ _).alloc (Nat.le_refl _) _)
  have hR0 : MatB W0 R 24 0 none 0 0 := by rw [hW0, hR]; exact MatB.new1 w _ _
  have hP := Lib.hid (ref3_Pairs A n c xss W0 (hr.below ha) hn hl)
  have hlen := pairsM_len2 xss hn hr.len hl
  have q0 := hA0.c0
  have q1 := hA0.c1
  rw [hW0] at q0 q1
  replace ha := Lib.hid ha
  replace hA0 := Lib.hid hA0
  replace hR0 := Lib.hid hR0
  replace hok := Lib.hid hok
  clear hr hl
  go_enter Try.func23, Try.ntmps23
  go_wp2_with fail
  rw [← hW0, ← hR]
  clear hW0 q0 q1
  refine hP.out.mono ?_; rintro e w1 ⟨A2, m, c2, rfl, hp, hb1⟩
  have hm : m ≤ 1073741824 := by have := hp.1; omega
  have hA1 := Lib.hid (hA0.out.below_ hb1)
  have hR1 := Lib.hid (hR0.out.below_ hb1)
  have q0 := hA1.out.c0
  have q1 := hA1.out.c1
  have hb01 := Lib.hid (below_trans2 ha.out hb1)
  have hR1s : R < w1.heap.size := hR1.out.lt
  replace hp := Lib.hid hp
  clear hb1 ha hP hlen hA0 hR0
  go_wp2_with fail
  refine (hN.out _).mono ?_; rintro e w2 ⟨C, p, q, rfl, hrows, hcap, hb2, hfarC⟩
  obtain rfl : n = p := by have := hrows.len; rw [(DimM.new n).1] at this; exact this
  obtain ⟨M, hM⟩ : ∃ M, M = w2.heap.size := ⟨_, rfl⟩
  obtain ⟨W2, hW2⟩ : ∃ W2, W2 = w2.alloc (.cells #[.int .i64 n, .slice C n q] 24) := ⟨_, rfl⟩
  have hb3 : Below w2.heap.size w2 W2 := by rw [hW2]; exact (Below.refl _ _).alloc (Nat.le_refl _) _
  have hb23 := Lib.hid (below_trans2 hb2 hb3)
  have hRow := Lib.hid (show RowsAt W2 C n (foldP n ((turned (pairsM xss)).take 0)) by rw [List.take_zero, foldP_nil]; exact hrows.below hb3)
  have hRr := Lib.hid (hR1.out.below_ hb23.out)
  have hL := Lib.hid (show MatB W2 M 24 n C n q by rw [hW2, hM]; exact MatB.new w2 _)
  have hRM : w1.heap.size ≤ M := by have := hb2.size; omega
  have hfar : Hid (0 < n → ∀ ad, C = some ad → R < ad.block ∧ ad.block ≠ M) := Lib.hid (fun h0 ad e => by have := hfarC ad e; have := hrows.block_lt h0 ad e; omega)
  clear hrows hb2 hb3 hfarC hN hA1 hR1 q0 q1
  go_wp2_with fail
  rw [← hW2, ← hM]
  clear hW2 hM
  go_loopw [6] (fun i wr => ∃ (k : Nat) (A' : Option Addr) (c' : Nat), k ≤ m ∧ i = .int .i64 k ∧ Hid (RowsAt wr A' n (foldP n ((turned (pairsM xss)).take k))) ∧ n ≤ c' ∧ Hid (0 < n → ∀ ad, A' = some ad → R < ad.block ∧ ad.block ≠ M) ∧ Hid (MatB wr R 24 0 none 0 0) ∧ Hid (MatB wr M 24 n A' n c') ∧ Hid (Below w1.heap.size w1 wr)) (fun i _ => m - (intOf i).toNat)
  case atStart => exact ⟨0, _, _, Nat.zero_le _, rfl, hRow, hcap, hfar, hRr, hL, hb23⟩
  case round =>
    obtain ⟨k, A', c', hk, rfl, hrr, hcr, hfr, hRw, hLr, hbr⟩ := hrel
    clear hRow hfar hRr hL hb23
    have l0 := hLr.out.c0
    have l1 := hLr.out.c1
    by_cases hlt : k < m
    · obtain ⟨b, off, ⟨x, y⟩, rfl, hbl, hx, ⟨⟨x1, x2⟩, ⟨y1, y2⟩⟩, hc1, hc2⟩ := (hp.out.below hbr.out).at_ hlt
      simp only at x1 x2 y1 y2 hc1 hc2
      have hxt := turned_at hx
      have hok1 := hok.out _ (List.mem_of_getElem? hxt)
      have hfold := foldP_snoc n (turned (pairsM xss)) k _ hxt
      have hdim := DimM.fold n ((turned (pairsM xss)).take k)
      have hlr : ∀ xs ∈ foldP n ((turned (pairsM xss)).take k), xs.length ≤ 1024 := fun xs hxs => by
        obtain ⟨i, hi⟩ := List.getElem?_of_mem hxs
        have := hdim.2 i xs hi
        have := words_le hn
        omega
      have hk0 : (0 : Int) ≤ (k : Int) := by omega
      have hkm : (k : Int) < (m : Int) := by omega
      have hcall := Lib.hid (fun W hW => by
        have h := ref3_SetF (n : Int) A' n c' (foldP n ((turned (pairsM xss)).take k)) y x W hW rfl hn hlr hok1
        rw [← hfold] at h
        exact h)
      clear hx hxt hok1 hfold hdim hlr
      go_wp2_with fail
      refine wp_region_planT 13 [(true, 0), (true, 1), (true, 2), (true, 3), (true, 4), (true, 5), (true, 6), (true, 7), (true, 8), (true, 9), (true, 10), (false, 11), (true, 12)] 15 [13, 14] (by kernel_rfl) (by kernel_rfl) (fun W hW => ?_)
      have p0 : W.cell? ⟨M, 0, none⟩ = some (.int .i64 n) := by rw [hW.out]; exact l0
      have p1 : W.cell? ⟨M, 1, none⟩ = some (.slice A' n c') := by rw [hW.out]; exact l1
      have p2 : W.cell? ⟨b, off + k * 2, none⟩ = some (.int .i64 x) := by rw [hW.out]; exact hc1
      have p3 : W.cell? ⟨b, off + k * 2 + 1, none⟩ = some (.int .i64 y) := by rw [hW.out]; exact hc2
      have hRW := Lib.hid (show MatB W R 24 0 none 0 0 by rw [hW.out]; exact Blk.drew hRw.out)
      have hLW := Lib.hid (show MatB W M 24 n A' n c' by rw [hW.out]; exact Blk.drew hLr.out)
      have hbW := Lib.hid (show Below w1.heap.size w1 W by rw [hW.out]; exact hbr.out.drew)
      have hC := Lib.hid (hcall.out W (by rw [hW.out]; exact hrr.out))
      clear l0 l1 hc1 hc2 hRw hLr hbr hrr hcall hfr
      simp only [List.drop_succ_cons, List.drop_zero]
      iterate 11
        refine wpPlanE_float (v := ?_) rfl (by rfl) (fun w' hw' => ?_) (fun K hK => ?_)
        rotate_left
        · (go_simp; try with_reducible rfl)
        go_simp
        refine hK _ ?_
        clear hK K
      refine wpPlanE_only rfl (by rfl) (fun K hK => ?_)
      go_simp
      refine hC.out.mono ?_
      rintro e w4 ⟨C2, n2, c4, rfl, hrows2, hcap2, hb4, hfar2⟩
      refine hK _ _ hb4 ?_
      clear hK K p0 p1 p2 p3
      have hR4 := Lib.hid (hRW.out.below_ hb4)
      have hL4 := hLW.out.below_ hb4
      have hbb4 := below_trans2 hbW.out hb4
      have hMW : M < W.heap.size := hLW.out.lt
      obtain rfl : n = n2 := by have := hrows2.len; rw [(DimM.fold n _).1] at this; exact this
      iterate 1
        refine wpPlanE_float (v := ?_) rfl (by rfl) (fun w' hw' => ?_) (fun K hK => ?_)
        rotate_left
        · (go_simp; try with_reducible rfl)
        go_simp
        refine hK _ ?_
        clear hK K
      refine wpPlanE_nil ?_
      iterate 2
        refine wpPlanT_float (v := ?_) rfl (by rfl) (fun w' => ?_) (fun K hK => ?_)
        rotate_left
        · (go_simp; try with_reducible rfl)
        go_simp
        refine hK _ ?_
        clear hK K
      refine wpPlanT_nil ?_
      have f0 := hL4.c0
      have f1 := hL4.c1
      have g0 := hL4.frozen 0
      have g1 := hL4.frozen 1
      have hLf := Lib.hid (hL4.put n C2 n c4)
      have hRf := Lib.hid ((hR4.out.farB (p := ⟨M, 0, none⟩) (by simp <;> omega) (.int .i64 n)).farB (p := ⟨M, 1, none⟩) (by simp <;> omega) (.slice C2 n c4))
      have hbf := Lib.hid ((hbb4.setCell (p := ⟨M, 0, none⟩) (by simp <;> omega) (.int .i64 n)).setCell (p := ⟨M, 1, none⟩) (by simp <;> omega) (.slice C2 n c4))
      have hrows5 := Lib.hid (hrows2.putB hL4 (fun _ ad e => by have := hfar2 ad e; omega) (.int .i64 n) (.slice C2 n c4))
      have hfar5 : Hid (0 < n → ∀ ad, C2 = some ad → R < ad.block ∧ ad.block ≠ M) := Lib.hid (fun _ ad e => by have := hfar2 ad e; omega)
      clear hrows2 hfar2 hb4 hbb4
      replace hL4 := Lib.hid hL4
      go_wp2_with fail
      refine NoPanic.normal ?_
      go_wp2_with fail
      go_roundw
      case rel => exact ⟨k + 1, C2, c4, by omega, by go_num, hrows5, hcap2, hfar5, hRf, hLf, hbf⟩
      case measure => simp [intOf]; omega
    · obtain rfl : k = m := by omega
      have hfull : (turned (pairsM xss)).take k = turned (pairsM xss) := by
        rw [← hp.out.1, ← turned_len]; exact List.take_length
      rw [hfull] at hrr
      have f0 := hRw.out.c0
      have f1 := hRw.out.c1
      have g0 := hRw.out.frozen 0
      have g1 := hRw.out.frozen 1
      have hcc := hRw.out.two (.int .i64 n) (.slice A' n c')
      have hc1 := Lib.hid hcc.1
      have hc2 := Lib.hid hcc.2
      have hbw := hb01.out.trans (hbr.out.mono (by have := hb01.out.size; omega))
      have hfin := Lib.hid ((hbw.setCell (p := ⟨R, 0, none⟩) (by simp <;> omega) (.int .i64 n)).setCell (p := ⟨R, 1, none⟩) (by simp <;> omega) (.slice A' n c'))
      have hrf := Lib.hid (hrr.out.putB hRw.out (fun h0 ad e => by have := (hfr.out h0 ad e).1; omega) (.int .i64 n) (.slice A' n c'))
      clear hcc hfull hfr hrr hbw
      subst hR
      go_wp2_with fail
      exact bodyPost_ret (v := .agg #[.int .i64 n, .slice A' n c']) (by simp [results, Try.results23, go_sem, hc1.out, hc2.out]) rfl ⟨A', n, c', rfl, hrf.out, hcr, hfin.out⟩

end Go.Proofs.Ytkikoniihmieiaa
