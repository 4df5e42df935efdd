/- Contracts of package mat: join, Or. Contracts of package mat: fits, Right. Contracts of package mat: Sub, Same (by slices.EqualFunc). Contracts of package mat: Pairs. Plain facts of matrices that may be: a pair that is set. Plain mathematics of a block of 64 words whose bits are turned about, size by size. Nothing of the program is imported. Contracts of package mat: flip. A whole array of words, loaded and stored: at a plain region's list. No function of the program is named here. Contracts of package mat: take, lay, Turn. Contracts of package mat: lay. Contracts of package mat: Turn. Plain facts of matrices that may be: made of pairs, turned about. Contracts of the document's own answers for matrices (eyewitnessref03): in, Has, Small, Equal. Contracts of the document's own answers for matrices: Equal, Sub, Same. Contracts of the document's own answers for matrices: Sub, Same. Contracts of the document's own answers for matrices: Right. -/
import Derived.Test.YtpbiilhclmcehaaClashMorePk3
import Derived.Test.YtpbiilhclmcehaaClashMorePk2
import Derived.Deep.MidRow
namespace Go.Proofs.Ytpbiilhclmcehaa
open Go.RowKit
set_option linter.unusedVariables false

/-- what 'join' ends in: one of both, or a row of its own -/
def RetJoin (A B : Option Addr) (xs ys : List Nat) (w : World) (e : Ending) (w' : World) : Prop :=
  ∃ C n c, e = .returned (.slice C n c) ∧ Row w' C n (orR xs ys) ∧ Below w.heap.size w w' ∧ (C = A ∨ C = B ∨ ∀ ad, C = some ad → w.heap.size ≤ ad.block)
set_option maxHeartbeats 400000 in
theorem mat_join (A B : Option Addr) (n c d : Nat) (xs ys : List Nat) (w : World) (hr : Row w A n xs) (hs : Row w B n ys) (hn : n ≤ 1073741824) :
    Calls Try.prog 54 #[.slice A n c, .slice B n d] w (RetJoin A B xs ys w) := by
  have hl1 := hr.len
  have hl2 := hs.len
  have h1 := Lib.hid (row_Sub B A n n d c ys xs w hs hr (by omega) (by omega))
  have h2 := Lib.hid (row_Sub A B n n c d xs ys w hr hs (by omega) (by omega))
  have h3 := Lib.hid (row_OrO A B n n c d xs ys w hr hs (by omega) (by omega))
  rcases Bool.eq_false_or_eq_true (subR ys xs) with ha | ha
  · have he := Lib.hid (orR_of_sub (by omega) ha)
    replace ha := Lib.hid ha
    replace hr := Lib.hid hr
    clear hl1 hl2 hs
    go_enter Try.func54, Try.ntmps54
    go_wp2_with fail
    refine h1.out.mono ?_; rintro e w' ⟨rfl, rfl⟩
    rw [ha.out]
    go_wp2
    go_ret
    exact ⟨_, _, _, rfl, by rw [he.out]; exact hr.out, Below.refl _ _, .inl rfl⟩
  · replace ha := Lib.hid ha
    rcases Bool.eq_false_or_eq_true (subR xs ys) with hb | hb
    · have he := orR_of_sub (a := ys) (b := xs) (by omega) hb
      rw [orR_comm] at he
      replace he := Lib.hid he
      replace hb := Lib.hid hb
      replace hs := Lib.hid hs
      clear hl1 hl2 hr
      go_enter Try.func54, Try.ntmps54
      go_wp2_with fail
      refine h1.out.mono ?_; rintro e w' ⟨rfl, rfl⟩
      rw [ha.out]
      go_wp2_with fail
      refine h2.out.mono ?_; rintro e w' ⟨rfl, rfl⟩
      rw [hb.out]
      go_wp2
      go_ret
      exact ⟨_, _, _, rfl, by rw [he.out]; exact hs.out, Below.refl _ _, .inr (.inl rfl)⟩
    · replace hb := Lib.hid hb
      clear hl1 hl2 hr hs
      go_enter Try.func54, Try.ntmps54
      go_wp2_with fail
      refine h1.out.mono ?_; rintro e w' ⟨rfl, rfl⟩
      rw [ha.out]
      go_wp2_with fail
      refine h2.out.mono ?_; rintro e w' ⟨rfl, rfl⟩
      rw [hb.out]
      go_wp2_with fail
      refine h3.out.mono ?_; rintro e w1 ⟨C, p, q, rfl, ho, hx, hbb⟩
      go_wp2
      go_ret
      exact ⟨_, _, _, rfl, Row.of_own ho hx, hbb, .inr (.inr (fun ad e => by subst e; exact own_lt_block ho _ rfl))⟩

set_option maxHeartbeats 2000000 in
theorem mat_Or (A B : Option Addr) (n c d : Nat) (xss yss : List (List Nat)) (w : World) (hr : RowsAt w A n xss) (hs : RowsAt w B n yss) (hn : n ≤ 4096)
    (hl : ∀ (i : Nat) (xs ys : List Nat), xss[i]? = some xs → yss[i]? = some ys → xs.length = ys.length ∧ xs.length ≤ 1024) :
    Calls Try.prog 31 #[.agg #[.int .i64 (n : Int), .slice A n c], .agg #[.int .i64 (n : Int), .slice B n d]] w (RetMat (n : Int) (orM xss yss) 0 w) := by
  have hmk := mk_rows .i64 .i64 n n (Nat.le_refl _) (by omega)
  have hxl := hr.len
  obtain ⟨W0, hW0⟩ : ∃ W0, W0 = ((w.alloc (.cells #[.int .i64 n, .slice A n c] 35)).alloc (.cells #[.int .i64 n, .slice B n d] 35)).alloc (.cells #[.int .i64 0, .slice none 0 0] 35) := ⟨_, rfl⟩
  have ha : Below w.heap.size w W0 := by rw [hW0]; exact (((Below.refl _ _).alloc (Nat.le_refl _) _).alloc (by simp <;> omega) _).alloc (by simp <;> omega) _
  have hBa : MatB W0 w.heap.size 35 n A n c := by rw [hW0]; exact ((MatB.new w _).below_ ((Below.refl _ _).alloc (Nat.le_refl _) _)).below_ ((Below.refl _ _).alloc (Nat.le_refl _) _)
  have hBb : MatB W0 (w.heap.size + 1) 35 n B n d := by rw [hW0]; exact (MatB.new1 w _ _).below_ ((Below.refl _ _).alloc (Nat.le_refl _) _)
  have hBr : MatB W0 (w.heap.size + 2) 35 0 none 0 0 := by
    rw [hW0]
    have h := MatB.new1 (N := 0) (A := none) (n := 0) (c := 0) (w.alloc (.cells #[.int .i64 n, .slice A n c] 35)) (.cells #[.int .i64 n, .slice B n d] 35) 35
    rwa [show (w.alloc (.cells #[.int .i64 n, .slice A n c] 35)).heap.size = w.heap.size + 1 from by simp] at h
  have hs0 : W0.heap.size = w.heap.size + 3 := by rw [hW0]; simp
  obtain ⟨W1, hW1⟩ : ∃ W1, W1 = W0.alloc (.cells (zeros n (.slice none 0 0)) 79) := ⟨_, rfl⟩
  have hb01 : Below W0.heap.size W0 W1 := by rw [hW1]; exact (Below.refl _ _).alloc (Nat.le_refl _) _
  have hs1 : W1.heap.size = w.heap.size + 4 := by rw [hW1]; simp [hs0]
  have hown0 : W1.ownsRow (w.heap.size + 3) 79 1 (.slice (some ⟨w.heap.size + 3, 0, none⟩) n n) n (filled [] n) := by
    have h := own_zeros W0 n (.slice none 0 0) 79 (by unfold maxLen; omega)
    rw [← hW1, hs0] at h
    rw [filled_nil]; exact h
  have hp : W0.heap.size = w.heap.size + 3 := hs0
  have l1 := hBa.c0
  have l2 := hBb.c0
  have hne : ((n : Int) != (n : Int)) = false := by simp
  have hBa1 := Lib.hid (hBa.below_ hb01)
  have hBb1 := Lib.hid (hBb.below_ hb01)
  have hBr1 := Lib.hid (hBr.below_ hb01)
  have ha1 := Lib.hid (below_trans2 ha hb01)
  have hs1' := Lib.hid hs1
  replace hown0 := Lib.hid hown0
  replace hr := Lib.hid hr
  replace hs := Lib.hid hs
  replace hl := Lib.hid hl
  replace hxl := Lib.hid hxl
  clear ha hBa hBb hBr hs1 hb01 hs0
  go_enter Try.func31, Try.ntmps31
  go_wp2_with fail
  rw [← hW0, ← hW1]
  clear hW1 hW0 hmk hp l1 l2
  go_loopw [19] (fun i wr => ∃ vs : List Value, vs.length ≤ n ∧ i = .int .i64 vs.length ∧ Hid (wr.ownsRow (w.heap.size + 3) 79 1 (.slice (some ⟨w.heap.size + 3, 0, none⟩) n n) n (filled vs n)) ∧ Hid (RowsF wr w.heap.size (w.heap.size + 4) vs (orPre xss yss vs.length)) ∧ Hid (MatB wr w.heap.size 35 n A n c) ∧ Hid (MatB wr (w.heap.size + 1) 35 n B n d) ∧ Hid (MatB wr (w.heap.size + 2) 35 0 none 0 0) ∧ Hid (Below w.heap.size w wr) ∧ Hid (w.heap.size + 4 ≤ wr.heap.size)) (fun i _ => n - (intOf i).toNat)
  case atStart => exact ⟨[], Nat.zero_le _, rfl, hown0, Lib.hid (RowsF.nil _), hBa1, hBb1, hBr1, ha1, Lib.hid (by rw [hs1'.out]; exact Nat.le_refl _)⟩
  case round =>
    obtain ⟨vs, hk, rfl, hown, hrows, hBa, hBb, hBr, hbr, hsr⟩ := hrel
    clear hown0 hBa1 hBb1 hBr1 ha1
    obtain ⟨k, hke⟩ : ∃ k, k = vs.length := ⟨_, rfl⟩
    rw [← hke] at hk
    rw [← hke]
    by_cases hlt : k < n
    · have hke' := Lib.hid hke
      clear hke
      obtain ⟨b1, o1, A1, n1, c1, xs, rfl, hbl1, hx1, hc1, hrx⟩ := hr.out.at_ hlt
      obtain ⟨b2, o2, B1, n2, c2, ys, rfl, hbl2, hy1, hc2, hry⟩ := hs.out.at_ hlt
      have hxy := hl.out k xs ys hx1 hy1
      have e12 : n2 = n1 := by have := hrx.len; have := hry.len; omega
      subst e12
      have hn1 : n2 ≤ 1024 := by have := hrx.len; omega
      replace hc1 := (hbr.out.cell (p := ⟨b1, o1 + k, none⟩) hbl1).trans hc1
      replace hc2 := (hbr.out.cell (p := ⟨b2, o2 + k, none⟩) hbl2).trans hc2
      have hstep : Hid (orPre xss yss (k + 1) = orPre xss yss k ++ [orR xs ys]) := Lib.hid (by rw [orPre_succ, getD_at hx1, getD_at hy1])
      have la := hBa.out.c1
      have lb := hBb.out.c1
      have hget := filled_get (vs := vs) (n := n) (by rw [← hke'.out]; exact hlt)
      have hfg := hown.out.frozenAt k
      have hcg := hown.out.cellAt k (by omega)
      rw [hke'.out, hget, ← hke'.out] at hcg
      replace hrx := Lib.hid hrx
      replace hry := Lib.hid hry
      clear hx1 hy1 hxy hget
      have hk0 : (0 : Int) ≤ (k : Int) := by omega
      have hkn : (k : Int) < (n : Int) := by omega
      go_wp2_with fail
      refine wp_region_plan 13 [(true, 0), (true, 1), (true, 2), (true, 3), (true, 4), (true, 5), (true, 6), (true, 7), (true, 8), (true, 9), (true, 10), (true, 11), (false, 12)] (by kernel_rfl) (by kernel_rfl) (fun W hW => ?_)
      have hbW : Below wr.heap.size wr W := by rw [hW.out]; exact (Below.refl _ _).drew
      have m1 : W.cell? ⟨w.heap.size, 1, none⟩ = some (.slice (some ⟨b1, o1, none⟩) n c) := by rw [hW.out]; exact la
      have m2 : W.cell? ⟨w.heap.size + 1, 1, none⟩ = some (.slice (some ⟨b2, o2, none⟩) n d) := by rw [hW.out]; exact lb
      have m3 : W.cell? ⟨b1, o1 + k, none⟩ = some (.slice A1 n2 c1) := by rw [hW.out]; exact hc1
      have m4 : W.cell? ⟨b2, o2 + k, none⟩ = some (.slice B1 n2 c2) := by rw [hW.out]; exact hc2
      have hbrW := Lib.hid (below_trans2 hbr.out hbW)
      have hownW := Lib.hid (own_below hown.out hbW)
      have hrowsW := Lib.hid (hrows.out.below hbW)
      have hBaW := Lib.hid (hBa.out.below_ hbW)
      have hBbW := Lib.hid (hBb.out.below_ hbW)
      have hBrW := Lib.hid (hBr.out.below_ hbW)
      have hsW : Hid (w.heap.size + 4 ≤ W.heap.size) := Lib.hid (Nat.le_trans hsr.out hbW.size)
      have hj := Lib.hid (mat_join A1 B1 n2 c1 c2 xs ys W (hrx.out.below hbrW.out) (hry.out.below hbrW.out) (by omega))
      clear hbW hown hrows hBa hBb hBr hbr hsr la lb hc1 hc2 hfg hcg
      simp only [List.drop_succ_cons, List.drop_zero]
      iterate 12
        refine wpPlan_float (v := ?_) rfl (by rfl) (fun w' hw' => ?_) (fun K hK => ?_)
        rotate_left
        · (go_simp; try with_reducible rfl)
        go_simp
        refine hK _ ?_
        clear hK K
      refine wpPlan_only rfl (by rfl) (fun K hK => ?_)
      go_simp
      refine hj.out.mono ?_; rintro e w1 ⟨C, p, q, rfl, hC, hb1, hfr⟩
      refine hK _ _ hb1 (wpPlan_nil ?_)
      clear hK K
      have hown1 := own_below hownW.out hb1
      have hget := filled_get (vs := vs) (n := n) (by rw [← hke'.out]; exact hlt)
      have hcg := hown1.cellAt k (by omega)
      rw [hke'.out, hget, ← hke'.out] at hcg
      have hfg := hown1.frozenAt k
      have hCF : Hid (RowF w1 w.heap.size (w.heap.size + 4) (.slice C p q) (orR xs ys)) := Lib.hid ⟨C, p, q, rfl, hC, fun h0 ad he => by
        have hp0 : 0 < n2 := by
          have h1 := hC.len
          have h2 := orR_len xs ys
          have h3 := hrx.out.len
          have h4 := hry.out.len
          omega
        rcases hfr with h | h | h
        · subst h
          obtain ⟨b, off, e, hbl, _⟩ := hrx.out.1.2 hp0
          rw [e] at he
          injection he with he
          subst he
          exact .inl hbl
        · subst h
          obtain ⟨b, off, e, hbl, _⟩ := hry.out.1.2 hp0
          rw [e] at he
          injection he with he
          subst he
          exact .inl hbl
        · exact .inr (Nat.le_trans hsW.out (h ad he))⟩
      have hrows1 := Lib.hid ((hrowsW.out.below hb1).snoc hCF.out)
      have hBa1 := Lib.hid (hBaW.out.below_ hb1)
      have hBb1 := Lib.hid (hBbW.out.below_ hb1)
      have hBr1 := Lib.hid (hBrW.out.below_ hb1)
      have hbr1 := Lib.hid (below_trans2 hbrW.out hb1)
      have hsr1 := Lib.hid (Nat.le_trans hsW.out hb1.size)
      replace hown1 := Lib.hid hown1
      clear hC hb1 hfr hget hownW hrowsW hBaW hBbW hBrW hbrW hsW m1 m2 m3 m4
      go_wp2_with fail
      refine NoPanic.normal ?_
      go_wp2_with fail
      go_roundw
      case rel =>
        refine ⟨vs ++ [.slice C p q], by have := hke'.out; simp; omega, by rw [List.length_append, ← hke'.out]; simp; try omega, ?_, ?_, ?_, ?_, ?_, ?_, ?_⟩
        · refine Lib.hid ?_
          rw [← filled_set (by rw [← hke'.out]; exact hlt), ← hke'.out]
          exact (hown1.out.stored k (.slice C p q)).1
        · refine Lib.hid ?_
          rw [List.length_append, List.length_singleton, ← hke'.out, hstep.out]
          have h := hrows1.out.set (p := ⟨w.heap.size + 3, k, none⟩) (by simp <;> omega) (by simp <;> omega) (.slice C p q)
          rw [← hke'.out] at h
          exact h
        · exact Lib.hid (hBa1.out.far (by simp <;> omega) _)
        · exact Lib.hid (hBb1.out.far (by simp <;> omega) _)
        · exact Lib.hid (hBr1.out.far (by simp <;> omega) _)
        · exact Lib.hid (hbr1.out.setCell (by simp <;> omega) _)
        · exact Lib.hid (by simpa using hsr1.out)
      case measure => simp [intOf]; omega
    · have hkn : k = n := by omega
      have hvn : vs.length = n := by rw [← hke, hkn]
      clear hlt
      have l1 := hBa.out.c0
      have f20 := hBr.out.c0
      have f21 := hBr.out.c1
      have g20 := hBr.out.frozen 0
      have g21 := hBr.out.frozen 1
      replace hvn := Lib.hid hvn
      replace hke := Lib.hid hke
      obtain rfl := hkn
      go_wp2_with fail
      have hcc := hBr.out.two (.int .i64 k) (.slice (some ⟨w.heap.size + 3, 0, none⟩) k k)
      have hc1 := hcc.1
      have hc2 := hcc.2
      clear hcc f20 f21 g20 g21 l1
      refine bodyPost_ret (v := .tuple #[.agg #[.int .i64 k, .slice (some ⟨w.heap.size + 3, 0, none⟩) k k], .int .i64 0]) (by simp [results, Try.results31, go_sem, hc1, hc2]) rfl ⟨_, _, _, rfl, ⟨vs, ?_, ?_⟩, Nat.le_refl _, ?_⟩
      · have h := hown.out
        rw [filled_all hvn.out] at h
        exact Rd.of_own' (own_far (own_far h (p := ⟨w.heap.size + 2, 0, none⟩) (by simp [Value.ownBlock]) _) (p := ⟨w.heap.size + 2, 1, none⟩) (by simp [Value.ownBlock]) _)
      · have h := (hrows.out.set (p := ⟨w.heap.size + 2, 0, none⟩) (by simp) (by simp <;> omega) (.int .i64 k)).set (p := ⟨w.heap.size + 2, 1, none⟩) (by simp) (by simp <;> omega) (.slice (some ⟨w.heap.size + 3, 0, none⟩) k k)
        have he : orPre xss yss vs.length = orM xss yss := by rw [hvn.out, ← orPre_all, hxl.out]
        rw [he] at h
        exact h.rows
      · exact (hbr.out.setCell (by simp <;> omega) _).setCell (by simp <;> omega) _

end Go.Proofs.Ytpbiilhclmcehaa

namespace Go.Proofs.Ytpbiilhclmcehaa
open Go.RowKit
set_option linter.unusedVariables false

theorem fitsR_len {r : List Nat} {n : Int} (h : ((r.length : Int) = wordsZ n) → False) : fitsR r n = false := by
  unfold fitsR; rw [decide_eq_false h]; rfl

theorem rightM_out {N : Int} {xss : List (List Nat)} (h : N < 0 ∨ 4097 ≤ N) : rightM N xss = false := by
  unfold rightM
  rcases h with h | h
  · rw [decide_eq_false (p := 0 ≤ N) (by omega)]; rfl
  · rw [decide_eq_false (p := N ≤ 4096) (by omega)]; simp
theorem rightM_len {N : Int} {xss : List (List Nat)} (h : (xss.length : Int) ≠ N) : rightM N xss = false := by
  unfold rightM; rw [decide_eq_false h]; simp
theorem rightM_row {N : Int} {xss : List (List Nat)} {k : Nat} {xs : List Nat} (hx : xss[k]? = some xs) (h : fitsR xs N = false) : rightM N xss = false := by
  unfold rightM
  rw [List.all_eq_false.2 ⟨xs, List.mem_of_getElem? hx, by rw [h]; simp⟩, Bool.and_false]
theorem rightM_yes {n : Nat} {xss : List (List Nat)} (h1 : n ≤ 4096) (h2 : xss.length = n) (h : ∀ (k : Nat) (xs : List Nat), xss[k]? = some xs → fitsR xs (n : Int) = true) : rightM (n : Int) xss = true := by
  unfold rightM
  rw [decide_eq_true (p := (0 : Int) ≤ n) (by omega), decide_eq_true (p := (n : Int) ≤ 4096) (by omega), decide_eq_true (p := (xss.length : Int) = n) (by omega)]
  simp only [Bool.true_and, List.all_eq_true]
  intro xs hxs
  obtain ⟨k, hk⟩ := List.getElem?_of_mem hxs
  exact h k xs hk

end Go.Proofs.Ytpbiilhclmcehaa

namespace Go.Proofs.Ytpbiilhclmcehaa
open Go.RowKit
set_option linter.unusedVariables false

def allF (f : List Nat → List Nat → Bool) (xss yss : List (List Nat)) : Bool := (List.range xss.length).all fun i => f (xss.getD i []) (yss.getD i [])
theorem allF_no {f : List Nat → List Nat → Bool} {xss yss : List (List Nat)} {k : Nat} {xs ys : List Nat} (hx : xss[k]? = some xs) (hy : yss[k]? = some ys) (h : f xs ys = false) : allF f xss yss = false := by
  unfold allF
  refine List.all_eq_false.2 ⟨k, List.mem_range.2 (List.getElem?_eq_some_iff.1 hx).1, ?_⟩
  rw [getD_at hx, getD_at hy, h]; simp
theorem allF_yes {f : List Nat → List Nat → Bool} {xss yss : List (List Nat)} (hl : xss.length = yss.length) (h : ∀ (k : Nat) (xs ys : List Nat), k < xss.length → xss[k]? = some xs → yss[k]? = some ys → f xs ys = true) : allF f xss yss = true := by
  unfold allF
  rw [List.all_eq_true]
  intro k hk
  have hk' := List.mem_range.1 hk
  have hx := List.getElem?_eq_getElem hk'
  have hy := List.getElem?_eq_getElem (l := yss) (i := k) (by omega)
  rw [getD_at hx, getD_at hy]
  exact h k _ _ hk' hx hy
theorem allF_sub (xss yss : List (List Nat)) : allF subR xss yss = subM xss yss := rfl

end Go.Proofs.Ytpbiilhclmcehaa

namespace Go.Proofs.Ytpbiilhclmcehaa
open Go.RowKit
set_option linter.unusedVariables false

def cellsP (ps : List (Int × Int)) : List Value := ps.flatMap fun p => [.int .i64 p.1, .int .i64 p.2]
theorem cellsP_len (ps : List (Int × Int)) : (cellsP ps).length = ps.length * 2 := by
  induction ps with
  | nil => rfl
  | cons p ps ih =>
    unfold cellsP at ih ⊢
    rw [List.flatMap_cons, List.length_append, ih]
    simp; omega
theorem cellsP_snoc (ps : List (Int × Int)) (p : Int × Int) : cellsP (ps ++ [p]) = cellsP ps ++ [.int .i64 p.1, .int .i64 p.2] := by
  unfold cellsP; rw [List.flatMap_append]; simp
theorem cellsP_get : ∀ (ps : List (Int × Int)) (j : Nat) (p : Int × Int), ps[j]? = some p → (cellsP ps)[j * 2]? = some (.int .i64 p.1) ∧ (cellsP ps)[j * 2 + 1]? = some (.int .i64 p.2)
  | [], j, p, h => by simp at h
  | q :: ps, 0, p, h => by
    simp at h
    subst h
    unfold cellsP
    simp
  | q :: ps, j + 1, p, h => by
    have ih := cellsP_get ps j p (by simpa using h)
    unfold cellsP at ih ⊢
    rw [List.flatMap_cons]
    rw [show (j + 1) * 2 = j * 2 + 2 from by omega]
    exact ⟨by simpa using ih.1, by simpa using ih.2⟩
def OkI (ps : List (Int × Int)) : Prop := ∀ p ∈ ps, (-9223372036854775808 ≤ p.1 ∧ p.1 < 9223372036854775808) ∧ (-9223372036854775808 ≤ p.2 ∧ p.2 < 9223372036854775808)

/-! ### the pairs of a matrix -/

theorem info_pair : (Try.prog.info? 87).map (fun i => (i.zero, i.size, i.bytes)) = some (some (.agg #[.int .i64 0, .int .i64 0]), 2, 16) := by kernel_rfl

end Go.Proofs.Ytpbiilhclmcehaa

namespace Go.Proofs.Ytpbiilhclmcehaa
open Go.RowKit
set_option linter.unusedVariables false

theorem right_of {N : Int} {xss : List (List Nat)} (h0 : 0 ≤ N) (h1 : N ≤ 4096) (h2 : (xss.length : Int) = N) (h3 : ∀ r ∈ xss, fitsR r N = true) : rightM N xss = true := by
  unfold rightM
  simp only [Bool.and_eq_true, decide_eq_true_eq, List.all_eq_true]
  exact ⟨⟨⟨h0, h1⟩, h2⟩, h3⟩
theorem fits_of {r : List Nat} {N : Int} (h1 : (r.length : Int) = wordsZ N) (h2 : ∀ j : Nat, j < 64 * r.length → N ≤ (j : Int) → hasR r (j : Int) = false) : fitsR r N = true := by
  unfold fitsR
  simp only [Bool.and_eq_true, decide_eq_true_eq, List.all_eq_true, List.mem_range, Bool.or_eq_true, Bool.not_eq_true']
  refine ⟨h1, fun j hj => ?_⟩
  by_cases h : (j : Int) < N
  · exact .inl h
  · exact .inr (h2 j hj (by omega))
/-- the rows of a matrix that may be: each of as many words as the number wants, and no bit behind it -/
structure Good (n : Nat) (xss : List (List Nat)) : Prop where
  le : n ≤ 4096
  len : xss.length = n
  row : ∀ r ∈ xss, W64 r ∧ n ≤ 64 * r.length ∧ r.length = (wordsZ (n : Int)).toNat ∧ ∀ j : Nat, n ≤ j → hasR r (j : Int) = false
theorem Good.right {n : Nat} {xss : List (List Nat)} (h : Good n xss) : rightM (n : Int) xss = true := by
  refine right_of (by omega) (by have := h.le; omega) (by rw [h.len]) (fun r hr => ?_)
  obtain ⟨_, h2, h3, h4⟩ := h.row r hr
  refine fits_of ?_ (fun j _ hj => h4 j (by omega))
  have : 0 ≤ wordsZ (n : Int) := by unfold wordsZ; split <;> omega
  omega
theorem Good.at_ {n : Nat} {xss : List (List Nat)} (h : Good n xss) {a : Nat} (ha : a < n) : ∃ r, xss[a]? = some r ∧ W64 r ∧ n ≤ 64 * r.length := by
  have hl : a < xss.length := by rw [h.len]; exact ha
  exact ⟨xss[a], List.getElem?_eq_getElem hl, (h.row _ (List.getElem_mem hl)).1, (h.row _ (List.getElem_mem hl)).2.1⟩
theorem Good.small {n : Nat} {xss : List (List Nat)} (h : Good n xss) : ∀ r ∈ xss, r.length ≤ 64 := fun r hr => by
  have := (h.row r hr).2.2.1
  have := words_le h.le
  omega
theorem Good.set {n : Nat} {xss : List (List Nat)} (h : Good n xss) {a b : Nat} (ha : a < n) (hb : b < n) : Good n (setM xss (a : Int) (b : Int)) := by
  obtain ⟨r, hr, hw, hl⟩ := h.at_ ha
  rw [setM_nat hr]
  have hrow := h.row r (List.mem_of_getElem? hr)
  refine ⟨h.le, by rw [List.length_set]; exact h.len, fun r' hr' => ?_⟩
  rcases List.mem_or_eq_of_mem_set hr' with h1 | rfl
  · exact h.row r' h1
  · refine ⟨setR_w64 hw b, by rw [setR_len]; exact hl, by rw [setR_len]; exact hrow.2.2.1, fun j hj => ?_⟩
    rw [hasR_setR r b j (by omega), hrow.2.2.2 j hj, decide_eq_false (by omega)]; rfl

theorem set_at {α : Type} {xss : List α} {a : Nat} {r r' : α} (h : xss[a]? = some r) : (xss.set a r')[a]? = some r' := by
  rw [List.getElem?_set, if_pos rfl, if_pos (List.getElem?_eq_some_iff.1 h).1]
theorem map_range_getD {α β : Type} (l : List α) (d : α) (f : α → β) : (List.range l.length).map (fun i => f (l.getD i d)) = l.map f := by
  apply List.ext_getElem?
  intro i
  by_cases hi : i < l.length
  · rw [List.getElem?_map, List.getElem?_range hi, List.getElem?_map, List.getElem?_eq_getElem hi, Option.map_some, Option.map_some, getD_at (List.getElem?_eq_getElem hi)]
  · rw [List.getElem?_eq_none (by simpa using hi), List.getElem?_eq_none (by simpa using hi)]
theorem sum_set : ∀ (l : List Nat) (i x y : Nat), l[i]? = some y → (l.set i x).sum + y = l.sum + x
  | [], i, x, y, h => by simp at h
  | z :: l, 0, x, y, h => by
    simp at h; subst h
    simp only [List.set_cons_zero, List.sum_cons]; omega
  | z :: l, i + 1, x, y, h => by
    have := sum_set l i x y (by simpa using h)
    simp only [List.set_cons_succ, List.sum_cons]; omega

end Go.Proofs.Ytpbiilhclmcehaa

namespace Go.Proofs.Ytpbiilhclmcehaa

/-! ### one size: the rows, one by one -/

/-! ### the bits -/

end Go.Proofs.Ytpbiilhclmcehaa

namespace Go.Proofs.Ytpbiilhclmcehaa
open Go.RowKit
set_option linter.unusedVariables false

/-- all but block g is as it was; how often the order was drawn is not said -/
structure OnlyAt (g : Nat) (w w' : World) : Prop where
  os : w'.os = w.os
  tape : w'.tape = w.tape
  output : w'.output = w.output
  size : w'.heap.size = w.heap.size
  block : ∀ k, k ≠ g → w'.heap[k]? = w.heap[k]?
theorem OnlyAt.refl (g : Nat) (w : World) : OnlyAt g w w := ⟨rfl, rfl, rfl, rfl, fun _ _ => rfl⟩
theorem OnlyAt.set {g : Nat} {w w' : World} (h : OnlyAt g w w') (o : Nat) (u : Value) : OnlyAt g w (w'.setCell ⟨g, o, none⟩ u) :=
  ⟨h.os, h.tape, h.output, by simpa using h.size, fun k hk => (Below.heap_setCell w' ⟨g, o, none⟩ u k (by simpa using hk)).trans (h.block k hk)⟩
theorem OnlyAt.below {g : Nat} {w w' : World} (h : OnlyAt g w w') : Below g w w' := ⟨h.os, h.tape, h.output, by rw [h.size]; exact Nat.le_refl _, fun k hk => h.block k (by omega)⟩
theorem OnlyAt.cell {g : Nat} {w w' : World} (h : OnlyAt g w w') {p : Addr} (hp : p.block ≠ g) : w'.cell? p = w.cell? p := World.cell?_of_block (h.block _ hp)

end Go.Proofs.Ytpbiilhclmcehaa

namespace Go.Proofs.Ytpbiilhclmcehaa
open Go.RowKit

section
variable {P : Program} {ops : Array Oper} {rest : List Oper} {op : Oper} {a : Act} {w : World} {Q : Exit → Act → World → Prop}
end

end Go.Proofs.Ytpbiilhclmcehaa

namespace Go.Proofs.Ytpbiilhclmcehaa
open Go.RowKit
set_option linter.unusedVariables false

end Go.Proofs.Ytpbiilhclmcehaa

namespace Go.Proofs.Ytpbiilhclmcehaa
open Go.RowKit
set_option linter.unusedVariables false

end Go.Proofs.Ytpbiilhclmcehaa

namespace Go.Proofs.Ytpbiilhclmcehaa
open Go.RowKit
set_option linter.unusedVariables false

end Go.Proofs.Ytpbiilhclmcehaa

namespace Go.Proofs.Ytpbiilhclmcehaa
open Go.RowKit
set_option linter.unusedVariables false

theorem hasM_setM {n : Nat} {xss : List (List Nat)} (h : Good n xss) {a b : Nat} (ha : a < n) (hb : b < n) (i j : Nat) : hasM (setM xss (a : Int) (b : Int)) (i : Int) (j : Int) = (hasM xss (i : Int) (j : Int) || decide (i = a ∧ j = b)) := by
  obtain ⟨r, hr, hw, hl⟩ := h.at_ ha
  rw [setM_nat hr]
  by_cases hia : i = a
  · subst hia
    rw [hasM_in (set_at hr), hasM_in hr, hasR_setR r b j (by omega)]
    congr 1
    simp
  · rw [decide_eq_false (by omega), Bool.or_false]
    by_cases hi : i < xss.length
    · have hx : xss[i]? = some xss[i] := List.getElem?_eq_getElem hi
      rw [hasM_in hx, hasM_in (xs := xss[i]) (by rw [List.getElem?_set, if_neg (Ne.symm hia)]; exact hx)]
    · rw [hasM_out (xss := xss) (.inr (by omega)), hasM_out (xss := xss.set a (setR r (b : Int))) (.inr (by rw [List.length_set]; omega))]
theorem Good.new {n : Nat} (hn : n ≤ 4096) : Good n (newM n) := by
  refine ⟨hn, by simp [newM], fun r hr => ?_⟩
  have hp : 0 < n := by
    rcases Nat.eq_zero_or_pos n with rfl | hp
    · simp [newM] at hr
    · exact hp
  have he : r = List.replicate (wordsZ (n : Int)).toNat 0 := by unfold newM at hr; exact (List.mem_replicate.1 hr).2
  subst he
  refine ⟨fun x hx => by rw [(List.mem_replicate.1 hx).2]; omega, by rw [List.length_replicate]; exact (words_pos hp).2, by rw [List.length_replicate], fun j _ => hasR_zeros _ _⟩
theorem newM_has (n i j : Nat) : hasM (newM n) (i : Int) (j : Int) = false := by
  by_cases hi : i < n
  · rw [hasM_in (xs := List.replicate (wordsZ (n : Int)).toNat 0) (by unfold newM; rw [List.getElem?_replicate, if_pos hi])]; exact hasR_zeros _ _
  · exact hasM_out (.inr (by simp [newM]; omega))
theorem okP_nat {n : Nat} {x : Int × Int} (h : okP (n : Int) x = true) : ∃ a b : Nat, x = ((a : Int), (b : Int)) ∧ a < n ∧ b < n := by
  obtain ⟨i, j⟩ := x
  have h' : (((0 ≤ i) ∧ i < (n : Int)) ∧ 0 ≤ j) ∧ j < (n : Int) := by simpa [okP, inM] using h
  obtain ⟨⟨⟨i0, i1⟩, j0⟩, j1⟩ := h'
  obtain ⟨a, rfl⟩ := Int.eq_ofNat_of_zero_le i0
  obtain ⟨b, rfl⟩ := Int.eq_ofNat_of_zero_le j0
  exact ⟨a, b, rfl, by omega, by omega⟩
theorem fold_facts {n : Nat} : ∀ (ps : List (Int × Int)) (m : List (List Nat)), Good n m → (∀ x ∈ ps, okP (n : Int) x = true) →
    Good n (ps.foldl setP m) ∧ ∀ i j : Nat, hasM (ps.foldl setP m) (i : Int) (j : Int) = (hasM m (i : Int) (j : Int) || decide (((i : Int), (j : Int)) ∈ ps))
  | [], m, hG, _ => ⟨hG, fun i j => by simp⟩
  | p :: ps, m, hG, hok => by
    obtain ⟨a, b, rfl, ha, hb⟩ := okP_nat (hok p (List.mem_cons_self ..))
    have h := fold_facts ps (setP m ((a : Int), (b : Int))) (hG.set ha hb) (fun x hx => hok x (List.mem_cons_of_mem _ hx))
    refine ⟨h.1, fun i j => ?_⟩
    rw [List.foldl_cons, h.2 i j]
    unfold setP
    rw [hasM_setM hG ha hb, Bool.or_assoc]
    congr 1
    simp only [List.mem_cons, Prod.mk.injEq, Int.natCast_inj, Bool.decide_or]
theorem foldP_facts {n : Nat} (hn : n ≤ 4096) (ps : List (Int × Int)) (hok : ∀ x ∈ ps, okP (n : Int) x = true) :
    Good n (foldP n ps) ∧ ∀ i j : Nat, hasM (foldP n ps) (i : Int) (j : Int) = decide (((i : Int), (j : Int)) ∈ ps) := by
  have h := fold_facts ps (newM n) (Good.new hn) hok
  refine ⟨h.1, fun i j => ?_⟩
  have := h.2 i j
  rw [newM_has, Bool.false_or] at this
  exact this
theorem good_ext {n : Nat} {a b : List (List Nat)} (ha : Good n a) (hb : Good n b) (h : ∀ i j : Nat, i < n → j < n → hasM a (i : Int) (j : Int) = hasM b (i : Int) (j : Int)) : a = b := by
  apply List.ext_getElem?
  intro i
  by_cases hi : i < n
  · obtain ⟨r, hr, hw, hl⟩ := ha.at_ hi
    obtain ⟨s, hs, hw2, hl2⟩ := hb.at_ hi
    rw [hr, hs]
    have h1 := ha.row r (List.mem_of_getElem? hr)
    have h2 := hb.row s (List.mem_of_getElem? hs)
    congr 1
    refine row_ext hw hw2 (by rw [h1.2.2.1, h2.2.2.1]) (fun j _ => ?_)
    by_cases hj : j < n
    · have := h i j hi hj
      rw [hasM_in hr, hasM_in hs] at this; exact this
    · rw [h1.2.2.2 j (by omega), h2.2.2.2 j (by omega)]
  · rw [List.getElem?_eq_none (by rw [ha.len]; omega), List.getElem?_eq_none (by rw [hb.len]; omega)]
theorem Good.has_lt {n : Nat} {xss : List (List Nat)} (h : Good n xss) {i j : Nat} (hh : hasM xss (i : Int) (j : Int) = true) : i < n ∧ j < n := by
  by_cases hi : i < n
  · obtain ⟨r, hr, hw, hl⟩ := h.at_ hi
    refine ⟨hi, ?_⟩
    by_cases hj : j < n
    · exact hj
    · rw [hasM_in hr, (h.row r (List.mem_of_getElem? hr)).2.2.2 j (by omega)] at hh; cases hh
  · rw [hasM_out (.inr (by rw [h.len]; omega))] at hh; cases hh

theorem words_one {n : Nat} (h0 : 0 < n) (h : n < 64) : (wordsZ (n : Int)).toNat = 1 := by
  unfold wordsZ; rw [if_neg (by omega)]; omega
theorem Good.one {n : Nat} {xss : List (List Nat)} (h : Good n xss) (hn : n < 64) : ∀ r ∈ xss, r.length = 1 := fun r hr => by
  have hp : 0 < n := by
    rcases Nat.eq_zero_or_pos n with rfl | hp
    · have : xss = [] := List.eq_nil_of_length_eq_zero h.len
      rw [this] at hr; cases hr
    · exact hp
  rw [(h.row r hr).2.2.1, words_one hp hn]

end Go.Proofs.Ytpbiilhclmcehaa

namespace Go.Proofs.Ytpbiilhclmcehaa
open Go.RowKit
set_option linter.unusedVariables false

set_option maxHeartbeats 1000000 in
theorem ref3_in (N : Int) (A : Option Addr) (n c : Nat) (i j : Int) (w : World) :
    Calls Try.prog 40 #[.agg #[.int .i64 N, .slice A n c], .int .i64 i, .int .i64 j] w (RetB (inM N i j) w) := by
  have ha : Below w.heap.size w (w.alloc (.cells #[.int .i64 N, .slice A n c] 35)) := (Below.refl _ _).alloc (Nat.le_refl _) _
  replace ha := Lib.hid ha
  by_cases h1 : 0 ≤ i
  · by_cases h2 : i < N
    · by_cases h3 : 0 ≤ j
      · by_cases h4 : j < N
        · have H := Lib.hid (show inM N i j = true by unfold inM; simp [h1, h2, h3, h4])
          go_enter Try.func40, Try.ntmps40
          go_wp2
          go_ret
          rw [H.out]; exact ⟨rfl, ha.out⟩
        · have H := Lib.hid (show inM N i j = false by unfold inM; simp [h4])
          go_enter Try.func40, Try.ntmps40
          go_wp2
          go_ret
          rw [H.out]; exact ⟨rfl, ha.out⟩
      · have H := Lib.hid (show inM N i j = false by unfold inM; simp [h3])
        go_enter Try.func40, Try.ntmps40
        go_wp2
        go_ret
        rw [H.out]; exact ⟨rfl, ha.out⟩
    · have H := Lib.hid (show inM N i j = false by unfold inM; simp [h2])
      go_enter Try.func40, Try.ntmps40
      go_wp2
      go_ret
      rw [H.out]; exact ⟨rfl, ha.out⟩
  · have H := Lib.hid (show inM N i j = false by unfold inM; simp [h1])
    go_enter Try.func40, Try.ntmps40
    go_wp2
    go_ret
    rw [H.out]; exact ⟨rfl, ha.out⟩

theorem inM_yes {N i j : Int} (h : inM N i j = true) : 0 ≤ i ∧ i < N ∧ 0 ≤ j ∧ j < N := by
  unfold inM at h
  simp only [Bool.and_eq_true, decide_eq_true_eq] at h
  obtain ⟨⟨⟨a, b⟩, c⟩, d⟩ := h
  exact ⟨a, b, c, d⟩
set_option maxHeartbeats 400000 in
theorem ref3_Has (A : Option Addr) (n c : Nat) (xss : List (List Nat)) (i j : Int) (w : World) (hr : RowsAt w A n xss) (hn : n ≤ 4096) (hl : ∀ (k : Nat) (xs : List Nat), xss[k]? = some xs → xs.length ≤ 1024) :
    Calls Try.prog 16 #[.agg #[.int .i64 (n : Int), .slice A n c], .int .i64 i, .int .i64 j] w (RetB (inM (n : Int) i j && hasM xss i j) w) := by
  obtain ⟨W0, hW0⟩ : ∃ W0, W0 = w.alloc (.cells #[.int .i64 n, .slice A n c] 35) := ⟨_, rfl⟩
  have ha : Below w.heap.size w W0 := by rw [hW0]; exact (Below.refl _ _).alloc (Nat.le_refl _) _
  have hB : MatB W0 w.heap.size 35 n A n c := by rw [hW0]; exact MatB.new w _
  have hin := Lib.hid (ref3_in (n : Int) A n c i j W0)
  rcases Bool.eq_false_or_eq_true (inM (n : Int) i j) with h | h
  · obtain ⟨i0, i1, j0, j1⟩ := inM_yes h
    obtain ⟨k, rfl⟩ := Int.eq_ofNat_of_zero_le i0
    have hk : k < n := by omega
    obtain ⟨b, off, B, m, d, xs, rfl, hbl, hx, hc, hxr⟩ := hr.at_ hk
    have hm : m ≤ 1024 := by have := hxr.len; have := hl k xs hx; omega
    have H := Lib.hid (show (inM (n : Int) k j && hasM xss k j) = hasR xs j by rw [h, hasM_in hx, Bool.true_and])
    have hk0 : (0 : Int) ≤ (k : Int) := by omega
    have hkn : (k : Int) < (n : Int) := by omega
    replace h := Lib.hid h
    replace hB := Lib.hid hB
    replace hxr := Lib.hid hxr
    replace ha := Lib.hid ha
    clear hx hr
    go_enter Try.func16, Try.ntmps16
    go_wp2_with fail
    rw [← hW0]
    clear hW0
    refine hin.out.mono ?_; rintro e w1 ⟨rfl, hb1⟩
    rw [h.out]
    have l1 := (hB.out.below_ hb1).c1
    have hbb := below_trans2 ha.out hb1
    have hcr := (hbb.cell (p := ⟨b, off + k, none⟩) hbl).trans hc
    have hC := Lib.hid (ref2_Has B m d xs j w1 (hxr.out.below hbb) (by omega) (by omega) (by omega))
    replace hbb := Lib.hid hbb
    clear hb1 hc
    go_wp2_with fail
    refine hC.out.mono ?_; rintro e w' ⟨rfl, rfl⟩
    go_wp2
    go_ret
    rw [H.out]; exact ⟨rfl, hbb.out⟩
  · have H := Lib.hid (show (inM (n : Int) i j && hasM xss i j) = false by rw [h]; rfl)
    replace h := Lib.hid h
    replace ha := Lib.hid ha
    clear hB hr
    go_enter Try.func16, Try.ntmps16
    go_wp2_with fail
    rw [← hW0]
    clear hW0
    refine hin.out.mono ?_; rintro e w1 ⟨rfl, hb1⟩
    rw [h.out]
    have hbb := Lib.hid (below_trans2 ha.out hb1)
    clear hb1
    go_wp2
    go_ret
    rw [H.out]; exact ⟨rfl, hbb.out⟩

end Go.Proofs.Ytpbiilhclmcehaa

namespace Go.Proofs.Ytpbiilhclmcehaa
open Go.RowKit
set_option linter.unusedVariables false

end Go.Proofs.Ytpbiilhclmcehaa

namespace Go.Proofs.Ytpbiilhclmcehaa
open Go.RowKit
set_option linter.unusedVariables false

set_option maxRecDepth 100000 in
set_option maxHeartbeats 2000000 in
theorem ref3_Sub (A B : Option Addr) (n c d : Nat) (xss yss : List (List Nat)) (w : World) (hr : RowsAt w A n xss) (hs : RowsAt w B n yss) (hn : n ≤ 1073741824) (hl : ∀ (i : Nat) (xs : List Nat), xss[i]? = some xs → xs.length ≤ 1073741824) (hl2 : ∀ (i : Nat) (xs : List Nat), yss[i]? = some xs → xs.length ≤ 1073741824) :
    Calls Try.prog 20 #[.agg #[.int .i64 (n : Int), .slice A n c], .agg #[.int .i64 (n : Int), .slice B n d]] w (RetB (subM xss yss) w) := by
  have hxl := hr.len
  have hyl := hs.len
  obtain ⟨W0, hW0⟩ : ∃ W0, W0 = ((w.alloc (.cells #[.int .i64 n, .slice A n c] 35)).alloc (.cells #[.int .i64 n, .slice B n d] 35)) := ⟨_, rfl⟩
  have ha : Below w.heap.size w W0 := by rw [hW0]; exact (((Below.refl _ _).alloc (Nat.le_refl _) _).alloc (by simp) _)
  have hBa : MatB W0 w.heap.size 35 n A n c := by rw [hW0]; exact ((MatB.new w _).below_ ((Below.refl _ _).alloc (Nat.le_refl _) _))
  have hBb : MatB W0 (w.heap.size + 1) 35 n B n d := by rw [hW0]; exact (MatB.new1 w _ _)
  have ha' := Lib.hid ha
  have heq : ((n : Int) == (n : Int)) = true := by simp
  have hyes := Lib.hid (fun h => allF_yes (f := subR) (xss := xss) (yss := yss) (by omega) h)
  have hr' := Lib.hid (hr.below ha)
  have hs' := Lib.hid (hs.below ha)
  replace hBa := Lib.hid hBa
  replace hBb := Lib.hid hBb
  replace hl := Lib.hid hl
  replace hl2 := Lib.hid hl2
  replace hxl := Lib.hid hxl
  clear hr hs hyl ha
  go_enter Try.func20, Try.ntmps20
  go_wp2_with fail
  rw [← hW0]
  clear hW0
  go_loopw [5] (fun i wr => ∃ k : Nat, k ≤ n ∧ i = .int .i64 k ∧ Hid (∀ (j : Nat) (xs ys : List Nat), j < k → xss[j]? = some xs → yss[j]? = some ys → subR xs ys = true) ∧ Hid (Below W0.heap.size W0 wr)) (fun i _ => n - (intOf i).toNat)
  case atStart => exact ⟨0, Nat.zero_le _, rfl, Lib.hid (fun j xs ys hj => absurd hj (by omega)), Lib.hid (Below.refl _ _)⟩
  case round =>
    obtain ⟨k, hk, rfl, hall, hbr⟩ := hrel
    have l0 := (hBa.out.below_ hbr.out).c0
    have m0 := (hBb.out.below_ hbr.out).c0
    have l1 := (hBa.out.below_ hbr.out).c1
    have m1 := (hBb.out.below_ hbr.out).c1
    by_cases hlt : k < n
    · obtain ⟨b1, o1, A1, n1, c1, xs, rfl, hbl1, hx, hc1, hrx⟩ := (hr'.out.below hbr.out).at_ hlt
      obtain ⟨b2, o2, B1, n2, c2, ys, rfl, hbl2, hy, hc2, hry⟩ := (hs'.out.below hbr.out).at_ hlt
      have hn1 : n1 ≤ 1073741824 := by have := hrx.len; have := hl.out k xs hx; omega
      have hn2 : n2 ≤ 1073741824 := by have := hry.len; have := hl2.out k ys hy; omega
      have hk0 : (0 : Int) ≤ (k : Int) := by omega
      have hkn : (k : Int) < (n : Int) := by omega
      rcases Bool.eq_false_or_eq_true (subR xs ys) with hf | hf
      · have hall' : Hid (∀ (j : Nat) (us vs : List Nat), j < k + 1 → xss[j]? = some us → yss[j]? = some vs → subR us vs = true) := Lib.hid (fun j us vs hj hu hv => by
          rcases Nat.lt_succ_iff_lt_or_eq.1 hj with h | h
          · exact hall.out j us vs h hu hv
          · rw [h, hx] at hu
            rw [h, hy] at hv
            injection hu with hu
            injection hv with hv
            rw [← hu, ← hv]; exact hf)
        replace hf := Lib.hid hf
        clear hx hy
        go_wp2_with fail
        refine wp_region_plan 12 [(true, 0), (true, 1), (true, 2), (true, 3), (true, 4), (true, 5), (true, 6), (true, 7), (true, 8), (true, 9), (false, 10), (true, 11)] (by kernel_rfl) (by kernel_rfl) (fun W hW => ?_)
        have p1 : W.cell? ⟨w.heap.size, 1, none⟩ = some (.slice (some ⟨b1, o1, none⟩) n c) := by rw [hW.out]; exact l1
        have p2 : W.cell? ⟨w.heap.size + 1, 1, none⟩ = some (.slice (some ⟨b2, o2, none⟩) n d) := by rw [hW.out]; exact m1
        have p3 : W.cell? ⟨b1, o1 + k, none⟩ = some (.slice A1 n1 c1) := by rw [hW.out]; exact hc1
        have p4 : W.cell? ⟨b2, o2 + k, none⟩ = some (.slice B1 n2 c2) := by rw [hW.out]; exact hc2
        have hbW := Lib.hid (show Below W0.heap.size W0 W by rw [hW.out]; exact hbr.out.drew)
        have hC := Lib.hid (ref2_Sub A1 B1 n1 n2 c1 c2 xs ys W (by rw [hW.out]; exact hrx) (by rw [hW.out]; exact hry) (by omega) (by omega))
        clear l0 m0 l1 m1 hc1 hc2 hrx hry
        simp only [List.drop_succ_cons, List.drop_nil]
        iterate 10
          refine wpPlan_float (v := ?_) rfl (by rfl) (fun w' hw' => ?_) (fun K hK => ?_)
          rotate_left
          · (go_simp; try with_reducible rfl)
          go_simp
          refine hK _ ?_
          clear hK K
        refine wpPlan_only rfl (by rfl) (fun K hK => ?_)
        go_simp
        refine hC.out.mono ?_
        rintro e w' ⟨rfl, hb2⟩
        refine hK _ _ hb2 ?_
        clear hK K
        rw [hf.out]
        have hb3 := Lib.hid (below_trans2 hbW.out hb2)
        clear hb2 p1 p2 p3 p4
        iterate 1
          refine wpPlan_float (v := ?_) rfl (by rfl) (fun w' hw' => ?_) (fun K hK => ?_)
          rotate_left
          · (go_simp; try with_reducible rfl)
          go_simp
          refine hK _ ?_
          clear hK K
        refine wpPlan_nil (NoPanic.normal ?_)
        go_wp2_with fail
        go_roundw
        case rel => exact ⟨k + 1, by omega, by go_num, hall', hb3⟩
        case measure => simp [intOf]; omega
      · have H := Lib.hid (allF_no hx hy hf)
        replace hf := Lib.hid hf
        clear hx hy
        go_wp2_with fail
        refine wp_region_plan 12 [(true, 0), (true, 1), (true, 2), (true, 3), (true, 4), (true, 5), (true, 6), (true, 7), (true, 8), (true, 9), (false, 10), (true, 11)] (by kernel_rfl) (by kernel_rfl) (fun W hW => ?_)
        have p1 : W.cell? ⟨w.heap.size, 1, none⟩ = some (.slice (some ⟨b1, o1, none⟩) n c) := by rw [hW.out]; exact l1
        have p2 : W.cell? ⟨w.heap.size + 1, 1, none⟩ = some (.slice (some ⟨b2, o2, none⟩) n d) := by rw [hW.out]; exact m1
        have p3 : W.cell? ⟨b1, o1 + k, none⟩ = some (.slice A1 n1 c1) := by rw [hW.out]; exact hc1
        have p4 : W.cell? ⟨b2, o2 + k, none⟩ = some (.slice B1 n2 c2) := by rw [hW.out]; exact hc2
        have hbW := Lib.hid (show Below W0.heap.size W0 W by rw [hW.out]; exact hbr.out.drew)
        have hC := Lib.hid (ref2_Sub A1 B1 n1 n2 c1 c2 xs ys W (by rw [hW.out]; exact hrx) (by rw [hW.out]; exact hry) (by omega) (by omega))
        clear l0 m0 l1 m1 hc1 hc2 hrx hry
        simp only [List.drop_succ_cons, List.drop_nil]
        iterate 10
          refine wpPlan_float (v := ?_) rfl (by rfl) (fun w' hw' => ?_) (fun K hK => ?_)
          rotate_left
          · (go_simp; try with_reducible rfl)
          go_simp
          refine hK _ ?_
          clear hK K
        refine wpPlan_only rfl (by rfl) (fun K hK => ?_)
        go_simp
        refine hC.out.mono ?_
        rintro e w' ⟨rfl, hb2⟩
        refine hK _ _ hb2 ?_
        clear hK K
        rw [hf.out]
        have hb3 := Lib.hid (below_trans2 hbW.out hb2)
        clear hb2 p1 p2 p3 p4
        iterate 1
          refine wpPlan_float (v := ?_) rfl (by rfl) (fun w' hw' => ?_) (fun K hK => ?_)
          rotate_left
          · (go_simp; try with_reducible rfl)
          go_simp
          refine hK _ ?_
          clear hK K
        refine wpPlan_nil (NoPanic.normal ?_)
        go_wp2_with fail
        go_ret
        have H' : subM xss yss = false := by rw [← allF_sub]; exact H.out
        rw [H']; exact ⟨rfl, below_trans2 ha'.out hb3.out⟩
    · have H := Lib.hid (hyes.out (fun j xs ys hj hx hy => hall.out j xs ys (by have := hxl.out; omega) hx hy))
      go_wp2_with fail
      go_ret
      have H' : subM xss yss = true := by rw [← allF_sub]; exact H.out
      rw [H']; exact ⟨rfl, below_trans2 ha'.out hbr.out⟩

end Go.Proofs.Ytpbiilhclmcehaa

namespace Go.Proofs.Ytpbiilhclmcehaa
open Go.RowKit
set_option linter.unusedVariables false

theorem fitsR_bit {r : List Nat} {n j : Nat} (hj : j < 64 * r.length) (hn : n ≤ j) (h : hasR r (j : Int) = true) : fitsR r (n : Int) = false := by
  unfold fitsR
  rw [List.all_eq_false.2 ⟨j, List.mem_range.2 hj, by rw [decide_eq_false (by omega), h]; simp⟩, Bool.and_false]
theorem fitsR_yes {r : List Nat} {n : Nat} (hl : (r.length : Int) = wordsZ (n : Int)) (h : ∀ j : Nat, n ≤ j → j < 64 * r.length → hasR r (j : Int) = false) : fitsR r (n : Int) = true := by
  unfold fitsR
  rw [decide_eq_true hl, Bool.true_and, List.all_eq_true]
  intro j hj
  have hj' := List.mem_range.1 hj
  rcases Nat.lt_or_ge j n with h1 | h1
  · rw [decide_eq_true (by omega)]; rfl
  · rw [h j h1 hj']; simp

set_option maxRecDepth 100000 in
set_option maxHeartbeats 2000000 in
theorem ref3_Right (N : Int) (A : Option Addr) (n c : Nat) (xss : List (List Nat)) (w : World) (hr : RowsAt w A n xss) (hn : n ≤ 1073741824) (hl : ∀ (i : Nat) (xs : List Nat), xss[i]? = some xs → xs.length ≤ 1024) :
    Calls Try.prog 18 #[.agg #[.int .i64 N, .slice A n c]] w (RetB (rightM N xss) w) := by
  have hlen := hr.len
  obtain ⟨W0, hW0⟩ : ∃ W0, W0 = w.alloc (.cells #[.int .i64 N, .slice A n c] 35) := ⟨_, rfl⟩
  have ha : Below w.heap.size w W0 := by rw [hW0]; exact (Below.refl _ _).alloc (Nat.le_refl _) _
  have hB : MatB W0 w.heap.size 35 N A n c := by rw [hW0]; exact MatB.new w _
  have l0 := hB.c0
  have l1 := hB.c1
  have ha' := Lib.hid ha
  by_cases h1 : N < 0
  · have H := Lib.hid (rightM_out (xss := xss) (N := N) (by omega))
    clear hr ha hB hl hlen
    go_enter Try.func18, Try.ntmps18
    go_wp2_with fail
    rw [← hW0]
    clear hW0
    go_wp2_with fail
    go_ret
    rw [H.out]; exact ⟨rfl, ha'.out⟩
  by_cases h2 : 4096 < N
  · have H := Lib.hid (rightM_out (xss := xss) (N := N) (by omega))
    clear hr ha hB hl hlen
    go_enter Try.func18, Try.ntmps18
    go_wp2_with fail
    rw [← hW0]
    clear hW0
    go_wp2_with fail
    go_ret
    rw [H.out]; exact ⟨rfl, ha'.out⟩
  by_cases h3 : (n : Int) = N
  · subst h3
    have hne : ((n : Int) != (n : Int)) = false := by simp
    have hyes := Lib.hid (fun h => rightM_yes (n := n) (xss := xss) (by omega) hlen h)
    have hno := Lib.hid (fun k xs hx h => rightM_row (N := (n : Int)) (xss := xss) (k := k) (xs := xs) hx h)
    have hr' := Lib.hid (hr.below ha)
    have hnn : n ≤ 4096 := by omega
    have hwl := words_le hnn
    obtain ⟨wz, hwz⟩ : ∃ wz, wz = (wordsZ (n : Int)).toNat := ⟨_, rfl⟩
    have hwzz : wordsZ (n : Int) = (wz : Int) := by rw [hwz]; exact wordsZ_N (n : Int)
    have hnw : n ≤ 64 * wz := by
      rcases Nat.eq_zero_or_pos n with h0 | h0
      · omega
      · have := (words_pos h0).2; omega
    have hwz64 : wz ≤ 64 := by omega
    replace hwz := Lib.hid hwz
    replace hwzz := Lib.hid hwzz
    replace hB := Lib.hid hB
    replace hlen := Lib.hid hlen
    replace hl := Lib.hid hl
    clear hr h1 h2 ha hwl
    go_enter Try.func18, Try.ntmps18
    go_wp2_with fail
    rw [← hW0]
    clear hW0
    go_wp2_with fail
    clear l0 l1
    go_loopw [3] (fun i wr => ∃ k : Nat, k ≤ n ∧ i = .int .i64 k ∧ Hid (∀ (j : Nat) (xs : List Nat), j < k → xss[j]? = some xs → fitsR xs (n : Int) = true) ∧ Hid (Below W0.heap.size W0 wr)) (fun i _ => n - (intOf i).toNat)
    case atStart => exact ⟨0, Nat.zero_le _, rfl, Lib.hid (fun j xs hj => absurd hj (by omega)), Lib.hid (Below.refl _ _)⟩
    case round =>
      obtain ⟨k, hk, rfl, hall, hbr⟩ := hrel
      have l0 := (hB.out.below_ hbr.out).c0
      have l1 := (hB.out.below_ hbr.out).c1
      by_cases hlt : k < n
      · obtain ⟨b, off, B, m, d, xs, rfl, hbl, hx, hc, hxr⟩ := (hr'.out.below hbr.out).at_ hlt
        have hml : xs.length = m := hxr.len
        have hm : m ≤ 1024 := by have := hl.out k xs hx; omega
        have hk0 : (0 : Int) ≤ (k : Int) := by omega
        have hkn : (k : Int) < (n : Int) := by omega
        have hWd := Lib.hid (fun W => ref2_Words (n : Int) (by omega) (by omega) W)
        by_cases hmw : m = wz
        · have hne2 : ((m : Int) != (wz : Int)) = false := by rw [hmw]; simp
          have hfit := Lib.hid (fun h => fitsR_yes (r := xs) (n := n) (by rw [hwzz.out, hml, hmw]) h)
          have hbad := Lib.hid (fun j a b c => fitsR_bit (r := xs) (n := n) (j := j) a b c)
          have hresn := Lib.hid (hno.out k xs hx)
          have hall' : Hid (fitsR xs (n : Int) = true → ∀ (j : Nat) (ys : List Nat), j < k + 1 → xss[j]? = some ys → fitsR ys (n : Int) = true) := Lib.hid (fun hf j ys hj hy => by
            rcases Nat.lt_succ_iff_lt_or_eq.1 hj with h | h
            · exact hall.out j ys h hy
            · rw [h, hx] at hy
              injection hy with hy
              rw [← hy]; exact hf)
          have hnm : n ≤ 64 * m := by omega
          replace hml := Lib.hid hml
          replace hxr := Lib.hid hxr
          clear hx hmw
          go_wp2_with fail
          refine wp_region_plan 10 [(true, 0), (true, 1), (true, 2), (true, 3), (true, 4), (true, 5), (true, 6), (true, 7), (false, 8), (true, 9)] (by kernel_rfl) (by kernel_rfl) (fun W hW => ?_)
          have p0 : W.cell? ⟨w.heap.size, 0, none⟩ = some (.int .i64 n) := by rw [hW.out]; exact l0
          have p1 : W.cell? ⟨w.heap.size, 1, none⟩ = some (.slice (some ⟨b, off, none⟩) n c) := by rw [hW.out]; exact l1
          have p2 : W.cell? ⟨b, off + k, none⟩ = some (.slice B m d) := by rw [hW.out]; exact hc
          have hbW := Lib.hid (show Below W0.heap.size W0 W by rw [hW.out]; exact hbr.out.drew)
          have hxW := Lib.hid (show Row W B m xs by rw [hW.out]; exact hxr.out)
          clear l0 l1 hc
          simp only [List.drop_succ_cons, List.drop_nil]
          iterate 8
            refine wpPlan_float (v := ?_) rfl (by rfl) (fun w' hw' => ?_) (fun K hK => ?_)
            rotate_left
            · (go_simp; try with_reducible rfl)
            go_simp
            refine hK _ ?_
            clear hK K
          refine wpPlan_only rfl (by rfl) (fun K hK => ?_)
          go_simp
          refine (hWd.out W).mono ?_
          rintro e w' ⟨rfl, rfl⟩
          refine hK _ _ (Below.refl _ _) ?_
          clear hK K
          rw [hwzz.out]
          iterate 1
            refine wpPlan_float (v := ?_) rfl (by rfl) (fun w' hw' => ?_) (fun K hK => ?_)
            rotate_left
            · (go_simp; try with_reducible rfl)
            go_simp
            refine hK _ ?_
            clear hK K
          refine wpPlan_nil (NoPanic.normal ?_)
          go_wp2_with fail
          go_loop [4] (fun t => ∃ j : Nat, n ≤ j ∧ j ≤ 64 * m ∧ t = .int .i64 j ∧ Hid (∀ i : Nat, n ≤ i → i < j → hasR xs (i : Int) = false)) (fun t => 64 * m - (intOf t).toNat)
          case atStart => exact ⟨n, Nat.le_refl _, hnm, rfl, Lib.hid (fun i h1 h2 => by omega)⟩
          case round =>
            obtain ⟨j, hj1, hj2, rfl, hbits⟩ := hrel
            by_cases hlj : j < 64 * m
            · have hH := Lib.hid (ref2_Has B m d xs (j : Int) W hxW.out (by omega) (by omega) (by omega))
              rcases Bool.eq_false_or_eq_true (hasR xs (j : Int)) with ht | ht
              · have H := Lib.hid (hresn.out (hbad.out j (by rw [hml.out]; exact hlj) hj1 ht))
                replace ht := Lib.hid ht
                go_wp2_with fail
                refine hH.out.mono ?_; rintro e w' ⟨rfl, rfl⟩
                rw [ht.out]
                go_wp2_with fail
                go_ret
                rw [H.out]; exact ⟨rfl, below_trans2 ha'.out hbW.out⟩
              · have hbits' : Hid (∀ i : Nat, n ≤ i → i < j + 1 → hasR xs (i : Int) = false) := Lib.hid (fun i h1 h2 => by
                  rcases Nat.lt_succ_iff_lt_or_eq.1 h2 with h | h
                  · exact hbits.out i h1 h
                  · rw [h]; exact ht)
                replace ht := Lib.hid ht
                go_wp2_with fail
                refine hH.out.mono ?_; rintro e w' ⟨rfl, rfl⟩
                rw [ht.out]
                go_wp2_with fail
                go_round
                case rel => exact ⟨j + 1, by omega, by omega, by go_num, hbits'⟩
                case measure => simp [intOf]; omega
            · have hf := Lib.hid (hall'.out (hfit.out (fun i h1 h2 => hbits.out i h1 (by have := hml.out; omega))))
              go_wp2_with fail
              go_roundw
              case rel => exact ⟨k + 1, by omega, by go_num, hf, hbW⟩
              case measure => simp [intOf]; omega
        · have hne2 : ((m : Int) != (wz : Int)) = true := by rw [bne_iff_ne]; omega
          have H := Lib.hid (hno.out k xs hx (fitsR_len (by rw [hwzz.out, hml]; intro h; exact hmw (by omega))))
          clear hx hmw hxr hml
          go_wp2_with fail
          refine wp_region_plan 10 [(true, 0), (true, 1), (true, 2), (true, 3), (true, 4), (true, 5), (true, 6), (true, 7), (false, 8), (true, 9)] (by kernel_rfl) (by kernel_rfl) (fun W hW => ?_)
          have p0 : W.cell? ⟨w.heap.size, 0, none⟩ = some (.int .i64 n) := by rw [hW.out]; exact l0
          have p1 : W.cell? ⟨w.heap.size, 1, none⟩ = some (.slice (some ⟨b, off, none⟩) n c) := by rw [hW.out]; exact l1
          have p2 : W.cell? ⟨b, off + k, none⟩ = some (.slice B m d) := by rw [hW.out]; exact hc
          have hbW := Lib.hid (show Below W0.heap.size W0 W by rw [hW.out]; exact hbr.out.drew)
          clear l0 l1 hc
          simp only [List.drop_succ_cons, List.drop_nil]
          iterate 8
            refine wpPlan_float (v := ?_) rfl (by rfl) (fun w' hw' => ?_) (fun K hK => ?_)
            rotate_left
            · (go_simp; try with_reducible rfl)
            go_simp
            refine hK _ ?_
            clear hK K
          refine wpPlan_only rfl (by rfl) (fun K hK => ?_)
          go_simp
          refine (hWd.out W).mono ?_
          rintro e w' ⟨rfl, rfl⟩
          refine hK _ _ (Below.refl _ _) ?_
          clear hK K
          rw [hwzz.out]
          iterate 1
            refine wpPlan_float (v := ?_) rfl (by rfl) (fun w' hw' => ?_) (fun K hK => ?_)
            rotate_left
            · (go_simp; try with_reducible rfl)
            go_simp
            refine hK _ ?_
            clear hK K
          refine wpPlan_nil (NoPanic.normal ?_)
          go_wp2_with fail
          go_ret
          rw [H.out]; exact ⟨rfl, below_trans2 ha'.out hbW.out⟩
      · have H := Lib.hid (hyes.out (fun j xs hx => hall.out j xs (by have := (List.getElem?_eq_some_iff.1 hx).1; have := hlen.out; omega) hx))
        go_wp2_with fail
        go_ret
        rw [H.out]; exact ⟨rfl, below_trans2 ha'.out hbr.out⟩
  · have H := Lib.hid (rightM_len (xss := xss) (N := N) (by rw [hlen]; exact h3))
    have hne : ((n : Int) != N) = true := by rw [bne_iff_ne]; exact h3
    clear hr ha hB hl hlen h3
    go_enter Try.func18, Try.ntmps18
    go_wp2_with fail
    rw [← hW0]
    clear hW0
    go_wp2_with fail
    go_ret
    rw [H.out]; exact ⟨rfl, ha'.out⟩

end Go.Proofs.Ytpbiilhclmcehaa
