/- Contracts of package mat: join, Or. -/
import Derived.Test.YtkikoniihmieiaaMatMemB
import Derived.Test.YtkikoniihmieiaaPlan
namespace Go.Proofs.Ytkikoniihmieiaa
open Go.RowKit
set_option linter.unusedVariables false

/-- what 'join' ends in: one of both, or a row of its own -/
def RetJoin (A B : Option Addr) (xs ys : List Nat) (w : World) (e : Ending) (w' : World) : Prop :=
  ∃ C n c, e = .returned (.slice C n c) ∧ Row w' C n (orR xs ys) ∧ Below w.heap.size w w' ∧ (C = A ∨ C = B ∨ ∀ ad, C = some ad → w.heap.size ≤ ad.block)
set_option maxHeartbeats 400000 in
theorem mat_join (A B : Option Addr) (n c d : Nat) (xs ys : List Nat) (w : World) (hr : Row w A n xs) (hs : Row w B n ys) (hn : n ≤ 1073741824) :
    Calls Try.prog 50 #[.slice A n c, .slice B n d] w (RetJoin A B xs ys w) := by
  have hl1 := hr.len
  have hl2 := hs.len
  have h1 := Lib.hid (row_Sub B A n n d c ys xs w hs hr (by omega) (by omega))
  have h2 := Lib.hid (row_Sub A B n n c d xs ys w hr hs (by omega) (by omega))
  have h3 := Lib.hid (row_OrO A B n n c d xs ys w hr hs (by omega) (by omega))
  rcases Bool.eq_false_or_eq_true (subR ys xs) with ha | ha
  · have he := Lib.hid (orR_of_sub (by omega) ha)
    replace ha := Lib.hid ha
    replace hr := Lib.hid hr
    clear hl1 hl2 hs
    go_enter Try.func50, Try.ntmps50
    go_wp2_with fail
    refine h1.out.mono ?_; rintro e w' ⟨rfl, rfl⟩
    rw [ha.out]
    go_wp2
    go_ret
    exact ⟨_, _, _, rfl, by rw [he.out]; exact hr.out, Below.refl _ _, .inl rfl⟩
  · replace ha := Lib.hid ha
    rcases Bool.eq_false_or_eq_true (subR xs ys) with hb | hb
    · have he := orR_of_sub (a := ys) (b := xs) (by omega) hb
      rw [orR_comm] at he
      replace he := Lib.hid he
      replace hb := Lib.hid hb
      replace hs := Lib.hid hs
      clear hl1 hl2 hr
      go_enter Try.func50, Try.ntmps50
      go_wp2_with fail
      refine h1.out.mono ?_; rintro e w' ⟨rfl, rfl⟩
      rw [ha.out]
      go_wp2_with fail
      refine h2.out.mono ?_; rintro e w' ⟨rfl, rfl⟩
      rw [hb.out]
      go_wp2
      go_ret
      exact ⟨_, _, _, rfl, by rw [he.out]; exact hs.out, Below.refl _ _, .inr (.inl rfl)⟩
    · replace hb := Lib.hid hb
      clear hl1 hl2 hr hs
      go_enter Try.func50, Try.ntmps50
      go_wp2_with fail
      refine h1.out.mono ?_; rintro e w' ⟨rfl, rfl⟩
      rw [ha.out]
      go_wp2_with fail
      refine h2.out.mono ?_; rintro e w' ⟨rfl, rfl⟩
      rw [hb.out]
      go_wp2_with fail
      refine h3.out.mono ?_; rintro e w1 ⟨C, p, q, rfl, ho, hx, hbb⟩
      go_wp2
      go_ret
      exact ⟨_, _, _, rfl, Row.of_own ho hx, hbb, .inr (.inr (fun ad e => by subst e; exact own_lt_block ho _ rfl))⟩

set_option maxHeartbeats 400000 in
theorem mat_Or_no (N M : Int) (A B : Option Addr) (n c m d : Nat) (w : World) (h : N ≠ M) :
    Calls Try.prog 14 #[.agg #[.int .i64 N, .slice A n c], .agg #[.int .i64 M, .slice B m d]] w (RetMat 0 [] 1 w) := by
  have hne : (N != M) = true := by simpa using h
  have ha : Below w.heap.size w (((w.alloc (.cells #[.int .i64 N, .slice A n c] 24)).alloc (.cells #[.int .i64 M, .slice B m d] 24)).alloc (.cells #[.int .i64 0, .slice none 0 0] 24)) := (((Below.refl _ _).alloc (Nat.le_refl _) _).alloc (by simp <;> omega) _).alloc (by simp <;> omega) _
  replace ha := Lib.hid ha
  clear h
  go_enter Try.func14, Try.ntmps14
  go_wp2_with fail
  exact bodyPost_ret (v := .tuple #[.agg #[.int .i64 0, .slice none 0 0], .int .i64 1]) (by simp [results, Try.results14, go_sem]) rfl ⟨none, 0, 0, rfl, RowsAt.nil _ _, Nat.le_refl _, ha.out⟩
set_option maxHeartbeats 2000000 in
theorem mat_Or (A B : Option Addr) (n c d : Nat) (xss yss : List (List Nat)) (w : World) (hr : RowsAt w A n xss) (hs : RowsAt w B n yss) (hn : n ≤ 4096)
    (hl : ∀ (i : Nat) (xs ys : List Nat), xss[i]? = some xs → yss[i]? = some ys → xs.length = ys.length ∧ xs.length ≤ 1024) :
    Calls Try.prog 14 #[.agg #[.int .i64 (n : Int), .slice A n c], .agg #[.int .i64 (n : Int), .slice B n d]] w (RetMat (n : Int) (orM xss yss) 0 w) := by
  have hmk := mk_rows .i64 .i64 n n (Nat.le_refl _) (by omega)
  have hxl := hr.len
  obtain ⟨W0, hW0⟩ : ∃ W0, W0 = ((w.alloc (.cells #[.int .i64 n, .slice A n c] 24)).alloc (.cells #[.int .i64 n, .slice B n d] 24)).alloc (.cells #[.int .i64 0, .slice none 0 0] 24) := ⟨_, rfl⟩
  have ha : Below w.heap.size w W0 := by rw [hW0]; exact (((Below.refl _ _).alloc (Nat.le_refl _) _).alloc (by simp <;> omega) _).alloc (by simp <;> omega) _
  have hBa : MatB W0 w.heap.size 24 n A n c := by rw [hW0]; exact ((MatB.new w _).below_ ((Below.refl _ _).alloc (Nat.le_refl _) _)).below_ ((Below.refl _ _).alloc (Nat.le_refl _) _)
  have hBb : MatB W0 (w.heap.size + 1) 24 n B n d := by rw [hW0]; exact (MatB.new1 w _ _).below_ ((Below.refl _ _).alloc (Nat.le_refl _) _)
  have hBr : MatB W0 (w.heap.size + 2) 24 0 none 0 0 := by
    rw [hW0]
    have h := MatB.new1 (N := 0) (A := none) (n := 0) (c := 0) (w.alloc (.cells #[.int .i64 n, .slice A n c] 24)) (.cells #[.int .i64 n, .slice B n d] 24) 24
    rwa [show (w.alloc (.cells #[.int .i64 n, .slice A n c] 24)).heap.size = w.heap.size + 1 from by simp] at h
  have hs0 : W0.heap.size = w.heap.size + 3 := by rw [hW0]; simp
  obtain ⟨W1, hW1⟩ : ∃ W1, W1 = W0.alloc (.cells (zeros n (.slice none 0 0)) 53) := ⟨_, rfl⟩
  have hb01 : Below W0.heap.size W0 W1 := by rw [hW1]; exact (Below.refl _ _).alloc (Nat.le_refl _) _
  have hs1 : W1.heap.size = w.heap.size + 4 := by rw [hW1]; simp [hs0]
  have hown0 : W1.ownsRow (w.heap.size + 3) 53 1 (.slice (some ⟨w.heap.size + 3, 0, none⟩) n n) n (filled [] n) := by
    have h := own_zeros W0 n (.slice none 0 0) 53 (by unfold maxLen; omega)
    rw [← hW1, hs0] at h
    rw [filled_nil]; exact h
  have hp : W0.heap.size = w.heap.size + 3 := hs0
  have l1 := hBa.c0
  have l2 := hBb.c0
  have hne : ((n : Int) != (n : Int)) = false := by simp
  have hBa1 := Lib.hid (hBa.below_ hb01)
  have hBb1 := Lib.hid (hBb.below_ hb01)
  have hBr1 := Lib.hid (hBr.below_ hb01)
  have ha1 := Lib.hid (below_trans2 ha hb01)
  have hs1' := Lib.hid hs1
  replace hown0 := Lib.hid hown0
  replace hr := Lib.hid hr
  replace hs := Lib.hid hs
  replace hl := Lib.hid hl
  replace hxl := Lib.hid hxl
  clear ha hBa hBb hBr hs1 hb01 hs0
  go_enter Try.func14, Try.ntmps14
  go_wp2_with fail
  rw [← hW0, ← hW1]
  clear hW1 hW0 hmk hp l1 l2
  go_loopw [19] (fun i wr => ∃ vs : List Value, vs.length ≤ n ∧ i = .int .i64 vs.length ∧ Hid (wr.ownsRow (w.heap.size + 3) 53 1 (.slice (some ⟨w.heap.size + 3, 0, none⟩) n n) n (filled vs n)) ∧ Hid (RowsF wr w.heap.size (w.heap.size + 4) vs (orPre xss yss vs.length)) ∧ Hid (MatB wr w.heap.size 24 n A n c) ∧ Hid (MatB wr (w.heap.size + 1) 24 n B n d) ∧ Hid (MatB wr (w.heap.size + 2) 24 0 none 0 0) ∧ Hid (Below w.heap.size w wr) ∧ Hid (w.heap.size + 4 ≤ wr.heap.size)) (fun i _ => n - (intOf i).toNat)
  case atStart => exact ⟨[], Nat.zero_le _, rfl, hown0, Lib.hid (RowsF.nil _), hBa1, hBb1, hBr1, ha1, Lib.hid (by rw [hs1'.out]; exact Nat.le_refl _)⟩
  case round =>
    obtain ⟨vs, hk, rfl, hown, hrows, hBa, hBb, hBr, hbr, hsr⟩ := hrel
    clear hown0 hBa1 hBb1 hBr1 ha1
    obtain ⟨k, hke⟩ : ∃ k, k = vs.length := ⟨_, rfl⟩
    rw [← hke] at hk
    rw [← hke]
    by_cases hlt : k < n
    · have hke' := Lib.hid hke
      clear hke
      obtain ⟨b1, o1, A1, n1, c1, xs, rfl, hbl1, hx1, hc1, hrx⟩ := hr.out.at_ hlt
      obtain ⟨b2, o2, B1, n2, c2, ys, rfl, hbl2, hy1, hc2, hry⟩ := hs.out.at_ hlt
      have hxy := hl.out k xs ys hx1 hy1
      have e12 : n2 = n1 := by have := hrx.len; have := hry.len; omega
      subst e12
      have hn1 : n2 ≤ 1024 := by have := hrx.len; omega
      replace hc1 := (hbr.out.cell (p := ⟨b1, o1 + k, none⟩) hbl1).trans hc1
      replace hc2 := (hbr.out.cell (p := ⟨b2, o2 + k, none⟩) hbl2).trans hc2
      have hstep : Hid (orPre xss yss (k + 1) = orPre xss yss k ++ [orR xs ys]) := Lib.hid (by rw [orPre_succ, getD_at hx1, getD_at hy1])
      have la := hBa.out.c1
      have lb := hBb.out.c1
      have hget := filled_get (vs := vs) (n := n) (by rw [← hke'.out]; exact hlt)
      have hfg := hown.out.frozenAt k
      have hcg := hown.out.cellAt k (by omega)
      rw [hke'.out, hget, ← hke'.out] at hcg
      replace hrx := Lib.hid hrx
      replace hry := Lib.hid hry
      clear hx1 hy1 hxy hget
      have hk0 : (0 : Int) ≤ (k : Int) := by omega
      have hkn : (k : Int) < (n : Int) := by omega
      go_wp2_with fail
      refine wp_region_plan 13 [(true, 0), (true, 1), (true, 2), (true, 3), (true, 4), (true, 5), (true, 6), (true, 7), (true, 8), (true, 9), (true, 10), (true, 11), (false, 12)] (by kernel_rfl) (by kernel_rfl) (fun W hW => ?_)
      have hbW : Below wr.heap.size wr W := by rw [hW.out]; exact (Below.refl _ _).drew
      have m1 : W.cell? ⟨w.heap.size, 1, none⟩ = some (.slice (some ⟨b1, o1, none⟩) n c) := by rw [hW.out]; exact la
      have m2 : W.cell? ⟨w.heap.size + 1, 1, none⟩ = some (.slice (some ⟨b2, o2, none⟩) n d) := by rw [hW.out]; exact lb
      have m3 : W.cell? ⟨b1, o1 + k, none⟩ = some (.slice A1 n2 c1) := by rw [hW.out]; exact hc1
      have m4 : W.cell? ⟨b2, o2 + k, none⟩ = some (.slice B1 n2 c2) := by rw [hW.out]; exact hc2
      have hbrW := Lib.hid (below_trans2 hbr.out hbW)
      have hownW := Lib.hid (own_below hown.out hbW)
      have hrowsW := Lib.hid (hrows.out.below hbW)
      have hBaW := Lib.hid (hBa.out.below_ hbW)
      have hBbW := Lib.hid (hBb.out.below_ hbW)
      have hBrW := Lib.hid (hBr.out.below_ hbW)
      have hsW : Hid (w.heap.size + 4 ≤ W.heap.size) := Lib.hid (Nat.le_trans hsr.out hbW.size)
      have hj := Lib.hid (mat_join A1 B1 n2 c1 c2 xs ys W (hrx.out.below hbrW.out) (hry.out.below hbrW.out) (by omega))
      clear hbW hown hrows hBa hBb hBr hbr hsr la lb hc1 hc2 hfg hcg
      simp only [List.drop_succ_cons, List.drop_zero]
      iterate 12
        refine wpPlan_float (v := ?_) rfl (by rfl) (fun w' hw' => ?_) (fun K hK => ?_)
        rotate_left
        · (go_simp; try with_reducible rfl)
        go_simp
        refine hK _ ?_
        clear hK K
      refine wpPlan_only rfl (by rfl) (fun K hK => ?_)
      go_simp
      refine hj.out.mono ?_; rintro e w1 ⟨C, p, q, rfl, hC, hb1, hfr⟩
      refine hK _ _ hb1 (wpPlan_nil ?_)
      clear hK K
      have hown1 := own_below hownW.out hb1
      have hget := filled_get (vs := vs) (n := n) (by rw [← hke'.out]; exact hlt)
      have hcg := hown1.cellAt k (by omega)
      rw [hke'.out, hget, ← hke'.out] at hcg
      have hfg := hown1.frozenAt k
      have hCF : Hid (RowF w1 w.heap.size (w.heap.size + 4) (.slice C p q) (orR xs ys)) := Lib.hid ⟨C, p, q, rfl, hC, fun h0 ad he => by
        have hp0 : 0 < n2 := by
          have h1 := hC.len
          have h2 := orR_len xs ys
          have h3 := hrx.out.len
          have h4 := hry.out.len
          omega
        rcases hfr with h | h | h
        · subst h
          obtain ⟨b, off, e, hbl, _⟩ := hrx.out.1.2 hp0
          rw [e] at he
          injection he with he
          subst he
          exact .inl hbl
        · subst h
          obtain ⟨b, off, e, hbl, _⟩ := hry.out.1.2 hp0
          rw [e] at he
          injection he with he
          subst he
          exact .inl hbl
        · exact .inr (Nat.le_trans hsW.out (h ad he))⟩
      have hrows1 := Lib.hid ((hrowsW.out.below hb1).snoc hCF.out)
      have hBa1 := Lib.hid (hBaW.out.below_ hb1)
      have hBb1 := Lib.hid (hBbW.out.below_ hb1)
      have hBr1 := Lib.hid (hBrW.out.below_ hb1)
      have hbr1 := Lib.hid (below_trans2 hbrW.out hb1)
      have hsr1 := Lib.hid (Nat.le_trans hsW.out hb1.size)
      replace hown1 := Lib.hid hown1
      clear hC hb1 hfr hget hownW hrowsW hBaW hBbW hBrW hbrW hsW m1 m2 m3 m4
      go_wp2_with fail
      refine NoPanic.normal ?_
      go_wp2_with fail
      go_roundw
      case rel =>
        refine ⟨vs ++ [.slice C p q], by have := hke'.out; simp; omega, by rw [List.length_append, ← hke'.out]; simp; try omega, ?_, ?_, ?_, ?_, ?_, ?_, ?_⟩
        · refine Lib.hid ?_
          rw [← filled_set (by rw [← hke'.out]; exact hlt), ← hke'.out]
          exact (hown1.out.stored k (.slice C p q)).1
        · refine Lib.hid ?_
          rw [List.length_append, List.length_singleton, ← hke'.out, hstep.out]
          have h := hrows1.out.set (p := ⟨w.heap.size + 3, k, none⟩) (by simp <;> omega) (by simp <;> omega) (.slice C p q)
          rw [← hke'.out] at h
          exact h
        · exact Lib.hid (hBa1.out.far (by simp <;> omega) _)
        · exact Lib.hid (hBb1.out.far (by simp <;> omega) _)
        · exact Lib.hid (hBr1.out.far (by simp <;> omega) _)
        · exact Lib.hid (hbr1.out.setCell (by simp <;> omega) _)
        · exact Lib.hid (by simpa using hsr1.out)
      case measure => simp [intOf]; omega
    · have hkn : k = n := by omega
      have hvn : vs.length = n := by rw [← hke, hkn]
      clear hlt
      have l1 := hBa.out.c0
      have f20 := hBr.out.c0
      have f21 := hBr.out.c1
      have g20 := hBr.out.frozen 0
      have g21 := hBr.out.frozen 1
      replace hvn := Lib.hid hvn
      replace hke := Lib.hid hke
      obtain rfl := hkn
      go_wp2_with fail
      have hcc := hBr.out.two (.int .i64 k) (.slice (some ⟨w.heap.size + 3, 0, none⟩) k k)
      have hc1 := hcc.1
      have hc2 := hcc.2
      clear hcc f20 f21 g20 g21 l1
      refine bodyPost_ret (v := .tuple #[.agg #[.int .i64 k, .slice (some ⟨w.heap.size + 3, 0, none⟩) k k], .int .i64 0]) (by simp [results, Try.results14, go_sem, hc1, hc2]) rfl ⟨_, _, _, rfl, ⟨vs, ?_, ?_⟩, Nat.le_refl _, ?_⟩
      · have h := hown.out
        rw [filled_all hvn.out] at h
        exact Rd.of_own' (own_far (own_far h (p := ⟨w.heap.size + 2, 0, none⟩) (by simp [Value.ownBlock]) _) (p := ⟨w.heap.size + 2, 1, none⟩) (by simp [Value.ownBlock]) _)
      · have h := (hrows.out.set (p := ⟨w.heap.size + 2, 0, none⟩) (by simp) (by simp <;> omega) (.int .i64 k)).set (p := ⟨w.heap.size + 2, 1, none⟩) (by simp) (by simp <;> omega) (.slice (some ⟨w.heap.size + 3, 0, none⟩) k k)
        have he : orPre xss yss vs.length = orM xss yss := by rw [hvn.out, ← orPre_all, hxl.out]
        rw [he] at h
        exact h.rows
      · exact (hbr.out.setCell (by simp <;> omega) _).setCell (by simp <;> omega) _

end Go.Proofs.Ytkikoniihmieiaa
