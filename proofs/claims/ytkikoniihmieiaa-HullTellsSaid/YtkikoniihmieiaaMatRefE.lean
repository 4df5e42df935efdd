/- Contracts of the document's own answers for matrices: New. Contracts of the document's own answers for matrices: New (refused), Or. Contracts of the document's own answers for matrices: Set. -/
import Derived.Test.YtkikoniihmieiaaMatRefD
namespace Go.Proofs.Ytkikoniihmieiaa
open Go.RowKit
set_option linter.unusedVariables false

theorem own_ne_blk {w : World} {base s n g : Nat} {e t : TypeId} {v : Value} {xs cs : List Value} (h : w.ownsRow base e s v n xs) (hB : Blk w g t cs) (hne : e ≠ t) : v.ownBlock ≠ some g := by
  intro he
  rcases h.2 with ⟨rfl, _⟩ | ⟨g', cap, cur, rfl, _, hh, _⟩
  · simp [Value.ownBlock] at he
  · have : g' = g := by simpa [Value.ownBlock] using he
    subst this
    unfold Blk at hB
    rw [hh] at hB
    injection hB with hB
    injection hB with _ ht
    exact hne ht
theorem OwnRows.grown {t e : TypeId} {w w' : World} {base b2 s n : Nat} {v : Value} {vs us : List Value} {xss : List (List Nat)} (h : OwnRows t w base vs xss) (ho : w.ownsRow b2 e s v n us) (hne : t ≠ e) (hg : w.grownBy w' v.ownBlock) : OwnRows t w' base vs xss :=
  ⟨h.1, fun i u xs h1 h2 => by
    obtain ⟨A, m, c, e', hown, hx⟩ := h.2.1 i u xs h1 h2
    exact ⟨A, m, c, e', own_grown hown ho hne hg, hx⟩, h.2.2⟩

/-- as RetMat, and the outer cells are new -/
def RetMatF (N : Int) (xss : List (List Nat)) (er : Int) (w : World) : Ending → World → Prop := fun e w' =>
  ∃ A n c, e = .returned (.tuple #[.agg #[.int .i64 N, .slice A n c], .int .i64 er]) ∧ RowsAt w' A n xss ∧ n ≤ c ∧ Below w.heap.size w w' ∧ ∀ ad, A = some ad → w.heap.size ≤ ad.block
/-- what is known at the heads of the rounds of a matrix that grows row by row -/
structure GrowI (w : World) (hi n : Nat) (M R : Nat) (v : Value) (vs : List Value) (xss : List (List Nat)) (wr : World) : Prop where
  res : MatB wr R 24 0 none 0 0
  loc : Blk wr M 24 [.int .i64 n, v]
  out : wr.ownsRow hi 53 1 v vs.length vs
  rows : OwnRows 56 wr hi vs xss
  below : Below w.heap.size w wr
  high : hi ≤ wr.heap.size
theorem GrowI.keep {w : World} {hi n M R : Nat} {v : Value} {vs : List Value} {xss : List (List Nat)} {wr w' : World} (h : GrowI w hi n M R v vs xss wr) (hb : Below wr.heap.size wr w') : GrowI w hi n M R v vs xss w' :=
  ⟨h.res.below_ hb, Blk.below h.loc hb h.loc.lt, own_below h.out hb, h.rows.below hb, below_trans2 h.below hb, Nat.le_trans h.high hb.size⟩
theorem GrowI.more {w : World} {hi n M R : Nat} {v : Value} {vs : List Value} {xss : List (List Nat)} {wr w1 w2 : World} {A : Option Addr} {m c : Nat} {xs : List Nat} {u : Value} (h : GrowI w hi n M R v vs xss wr) (hb : Below wr.heap.size wr w1)
    (ho : w1.ownsRow wr.heap.size 56 1 (.slice A m c) m (xs.map u64v)) (hx : W64 xs) (hg : w1.grownBy w2 v.ownBlock) (h2 : w2.ownsRow hi 53 1 u (vs.length + 1) (vs ++ [.slice A m c])) (hM : M < hi) (hR : R < hi) (hRM : R ≠ M) (hw : w.heap.size ≤ M) (hw2 : w.heap.size ≤ hi) :
    GrowI w hi n M R u (vs ++ [.slice A m c]) (xss ++ [xs]) (w2.setCell ⟨M, 1, none⟩ u) := by
  have h1 := h.keep hb
  have hsn := h.rows.snoc hb ho hx h.high
  have hne1 := own_ne_blk h1.out h1.res (by decide)
  have hne2 := own_ne_blk h1.out h1.loc (by decide)
  have hu : u.ownBlock ≠ some M := fun e => by have := own_lt_block h2 M e; omega
  have hsz : w1.heap.size ≤ w2.heap.size := hg.size
  refine ⟨(Blk.grown h1.res hg (fun e => hne1 e.symm)).far hRM _, ?_, ?_, (hsn.grown h1.out (by decide) hg).far hM _, ?_, ?_⟩
  · have := (Blk.grown h1.loc hg (fun e => hne2 e.symm)).set_ 1 u
    exact this
  · rw [List.length_append, List.length_singleton]
    exact own_far h2 hu _
  · refine Below.setCell ?_ hw _
    exact h1.below.grown hg (Nat.le_trans hw2 h1.high) (fun g e => Nat.le_trans hw2 (own_lt_block h1.out g e))
  · have := h1.high
    simp
    omega
set_option maxRecDepth 100000 in
set_option maxHeartbeats 2000000 in
theorem ref3_NewF (n : Nat) (hn : n ≤ 4096) (w : World) :
    Calls Try.prog 40 #[.int .i64 (n : Int)] w (RetMatF (n : Int) (newM n) 0 w) := by
  obtain ⟨i0, hi, hz0, hz1, hz2⟩ := info_parts info_row
  replace hi := Lib.hid hi
  replace hz0 := Lib.hid hz0
  replace hz1 := Lib.hid hz1
  replace hz2 := Lib.hid hz2
  have hrow := Lib.hid (fun W => ref2_NewO (n : Int) (by omega) (by omega) W)
  obtain ⟨W0, hW0⟩ : ∃ W0, W0 = (w.alloc (.cells #[.int .i64 0, .slice none 0 0] 24)).alloc (.cells #[.int .i64 n, .slice none 0 0] 24) := ⟨_, rfl⟩
  have hI : GrowI w (w.heap.size + 2) n (w.heap.size + 1) w.heap.size (.slice none 0 0) [] (List.replicate 0 (List.replicate (wordsN (n : Int)) 0)) W0 := by
    refine ⟨by rw [hW0]; exact (MatB.new w _).below_ ((Below.refl _ _).alloc (Nat.le_refl _) _), by rw [hW0]; exact MatB.new1 w _ _, World.ownsRow_nil _ _ _ _, OwnRows.nil _ _ _, by rw [hW0]; exact ((Below.refl _ _).alloc (Nat.le_refl _) _).alloc (by simp) _, by rw [hW0]; simp⟩
  replace hI := Lib.hid hI
  have h1 : ¬ (n : Int) < 0 := by omega
  have h2 : ¬ 4096 < (n : Int) := by omega
  go_enter Try.func40, Try.ntmps40
  go_wp2_with fail
  rw [← hW0]
  clear hW0
  go_loopw [5] (fun i wr => ∃ (v : Value) (vs : List Value), vs.length ≤ n ∧ i = .int .i64 vs.length ∧ Hid (GrowI w (w.heap.size + 2) n (w.heap.size + 1) w.heap.size v vs (List.replicate vs.length (List.replicate (wordsN (n : Int)) 0)) wr)) (fun i _ => n - (intOf i).toNat)
  case atStart => exact ⟨_, [], Nat.zero_le _, rfl, hI⟩
  case round =>
    obtain ⟨v, vs, hk, rfl, hI'⟩ := hrel
    clear hI
    obtain ⟨k, hke⟩ : ∃ k, k = vs.length := ⟨_, rfl⟩
    rw [← hke] at hk
    rw [← hke]
    by_cases hlt : k < n
    · replace hke := Lib.hid hke
      have l1 := Blk.cell hI'.out.loc 1
      simp only [List.getElem?_cons_zero, List.getElem?_cons_succ] at l1
      go_wp2_with fail
      refine wp_region_plan 5 [(true, 0), (true, 1), (true, 2), (false, 3), (false, 4)] (by kernel_rfl) (by kernel_rfl) (fun W hW => ?_)
      have p1 : W.cell? ⟨w.heap.size + 1, 1, none⟩ = some v := by rw [hW.out]; exact l1
      have hIW := Lib.hid (show GrowI w (w.heap.size + 2) n (w.heap.size + 1) w.heap.size v vs (List.replicate vs.length (List.replicate (wordsN (n : Int)) 0)) W by rw [hW.out]; exact hI'.out.keep (Below.refl _ _).drew)
      clear l1 hI'
      simp only [List.drop_succ_cons, List.drop_zero]
      iterate 3
        refine wpPlan_float (v := ?_) rfl (by rfl) (fun w' hw' => ?_) (fun K hK => ?_)
        rotate_left
        · (go_simp; try with_reducible rfl)
        go_simp
        refine hK _ ?_
        clear hK K
      refine wpPlan_only rfl (by rfl) (fun K hK => ?_)
      go_simp
      refine (hrow.out W).mono ?_
      rintro e w1 ⟨C, p, q, rfl, ho, hx64, hb1⟩
      refine hK _ _ hb1 ?_
      clear hK K p1
      refine wpPlan_only rfl (by rfl) (fun K hK => ?_)
      go_simp
      have hba : Below w1.heap.size w1 (w1.alloc (.cells #[.slice C p q] 53)) := (Below.refl _ _).alloc (Nat.le_refl _) _
      refine hK _ _ hba (wpPlan_nil ?_)
      clear hK K
      have hbb := below_trans2 hb1 hba
      have hIa := Lib.hid (hIW.out.keep hbb)
      have hoa := Lib.hid (own_below ho hba)
      replace hbb := Lib.hid hbb
      have hown := hIa.out.out
      rw [← hke.out] at hown
      have hhi := hIa.out.high
      replace hx64 := Lib.hid hx64
      clear hba hb1 ho
      go_wp2_with (at_builtin; refine wpList_append_lies _ rfl (.tmp 21) (.tmp 24) _ rfl (w.heap.size + 2) 53 i0 _ 1 24 Try.underlying22 hi.out hz0.out hz1.out hz2.out rfl (by omega) _ _ _ (by rfl) hown ⟨w1.heap.size, 0, none⟩ 1 1 [.slice C p q] rfl rfl (cell_one_new _ _ _) (by simp [Value.oneCell']) (by omega) (by unfold maxLen; omega) (by omega) hhi _ rfl ?_; intro g cap w2 hown2 hgrow hat hlt1; have hB2 := Blk.grown hIa.out.loc hgrow (fun e => own_ne_blk hIa.out.out hIa.out.loc (by decide) e.symm); have q1 := hB2.cell 1; have q2 := hB2.frozen 1; simp only [List.getElem?_cons_zero, List.getElem?_cons_succ] at q1; clear hB2 hat hlt1)
      refine NoPanic.normal ?_
      have hmore := Lib.hid (hIW.out.more hbb.out hoa.out hx64.out hgrow (by rw [← hke.out]; exact hown2) (by omega) (by omega) (by omega) (by omega) (by omega))
      clear q1 q2 hown2 hgrow hown
      go_wp2_with fail
      go_roundw
      case rel =>
        refine ⟨.slice (some ⟨g, 0, none⟩) (k + 1) cap, vs ++ [.slice C p q], by have := hke.out; simp; omega, by rw [List.length_append, ← hke.out]; simp; try omega, ?_⟩
        have h := hmore.out
        rw [← List.replicate_succ'] at h
        rw [List.length_append, List.length_singleton]
        exact Lib.hid h
      case measure => simp [intOf]; omega
    · have hkn : k = n := by omega
      have hvn : vs.length = n := by rw [← hke, hkn]
      clear hlt
      obtain rfl := hkn
      have hout := hI'.out.out
      obtain ⟨A', c', hv, hRd⟩ := Rd.of_own hout
      subst hv
      rw [hvn] at hout hRd
      have f0 := hI'.out.res.c0
      have f1 := hI'.out.res.c1
      have g0 := hI'.out.res.frozen 0
      have g1 := hI'.out.res.frozen 1
      have k0 := hI'.out.loc.cell 0
      have k1 := hI'.out.loc.cell 1
      simp only [List.getElem?_cons_zero, List.getElem?_cons_succ] at k0 k1
      rw [hvn] at k1
      have hcc := hI'.out.res.two (.int .i64 k) (.slice A' k c')
      have hc1 := Lib.hid hcc.1
      have hc2 := Lib.hid hcc.2
      replace hvn := Lib.hid hvn
      replace hke := Lib.hid hke
      clear hcc
      go_wp2_with fail
      refine bodyPost_ret (v := .tuple #[.agg #[.int .i64 k, .slice A' k c'], .int .i64 0]) (by simp [results, Try.results40, go_sem, hc1.out, hc2.out]) rfl ⟨_, _, _, rfl, ⟨vs, ?_, ?_⟩, own_cap hout, (hI'.out.below.setCell (by simp) _).setCell (by simp) _, fun ad e => by subst e; have := own_lt_block hout _ rfl; omega⟩
      · have hne : (Value.slice A' k c').ownBlock ≠ some w.heap.size := fun e => by have := own_lt_block hout _ e; omega
        exact Rd.of_own' (own_far (own_far hout (p := ⟨w.heap.size, 0, none⟩) hne _) (p := ⟨w.heap.size, 1, none⟩) hne _)
      · have h := ((hI'.out.rows.far (p := ⟨w.heap.size, 0, none⟩) (by simp) (.int .i64 k)).far (p := ⟨w.heap.size, 1, none⟩) (by simp) (.slice A' k c')).rows
        rw [hvn.out] at h
        exact h
theorem ref3_New (n : Nat) (hn : n ≤ 4096) (w : World) :
    Calls Try.prog 40 #[.int .i64 (n : Int)] w (RetMat (n : Int) (newM n) 0 w) :=
  (ref3_NewF n hn w).mono fun _ _ ⟨A', n', c', h1, h2, h3, h4, _⟩ => ⟨A', n', c', h1, h2, h3, h4⟩

end Go.Proofs.Ytkikoniihmieiaa

namespace Go.Proofs.Ytkikoniihmieiaa
open Go.RowKit
set_option linter.unusedVariables false

set_option maxHeartbeats 400000 in
theorem ref3_New_no (n : Int) (h : n < 0 ∨ 4097 ≤ n) (w : World) :
    Calls Try.prog 40 #[.int .i64 n] w (RetMat 0 [] 1 w) := by
  have ha : Below w.heap.size w (w.alloc (.cells #[.int .i64 0, .slice none 0 0] 24)) := (Below.refl _ _).alloc (Nat.le_refl _) _
  replace ha := Lib.hid ha
  by_cases h0 : n < 0
  · clear h
    go_enter Try.func40, Try.ntmps40
    go_wp2_with fail
    exact bodyPost_ret (v := .tuple #[.agg #[.int .i64 0, .slice none 0 0], .int .i64 1]) (by simp [results, Try.results40, go_sem]) rfl ⟨none, 0, 0, rfl, RowsAt.nil _ _, Nat.le_refl _, ha.out⟩
  · have h1 : 4096 < n := by omega
    clear h
    go_enter Try.func40, Try.ntmps40
    go_wp2_with fail
    exact bodyPost_ret (v := .tuple #[.agg #[.int .i64 0, .slice none 0 0], .int .i64 1]) (by simp [results, Try.results40, go_sem]) rfl ⟨none, 0, 0, rfl, RowsAt.nil _ _, Nat.le_refl _, ha.out⟩

set_option maxHeartbeats 400000 in
theorem ref3_Or_no (N M : Int) (A B : Option Addr) (n c m d : Nat) (w : World) (h : N ≠ M) :
    Calls Try.prog 15 #[.agg #[.int .i64 N, .slice A n c], .agg #[.int .i64 M, .slice B m d]] w (RetMat 0 [] 1 w) := by
  have hne : (N != M) = true := by simpa using h
  have ha : Below w.heap.size w (((w.alloc (.cells #[.int .i64 N, .slice A n c] 24)).alloc (.cells #[.int .i64 M, .slice B m d] 24)).alloc (.cells #[.int .i64 0, .slice none 0 0] 24)) := (((Below.refl _ _).alloc (Nat.le_refl _) _).alloc (by simp) _).alloc (by simp; omega) _
  replace ha := Lib.hid ha
  clear h
  go_enter Try.func15, Try.ntmps15
  go_wp2_with fail
  exact bodyPost_ret (v := .tuple #[.agg #[.int .i64 0, .slice none 0 0], .int .i64 1]) (by simp [results, Try.results15, go_sem]) rfl ⟨none, 0, 0, rfl, RowsAt.nil _ _, Nat.le_refl _, ha.out⟩
set_option maxRecDepth 100000 in
set_option maxHeartbeats 2000000 in
theorem ref3_Or (A B : Option Addr) (n c d : Nat) (xss yss : List (List Nat)) (w : World) (hr : RowsAt w A n xss) (hs : RowsAt w B n yss) (hn : n ≤ 4096)
    (hl : ∀ (i : Nat) (xs : List Nat), xss[i]? = some xs → xs.length ≤ 1024) (hl2 : ∀ (i : Nat) (xs : List Nat), yss[i]? = some xs → xs.length ≤ 1024) :
    Calls Try.prog 15 #[.agg #[.int .i64 (n : Int), .slice A n c], .agg #[.int .i64 (n : Int), .slice B n d]] w (RetMat (n : Int) (orM xss yss) 0 w) := by
  obtain ⟨i0, hi, hz0, hz1, hz2⟩ := info_parts info_row
  replace hi := Lib.hid hi
  replace hz0 := Lib.hid hz0
  replace hz1 := Lib.hid hz1
  replace hz2 := Lib.hid hz2
  have hxl := hr.len
  obtain ⟨W0, hW0⟩ : ∃ W0, W0 = (((w.alloc (.cells #[.int .i64 n, .slice A n c] 24)).alloc (.cells #[.int .i64 n, .slice B n d] 24)).alloc (.cells #[.int .i64 0, .slice none 0 0] 24)).alloc (.cells #[.int .i64 n, .slice none 0 0] 24) := ⟨_, rfl⟩
  have hBa : MatB W0 w.heap.size 24 n A n c := by rw [hW0]; exact (((MatB.new w _).below_ ((Below.refl _ _).alloc (Nat.le_refl _) _)).below_ ((Below.refl _ _).alloc (Nat.le_refl _) _)).below_ ((Below.refl _ _).alloc (Nat.le_refl _) _)
  have hBb : MatB W0 (w.heap.size + 1) 24 n B n d := by rw [hW0]; exact ((MatB.new1 w _ _).below_ ((Below.refl _ _).alloc (Nat.le_refl _) _)).below_ ((Below.refl _ _).alloc (Nat.le_refl _) _)
  have hI : GrowI w (w.heap.size + 4) n (w.heap.size + 3) (w.heap.size + 2) (.slice none 0 0) [] (orPre xss yss 0) W0 := by
    refine ⟨?_, ?_, World.ownsRow_nil _ _ _ _, OwnRows.nil _ _ _, by rw [hW0]; exact (((((Below.refl _ _).alloc (Nat.le_refl _) _).alloc (by simp) _).alloc (by simp <;> omega) _).alloc (by simp <;> omega) _), by rw [hW0]; simp⟩
    · rw [hW0]
      have h := MatB.new1 (N := 0) (A := none) (n := 0) (c := 0) (w.alloc (.cells #[.int .i64 n, .slice A n c] 24)) (.cells #[.int .i64 n, .slice B n d] 24) 24
      rw [show (w.alloc (.cells #[.int .i64 n, .slice A n c] 24)).heap.size = w.heap.size + 1 from by simp] at h
      exact h.below_ ((Below.refl _ _).alloc (Nat.le_refl _) _)
    · rw [hW0]
      have h := MatB.new1 (N := n) (A := none) (n := 0) (c := 0) ((w.alloc (.cells #[.int .i64 n, .slice A n c] 24)).alloc (.cells #[.int .i64 n, .slice B n d] 24)) (.cells #[.int .i64 0, .slice none 0 0] 24) 24
      rw [show ((w.alloc (.cells #[.int .i64 n, .slice A n c] 24)).alloc (.cells #[.int .i64 n, .slice B n d] 24)).heap.size + 1 = w.heap.size + 3 from by simp] at h
      exact h
  replace hI := Lib.hid hI
  have hne : ((n : Int) != (n : Int)) = false := by simp
  replace hBa := Lib.hid hBa
  replace hBb := Lib.hid hBb
  replace hr := Lib.hid hr
  replace hs := Lib.hid hs
  replace hl := Lib.hid hl
  replace hl2 := Lib.hid hl2
  replace hxl := Lib.hid hxl
  go_enter Try.func15, Try.ntmps15
  go_wp2_with fail
  rw [← hW0]
  clear hW0
  go_loopw [7] (fun i wr => ∃ (v : Value) (vs : List Value), vs.length ≤ n ∧ i = .int .i64 vs.length ∧ Hid (GrowI w (w.heap.size + 4) n (w.heap.size + 3) (w.heap.size + 2) v vs (orPre xss yss vs.length) wr) ∧ Hid (MatB wr w.heap.size 24 n A n c) ∧ Hid (MatB wr (w.heap.size + 1) 24 n B n d)) (fun i _ => n - (intOf i).toNat)
  case atStart => exact ⟨_, [], Nat.zero_le _, rfl, hI, hBa, hBb⟩
  case round =>
    obtain ⟨v, vs, hk, rfl, hI', hA', hB'⟩ := hrel
    clear hI hBa hBb
    obtain ⟨k, hke⟩ : ∃ k, k = vs.length := ⟨_, rfl⟩
    rw [← hke] at hk
    rw [← hke]
    have la0 := hA'.out.c0
    by_cases hlt : k < n
    · replace hke := Lib.hid hke
      obtain ⟨b1, o1, A1, n1, c1, xs, rfl, hbl1, hx, hc1, hrx⟩ := (hr.out.below hI'.out.below).at_ hlt
      obtain ⟨b2, o2, B1, n2, c2, ys, rfl, hbl2, hy, hc2, hry⟩ := (hs.out.below hI'.out.below).at_ hlt
      have hn1 : n1 ≤ 1024 := by have := hrx.len; have := hl.out k xs hx; omega
      have hn2 : n2 ≤ 1024 := by have := hry.len; have := hl2.out k ys hy; omega
      have hstep : Hid (orPre xss yss (k + 1) = orPre xss yss k ++ [orR xs ys]) := Lib.hid (by rw [orPre_succ, getD_at hx, getD_at hy])
      have l1 := Blk.cell hI'.out.loc 1
      have la1 := hA'.out.c1
      have lb1 := hB'.out.c1
      have hk0 : (0 : Int) ≤ (k : Int) := by omega
      have hkn : (k : Int) < (n : Int) := by omega
      simp only [List.getElem?_cons_zero, List.getElem?_cons_succ] at l1
      clear hx hy
      go_wp2_with fail
      refine wp_region_plan 14 [(true, 0), (true, 1), (true, 2), (true, 3), (true, 4), (true, 5), (true, 6), (true, 7), (true, 8), (true, 9), (true, 10), (true, 11), (false, 12), (false, 13)] (by kernel_rfl) (by kernel_rfl) (fun W hW => ?_)
      have p1 : W.cell? ⟨w.heap.size + 3, 1, none⟩ = some v := by rw [hW.out]; exact l1
      have p2 : W.cell? ⟨w.heap.size, 1, none⟩ = some (.slice (some ⟨b1, o1, none⟩) n c) := by rw [hW.out]; exact la1
      have p3 : W.cell? ⟨w.heap.size + 1, 1, none⟩ = some (.slice (some ⟨b2, o2, none⟩) n d) := by rw [hW.out]; exact lb1
      have p4 : W.cell? ⟨b1, o1 + k, none⟩ = some (.slice A1 n1 c1) := by rw [hW.out]; exact hc1
      have p5 : W.cell? ⟨b2, o2 + k, none⟩ = some (.slice B1 n2 c2) := by rw [hW.out]; exact hc2
      have hIW := Lib.hid (show GrowI w (w.heap.size + 4) n (w.heap.size + 3) (w.heap.size + 2) v vs (orPre xss yss vs.length) W by rw [hW.out]; exact hI'.out.keep (Below.refl _ _).drew)
      have hAW := Lib.hid (show MatB W w.heap.size 24 n (some ⟨b1, o1, none⟩) n c by rw [hW.out]; exact Blk.drew hA'.out)
      have hBW := Lib.hid (show MatB W (w.heap.size + 1) 24 n (some ⟨b2, o2, none⟩) n d by rw [hW.out]; exact Blk.drew hB'.out)
      have hC := Lib.hid (ref2_OrO A1 B1 n1 n2 c1 c2 xs ys W (by rw [hW.out]; exact hrx) (by rw [hW.out]; exact hry) (by omega) (by omega))
      clear l1 la1 lb1 la0 hc1 hc2 hI' hA' hB' hrx hry
      simp only [List.drop_succ_cons, List.drop_zero]
      iterate 12
        refine wpPlan_float (v := ?_) rfl (by rfl) (fun w' hw' => ?_) (fun K hK => ?_)
        rotate_left
        · (go_simp; try with_reducible rfl)
        go_simp
        refine hK _ ?_
        clear hK K
      refine wpPlan_only rfl (by rfl) (fun K hK => ?_)
      go_simp
      refine hC.out.mono ?_
      rintro e w1 ⟨C, p, q, rfl, ho, hx64, hb1⟩
      refine hK _ _ hb1 ?_
      clear hK K p1 p2 p3 p4 p5
      refine wpPlan_only rfl (by rfl) (fun K hK => ?_)
      go_simp
      have hba : Below w1.heap.size w1 (w1.alloc (.cells #[.slice C p q] 53)) := (Below.refl _ _).alloc (Nat.le_refl _) _
      refine hK _ _ hba (wpPlan_nil ?_)
      clear hK K
      have hbb := below_trans2 hb1 hba
      have hIa := Lib.hid (hIW.out.keep hbb)
      have hAa := Lib.hid (hAW.out.below_ hbb)
      have hBa := Lib.hid (hBW.out.below_ hbb)
      have hoa := Lib.hid (own_below ho hba)
      replace hbb := Lib.hid hbb
      have hown := hIa.out.out
      rw [← hke.out] at hown
      have hhi := hIa.out.high
      replace hx64 := Lib.hid hx64
      clear hba hb1 ho
      go_wp2_with (at_builtin; refine wpList_append_lies _ rfl (.tmp 24) (.tmp 36) _ rfl (w.heap.size + 4) 53 i0 _ 1 24 Try.underlying22 hi.out hz0.out hz1.out hz2.out rfl (by omega) _ _ _ (by rfl) hown ⟨w1.heap.size, 0, none⟩ 1 1 [.slice C p q] rfl rfl (cell_one_new _ _ _) (by simp [Value.oneCell']) (by omega) (by unfold maxLen; omega) (by omega) hhi _ rfl ?_; intro g cap w2 hown2 hgrow hat hlt1; have hB2 := Blk.grown hIa.out.loc hgrow (fun e => own_ne_blk hIa.out.out hIa.out.loc (by decide) e.symm); have q1 := hB2.cell 1; have q2 := hB2.frozen 1; simp only [List.getElem?_cons_zero, List.getElem?_cons_succ] at q1; clear hB2 hat hlt1)
      refine NoPanic.normal ?_
      have hmore := Lib.hid (hIW.out.more hbb.out hoa.out hx64.out hgrow (by rw [← hke.out]; exact hown2) (by omega) (by omega) (by omega) (by omega) (by omega))
      have hA2 := Lib.hid ((Blk.grown hAa.out hgrow (fun e => own_ne_blk hIa.out.out hAa.out (by decide) e.symm)).far (p := ⟨w.heap.size + 3, 1, none⟩) (by simp <;> omega) (.slice (some ⟨g, 0, none⟩) (k + 1) cap))
      have hB2 := Lib.hid ((Blk.grown hBa.out hgrow (fun e => own_ne_blk hIa.out.out hBa.out (by decide) e.symm)).far (p := ⟨w.heap.size + 3, 1, none⟩) (by simp <;> omega) (.slice (some ⟨g, 0, none⟩) (k + 1) cap))
      clear q1 q2 hown2 hgrow hown
      go_wp2_with fail
      go_roundw
      case rel =>
        refine ⟨.slice (some ⟨g, 0, none⟩) (k + 1) cap, vs ++ [.slice C p q], by have := hke.out; simp; omega, by rw [List.length_append, ← hke.out]; simp; try omega, ?_, hA2, hB2⟩
        have h := hmore.out
        rw [← hke.out, ← hstep.out] at h
        rw [List.length_append, List.length_singleton, ← hke.out]
        exact Lib.hid h
      case measure => simp [intOf]; omega
    · have hkn : k = n := by omega
      have hvn : vs.length = n := by rw [← hke, hkn]
      clear hlt
      obtain rfl := hkn
      have hout := hI'.out.out
      obtain ⟨A', c', hv, hRd⟩ := Rd.of_own hout
      subst hv
      rw [hvn] at hout hRd
      have f0 := hI'.out.res.c0
      have f1 := hI'.out.res.c1
      have g0 := hI'.out.res.frozen 0
      have g1 := hI'.out.res.frozen 1
      have k0 := hI'.out.loc.cell 0
      have k1 := hI'.out.loc.cell 1
      simp only [List.getElem?_cons_zero, List.getElem?_cons_succ] at k0 k1
      rw [hvn] at k1
      have hcc := hI'.out.res.two (.int .i64 k) (.slice A' k c')
      have hc1 := Lib.hid hcc.1
      have hc2 := Lib.hid hcc.2
      replace hvn := Lib.hid hvn
      replace hke := Lib.hid hke
      clear hcc
      go_wp2_with fail
      refine bodyPost_ret (v := .tuple #[.agg #[.int .i64 k, .slice A' k c'], .int .i64 0]) (by simp [results, Try.results15, go_sem, hc1.out, hc2.out]) rfl ⟨_, _, _, rfl, ⟨vs, ?_, ?_⟩, own_cap hout, (hI'.out.below.setCell (by simp <;> omega) _).setCell (by simp <;> omega) _⟩
      · have hne : (Value.slice A' k c').ownBlock ≠ some (w.heap.size + 2) := fun e => by have := own_lt_block hout _ e; omega
        exact Rd.of_own' (own_far (own_far hout (p := ⟨w.heap.size + 2, 0, none⟩) hne _) (p := ⟨w.heap.size + 2, 1, none⟩) hne _)
      · have h := ((hI'.out.rows.far (p := ⟨w.heap.size + 2, 0, none⟩) (by simp <;> omega) (.int .i64 k)).far (p := ⟨w.heap.size + 2, 1, none⟩) (by simp <;> omega) (.slice A' k c')).rows
        have he : orPre xss yss vs.length = orM xss yss := by rw [hvn.out, ← orPre_all, hxl.out]
        rw [he] at h
        exact h

end Go.Proofs.Ytkikoniihmieiaa

namespace Go.Proofs.Ytkikoniihmieiaa
open Go.RowKit
set_option linter.unusedVariables false

theorem MatB.belowB {w w' : World} {g : Nat} {t : TypeId} {N : Int} {A : Option Addr} {n c B : Nat} (h : MatB w g t N A n c) (hb : Below B w w') (hg : g < B) : MatB w' g t N A n c := Blk.below h hb hg
theorem MatB.farB {w : World} {g : Nat} {t : TypeId} {N : Int} {A : Option Addr} {n c : Nat} (h : MatB w g t N A n c) {p : Addr} (hp : g ≠ p.block) (u : Value) : MatB (w.setCell p u) g t N A n c := Blk.far h hp u
set_option maxHeartbeats 400000 in
theorem ref3_Set_noF (N : Int) (A : Option Addr) (n c : Nat) (i j : Int) (w : World) (h3 : inM N i j = false) :
    Calls Try.prog 13 #[.agg #[.int .i64 N, .slice A n c], .int .i64 i, .int .i64 j] w (RetMatF 0 [] 1 w) := by
  obtain ⟨W0, hW0⟩ : ∃ W0, W0 = (w.alloc (.cells #[.int .i64 N, .slice A n c] 24)).alloc (.cells #[.int .i64 0, .slice none 0 0] 24) := ⟨_, rfl⟩
  have ha : Below w.heap.size w W0 := by rw [hW0]; exact ((Below.refl _ _).alloc (Nat.le_refl _) _).alloc (by simp) _
  have hB2 : MatB W0 (w.heap.size + 1) 24 0 none 0 0 := by rw [hW0]; exact MatB.new1 w _ _
  have hin := Lib.hid (ref3_in N A n c i j W0)
  replace h3 := Lib.hid h3
  replace ha := Lib.hid ha
  replace hB2 := Lib.hid hB2
  go_enter Try.func13, Try.ntmps13
  go_wp2_with fail
  rw [← hW0]
  clear hW0
  refine hin.out.mono ?_; rintro e w1 ⟨rfl, hb1⟩
  rw [h3.out]
  have hbb := Lib.hid (below_trans2 ha.out hb1)
  have hres := hB2.out.below_ hb1
  have f0 := hres.c0
  have f1 := hres.c1
  have g0 := hres.frozen 0
  have g1 := hres.frozen 1
  have hcc := hres.two (.int .i64 0) (.slice none 0 0)
  have hc1 := Lib.hid hcc.1
  have hc2 := Lib.hid hcc.2
  clear hcc hres hb1
  go_wp2_with fail
  exact bodyPost_ret (v := .tuple #[.agg #[.int .i64 0, .slice none 0 0], .int .i64 1]) (by simp [results, Try.results13, go_sem, hc1.out, hc2.out]) rfl ⟨none, 0, 0, rfl, RowsAt.nil _ _, Nat.le_refl _, (hbb.out.setCell (by simp) _).setCell (by simp) _, fun ad e => by cases e⟩

set_option maxRecDepth 100000 in
set_option maxHeartbeats 1000000 in
theorem ref3_SetF (N : Int) (A : Option Addr) (n c : Nat) (xss : List (List Nat)) (i j : Int) (w : World) (hr : RowsAt w A n xss) (hN : N = (n : Int)) (hn : n ≤ 4096) (hl : ∀ xs ∈ xss, xs.length ≤ 1024)
    (h3 : inM N i j = true) :
    Calls Try.prog 13 #[.agg #[.int .i64 N, .slice A n c], .int .i64 i, .int .i64 j] w (RetMatF N (setM xss i j) 0 w) := by
  subst hN
  obtain ⟨x0, hxi, hxz0, hxz1, hxz2⟩ := info_parts info_row
  replace hxi := Lib.hid hxi
  replace hxz0 := Lib.hid hxz0
  replace hxz1 := Lib.hid hxz1
  replace hxz2 := Lib.hid hxz2
  obtain ⟨i0, i1, j0, j1⟩ := inM_yes h3
  obtain ⟨k, rfl⟩ := Int.eq_ofNat_of_zero_le i0
  have hk : k < n := by omega
  obtain ⟨W0, hW0⟩ : ∃ W0, W0 = (w.alloc (.cells #[.int .i64 n, .slice A n c] 24)).alloc (.cells #[.int .i64 0, .slice none 0 0] 24) := ⟨_, rfl⟩
  have ha : Below w.heap.size w W0 := by rw [hW0]; exact ((Below.refl _ _).alloc (Nat.le_refl _) _).alloc (by simp) _
  have hB1 : MatB W0 w.heap.size 24 n A n c := by rw [hW0]; exact (MatB.new w _).below_ ((Below.refl _ _).alloc (Nat.le_refl _) _)
  have hB2 : MatB W0 (w.heap.size + 1) 24 0 none 0 0 := by rw [hW0]; exact MatB.new1 w _ _
  have hin := Lib.hid (ref3_in (n : Int) A n c k j W0)
  have hsz : W0.heap.size = w.heap.size + 2 := by rw [hW0]; simp
  have hlen := hr.len
  have hlt := Lib.hid hr.w64
  obtain ⟨vs, hrdw, hrcw⟩ := hr
  obtain ⟨b, off, u, rfl, hbl, hu, hc⟩ := hrdw.at_ hk
  obtain ⟨xs, hx⟩ : ∃ xs, xss[k]? = some xs := ⟨_, List.getElem?_eq_getElem (by omega)⟩
  obtain ⟨B, m, d, rfl, hxr⟩ := hrcw.2 k u xs hu hx
  have hm : m ≤ 1024 := by have := hxr.len; have := hl xs (List.mem_of_getElem? hx); omega
  have hst := Lib.hid (ref2_SetO B m d xs j)
  have hx2 := Lib.hid hx
  have hu2 := Lib.hid hu
  have hone := Lib.hid (one_rows hrcw)
  replace hB1 := Lib.hid hB1
  replace hB2 := Lib.hid hB2
  replace hsz := Lib.hid hsz
  replace ha := Lib.hid ha
  replace h3 := Lib.hid h3
  replace hxr := Lib.hid hxr
  replace hrcw := Lib.hid hrcw
  replace hrdw := Lib.hid hrdw
  have hk0 : (0 : Int) ≤ (k : Int) := by omega
  have hkn : (k : Int) < (n : Int) := by omega
  clear hc hu hx hlen hl i0 i1
  go_enter Try.func13, Try.ntmps13
  go_wp2_with fail
  rw [← hW0]
  clear hW0
  refine hin.out.mono ?_; rintro e w1 ⟨rfl, hb1⟩
  rw [h3.out]
  have hbb := Lib.hid (below_trans2 ha.out hb1)
  have hs1 : w.heap.size + 2 ≤ w1.heap.size := by have := hb1.size; have := hsz.out; omega
  have hA1 := Lib.hid (hB1.out.below_ hb1)
  have hR1 := Lib.hid (hB2.out.below_ hb1)
  have hba : Below w1.heap.size w1 (w1.alloc (.cells #[] 53)) := (Below.refl _ _).alloc (Nat.le_refl _) _
  have hlit : (w1.alloc (.cells #[] 53)).ownsRow w1.heap.size 53 1 (.slice (some ⟨w1.heap.size, 0, none⟩) 0 0) 0 [] := by
    have h := World.ownsRow_lit (size := 1) (base := w1.heap.size) (e := 53) w1 #[] 0 (Nat.le_refl _) (by omega) (by simp)
    simpa using h
  have l1 : (w1.alloc (.cells #[] 53)).cell? ⟨w.heap.size, 1, none⟩ = some (.slice (some ⟨b, off, none⟩) n c) := (hA1.out.below_ hba).c1
  have hrd : Rd (w1.alloc (.cells #[] 53)) (some ⟨b, off, none⟩) n vs := (hrdw.out.below hbb.out).below hba
  have hbba := Lib.hid (below_trans2 hbb.out hba)
  have hRa := Lib.hid (hR1.out.below_ hba)
  have hAa := Lib.hid (hA1.out.below_ hba)
  clear hb1
  go_wp2_with (at_builtin; refine wpList_append_rd rfl (.tmp 15) (.tmp 17) _ rfl w1.heap.size 53 x0 _ 24 Try.underlying22 hxi.out hxz0.out hxz1.out hxz2.out rfl _ 0 _ (by rfl) hlit _ n c _ rfl hrd hone.out (by unfold maxLen; omega) (by omega) hba.size ?_; intro v2 w2 hown2 hbc hform; simp only [Nat.zero_add, List.nil_append] at hown2 hform; obtain ⟨g, cap, rfl⟩ := hform (by omega); have hcg := hown2.cellAt k (by omega); rw [hu2.out] at hcg; have hfg := hown2.frozenAt k; clear hform l1)
  have hglt := (hown2.lt g rfl).1
  have hb2 : Below w.heap.size w w2 := hbba.out.trans (hbc.mono (by omega))
  have hR2 := Lib.hid (MatB.belowB hRa.out hbc (by omega))
  have hA2 := Lib.hid (MatB.belowB hAa.out hbc (by omega))
  replace hb2 := Lib.hid hb2
  replace hown2 := Lib.hid hown2
  clear hba hlit hrd hbc hcg hfg
  refine (hst.out w2 (hxr.out.below hb2.out) (by omega) (by omega) (by omega)).mono ?_; rintro e w3 ⟨C, p, q, rfl, hxr2, hx64, hb3⟩
  have hown3 := Lib.hid (own_below hown2.out hb3)
  have hcg := hown3.out.cellAt k (by omega)
  rw [hu2.out] at hcg
  have hfg := hown3.out.frozenAt k
  have hR3 := Lib.hid (hR2.out.below_ hb3)
  have hA3 := Lib.hid (hA2.out.below_ hb3)
  have hbb3 := Lib.hid (below_trans2 hb2.out hb3)
  have hCb : Hid (∀ ad, C = some ad → w2.heap.size ≤ ad.block) := Lib.hid (fun ad e => by subst e; exact own_lt_block hxr2 _ rfl)
  have hgl2 : g < w2.heap.size := (hown2.out.lt g rfl).2
  replace hxr2 := Lib.hid (Row.of_own hxr2 hx64)
  have hA4 := MatB.farB (p := ⟨g, k, none⟩) hA3.out (by simp <;> omega) (.slice C p q)
  have hR4 := hR3.out.farB (p := ⟨g, k, none⟩) (by simp <;> omega) (.slice C p q)
  have f10 := hA4.c0
  have f20 := hR4.c0
  have f21 := hR4.c1
  have g20 := hR4.frozen 0
  have g21 := hR4.frozen 1
  have hcc := MatB.two hR4 (.int .i64 n) (.slice (some ⟨g, 0, none⟩) n cap)
  have hc1 := Lib.hid hcc.1
  have hc2 := Lib.hid hcc.2
  clear hA4 hR4 hcc hb3 hx64
  go_wp2_with fail
  have hfin : Below w.heap.size w ((((w3.setCell ⟨g, k, none⟩ (.slice C p q)).setCell ⟨w.heap.size + 1, 0, none⟩ (.int .i64 n)).setCell ⟨w.heap.size + 1, 1, none⟩ (.slice (some ⟨g, 0, none⟩) n cap))) := ((hbb3.out.setCell (by simp <;> omega) _).setCell (by simp) _).setCell (by simp) _
  refine bodyPost_ret (v := .tuple #[.agg #[.int .i64 n, .slice (some ⟨g, 0, none⟩) n cap], .int .i64 0]) (by simp [results, Try.results13, go_sem, hc1.out, hc2.out]) rfl ⟨_, _, _, rfl, ?_, own_cap hown3.out, hfin, fun ad e => by cases e; show w.heap.size ≤ g; omega⟩
  refine ⟨_, Rd.of_own' (own_far (own_far (hown3.out.stored k (.slice C p q)).1 (p := ⟨w.heap.size + 1, 0, none⟩) (by simp [Value.ownBlock]; omega) _) (p := ⟨w.heap.size + 1, 1, none⟩) (by simp [Value.ownBlock]; omega) _), ?_⟩
  have h1 := hrcw.out.below hfin
  rw [setM_nat hx2.out]
  refine h1.set ⟨C, p, q, rfl, ?_⟩ k
  exact ((hxr2.out.setCell (fun ad e => by have := hCb.out ad e; simp <;> omega) _).setCell (fun ad e => by have := hCb.out ad e; simp <;> omega) _).setCell (fun ad e => by have := hCb.out ad e; simp <;> omega) _
theorem ref3_Set_no (N : Int) (A : Option Addr) (n c : Nat) (i j : Int) (w : World) (h3 : inM N i j = false) :
    Calls Try.prog 13 #[.agg #[.int .i64 N, .slice A n c], .int .i64 i, .int .i64 j] w (RetMat 0 [] 1 w) :=
  (ref3_Set_noF N A n c i j w h3).mono fun _ _ ⟨A', n', c', h1, h2, h3, h4, _⟩ => ⟨A', n', c', h1, h2, h3, h4⟩
theorem ref3_Set (N : Int) (A : Option Addr) (n c : Nat) (xss : List (List Nat)) (i j : Int) (w : World) (hr : RowsAt w A n xss) (hN : N = (n : Int)) (hn : n ≤ 4096) (hl : ∀ xs ∈ xss, xs.length ≤ 1024)
    (h3 : inM N i j = true) :
    Calls Try.prog 13 #[.agg #[.int .i64 N, .slice A n c], .int .i64 i, .int .i64 j] w (RetMat N (setM xss i j) 0 w) :=
  (ref3_SetF N A n c xss i j w hr hN hn hl h3).mono fun _ _ ⟨A', n', c', h1, h2, h3, h4, _⟩ => ⟨A', n', c', h1, h2, h3, h4⟩

end Go.Proofs.Ytkikoniihmieiaa
