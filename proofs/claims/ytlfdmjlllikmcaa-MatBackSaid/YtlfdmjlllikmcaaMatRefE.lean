/- Contracts of the document's own answers for matrices: New. -/
import Derived.Test.YtlfdmjlllikmcaaMatRefD
namespace Go.Proofs.Ytlfdmjlllikmcaa
open Go.RowKit
set_option linter.unusedVariables false

theorem own_ne_blk {w : World} {base s n g : Nat} {e t : TypeId} {v : Value} {xs cs : List Value} (h : w.ownsRow base e s v n xs) (hB : Blk w g t cs) (hne : e ≠ t) : v.ownBlock ≠ some g := by
  intro he
  rcases h.2 with ⟨rfl, _⟩ | ⟨g', cap, cur, rfl, _, hh, _⟩
  · simp [Value.ownBlock] at he
  · have : g' = g := by simpa [Value.ownBlock] using he
    subst this
    unfold Blk at hB
    rw [hh] at hB
    injection hB with hB
    injection hB with _ ht
    exact hne ht
theorem OwnRows.grown {t e : TypeId} {w w' : World} {base b2 s n : Nat} {v : Value} {vs us : List Value} {xss : List (List Nat)} (h : OwnRows t w base vs xss) (ho : w.ownsRow b2 e s v n us) (hne : t ≠ e) (hg : w.grownBy w' v.ownBlock) : OwnRows t w' base vs xss :=
  ⟨h.1, fun i u xs h1 h2 => by
    obtain ⟨A, m, c, e', hown, hx⟩ := h.2.1 i u xs h1 h2
    exact ⟨A, m, c, e', own_grown hown ho hne hg, hx⟩, h.2.2⟩

/-- as RetMat, and the outer cells are new -/
def RetMatF (N : Int) (xss : List (List Nat)) (er : Int) (w : World) : Ending → World → Prop := fun e w' =>
  ∃ A n c, e = .returned (.tuple #[.agg #[.int .i64 N, .slice A n c], .int .i64 er]) ∧ RowsAt w' A n xss ∧ n ≤ c ∧ Below w.heap.size w w' ∧ ∀ ad, A = some ad → w.heap.size ≤ ad.block
/-- what is known at the heads of the rounds of a matrix that grows row by row -/
structure GrowI (w : World) (hi n : Nat) (M R : Nat) (v : Value) (vs : List Value) (xss : List (List Nat)) (wr : World) : Prop where
  res : MatB wr R 24 0 none 0 0
  loc : Blk wr M 24 [.int .i64 n, v]
  out : wr.ownsRow hi 45 1 v vs.length vs
  rows : OwnRows 47 wr hi vs xss
  below : Below w.heap.size w wr
  high : hi ≤ wr.heap.size
theorem GrowI.keep {w : World} {hi n M R : Nat} {v : Value} {vs : List Value} {xss : List (List Nat)} {wr w' : World} (h : GrowI w hi n M R v vs xss wr) (hb : Below wr.heap.size wr w') : GrowI w hi n M R v vs xss w' :=
  ⟨h.res.below_ hb, Blk.below h.loc hb h.loc.lt, own_below h.out hb, h.rows.below hb, below_trans2 h.below hb, Nat.le_trans h.high hb.size⟩
theorem GrowI.more {w : World} {hi n M R : Nat} {v : Value} {vs : List Value} {xss : List (List Nat)} {wr w1 w2 : World} {A : Option Addr} {m c : Nat} {xs : List Nat} {u : Value} (h : GrowI w hi n M R v vs xss wr) (hb : Below wr.heap.size wr w1)
    (ho : w1.ownsRow wr.heap.size 47 1 (.slice A m c) m (xs.map u64v)) (hx : W64 xs) (hg : w1.grownBy w2 v.ownBlock) (h2 : w2.ownsRow hi 45 1 u (vs.length + 1) (vs ++ [.slice A m c])) (hM : M < hi) (hR : R < hi) (hRM : R ≠ M) (hw : w.heap.size ≤ M) (hw2 : w.heap.size ≤ hi) :
    GrowI w hi n M R u (vs ++ [.slice A m c]) (xss ++ [xs]) (w2.setCell ⟨M, 1, none⟩ u) := by
  have h1 := h.keep hb
  have hsn := h.rows.snoc hb ho hx h.high
  have hne1 := own_ne_blk h1.out h1.res (by decide)
  have hne2 := own_ne_blk h1.out h1.loc (by decide)
  have hu : u.ownBlock ≠ some M := fun e => by have := own_lt_block h2 M e; omega
  have hsz : w1.heap.size ≤ w2.heap.size := hg.size
  refine ⟨(Blk.grown h1.res hg (fun e => hne1 e.symm)).far hRM _, ?_, ?_, (hsn.grown h1.out (by decide) hg).far hM _, ?_, ?_⟩
  · have := (Blk.grown h1.loc hg (fun e => hne2 e.symm)).set_ 1 u
    exact this
  · rw [List.length_append, List.length_singleton]
    exact own_far h2 hu _
  · refine Below.setCell ?_ hw _
    exact h1.below.grown hg (Nat.le_trans hw2 h1.high) (fun g e => Nat.le_trans hw2 (own_lt_block h1.out g e))
  · have := h1.high
    simp
    omega
set_option maxRecDepth 100000 in
set_option maxHeartbeats 2000000 in
theorem ref3_NewF (n : Nat) (hn : n ≤ 4096) (w : World) :
    Calls Try.prog 30 #[.int .i64 (n : Int)] w (RetMatF (n : Int) (newM n) 0 w) := by
  obtain ⟨i0, hi, hz0, hz1, hz2⟩ := info_parts info_row
  replace hi := Lib.hid hi
  replace hz0 := Lib.hid hz0
  replace hz1 := Lib.hid hz1
  replace hz2 := Lib.hid hz2
  have hrow := Lib.hid (fun W => ref2_NewO (n : Int) (by omega) (by omega) W)
  obtain ⟨W0, hW0⟩ : ∃ W0, W0 = (w.alloc (.cells #[.int .i64 0, .slice none 0 0] 24)).alloc (.cells #[.int .i64 n, .slice none 0 0] 24) := ⟨_, rfl⟩
  have hI : GrowI w (w.heap.size + 2) n (w.heap.size + 1) w.heap.size (.slice none 0 0) [] (List.replicate 0 (List.replicate (wordsN (n : Int)) 0)) W0 := by
    refine ⟨by rw [hW0]; exact (MatB.new w _).below_ ((Below.refl _ _).alloc (Nat.le_refl _) _), by rw [hW0]; exact MatB.new1 w _ _, World.ownsRow_nil _ _ _ _, OwnRows.nil _ _ _, by rw [hW0]; exact ((Below.refl _ _).alloc (Nat.le_refl _) _).alloc (by simp) _, by rw [hW0]; simp⟩
  replace hI := Lib.hid hI
  have h1 : ¬ (n : Int) < 0 := by omega
  have h2 : ¬ 4096 < (n : Int) := by omega
  go_enter Try.func30, Try.ntmps30
  go_wp2_with fail
  rw [← hW0]
  clear hW0
  go_loopw [5] (fun i wr => ∃ (v : Value) (vs : List Value), vs.length ≤ n ∧ i = .int .i64 vs.length ∧ Hid (GrowI w (w.heap.size + 2) n (w.heap.size + 1) w.heap.size v vs (List.replicate vs.length (List.replicate (wordsN (n : Int)) 0)) wr)) (fun i _ => n - (intOf i).toNat)
  case atStart => exact ⟨_, [], Nat.zero_le _, rfl, hI⟩
  case round =>
    obtain ⟨v, vs, hk, rfl, hI'⟩ := hrel
    clear hI
    obtain ⟨k, hke⟩ : ∃ k, k = vs.length := ⟨_, rfl⟩
    rw [← hke] at hk
    rw [← hke]
    by_cases hlt : k < n
    · replace hke := Lib.hid hke
      have l1 := Blk.cell hI'.out.loc 1
      simp only [List.getElem?_cons_zero, List.getElem?_cons_succ] at l1
      go_wp2_with fail
      refine wp_region_plan 5 [(true, 0), (true, 1), (true, 2), (false, 3), (false, 4)] (by kernel_rfl) (by kernel_rfl) (fun W hW => ?_)
      have p1 : W.cell? ⟨w.heap.size + 1, 1, none⟩ = some v := by rw [hW.out]; exact l1
      have hIW := Lib.hid (show GrowI w (w.heap.size + 2) n (w.heap.size + 1) w.heap.size v vs (List.replicate vs.length (List.replicate (wordsN (n : Int)) 0)) W by rw [hW.out]; exact hI'.out.keep (Below.refl _ _).drew)
      clear l1 hI'
      simp only [List.drop_succ_cons, List.drop_zero]
      iterate 3
        refine wpPlan_float (v := ?_) rfl (by rfl) (fun w' hw' => ?_) (fun K hK => ?_)
        rotate_left
        · (go_simp; try with_reducible rfl)
        go_simp
        refine hK _ ?_
        clear hK K
      refine wpPlan_only rfl (by rfl) (fun K hK => ?_)
      go_simp
      refine (hrow.out W).mono ?_
      rintro e w1 ⟨C, p, q, rfl, ho, hx64, hb1⟩
      refine hK _ _ hb1 ?_
      clear hK K p1
      refine wpPlan_only rfl (by rfl) (fun K hK => ?_)
      go_simp
      have hba : Below w1.heap.size w1 (w1.alloc (.cells #[.slice C p q] 45)) := (Below.refl _ _).alloc (Nat.le_refl _) _
      refine hK _ _ hba (wpPlan_nil ?_)
      clear hK K
      have hbb := below_trans2 hb1 hba
      have hIa := Lib.hid (hIW.out.keep hbb)
      have hoa := Lib.hid (own_below ho hba)
      replace hbb := Lib.hid hbb
      have hown := hIa.out.out
      rw [← hke.out] at hown
      have hhi := hIa.out.high
      replace hx64 := Lib.hid hx64
      clear hba hb1 ho
      go_wp2_with (at_builtin; refine wpList_append_lies _ rfl (.tmp 21) (.tmp 24) _ rfl (w.heap.size + 2) 45 i0 _ 1 24 Try.underlying22 hi.out hz0.out hz1.out hz2.out rfl (by omega) _ _ _ (by rfl) hown ⟨w1.heap.size, 0, none⟩ 1 1 [.slice C p q] rfl rfl (cell_one_new _ _ _) (by simp [Value.oneCell']) (by omega) (by unfold maxLen; omega) (by omega) hhi _ rfl ?_; intro g cap w2 hown2 hgrow hat hlt1; have hB2 := Blk.grown hIa.out.loc hgrow (fun e => own_ne_blk hIa.out.out hIa.out.loc (by decide) e.symm); have q1 := hB2.cell 1; have q2 := hB2.frozen 1; simp only [List.getElem?_cons_zero, List.getElem?_cons_succ] at q1; clear hB2 hat hlt1)
      refine NoPanic.normal ?_
      have hmore := Lib.hid (hIW.out.more hbb.out hoa.out hx64.out hgrow (by rw [← hke.out]; exact hown2) (by omega) (by omega) (by omega) (by omega) (by omega))
      clear q1 q2 hown2 hgrow hown
      go_wp2_with fail
      go_roundw
      case rel =>
        refine ⟨.slice (some ⟨g, 0, none⟩) (k + 1) cap, vs ++ [.slice C p q], by have := hke.out; simp; omega, by rw [List.length_append, ← hke.out]; simp; try omega, ?_⟩
        have h := hmore.out
        rw [← List.replicate_succ'] at h
        rw [List.length_append, List.length_singleton]
        exact Lib.hid h
      case measure => simp [intOf]; omega
    · have hkn : k = n := by omega
      have hvn : vs.length = n := by rw [← hke, hkn]
      clear hlt
      obtain rfl := hkn
      have hout := hI'.out.out
      obtain ⟨A', c', hv, hRd⟩ := Rd.of_own hout
      subst hv
      rw [hvn] at hout hRd
      have f0 := hI'.out.res.c0
      have f1 := hI'.out.res.c1
      have g0 := hI'.out.res.frozen 0
      have g1 := hI'.out.res.frozen 1
      have k0 := hI'.out.loc.cell 0
      have k1 := hI'.out.loc.cell 1
      simp only [List.getElem?_cons_zero, List.getElem?_cons_succ] at k0 k1
      rw [hvn] at k1
      have hcc := hI'.out.res.two (.int .i64 k) (.slice A' k c')
      have hc1 := Lib.hid hcc.1
      have hc2 := Lib.hid hcc.2
      replace hvn := Lib.hid hvn
      replace hke := Lib.hid hke
      clear hcc
      go_wp2_with fail
      refine bodyPost_ret (v := .tuple #[.agg #[.int .i64 k, .slice A' k c'], .int .i64 0]) (by simp [results, Try.results30, go_sem, hc1.out, hc2.out]) rfl ⟨_, _, _, rfl, ⟨vs, ?_, ?_⟩, own_cap hout, (hI'.out.below.setCell (by simp) _).setCell (by simp) _, fun ad e => by subst e; have := own_lt_block hout _ rfl; omega⟩
      · have hne : (Value.slice A' k c').ownBlock ≠ some w.heap.size := fun e => by have := own_lt_block hout _ e; omega
        exact Rd.of_own' (own_far (own_far hout (p := ⟨w.heap.size, 0, none⟩) hne _) (p := ⟨w.heap.size, 1, none⟩) hne _)
      · have h := ((hI'.out.rows.far (p := ⟨w.heap.size, 0, none⟩) (by simp) (.int .i64 k)).far (p := ⟨w.heap.size, 1, none⟩) (by simp) (.slice A' k c')).rows
        rw [hvn.out] at h
        exact h
theorem ref3_New (n : Nat) (hn : n ≤ 4096) (w : World) :
    Calls Try.prog 30 #[.int .i64 (n : Int)] w (RetMat (n : Int) (newM n) 0 w) :=
  (ref3_NewF n hn w).mono fun _ _ ⟨A', n', c', h1, h2, h3, h4, _⟩ => ⟨A', n', c', h1, h2, h3, h4⟩

end Go.Proofs.Ytlfdmjlllikmcaa
