/- Contracts of the document's own answers for matrices: New. Contracts of the document's own answers for matrices: New (refused), Or. Contracts of the document's own answers for matrices: Set. A region that draws its order, walked by a plan (XPlan), whose last head results stand beside one another: behind the plan's calls come values that hang on no memory ('extract': a call's second result), which may come up between the stores behind; then a tail. What lies ahead of the tail is found by what waits for what. No function of the program is named here. Contracts of the document's own answers for matrices: Of. Plain facts of matrices that may be: parts of one another, together, whether a pair is there. Words for memory: a variable that holds a matrix, with its rows. No function of the program is named here. Plain mathematics of what follows from pairs: hulls, as the least closed ones. Nothing of the program is named. Plain mathematics of layer 12: the matrix of a history's sessions is closed, doesn't go round, and has n (n - 1) / 2 pairs of each session. Nothing of the program is named. Plain mathematics of layer 10: writes of values, differentiated facts. Nothing of the program is named. Plain mathematics of layer 11: what reads read from. Nothing of the program is named. Plain mathematics of layer 13: writes and their reads, the edges, causal order. Nothing of the program is named. Plain mathematics of layer 17: conflicts, in order, and the hull of a matrix with them. Nothing of the program is named. -/
import Derived.Test.YtbeigdbljepfkaaGreatSeenLeastPk4
import Derived.Test.YtbeigdbljepfkaaGreatSeenLeastPk3
import Derived.Test.YtbeigdbljepfkaaGreatSeenLeastPk1
namespace Go.Proofs.YtbeigdbljepfkaaGreat
open Go.RowKit
set_option linter.unusedVariables false

theorem own_ne_blk {w : World} {base s n g : Nat} {e t : TypeId} {v : Value} {xs cs : List Value} (h : w.ownsRow base e s v n xs) (hB : Blk w g t cs) (hne : e ≠ t) : v.ownBlock ≠ some g := by
  intro he
  rcases h.2 with ⟨rfl, _⟩ | ⟨g', cap, cur, rfl, _, hh, _⟩
  · simp [Value.ownBlock] at he
  · have : g' = g := by simpa [Value.ownBlock] using he
    subst this
    unfold Blk at hB
    rw [hh] at hB
    injection hB with hB
    injection hB with _ ht
    exact hne ht
theorem OwnRows.grown {t e : TypeId} {w w' : World} {base b2 s n : Nat} {v : Value} {vs us : List Value} {xss : List (List Nat)} (h : OwnRows t w base vs xss) (ho : w.ownsRow b2 e s v n us) (hne : t ≠ e) (hg : w.grownBy w' v.ownBlock) : OwnRows t w' base vs xss :=
  ⟨h.1, fun i u xs h1 h2 => by
    obtain ⟨A, m, c, e', hown, hx⟩ := h.2.1 i u xs h1 h2
    exact ⟨A, m, c, e', own_grown hown ho hne hg, hx⟩, h.2.2⟩

/-- rows as RowsAt, all of whose blocks are B or later -/
def RowsG (B : Nat) (w : World) (A : Option Addr) (n : Nat) (xss : List (List Nat)) : Prop := ∃ vs, Rd w A n vs ∧ RowsC w vs xss ∧ (∀ ad, A = some ad → B ≤ ad.block) ∧ ∀ v ∈ vs, ∀ g, v.ownBlock = some g → B ≤ g
theorem RowsG.at {B : Nat} {w : World} {A : Option Addr} {n : Nat} {xss : List (List Nat)} (h : RowsG B w A n xss) : RowsAt w A n xss := by
  obtain ⟨vs, h1, h2, -, -⟩ := h; exact ⟨vs, h1, h2⟩
theorem RowsG.of {w : World} {A : Option Addr} {n : Nat} {xss : List (List Nat)} (h : RowsAt w A n xss) : RowsG 0 w A n xss := by
  obtain ⟨vs, h1, h2⟩ := h; exact ⟨vs, h1, h2, fun _ _ => Nat.zero_le _, fun _ _ _ _ => Nat.zero_le _⟩
theorem RowsG.below {B : Nat} {w w' : World} {A : Option Addr} {n : Nat} {xss : List (List Nat)} (h : RowsG B w A n xss) (hb : Below w.heap.size w w') : RowsG B w' A n xss := by
  obtain ⟨vs, h1, h2, h3, h4⟩ := h; exact ⟨vs, h1.below hb, h2.below hb, h3, h4⟩
theorem RowsG.mono {B B' : Nat} {w : World} {A : Option Addr} {n : Nat} {xss : List (List Nat)} (h : RowsG B w A n xss) (hb : B' ≤ B) : RowsG B' w A n xss := by
  obtain ⟨vs, h1, h2, h3, h4⟩ := h; exact ⟨vs, h1, h2, fun ad e => Nat.le_trans hb (h3 ad e), fun v hv g e => Nat.le_trans hb (h4 v hv g e)⟩
def RetMatG (B : Nat) (N : Int) (xss : List (List Nat)) (er : Int) (w : World) : Ending → World → Prop := fun e w' =>
  ∃ A n c, e = .returned (.tuple #[.agg #[.int .i64 N, .slice A n c], .int .i64 er]) ∧ RowsG B w' A n xss ∧ n ≤ c ∧ Below w.heap.size w w' ∧ ∀ ad, A = some ad → w.heap.size ≤ ad.block
/-- as RetMat, and the outer cells are new -/
def RetMatF (N : Int) (xss : List (List Nat)) (er : Int) (w : World) : Ending → World → Prop := fun e w' =>
  ∃ A n c, e = .returned (.tuple #[.agg #[.int .i64 N, .slice A n c], .int .i64 er]) ∧ RowsAt w' A n xss ∧ n ≤ c ∧ Below w.heap.size w w' ∧ ∀ ad, A = some ad → w.heap.size ≤ ad.block
theorem RetMatG.f {B : Nat} {N : Int} {xss : List (List Nat)} {er : Int} {w w' : World} {e : Ending} (h : RetMatG B N xss er w e w') : RetMatF N xss er w e w' := by
  obtain ⟨A, n, c, h1, h2, h3, h4, h5⟩ := h; exact ⟨A, n, c, h1, h2.at, h3, h4, h5⟩
/-- what is known at the heads of the rounds of a matrix that grows row by row -/
structure GrowI (w : World) (hi n : Nat) (M R : Nat) (v : Value) (vs : List Value) (xss : List (List Nat)) (wr : World) : Prop where
  res : MatB wr R 34 0 none 0 0
  loc : Blk wr M 34 [.int .i64 n, v]
  out : wr.ownsRow hi 75 1 v vs.length vs
  rows : OwnRows 105 wr hi vs xss
  below : Below w.heap.size w wr
  high : hi ≤ wr.heap.size
theorem GrowI.keep {w : World} {hi n M R : Nat} {v : Value} {vs : List Value} {xss : List (List Nat)} {wr w' : World} (h : GrowI w hi n M R v vs xss wr) (hb : Below wr.heap.size wr w') : GrowI w hi n M R v vs xss w' :=
  ⟨h.res.below_ hb, Blk.below h.loc hb h.loc.lt, own_below h.out hb, h.rows.below hb, below_trans2 h.below hb, Nat.le_trans h.high hb.size⟩
theorem GrowI.more {w : World} {hi n M R : Nat} {v : Value} {vs : List Value} {xss : List (List Nat)} {wr w1 w2 : World} {A : Option Addr} {m c : Nat} {xs : List Nat} {u : Value} (h : GrowI w hi n M R v vs xss wr) (hb : Below wr.heap.size wr w1)
    (ho : w1.ownsRow wr.heap.size 105 1 (.slice A m c) m (xs.map u64v)) (hx : W64 xs) (hg : w1.grownBy w2 v.ownBlock) (h2 : w2.ownsRow hi 75 1 u (vs.length + 1) (vs ++ [.slice A m c])) (hM : M < hi) (hR : R < hi) (hRM : R ≠ M) (hw : w.heap.size ≤ M) (hw2 : w.heap.size ≤ hi) :
    GrowI w hi n M R u (vs ++ [.slice A m c]) (xss ++ [xs]) (w2.setCell ⟨M, 1, none⟩ u) := by
  have h1 := h.keep hb
  have hsn := h.rows.snoc hb ho hx h.high
  have hne1 := own_ne_blk h1.out h1.res (by decide)
  have hne2 := own_ne_blk h1.out h1.loc (by decide)
  have hu : u.ownBlock ≠ some M := fun e => by have := own_lt_block h2 M e; omega
  have hsz : w1.heap.size ≤ w2.heap.size := hg.size
  refine ⟨(Blk.grown h1.res hg (fun e => hne1 e.symm)).far hRM _, ?_, ?_, (hsn.grown h1.out (by decide) hg).far hM _, ?_, ?_⟩
  · have := (Blk.grown h1.loc hg (fun e => hne2 e.symm)).set_ 1 u
    exact this
  · rw [List.length_append, List.length_singleton]
    exact own_far h2 hu _
  · refine Below.setCell ?_ hw _
    exact h1.below.grown hg (Nat.le_trans hw2 h1.high) (fun g e => Nat.le_trans hw2 (own_lt_block h1.out g e))
  · have := h1.high
    simp
    omega
set_option maxRecDepth 100000 in
set_option maxHeartbeats 2000000 in
theorem ref3_NewG (n : Nat) (hn : n ≤ 4096) (w : World) :
    Calls Tryz.prog 36 #[.int .i64 (n : Int)] w (RetMatG w.heap.size (n : Int) (newM n) 0 w) := by
  obtain ⟨i0, hi, hz0, hz1, hz2⟩ := info_parts info_row
  replace hi := Lib.hid hi
  replace hz0 := Lib.hid hz0
  replace hz1 := Lib.hid hz1
  replace hz2 := Lib.hid hz2
  have hrow := Lib.hid (fun W => ref2_NewO (n : Int) (by omega) (by omega) W)
  obtain ⟨W0, hW0⟩ : ∃ W0, W0 = (w.alloc (.cells #[.int .i64 0, .slice none 0 0] 34)).alloc (.cells #[.int .i64 n, .slice none 0 0] 34) := ⟨_, rfl⟩
  have hI : GrowI w (w.heap.size + 2) n (w.heap.size + 1) w.heap.size (.slice none 0 0) [] (List.replicate 0 (List.replicate (wordsN (n : Int)) 0)) W0 := by
    refine ⟨by rw [hW0]; exact (MatB.new w _).below_ ((Below.refl _ _).alloc (Nat.le_refl _) _), by rw [hW0]; exact MatB.new1 w _ _, World.ownsRow_nil _ _ _ _, OwnRows.nil _ _ _, by rw [hW0]; exact ((Below.refl _ _).alloc (Nat.le_refl _) _).alloc (by simp) _, by rw [hW0]; simp⟩
  replace hI := Lib.hid hI
  have h1 : ¬ (n : Int) < 0 := by omega
  have h2 : ¬ 4096 < (n : Int) := by omega
  go_enter Tryz.func36, Tryz.ntmps36
  go_wp2_with fail
  rw [← hW0]
  clear hW0
  go_loopw [5] (fun i wr => ∃ (v : Value) (vs : List Value), vs.length ≤ n ∧ i = .int .i64 vs.length ∧ Hid (GrowI w (w.heap.size + 2) n (w.heap.size + 1) w.heap.size v vs (List.replicate vs.length (List.replicate (wordsN (n : Int)) 0)) wr)) (fun i _ => n - (intOf i).toNat)
  case atStart => exact ⟨_, [], Nat.zero_le _, rfl, hI⟩
  case round =>
    obtain ⟨v, vs, hk, rfl, hI'⟩ := hrel
    clear hI
    obtain ⟨k, hke⟩ : ∃ k, k = vs.length := ⟨_, rfl⟩
    rw [← hke] at hk
    rw [← hke]
    by_cases hlt : k < n
    · replace hke := Lib.hid hke
      have l1 := Blk.cell hI'.out.loc 1
      simp only [List.getElem?_cons_zero, List.getElem?_cons_succ] at l1
      go_wp2_with fail
      refine wp_region_plan 5 [(true, 0), (true, 1), (true, 2), (false, 3), (false, 4)] (by kernel_rfl) (by kernel_rfl) (fun W hW => ?_)
      have p1 : W.cell? ⟨w.heap.size + 1, 1, none⟩ = some v := by rw [hW.out]; exact l1
      have hIW := Lib.hid (show GrowI w (w.heap.size + 2) n (w.heap.size + 1) w.heap.size v vs (List.replicate vs.length (List.replicate (wordsN (n : Int)) 0)) W by rw [hW.out]; exact hI'.out.keep (Below.refl _ _).drew)
      clear l1 hI'
      simp only [List.drop_succ_cons, List.drop_zero]
      iterate 3
        refine wpPlan_float (v := ?_) rfl (by rfl) (fun w' hw' => ?_) (fun K hK => ?_)
        rotate_left
        · (go_simp; try with_reducible rfl)
        go_simp
        refine hK _ ?_
        clear hK K
      refine wpPlan_only rfl (by rfl) (fun K hK => ?_)
      go_simp
      refine (hrow.out W).mono ?_
      rintro e w1 ⟨C, p, q, rfl, ho, hx64, hb1⟩
      refine hK _ _ hb1 ?_
      clear hK K p1
      refine wpPlan_only rfl (by rfl) (fun K hK => ?_)
      go_simp
      have hba : Below w1.heap.size w1 (w1.alloc (.cells #[.slice C p q] 75)) := (Below.refl _ _).alloc (Nat.le_refl _) _
      refine hK _ _ hba (wpPlan_nil ?_)
      clear hK K
      have hbb := below_trans2 hb1 hba
      have hIa := Lib.hid (hIW.out.keep hbb)
      have hoa := Lib.hid (own_below ho hba)
      replace hbb := Lib.hid hbb
      have hown := hIa.out.out
      rw [← hke.out] at hown
      have hhi := hIa.out.high
      replace hx64 := Lib.hid hx64
      clear hba hb1 ho
      go_wp2_with (at_builtin; refine wpList_append_lies _ rfl (.tmp 21) (.tmp 24) _ rfl (w.heap.size + 2) 75 i0 _ 1 24 Tryz.underlying32 hi.out hz0.out hz1.out hz2.out rfl (by omega) _ _ _ (by rfl) hown ⟨w1.heap.size, 0, none⟩ 1 1 [.slice C p q] rfl rfl (cell_one_new _ _ _) (by simp [Value.oneCell']) (by omega) (by unfold maxLen; omega) (by omega) hhi _ rfl ?_; intro g cap w2 hown2 hgrow hat hlt1; have hB2 := Blk.grown hIa.out.loc hgrow (fun e => own_ne_blk hIa.out.out hIa.out.loc (by decide) e.symm); have q1 := hB2.cell 1; have q2 := hB2.frozen 1; simp only [List.getElem?_cons_zero, List.getElem?_cons_succ] at q1; clear hB2 hat hlt1)
      refine NoPanic.normal ?_
      have hmore := Lib.hid (hIW.out.more hbb.out hoa.out hx64.out hgrow (by rw [← hke.out]; exact hown2) (by omega) (by omega) (by omega) (by omega) (by omega))
      clear q1 q2 hown2 hgrow hown
      go_wp2_with fail
      go_roundw
      case rel =>
        refine ⟨.slice (some ⟨g, 0, none⟩) (k + 1) cap, vs ++ [.slice C p q], by have := hke.out; simp; omega, by rw [List.length_append, ← hke.out]; simp; try omega, ?_⟩
        have h := hmore.out
        rw [← List.replicate_succ'] at h
        rw [List.length_append, List.length_singleton]
        exact Lib.hid h
      case measure => simp [intOf]; omega
    · have hkn : k = n := by omega
      have hvn : vs.length = n := by rw [← hke, hkn]
      clear hlt
      obtain rfl := hkn
      have hout := hI'.out.out
      obtain ⟨A', c', hv, hRd⟩ := Rd.of_own hout
      subst hv
      rw [hvn] at hout hRd
      have f0 := hI'.out.res.c0
      have f1 := hI'.out.res.c1
      have g0 := hI'.out.res.frozen 0
      have g1 := hI'.out.res.frozen 1
      have k0 := hI'.out.loc.cell 0
      have k1 := hI'.out.loc.cell 1
      simp only [List.getElem?_cons_zero, List.getElem?_cons_succ] at k0 k1
      rw [hvn] at k1
      have hcc := hI'.out.res.two (.int .i64 k) (.slice A' k c')
      have hc1 := Lib.hid hcc.1
      have hc2 := Lib.hid hcc.2
      replace hvn := Lib.hid hvn
      replace hke := Lib.hid hke
      clear hcc
      go_wp2_with fail
      refine bodyPost_ret (v := .tuple #[.agg #[.int .i64 k, .slice A' k c'], .int .i64 0]) (by simp [results, Tryz.results36, go_sem, hc1.out, hc2.out]) rfl ⟨_, _, _, rfl, ⟨vs, ?_, ?_, fun ad e => by subst e; have := own_lt_block hout _ rfl; omega, fun v hv g e => by have := (hI'.out.rows.lt v hv g e).1; omega⟩, own_cap hout, (hI'.out.below.setCell (by simp) _).setCell (by simp) _, fun ad e => by subst e; have := own_lt_block hout _ rfl; omega⟩
      · have hne : (Value.slice A' k c').ownBlock ≠ some w.heap.size := fun e => by have := own_lt_block hout _ e; omega
        exact Rd.of_own' (own_far (own_far hout (p := ⟨w.heap.size, 0, none⟩) hne _) (p := ⟨w.heap.size, 1, none⟩) hne _)
      · have h := ((hI'.out.rows.far (p := ⟨w.heap.size, 0, none⟩) (by simp) (.int .i64 k)).far (p := ⟨w.heap.size, 1, none⟩) (by simp) (.slice A' k c')).rows
        rw [hvn.out] at h
        exact h
theorem ref3_NewF (n : Nat) (hn : n ≤ 4096) (w : World) :
    Calls Tryz.prog 36 #[.int .i64 (n : Int)] w (RetMatF (n : Int) (newM n) 0 w) := (ref3_NewG n hn w).mono fun _ _ h => h.f
theorem ref3_New (n : Nat) (hn : n ≤ 4096) (w : World) :
    Calls Tryz.prog 36 #[.int .i64 (n : Int)] w (RetMat (n : Int) (newM n) 0 w) :=
  (ref3_NewF n hn w).mono fun _ _ ⟨A', n', c', h1, h2, h3, h4, _⟩ => ⟨A', n', c', h1, h2, h3, h4⟩

end Go.Proofs.YtbeigdbljepfkaaGreat

namespace Go.Proofs.YtbeigdbljepfkaaGreat
open Go.RowKit
set_option linter.unusedVariables false

set_option maxRecDepth 100000 in
set_option maxHeartbeats 2000000 in
theorem ref3_OrF (A B : Option Addr) (n c d : Nat) (xss yss : List (List Nat)) (w : World) (hr : RowsAt w A n xss) (hs : RowsAt w B n yss) (hn : n ≤ 4096)
    (hl : ∀ (i : Nat) (xs : List Nat), xss[i]? = some xs → xs.length ≤ 1024) (hl2 : ∀ (i : Nat) (xs : List Nat), yss[i]? = some xs → xs.length ≤ 1024) :
    Calls Tryz.prog 50 #[.agg #[.int .i64 (n : Int), .slice A n c], .agg #[.int .i64 (n : Int), .slice B n d]] w (RetMatF (n : Int) (orM xss yss) 0 w) := by
  obtain ⟨i0, hi, hz0, hz1, hz2⟩ := info_parts info_row
  replace hi := Lib.hid hi
  replace hz0 := Lib.hid hz0
  replace hz1 := Lib.hid hz1
  replace hz2 := Lib.hid hz2
  have hxl := hr.len
  obtain ⟨W0, hW0⟩ : ∃ W0, W0 = (((w.alloc (.cells #[.int .i64 n, .slice A n c] 34)).alloc (.cells #[.int .i64 n, .slice B n d] 34)).alloc (.cells #[.int .i64 0, .slice none 0 0] 34)).alloc (.cells #[.int .i64 n, .slice none 0 0] 34) := ⟨_, rfl⟩
  have hBa : MatB W0 w.heap.size 34 n A n c := by rw [hW0]; exact (((MatB.new w _).below_ ((Below.refl _ _).alloc (Nat.le_refl _) _)).below_ ((Below.refl _ _).alloc (Nat.le_refl _) _)).below_ ((Below.refl _ _).alloc (Nat.le_refl _) _)
  have hBb : MatB W0 (w.heap.size + 1) 34 n B n d := by rw [hW0]; exact ((MatB.new1 w _ _).below_ ((Below.refl _ _).alloc (Nat.le_refl _) _)).below_ ((Below.refl _ _).alloc (Nat.le_refl _) _)
  have hI : GrowI w (w.heap.size + 4) n (w.heap.size + 3) (w.heap.size + 2) (.slice none 0 0) [] (orPre xss yss 0) W0 := by
    refine ⟨?_, ?_, World.ownsRow_nil _ _ _ _, OwnRows.nil _ _ _, by rw [hW0]; exact (((((Below.refl _ _).alloc (Nat.le_refl _) _).alloc (by simp) _).alloc (by simp <;> omega) _).alloc (by simp <;> omega) _), by rw [hW0]; simp⟩
    · rw [hW0]
      have h := MatB.new1 (N := 0) (A := none) (n := 0) (c := 0) (w.alloc (.cells #[.int .i64 n, .slice A n c] 34)) (.cells #[.int .i64 n, .slice B n d] 34) 34
      rw [show (w.alloc (.cells #[.int .i64 n, .slice A n c] 34)).heap.size = w.heap.size + 1 from by simp] at h
      exact h.below_ ((Below.refl _ _).alloc (Nat.le_refl _) _)
    · rw [hW0]
      have h := MatB.new1 (N := n) (A := none) (n := 0) (c := 0) ((w.alloc (.cells #[.int .i64 n, .slice A n c] 34)).alloc (.cells #[.int .i64 n, .slice B n d] 34)) (.cells #[.int .i64 0, .slice none 0 0] 34) 34
      rw [show ((w.alloc (.cells #[.int .i64 n, .slice A n c] 34)).alloc (.cells #[.int .i64 n, .slice B n d] 34)).heap.size + 1 = w.heap.size + 3 from by simp] at h
      exact h
  replace hI := Lib.hid hI
  have hne : ((n : Int) != (n : Int)) = false := by simp
  replace hBa := Lib.hid hBa
  replace hBb := Lib.hid hBb
  replace hr := Lib.hid hr
  replace hs := Lib.hid hs
  replace hl := Lib.hid hl
  replace hl2 := Lib.hid hl2
  replace hxl := Lib.hid hxl
  go_enter Tryz.func50, Tryz.ntmps50
  go_wp2_with fail
  rw [← hW0]
  clear hW0
  go_loopw [7] (fun i wr => ∃ (v : Value) (vs : List Value), vs.length ≤ n ∧ i = .int .i64 vs.length ∧ Hid (GrowI w (w.heap.size + 4) n (w.heap.size + 3) (w.heap.size + 2) v vs (orPre xss yss vs.length) wr) ∧ Hid (MatB wr w.heap.size 34 n A n c) ∧ Hid (MatB wr (w.heap.size + 1) 34 n B n d)) (fun i _ => n - (intOf i).toNat)
  case atStart => exact ⟨_, [], Nat.zero_le _, rfl, hI, hBa, hBb⟩
  case round =>
    obtain ⟨v, vs, hk, rfl, hI', hA', hB'⟩ := hrel
    clear hI hBa hBb
    obtain ⟨k, hke⟩ : ∃ k, k = vs.length := ⟨_, rfl⟩
    rw [← hke] at hk
    rw [← hke]
    have la0 := hA'.out.c0
    by_cases hlt : k < n
    · replace hke := Lib.hid hke
      obtain ⟨b1, o1, A1, n1, c1, xs, rfl, hbl1, hx, hc1, hrx⟩ := (hr.out.below hI'.out.below).at_ hlt
      obtain ⟨b2, o2, B1, n2, c2, ys, rfl, hbl2, hy, hc2, hry⟩ := (hs.out.below hI'.out.below).at_ hlt
      have hn1 : n1 ≤ 1024 := by have := hrx.len; have := hl.out k xs hx; omega
      have hn2 : n2 ≤ 1024 := by have := hry.len; have := hl2.out k ys hy; omega
      have hstep : Hid (orPre xss yss (k + 1) = orPre xss yss k ++ [orR xs ys]) := Lib.hid (by rw [orPre_succ, getD_at hx, getD_at hy])
      have l1 := Blk.cell hI'.out.loc 1
      have la1 := hA'.out.c1
      have lb1 := hB'.out.c1
      have hk0 : (0 : Int) ≤ (k : Int) := by omega
      have hkn : (k : Int) < (n : Int) := by omega
      simp only [List.getElem?_cons_zero, List.getElem?_cons_succ] at l1
      clear hx hy
      go_wp2_with fail
      refine wp_region_plan 14 [(true, 0), (true, 1), (true, 2), (true, 3), (true, 4), (true, 5), (true, 6), (true, 7), (true, 8), (true, 9), (true, 10), (true, 11), (false, 12), (false, 13)] (by kernel_rfl) (by kernel_rfl) (fun W hW => ?_)
      have p1 : W.cell? ⟨w.heap.size + 3, 1, none⟩ = some v := by rw [hW.out]; exact l1
      have p2 : W.cell? ⟨w.heap.size, 1, none⟩ = some (.slice (some ⟨b1, o1, none⟩) n c) := by rw [hW.out]; exact la1
      have p3 : W.cell? ⟨w.heap.size + 1, 1, none⟩ = some (.slice (some ⟨b2, o2, none⟩) n d) := by rw [hW.out]; exact lb1
      have p4 : W.cell? ⟨b1, o1 + k, none⟩ = some (.slice A1 n1 c1) := by rw [hW.out]; exact hc1
      have p5 : W.cell? ⟨b2, o2 + k, none⟩ = some (.slice B1 n2 c2) := by rw [hW.out]; exact hc2
      have hIW := Lib.hid (show GrowI w (w.heap.size + 4) n (w.heap.size + 3) (w.heap.size + 2) v vs (orPre xss yss vs.length) W by rw [hW.out]; exact hI'.out.keep (Below.refl _ _).drew)
      have hAW := Lib.hid (show MatB W w.heap.size 34 n (some ⟨b1, o1, none⟩) n c by rw [hW.out]; exact Blk.drew hA'.out)
      have hBW := Lib.hid (show MatB W (w.heap.size + 1) 34 n (some ⟨b2, o2, none⟩) n d by rw [hW.out]; exact Blk.drew hB'.out)
      have hC := Lib.hid (ref2_OrO A1 B1 n1 n2 c1 c2 xs ys W (by rw [hW.out]; exact hrx) (by rw [hW.out]; exact hry) (by omega) (by omega))
      clear l1 la1 lb1 la0 hc1 hc2 hI' hA' hB' hrx hry
      simp only [List.drop_succ_cons, List.drop_zero]
      iterate 12
        refine wpPlan_float (v := ?_) rfl (by rfl) (fun w' hw' => ?_) (fun K hK => ?_)
        rotate_left
        · (go_simp; try with_reducible rfl)
        go_simp
        refine hK _ ?_
        clear hK K
      refine wpPlan_only rfl (by rfl) (fun K hK => ?_)
      go_simp
      refine hC.out.mono ?_
      rintro e w1 ⟨C, p, q, rfl, ho, hx64, hb1⟩
      refine hK _ _ hb1 ?_
      clear hK K p1 p2 p3 p4 p5
      refine wpPlan_only rfl (by rfl) (fun K hK => ?_)
      go_simp
      have hba : Below w1.heap.size w1 (w1.alloc (.cells #[.slice C p q] 75)) := (Below.refl _ _).alloc (Nat.le_refl _) _
      refine hK _ _ hba (wpPlan_nil ?_)
      clear hK K
      have hbb := below_trans2 hb1 hba
      have hIa := Lib.hid (hIW.out.keep hbb)
      have hAa := Lib.hid (hAW.out.below_ hbb)
      have hBa := Lib.hid (hBW.out.below_ hbb)
      have hoa := Lib.hid (own_below ho hba)
      replace hbb := Lib.hid hbb
      have hown := hIa.out.out
      rw [← hke.out] at hown
      have hhi := hIa.out.high
      replace hx64 := Lib.hid hx64
      clear hba hb1 ho
      go_wp2_with (at_builtin; refine wpList_append_lies _ rfl (.tmp 24) (.tmp 36) _ rfl (w.heap.size + 4) 75 i0 _ 1 24 Tryz.underlying32 hi.out hz0.out hz1.out hz2.out rfl (by omega) _ _ _ (by rfl) hown ⟨w1.heap.size, 0, none⟩ 1 1 [.slice C p q] rfl rfl (cell_one_new _ _ _) (by simp [Value.oneCell']) (by omega) (by unfold maxLen; omega) (by omega) hhi _ rfl ?_; intro g cap w2 hown2 hgrow hat hlt1; have hB2 := Blk.grown hIa.out.loc hgrow (fun e => own_ne_blk hIa.out.out hIa.out.loc (by decide) e.symm); have q1 := hB2.cell 1; have q2 := hB2.frozen 1; simp only [List.getElem?_cons_zero, List.getElem?_cons_succ] at q1; clear hB2 hat hlt1)
      refine NoPanic.normal ?_
      have hmore := Lib.hid (hIW.out.more hbb.out hoa.out hx64.out hgrow (by rw [← hke.out]; exact hown2) (by omega) (by omega) (by omega) (by omega) (by omega))
      have hA2 := Lib.hid ((Blk.grown hAa.out hgrow (fun e => own_ne_blk hIa.out.out hAa.out (by decide) e.symm)).far (p := ⟨w.heap.size + 3, 1, none⟩) (by simp <;> omega) (.slice (some ⟨g, 0, none⟩) (k + 1) cap))
      have hB2 := Lib.hid ((Blk.grown hBa.out hgrow (fun e => own_ne_blk hIa.out.out hBa.out (by decide) e.symm)).far (p := ⟨w.heap.size + 3, 1, none⟩) (by simp <;> omega) (.slice (some ⟨g, 0, none⟩) (k + 1) cap))
      clear q1 q2 hown2 hgrow hown
      go_wp2_with fail
      go_roundw
      case rel =>
        refine ⟨.slice (some ⟨g, 0, none⟩) (k + 1) cap, vs ++ [.slice C p q], by have := hke.out; simp; omega, by rw [List.length_append, ← hke.out]; simp; try omega, ?_, hA2, hB2⟩
        have h := hmore.out
        rw [← hke.out, ← hstep.out] at h
        rw [List.length_append, List.length_singleton, ← hke.out]
        exact Lib.hid h
      case measure => simp [intOf]; omega
    · have hkn : k = n := by omega
      have hvn : vs.length = n := by rw [← hke, hkn]
      clear hlt
      obtain rfl := hkn
      have hout := hI'.out.out
      obtain ⟨A', c', hv, hRd⟩ := Rd.of_own hout
      subst hv
      rw [hvn] at hout hRd
      have f0 := hI'.out.res.c0
      have f1 := hI'.out.res.c1
      have g0 := hI'.out.res.frozen 0
      have g1 := hI'.out.res.frozen 1
      have k0 := hI'.out.loc.cell 0
      have k1 := hI'.out.loc.cell 1
      simp only [List.getElem?_cons_zero, List.getElem?_cons_succ] at k0 k1
      rw [hvn] at k1
      have hcc := hI'.out.res.two (.int .i64 k) (.slice A' k c')
      have hc1 := Lib.hid hcc.1
      have hc2 := Lib.hid hcc.2
      replace hvn := Lib.hid hvn
      replace hke := Lib.hid hke
      clear hcc
      go_wp2_with fail
      refine bodyPost_ret (v := .tuple #[.agg #[.int .i64 k, .slice A' k c'], .int .i64 0]) (by simp [results, Tryz.results50, go_sem, hc1.out, hc2.out]) rfl ⟨_, _, _, rfl, ⟨vs, ?_, ?_⟩, own_cap hout, (hI'.out.below.setCell (by simp <;> omega) _).setCell (by simp <;> omega) _, fun ad e => by subst e; have := own_lt_block hout _ rfl; omega⟩
      · have hne : (Value.slice A' k c').ownBlock ≠ some (w.heap.size + 2) := fun e => by have := own_lt_block hout _ e; omega
        exact Rd.of_own' (own_far (own_far hout (p := ⟨w.heap.size + 2, 0, none⟩) hne _) (p := ⟨w.heap.size + 2, 1, none⟩) hne _)
      · have h := ((hI'.out.rows.far (p := ⟨w.heap.size + 2, 0, none⟩) (by simp <;> omega) (.int .i64 k)).far (p := ⟨w.heap.size + 2, 1, none⟩) (by simp <;> omega) (.slice A' k c')).rows
        have he : orPre xss yss vs.length = orM xss yss := by rw [hvn.out, ← orPre_all, hxl.out]
        rw [he] at h
        exact h

end Go.Proofs.YtbeigdbljepfkaaGreat

namespace Go.Proofs.YtbeigdbljepfkaaGreat
open Go.RowKit
set_option linter.unusedVariables false

theorem MatB.belowB {w w' : World} {g : Nat} {t : TypeId} {N : Int} {A : Option Addr} {n c B : Nat} (h : MatB w g t N A n c) (hb : Below B w w') (hg : g < B) : MatB w' g t N A n c := Blk.below h hb hg
theorem MatB.farB {w : World} {g : Nat} {t : TypeId} {N : Int} {A : Option Addr} {n c : Nat} (h : MatB w g t N A n c) {p : Addr} (hp : g ≠ p.block) (u : Value) : MatB (w.setCell p u) g t N A n c := Blk.far h hp u

set_option maxRecDepth 100000 in
set_option maxHeartbeats 1000000 in
theorem ref3_SetG (B0 : Nat) (N : Int) (A : Option Addr) (n c : Nat) (xss : List (List Nat)) (i j : Int) (w : World) (hr : RowsG B0 w A n xss) (hB0 : B0 ≤ w.heap.size) (hN : N = (n : Int)) (hn : n ≤ 4096) (hl : ∀ xs ∈ xss, xs.length ≤ 1024)
    (h3 : inM N i j = true) :
    Calls Tryz.prog 20 #[.agg #[.int .i64 N, .slice A n c], .int .i64 i, .int .i64 j] w (RetMatG B0 N (setM xss i j) 0 w) := by
  subst hN
  obtain ⟨x0, hxi, hxz0, hxz1, hxz2⟩ := info_parts info_row
  replace hxi := Lib.hid hxi
  replace hxz0 := Lib.hid hxz0
  replace hxz1 := Lib.hid hxz1
  replace hxz2 := Lib.hid hxz2
  obtain ⟨i0, i1, j0, j1⟩ := inM_yes h3
  obtain ⟨k, rfl⟩ := Int.eq_ofNat_of_zero_le i0
  have hk : k < n := by omega
  obtain ⟨W0, hW0⟩ : ∃ W0, W0 = (w.alloc (.cells #[.int .i64 n, .slice A n c] 34)).alloc (.cells #[.int .i64 0, .slice none 0 0] 34) := ⟨_, rfl⟩
  have ha : Below w.heap.size w W0 := by rw [hW0]; exact ((Below.refl _ _).alloc (Nat.le_refl _) _).alloc (by simp) _
  have hB1 : MatB W0 w.heap.size 34 n A n c := by rw [hW0]; exact (MatB.new w _).below_ ((Below.refl _ _).alloc (Nat.le_refl _) _)
  have hB2 : MatB W0 (w.heap.size + 1) 34 0 none 0 0 := by rw [hW0]; exact MatB.new1 w _ _
  have hin := Lib.hid (ref3_in (n : Int) A n c k j W0)
  have hsz : W0.heap.size = w.heap.size + 2 := by rw [hW0]; simp
  have hlen := hr.at.len
  have hlt := Lib.hid hr.at.w64
  obtain ⟨vs, hrdw, hrcw, -, hvg⟩ := hr
  replace hvg := Lib.hid hvg
  replace hB0 := Lib.hid hB0
  obtain ⟨b, off, u, rfl, hbl, hu, hc⟩ := hrdw.at_ hk
  obtain ⟨xs, hx⟩ : ∃ xs, xss[k]? = some xs := ⟨_, List.getElem?_eq_getElem (by omega)⟩
  obtain ⟨B, m, d, rfl, hxr⟩ := hrcw.2 k u xs hu hx
  have hm : m ≤ 1024 := by have := hxr.len; have := hl xs (List.mem_of_getElem? hx); omega
  have hst := Lib.hid (ref2_SetO B m d xs j)
  have hx2 := Lib.hid hx
  have hu2 := Lib.hid hu
  have hone := Lib.hid (one_rows hrcw)
  replace hB1 := Lib.hid hB1
  replace hB2 := Lib.hid hB2
  replace hsz := Lib.hid hsz
  replace ha := Lib.hid ha
  replace h3 := Lib.hid h3
  replace hxr := Lib.hid hxr
  replace hrcw := Lib.hid hrcw
  replace hrdw := Lib.hid hrdw
  have hk0 : (0 : Int) ≤ (k : Int) := by omega
  have hkn : (k : Int) < (n : Int) := by omega
  clear hc hu hx hlen hl i0 i1
  go_enter Tryz.func20, Tryz.ntmps20
  go_wp2_with fail
  rw [← hW0]
  clear hW0
  refine hin.out.mono ?_; rintro e w1 ⟨rfl, hb1⟩
  rw [h3.out]
  have hbb := Lib.hid (below_trans2 ha.out hb1)
  have hs1 : w.heap.size + 2 ≤ w1.heap.size := by have := hb1.size; have := hsz.out; omega
  have hA1 := Lib.hid (hB1.out.below_ hb1)
  have hR1 := Lib.hid (hB2.out.below_ hb1)
  have hba : Below w1.heap.size w1 (w1.alloc (.cells #[] 75)) := (Below.refl _ _).alloc (Nat.le_refl _) _
  have hlit : (w1.alloc (.cells #[] 75)).ownsRow w1.heap.size 75 1 (.slice (some ⟨w1.heap.size, 0, none⟩) 0 0) 0 [] := by
    have h := World.ownsRow_lit (size := 1) (base := w1.heap.size) (e := 75) w1 #[] 0 (Nat.le_refl _) (by omega) (by simp)
    simpa using h
  have l1 : (w1.alloc (.cells #[] 75)).cell? ⟨w.heap.size, 1, none⟩ = some (.slice (some ⟨b, off, none⟩) n c) := (hA1.out.below_ hba).c1
  have hrd : Rd (w1.alloc (.cells #[] 75)) (some ⟨b, off, none⟩) n vs := (hrdw.out.below hbb.out).below hba
  have hbba := Lib.hid (below_trans2 hbb.out hba)
  have hRa := Lib.hid (hR1.out.below_ hba)
  have hAa := Lib.hid (hA1.out.below_ hba)
  clear hb1
  go_wp2_with (at_builtin; refine wpList_append_rd rfl (.tmp 15) (.tmp 17) _ rfl w1.heap.size 75 x0 _ 24 Tryz.underlying32 hxi.out hxz0.out hxz1.out hxz2.out rfl _ 0 _ (by rfl) hlit _ n c _ rfl hrd hone.out (by unfold maxLen; omega) (by omega) hba.size ?_; intro v2 w2 hown2 hbc hform; simp only [Nat.zero_add, List.nil_append] at hown2 hform; obtain ⟨g, cap, rfl⟩ := hform (by omega); have hcg := hown2.cellAt k (by omega); rw [hu2.out] at hcg; have hfg := hown2.frozenAt k; clear hform l1)
  have hglt := (hown2.lt g rfl).1
  have hb2 : Below w.heap.size w w2 := hbba.out.trans (hbc.mono (by omega))
  have hR2 := Lib.hid (MatB.belowB hRa.out hbc (by omega))
  have hA2 := Lib.hid (MatB.belowB hAa.out hbc (by omega))
  replace hb2 := Lib.hid hb2
  replace hown2 := Lib.hid hown2
  clear hba hlit hrd hbc hcg hfg
  refine (hst.out w2 (hxr.out.below hb2.out) (by omega) (by omega) (by omega)).mono ?_; rintro e w3 ⟨C, p, q, rfl, hxr2, hx64, hb3⟩
  have hown3 := Lib.hid (own_below hown2.out hb3)
  have hcg := hown3.out.cellAt k (by omega)
  rw [hu2.out] at hcg
  have hfg := hown3.out.frozenAt k
  have hR3 := Lib.hid (hR2.out.below_ hb3)
  have hA3 := Lib.hid (hA2.out.below_ hb3)
  have hbb3 := Lib.hid (below_trans2 hb2.out hb3)
  have hCb : Hid (∀ ad, C = some ad → w2.heap.size ≤ ad.block) := Lib.hid (fun ad e => by subst e; exact own_lt_block hxr2 _ rfl)
  have hgl2 : g < w2.heap.size := (hown2.out.lt g rfl).2
  replace hxr2 := Lib.hid (Row.of_own hxr2 hx64)
  have hA4 := MatB.farB (p := ⟨g, k, none⟩) hA3.out (by simp <;> omega) (.slice C p q)
  have hR4 := hR3.out.farB (p := ⟨g, k, none⟩) (by simp <;> omega) (.slice C p q)
  have f10 := hA4.c0
  have f20 := hR4.c0
  have f21 := hR4.c1
  have g20 := hR4.frozen 0
  have g21 := hR4.frozen 1
  have hcc := MatB.two hR4 (.int .i64 n) (.slice (some ⟨g, 0, none⟩) n cap)
  have hc1 := Lib.hid hcc.1
  have hc2 := Lib.hid hcc.2
  clear hA4 hR4 hcc hb3 hx64
  go_wp2_with fail
  have hfin : Below w.heap.size w ((((w3.setCell ⟨g, k, none⟩ (.slice C p q)).setCell ⟨w.heap.size + 1, 0, none⟩ (.int .i64 n)).setCell ⟨w.heap.size + 1, 1, none⟩ (.slice (some ⟨g, 0, none⟩) n cap))) := ((hbb3.out.setCell (by simp <;> omega) _).setCell (by simp) _).setCell (by simp) _
  refine bodyPost_ret (v := .tuple #[.agg #[.int .i64 n, .slice (some ⟨g, 0, none⟩) n cap], .int .i64 0]) (by simp [results, Tryz.results20, go_sem, hc1.out, hc2.out]) rfl ⟨_, _, _, rfl, ?_, own_cap hown3.out, hfin, fun ad e => by cases e; show w.heap.size ≤ g; omega⟩
  refine ⟨_, Rd.of_own' (own_far (own_far (hown3.out.stored k (.slice C p q)).1 (p := ⟨w.heap.size + 1, 0, none⟩) (by simp [Value.ownBlock]; omega) _) (p := ⟨w.heap.size + 1, 1, none⟩) (by simp [Value.ownBlock]; omega) _), ?_, fun ad e => by cases e; have := hB0.out; show B0 ≤ g; omega, fun v hv g' e => by
    rcases List.mem_or_eq_of_mem_set hv with h | rfl
    · exact hvg.out v h g' e
    · cases C with
      | none => cases e
      | some ad =>
        injection e with e
        have h1 := hCb.out ad rfl
        have h2 := hB0.out
        have h3 := hb2.out.size
        omega⟩
  have h1 := hrcw.out.below hfin
  rw [setM_nat hx2.out]
  refine h1.set ⟨C, p, q, rfl, ?_⟩ k
  exact ((hxr2.out.setCell (fun ad e => by have := hCb.out ad e; simp <;> omega) _).setCell (fun ad e => by have := hCb.out ad e; simp <;> omega) _).setCell (fun ad e => by have := hCb.out ad e; simp <;> omega) _
theorem ref3_SetF (N : Int) (A : Option Addr) (n c : Nat) (xss : List (List Nat)) (i j : Int) (w : World) (hr : RowsAt w A n xss) (hN : N = (n : Int)) (hn : n ≤ 4096) (hl : ∀ xs ∈ xss, xs.length ≤ 1024)
    (h3 : inM N i j = true) :
    Calls Tryz.prog 20 #[.agg #[.int .i64 N, .slice A n c], .int .i64 i, .int .i64 j] w (RetMatF N (setM xss i j) 0 w) :=
  (ref3_SetG 0 N A n c xss i j w (RowsG.of hr) (Nat.zero_le _) hN hn hl h3).mono fun _ _ h => h.f
theorem ref3_Set (N : Int) (A : Option Addr) (n c : Nat) (xss : List (List Nat)) (i j : Int) (w : World) (hr : RowsAt w A n xss) (hN : N = (n : Int)) (hn : n ≤ 4096) (hl : ∀ xs ∈ xss, xs.length ≤ 1024)
    (h3 : inM N i j = true) :
    Calls Tryz.prog 20 #[.agg #[.int .i64 N, .slice A n c], .int .i64 i, .int .i64 j] w (RetMat N (setM xss i j) 0 w) :=
  (ref3_SetF N A n c xss i j w hr hN hn hl h3).mono fun _ _ ⟨A', n', c', h1, h2, h3, h4, _⟩ => ⟨A', n', c', h1, h2, h3, h4⟩

end Go.Proofs.YtbeigdbljepfkaaGreat

namespace Go.Proofs.YtbeigdbljepfkaaGreat
open Go.RowKit

section
variable {P : Program} {ops : Array Oper} {md : Region.Mode} {Q : Exit → Act → World → Prop}

/-- does t wait for i, through others too? -/
def awaitsB (md : Region.Mode) (ops : Array Oper) : Nat → Nat → Nat → Bool
  | 0, _, _ => false
  | f + 1, t, i => match ops[t]? with
    | none => false
    | some o => o.after.any fun e => Region.binds md e && (e.on == i || awaitsB md ops f e.on i)
theorem awaits_listed {n : Nat} {listed : Array Bool} (inv : HeadInv md ops n listed) : ∀ (f t i : Nat) (o : Oper), ops[t]? = some o →
    (∀ e ∈ o.after, Region.binds md e = true → listed.getD e.on false = true) → awaitsB md ops f t i = true → listed.getD i false = true
  | 0, _, _, _, _, _, h => by simp [awaitsB] at h
  | f + 1, t, i, o, ho, hall, h => by
    simp only [awaitsB, ho] at h
    obtain ⟨e, he, hb⟩ := Array.any_eq_true'.1 h
    simp only [Bool.and_eq_true, Bool.or_eq_true, beq_iff_eq] at hb
    have h1 := hall e he hb.1
    rcases hb.2 with h2 | h2
    · rw [← h2]; exact h1
    · cases ho2 : ops[e.on]? with
      | none => cases f with
        | zero => simp [awaitsB] at h2
        | succ f => simp [awaitsB, ho2] at h2
      | some o2 => exact awaits_listed inv f e.on i o2 ho2 (fun e' he' hb' => inv.closed _ _ ho2 h1 e' he' hb') h2
/-- each operation behind the first n waits for each of them -/
def lateB (md : Region.Mode) (ops : Array Oper) (n : Nat) : Bool :=
  (List.range ops.size).all fun t => decide (t < n) || (List.range n).all fun i => awaitsB md ops ops.size t i
theorem late_waits {n : Nat} (h : lateB md ops n = true) (listed : Array Bool) (inv : HeadInv md ops n listed) (i : Nat) (hin : i < n) (hun : listed.getD i true = false) (t : Nat) (ht : n ≤ t) : t ∉ Region.ready md ops listed := by
  intro hr
  obtain ⟨_, ot, hot, hall⟩ := mem_ready.1 hr
  have htl := (Array.getElem?_eq_some_iff.1 hot).1
  have h1 := List.all_eq_true.1 h t (List.mem_range.2 htl)
  simp only [Bool.or_eq_true, decide_eq_true_eq] at h1
  rcases h1 with h1 | h1
  · omega
  · have h2 := List.all_eq_true.1 h1 i (List.mem_range.2 hin)
    have h3 := awaits_listed inv _ t i ot hot hall h2
    rw [getD_both hun] at h3
    cases h3

/-- the second half's check -/
def planT (md : Region.Mode) (ops : Array Oper) (m : Nat) : List Nat → Array Bool → Bool
  | [], listed => Region.seqB md ops (ops.size - m) m listed
  | i :: rest, listed => (Region.ready md ops listed).contains i && Region.free md ops listed i && planT md ops m rest (listed.setIfInBounds i true)
def planH (md : Region.Mode) (ops : Array Oper) (n m : Nat) (pl2 : List Nat) : List (Bool × Nat) → Array Bool → Bool
  | [], listed => (Region.ready md ops listed).all (fun j => decide (n ≤ j)) && planT md ops m pl2 listed
  | (b, i) :: rest, listed => decide (i < n) && (if b then (Region.ready md ops listed).contains i && Region.free md ops listed i else decide (Region.ready md ops listed = [i])) && planH md ops n m pl2 rest (listed.setIfInBounds i true)
def planAllT (md : Region.Mode) (ops : Array Oper) (n : Nat) (pl : List (Bool × Nat)) (m : Nat) (pl2 : List Nat) : Bool :=
  Region.noSelect ops && decide (pl.length = n) && decide (n + pl2.length = m) && decide (m ≤ ops.size) && lateB md ops n && planH md ops n m pl2 pl (Array.replicate ops.size false)

/-- the walk of the second half -/
def wpPlanT (P : Program) (ops : Array Oper) (Q : Exit → Act → World → Prop) (tail : List Oper) : List Nat → Act → World → Prop
  | [], a, w => wpList P ops Q tail a w
  | i :: rest, a, w => ∃ o v, ops[i]? = some o ∧ Yields P ops o v a ∧ wpPlanT P ops Q tail rest (a.put o.dst v) w
/-- the walk of the first half -/
def wpPlanE (P : Program) (ops : Array Oper) (Q : Exit → Act → World → Prop) (tail : List Oper) (pl2 : List Nat) : List (Bool × Nat) → Act → World → Prop
  | [], a, w => wpPlanT P ops Q tail pl2 a w
  | (true, i) :: rest, a, w => ∃ o v, ops[i]? = some o ∧ YieldsIf P ops (fun x => Below w.heap.size w x) o v a ∧ wpPlanE P ops Q tail pl2 rest (a.put o.dst v) w
  | (false, i) :: rest, a, w => wpOp P ops Q i (fun a' w' => Below w.heap.size w w' ∧ wpPlanE P ops Q tail pl2 rest a' w') a w

theorem wpAny_planT {m : Nat} {tail : List Oper} (htail : ∀ j, tail[j]? = ops[m + j]?) (hlen : tail.length = ops.size - m) (hsel : Region.noSelect ops = true) (hQ : ∀ c a d v w, Q (.panic c) (a.put d v) w → Q (.panic c) a w) :
    ∀ (pl2 : List Nat) (listed : Array Bool) (a : Act) (w : World), planT md ops m pl2 listed = true → wpPlanT P ops Q tail pl2 a w → wpAny P md ops Q (pl2.length + (ops.size - m)) listed a w
  | [], listed, a, w, hB, h => by
    rw [List.length_nil, Nat.zero_add, ← hlen]
    exact wpAny_of_seq tail m listed a w htail (by rw [hlen]; exact hB) h
  | i :: rest, listed, a, w, hB, h => by
    simp only [planT, Bool.and_eq_true] at hB
    obtain ⟨⟨hr, hf⟩, hB'⟩ := hB
    obtain ⟨o, v, ho, hy, h'⟩ := h
    rw [List.length_cons, show rest.length + 1 + (ops.size - m) = (rest.length + (ops.size - m)) + 1 by omega]
    exact wpAny_take ho hsel hf hr (fun c a w => hQ c a o.dst v w) hy (wpAny_planT htail hlen hsel hQ rest _ _ _ hB' h')

theorem wpAnyR_planE {n m : Nat} {tail : List Oper} {pl2 : List Nat} (hsel : Region.noSelect ops = true) (hQ : ∀ c a d v w, Q (.panic c) (a.put d v) w → Q (.panic c) a w)
    (hlate : ∀ listed, HeadInv md ops n listed → ∀ i, i < n → listed.getD i true = false → ∀ t, n ≤ t → t ∉ Region.ready md ops listed) :
    ∀ (pl : List (Bool × Nat)) (listed : Array Bool) (a : Act) (w : World), HeadInv md ops n listed → planH md ops n m pl2 pl listed = true → wpPlanE P ops Q tail pl2 pl a w →
    wpAnyR P md ops Q n (fun listed' a' w' => ((Region.ready md ops listed').all (fun j => decide (n ≤ j)) = true ∧ planT md ops m pl2 listed' = true) ∧ wpPlanT P ops Q tail pl2 a' w') pl.length listed a w
  | [], listed, a, w, _, hB, h => ⟨by simpa [planH] using hB, h⟩
  | (true, i) :: rest, listed, a, w, inv, hB, h => by
    simp only [planH, if_true, Bool.and_eq_true, decide_eq_true_eq] at hB
    obtain ⟨⟨hin, hr, hf⟩, hB'⟩ := hB
    obtain ⟨o, v, ho, hy, h'⟩ := h
    have hr' : i ∈ Region.ready md ops listed := by simpa using hr
    exact wpAnyR_first ho (Region.noSelect_spec hsel) (fun c a w => hQ c a o.dst v w) (fun l hl hu => hlate l hl i hin hu) hin (fun listed' a' w' hL j hj => by simpa using List.all_eq_true.1 hL.1.1 j hj) rest.length listed a w inv (Region.free_spec ho hf) hr' hy
      (wpAnyR_planE hsel hQ hlate rest _ _ _ (inv.set hr' hin) hB' h')
  | (false, i) :: rest, listed, a, w, inv, hB, h => by
    simp only [planH, Bool.false_eq_true, if_false, Bool.and_eq_true, decide_eq_true_eq] at hB
    obtain ⟨⟨hin, hr⟩, hB'⟩ := hB
    have hr' : i ∈ Region.ready md ops listed := by rw [hr]; simp
    refine ⟨by rw [hr]; simp, fun j hj => ?_⟩
    rw [hr] at hj
    have hji : j = i := by simpa using hj
    subst hji
    exact ⟨hin, wpOp_mono (fun a' w' h3 => ⟨h3.1, wpAnyR_planE hsel hQ hlate rest _ a' w' (inv.set hr' hin) hB' h3.2⟩) h⟩

theorem wp_region_planT {id : Nat} {a : Act} {w : World} {l : List Oper} (n : Nat) (pl : List (Bool × Nat)) (m : Nat) (pl2 : List Nat) (hm : P.follows .mixedOrders = true) (hB : planAllT .any l.toArray n pl m pl2 = true)
    (h : ∀ W : World, Hid (W = w.drew) → wpPlanE P l.toArray (NoPanic Q) (l.drop m) pl2 pl a W) : (Code.region id l.toArray true).wp P Q a w := by
  refine wp_region_noPanic ?_
  have hQ : ∀ c a d v w, NoPanic Q (.panic c) (a.put d v) w → NoPanic Q (.panic c) a w := fun _ _ _ _ _ h => h
  simp only [planAllT, Bool.and_eq_true, decide_eq_true_eq] at hB
  obtain ⟨⟨⟨⟨⟨hsel, hlen⟩, hnm⟩, hmz⟩, hlate⟩, hpl⟩ := hB
  have hdl : (l.drop m).length = l.toArray.size - m := by simp
  have inv0 : HeadInv .any l.toArray n (Array.replicate l.toArray.size false) :=
    ⟨by simp, fun j oj _ hl => (by rw [getD_replicate_false] at hl; cases hl), fun t _ ht => getD_in (by simpa using ht) (getD_replicate_false _ _)⟩
  have H := wpAnyR_planE (md := .any) (m := m) hsel hQ (fun listed inv i hin hun t ht => late_waits hlate listed inv i hin hun t ht) pl _ a w.drew inv0 hpl (h w.drew (Lib.hid rfl))
  refine wp_region_any hm ?_
  have := wpAny_of_R (Q := NoPanic Q) (g := pl2.length + (l.toArray.size - m)) (fun listed a' w' hL =>
    wpAny_planT (md := .any) (fun j => by simp [List.getElem?_drop]) hdl hsel hQ pl2 listed a' w' hL.1.2 hL.2) _ _ _ _ H
  rw [hlen, show n + (pl2.length + (l.toArray.size - m)) = l.toArray.size by omega] at this
  exact this

/-! ### the steps -/
section
variable {tail : List Oper} {pl2 : List Nat} {rest : List (Bool × Nat)} {a : Act} {w : World} {i : Nat} {o : Oper}
theorem wpPlanE_float {v : Value} (hi : ops[i]? = some o) (hw : Region.wanted o (yielded ops a.tmps) = true)
    (hy : ∀ w' : World, (∀ p, (w.cell? p).isSome = true → w'.cell? p = w.cell? p) → (execOp a.eval o).run P w' = .ok (.value v) w') (h : ∀ K : Act → Prop, (∀ a', wpPlanE P ops Q tail pl2 rest a' w → K a') → K (a.put o.dst v)) : wpPlanE P ops Q tail pl2 ((true, i) :: rest) a w :=
  ⟨o, v, hi, .inl ⟨hw, fun w' hb => hy w' (fun p hp => by
    have hlt : p.block < w.heap.size := by
      cases hc : w.cell? p with
      | none => rw [hc] at hp; cases hp
      | some u => exact block_lt_of_cell hc
    exact hb.cell hlt)⟩, h _ (fun _ h => h)⟩
theorem wpPlanE_only (hi : ops[i]? = some o) (hw : Region.wanted o (yielded ops a.tmps) = true)
    (h : ∀ K : Act → World → Prop, (∀ a' w', Below w.heap.size w w' → wpPlanE P ops Q tail pl2 rest a' w' → K a' w') → o.wp P a w K Q) : wpPlanE P ops Q tail pl2 ((false, i) :: rest) a w := by
  show wpOp P ops Q i _ a w
  unfold wpOp
  simp only [hi, hw, if_true]
  exact .inl (h _ (fun a' w' hb hp => ⟨hb, hp⟩))
theorem wpPlanE_nil (h : wpPlanT P ops Q tail pl2 a w) : wpPlanE P ops Q tail pl2 [] a w := h
theorem wpPlanT_float {v : Value} {rest : List Nat} (hi : ops[i]? = some o) (hw : Region.wanted o (yielded ops a.tmps) = true)
    (hy : ∀ w' : World, (execOp a.eval o).run P w' = .ok (.value v) w') (h : ∀ K : Act → Prop, (∀ a', wpPlanT P ops Q tail rest a' w → K a') → K (a.put o.dst v)) : wpPlanT P ops Q tail (i :: rest) a w :=
  ⟨o, v, hi, .inl ⟨hw, hy⟩, h _ (fun _ h => h)⟩
theorem wpPlanT_nil (h : wpList P ops Q tail a w) : wpPlanT P ops Q tail [] a w := h
end
end
end Go.Proofs.YtbeigdbljepfkaaGreat

namespace Go.Proofs.YtbeigdbljepfkaaGreat
open Go.RowKit
set_option linter.unusedVariables false

theorem Row.putB {w : World} {M : Nat} {t : TypeId} {N : Int} {A : Option Addr} {n c : Nat} (hM : MatB w M t N A n c) {B : Option Addr} {m : Nat} {xs : List Nat} (h : Row w B m xs) (x y : Value) :
    Row ((w.setCell ⟨M, 0, none⟩ x).setCell ⟨M, 1, none⟩ y) B m xs := by
  rcases Nat.eq_zero_or_pos m with rfl | hm
  · rw [List.eq_nil_of_length_eq_zero h.len]; exact Row.nil _ _
  · have hne : ∀ ad, B = some ad → ad.block ≠ M := by
      intro ad e hb
      obtain ⟨b, off, x, e2, _, _, _, hc⟩ := h.at_ hm
      rw [e] at e2
      cases e2
      have hb' : b = M := hb
      subst hb'
      rw [Blk.cell hM] at hc
      match off + 0, hc with
      | 0, hc => simp at hc
      | 1, hc => simp at hc
      | k + 2, hc => simp at hc
    exact (h.setCell hne x).setCell hne y
theorem RowsAt.putB {w : World} {M : Nat} {t : TypeId} {N : Int} {A : Option Addr} {n c : Nat} (hM : MatB w M t N A n c) {B : Option Addr} {m : Nat} {xss : List (List Nat)} (h : RowsAt w B m xss) (hne : 0 < m → ∀ ad, B = some ad → ad.block ≠ M) (x y : Value) :
    RowsAt ((w.setCell ⟨M, 0, none⟩ x).setCell ⟨M, 1, none⟩ y) B m xss := by
  obtain ⟨vs, h1, h2⟩ := h
  refine ⟨vs, ?_, h2.1, fun i v xs a b => ?_⟩
  · rcases Nat.eq_zero_or_pos m with rfl | hm
    · rw [h1.of_nil]; exact Rd.nil _ _
    · exact (h1.setCell (hne hm) x).setCell (hne hm) y
  · obtain ⟨B', m', c', e, hr⟩ := h2.2 i v xs a b
    exact ⟨B', m', c', e, hr.putB hM x y⟩
theorem RowsG.putB {w : World} {M : Nat} {t : TypeId} {N : Int} {A : Option Addr} {n c : Nat} (hM : MatB w M t N A n c) {B0 : Nat} {B : Option Addr} {m : Nat} {xss : List (List Nat)} (h : RowsG B0 w B m xss) (hne : 0 < m → ∀ ad, B = some ad → ad.block ≠ M) (x y : Value) :
    RowsG B0 ((w.setCell ⟨M, 0, none⟩ x).setCell ⟨M, 1, none⟩ y) B m xss := by
  obtain ⟨vs, h1, h2, h3, h4⟩ := h
  refine ⟨vs, ?_, ⟨h2.1, fun i v xs a b => ?_⟩, h3, h4⟩
  · rcases Nat.eq_zero_or_pos m with rfl | hm
    · rw [h1.of_nil]; exact Rd.nil _ _
    · exact (h1.setCell (hne hm) x).setCell (hne hm) y
  · obtain ⟨B', m', c', e, hr⟩ := h2.2 i v xs a b
    exact ⟨B', m', c', e, hr.putB hM x y⟩
theorem RowsAt.block_lt {w : World} {A : Option Addr} {n : Nat} {xss : List (List Nat)} (h : RowsAt w A n xss) (hn : 0 < n) : ∀ ad, A = some ad → ad.block < w.heap.size := by
  intro ad e
  obtain ⟨vs, h1, _⟩ := h
  obtain ⟨b, off, e2, hb, _⟩ := h1.2 hn
  rw [e] at e2; cases e2; exact hb

end Go.Proofs.YtbeigdbljepfkaaGreat

namespace Go.Proofs.YtbeigdbljepfkaaGreat
open Go.RowKit
set_option linter.unusedVariables false

theorem subM_iff {n : Nat} {a b : List (List Nat)} (ha : Good n a) (hb : Good n b) : subM a b = true ↔ ∀ i j : Nat, hasM a (i : Int) (j : Int) = true → hasM b (i : Int) (j : Int) = true := by
  unfold subM
  rw [List.all_eq_true]
  constructor
  · intro h i j hh
    obtain ⟨h1, h2⟩ := ha.has_lt hh
    obtain ⟨r, hr, hw, _⟩ := ha.at_ h1
    obtain ⟨s, hs, _, _⟩ := hb.at_ h1
    have h3 := h i (List.mem_range.2 (by rw [ha.len]; exact h1))
    rw [getD_at hr, getD_at hs] at h3
    rw [hasM_in hr] at hh
    rw [hasM_in hs]
    exact (subR_iff r s hw).1 h3 j hh
  · intro h i hi
    have h1 : i < n := by rw [← ha.len]; exact List.mem_range.1 hi
    obtain ⟨r, hr, hw, _⟩ := ha.at_ h1
    obtain ⟨s, hs, _, _⟩ := hb.at_ h1
    rw [getD_at hr, getD_at hs]
    refine (subR_iff r s hw).2 fun j hj => ?_
    have := h i j (by rw [hasM_in hr]; exact hj)
    rwa [hasM_in hs] at this
theorem Good.in_has {n : Nat} {a : List (List Nat)} (h : Good n a) (i j : Int) : (inM (n : Int) i j && hasM a i j) = hasM a i j := by
  cases hh : hasM a i j with
  | false => rw [Bool.and_false]
  | true =>
    have h0 : 0 ≤ i := by
      refine Decidable.byContradiction fun hc => ?_
      rw [hasM_out (.inl (by omega))] at hh; cases hh
    obtain ⟨k, rfl⟩ := Int.eq_ofNat_of_zero_le h0
    have h1 : 0 ≤ j := by
      refine Decidable.byContradiction fun hc => ?_
      by_cases hk : k < a.length
      · rw [hasM_in (List.getElem?_eq_getElem hk), hasR_out _ _ (.inl (by omega))] at hh; cases hh
      · rw [hasM_out (.inr (by omega))] at hh; cases hh
    obtain ⟨q, rfl⟩ := Int.eq_ofNat_of_zero_le h1
    obtain ⟨h2, h3⟩ := h.has_lt hh
    rw [Bool.and_true]
    unfold inM; simp; omega
theorem orM_len (a b : List (List Nat)) : (orM a b).length = a.length := by simp [orM]

end Go.Proofs.YtbeigdbljepfkaaGreat

namespace Go.Proofs.YtbeigdbljepfkaaGreat
open Go.RowKit
set_option linter.unusedVariables false

/-- block g is a variable that holds the matrix of N and xss -/
def MatK (w : World) (g : Nat) (t : TypeId) (N : Int) (A : Option Addr) (n c : Nat) (xss : List (List Nat)) : Prop := MatB w g t N A n c ∧ RowsAt w A n xss
section
variable {w w' : World} {g : Nat} {t : TypeId} {N : Int} {A : Option Addr} {n c : Nat} {xss : List (List Nat)}
theorem MatB.below (h : MatB w g t N A n c) (hb : Below w.heap.size w w') : MatB w' g t N A n c := h.below_ hb
theorem MatK.below (h : MatK w g t N A n c xss) (hb : Below w.heap.size w w') : MatK w' g t N A n c xss := ⟨h.1.below_ hb, h.2.below hb⟩
theorem MatK.new (w : World) (t : TypeId) (hr : RowsAt w A n xss) : MatK (w.alloc (.cells #[.int .i64 N, .slice A n c] t)) w.heap.size t N A n c xss := ⟨MatB.new w t, hr.below ((Below.refl _ _).alloc (Nat.le_refl _) _)⟩
theorem MatK.drew (h : MatK w g t N A n c xss) : MatK w.drew g t N A n c xss := ⟨Blk.drew h.1, h.2⟩
theorem below_alloc (w : World) (o : Obj) : Below w.heap.size w (w.alloc o) := (Below.refl _ _).alloc (Nat.le_refl _) _
end

/-- what comes behind several orders, walked once: 'apply cut_three (F := ..)'; the orders first, each ends in 'key'; then the rest -/
theorem cut_three {Goal F : Nat → Nat → World → Prop} {R : Prop} (h1 : (∀ a b c, F a b c → Goal a b c) → R) (h2 : ∀ a b c, F a b c → Goal a b c) : R := h1 h2
theorem cut_seven {T1 T2 T3 T4 T5 T6 T7 : Type} {Goal F : T1 → T2 → T3 → T4 → T5 → T6 → T7 → Prop} {R : Prop} (h1 : (∀ a b c d e f g, F a b c d e f g → Goal a b c d e f g) → R) (h2 : ∀ a b c d e f g, F a b c d e f g → Goal a b c d e f g) : R := h1 h2

theorem RowsAt.farM {w : World} {C : Option Addr} {n G : Nat} {t : TypeId} {xss : List (List Nat)} (h : RowsAt w C n xss) (hM : MatB w G t 0 none 0 0) (h1 : ∀ r ∈ xss, r.length = 1) : 0 < n → ∀ ad, C = some ad → ad.block ≠ G := by
  intro h0 ad e hb
  obtain ⟨b, off, B, m, c, xs, e2, _, hx, hc, hr⟩ := h.at_ h0
  rw [e] at e2
  cases e2
  have hb' : b = G := hb
  subst hb'
  have hxl := h1 xs (List.mem_of_getElem? hx)
  have hrl := hr.len
  rw [Blk.cell hM] at hc
  match off + 0, hc with
  | 0, hc => simp at hc
  | 1, hc =>
    simp at hc
    omega
  | k + 2, hc => simp at hc

end Go.Proofs.YtbeigdbljepfkaaGreat

namespace Go.Proofs.YtbeigdbljepfkaaGreat
open Go.RowKit
set_option linter.unusedVariables false

/-- what follows from r -/
inductive Conn (r : Nat → Nat → Prop) : Nat → Nat → Prop where
  | one {i j : Nat} (h : r i j) : Conn r i j
  | step {i j k : Nat} (h : Conn r i j) (h2 : r j k) : Conn r i k
def Trans2 (s : Nat → Nat → Prop) : Prop := ∀ i j k, s i j → s j k → s i k
theorem Conn.trans {r : Nat → Nat → Prop} {i j k : Nat} (h1 : Conn r i j) (h2 : Conn r j k) : Conn r i k := by
  induction h2 with
  | one h => exact .step h1 h
  | step _ h ih => exact .step ih h
theorem Conn.least {r s : Nat → Nat → Prop} (hs : Trans2 s) (h : ∀ i j, r i j → s i j) {i j : Nat} (hc : Conn r i j) : s i j := by
  induction hc with
  | one h1 => exact h _ _ h1
  | step _ h2 ih => exact hs _ _ _ ih (h _ _ h2)
theorem Conn.mono {r s : Nat → Nat → Prop} (h : ∀ i j, r i j → s i j) {i j : Nat} (hc : Conn r i j) : Conn s i j :=
  Conn.least (s := Conn s) (fun a b c h1 h2 => Conn.trans h1 h2) (fun a b h1 => .one (h a b h1)) hc
theorem Conn.same {r s : Nat → Nat → Prop} (h : ∀ i j, r i j ↔ s i j) (i j : Nat) : Conn r i j ↔ Conn s i j := ⟨Conn.mono fun _ _ h1 => (h _ _).1 h1, Conn.mono fun _ _ h1 => (h _ _).2 h1⟩
theorem Conn.of_trans {r : Nat → Nat → Prop} (hr : Trans2 r) {i j : Nat} : Conn r i j ↔ r i j := ⟨Conn.least hr fun _ _ h => h, .one⟩

/-- Warshall: what follows over numbers below k -/
def Wk (r : Nat → Nat → Prop) : Nat → Nat → Nat → Prop
  | 0, i, j => r i j
  | k + 1, i, j => Wk r k i j ∨ (Wk r k i k ∧ Wk r k k j)
theorem Wk.conn {r : Nat → Nat → Prop} : ∀ (k i j : Nat), Wk r k i j → Conn r i j
  | 0, _, _, h => .one h
  | k + 1, i, j, .inl h => Wk.conn k i j h
  | k + 1, i, j, .inr h => (Wk.conn k i k h.1).trans (Wk.conn k k j h.2)
theorem Wk.mono {r : Nat → Nat → Prop} {i j : Nat} (h : r i j) : ∀ k, Wk r k i j
  | 0 => h
  | k + 1 => .inl (Wk.mono h k)
theorem Wk.join {r : Nat → Nat → Prop} : ∀ (k m i j : Nat), m < k → Wk r k i m → Wk r k m j → Wk r k i j
  | 0, m, _, _, hm, _, _ => absurd hm (by omega)
  | k + 1, m, i, j, hm, h1, h2 => by
    have e1 : Wk r k i m ∨ (Wk r k i k ∧ Wk r k k m) := h1
    have e2 : Wk r k m j ∨ (Wk r k m k ∧ Wk r k k j) := h2
    show Wk r k i j ∨ (Wk r k i k ∧ Wk r k k j)
    rcases Nat.lt_succ_iff_lt_or_eq.1 hm with hlt | rfl
    · rcases e1 with a | ⟨a, b⟩ <;> rcases e2 with c | ⟨c, d⟩
      · exact .inl (Wk.join k m i j hlt a c)
      · exact .inr ⟨Wk.join k m i k hlt a c, d⟩
      · exact .inr ⟨a, Wk.join k m k j hlt b c⟩
      · exact .inr ⟨a, d⟩
    · have a : Wk r m i m := e1.elim (fun h => h) (fun h => h.1)
      have b : Wk r m m j := e2.elim (fun h => h) (fun h => h.2)
      exact .inr ⟨a, b⟩
theorem Wk.all {r : Nat → Nat → Prop} {n : Nat} (hr : ∀ i j, r i j → i < n ∧ j < n) (i j : Nat) : Wk r n i j ↔ Conn r i j := by
  refine ⟨Wk.conn n i j, fun h => ?_⟩
  induction h with
  | one h => exact Wk.mono h n
  | step h1 h2 ih => exact Wk.join n _ _ _ (hr _ _ h2).1 ih (Wk.mono h2 n)

/-- the relation of a matrix -/
def Rel (a : List (List Nat)) (i j : Nat) : Prop := hasM a (i : Int) (j : Int) = true
theorem Good.rel_lt {n : Nat} {a : List (List Nat)} (h : Good n a) : ∀ i j, Rel a i j → i < n ∧ j < n := fun _ _ h1 => h.has_lt h1
/-- h is the hull of r among n numbers -/
def IsHull (n : Nat) (r : Nat → Nat → Prop) (h : List (List Nat)) : Prop := Good n h ∧ ∀ i j : Nat, Rel h i j ↔ Conn r i j
def ClosedM (a : List (List Nat)) : Prop := Trans2 (Rel a)
theorem rel_ext {n : Nat} {a b : List (List Nat)} (ha : Good n a) (hb : Good n b) (h : ∀ i j : Nat, Rel a i j ↔ Rel b i j) : a = b :=
  good_ext ha hb fun i j _ _ => by
    have := h i j
    unfold Rel at this
    cases h1 : hasM a (i : Int) (j : Int) with
    | true => rw [this.1 h1]
    | false =>
      cases h2 : hasM b (i : Int) (j : Int) with
      | true => rw [this.2 h2] at h1; cases h1
      | false => rfl
theorem IsHull.unique {n : Nat} {r s : Nat → Nat → Prop} {h k : List (List Nat)} (h1 : IsHull n r h) (h2 : IsHull n s k) (he : ∀ i j, Conn r i j ↔ Conn s i j) : h = k :=
  rel_ext h1.1 h2.1 fun i j => by rw [h1.2, h2.2, he]
theorem IsHull.closed {n : Nat} {r : Nat → Nat → Prop} {h : List (List Nat)} (h1 : IsHull n r h) : ClosedM h := fun i j k a b => by
  rw [h1.2] at a b ⊢
  exact a.trans b
theorem sub_rel {n : Nat} {a b : List (List Nat)} (ha : Good n a) (hb : Good n b) : subM a b = true ↔ ∀ i j, Rel a i j → Rel b i j := subM_iff ha hb
theorem rel_set {n : Nat} {a : List (List Nat)} (ha : Good n a) {i j : Nat} (hi : i < n) (hj : j < n) (x y : Nat) : Rel (setM a (i : Int) (j : Int)) x y ↔ Rel a x y ∨ (x = i ∧ y = j) := by
  unfold Rel
  rw [hasM_setM ha hi hj]
  simp

/-- is it closed? as the program looks: row by row -/
def closedB (a : List (List Nat)) : Bool := (List.range a.length).all fun i => (listN (a.getD i [])).all fun j => subR (a.getD j []) (a.getD i [])
theorem closedB_iff {n : Nat} {a : List (List Nat)} (ha : Good n a) : closedB a = true ↔ ClosedM a := by
  unfold closedB
  rw [List.all_eq_true]
  constructor
  · intro h i j k h1 h2
    obtain ⟨hi, hj⟩ := ha.has_lt h1
    have hk := (ha.has_lt h2).2
    obtain ⟨r, hr, hw, hl⟩ := ha.at_ hi
    obtain ⟨s, hs, hws, _⟩ := ha.at_ hj
    have h3 := h i (List.mem_range.2 (by rw [ha.len]; exact hi))
    rw [getD_at hr, List.all_eq_true] at h3
    unfold Rel at h1 h2 ⊢
    rw [hasM_in hr] at h1
    rw [hasM_in hs] at h2
    have h4 := h3 j ((listN_mem _ _).2 ⟨by omega, h1⟩)
    rw [getD_at hs] at h4
    rw [hasM_in hr]
    exact (subR_iff s r hws).1 h4 k h2
  · intro h i hi
    have hi' : i < n := by rw [← ha.len]; exact List.mem_range.1 hi
    obtain ⟨r, hr, hw, hl⟩ := ha.at_ hi'
    rw [getD_at hr, List.all_eq_true]
    intro j hj
    have h1 := ((listN_mem _ _).1 hj).2
    have h1' : Rel a i j := by unfold Rel; rw [hasM_in hr]; exact h1
    have hjn := (ha.has_lt h1').2
    obtain ⟨s, hs, hws, _⟩ := ha.at_ hjn
    rw [getD_at hs]
    refine (subR_iff s r hws).2 fun k hk => ?_
    have := h i j k h1' (by unfold Rel; rw [hasM_in hs]; exact hk)
    unfold Rel at this
    rwa [hasM_in hr] at this
/-- the row i of step k: joined with row k, if it has k -/
def stepR (a : List (List Nat)) (k : Nat) (r : List Nat) : List Nat := if hasR r (k : Int) = true then orR r (a.getD k []) else r
def stepM (a : List (List Nat)) (k q : Nat) : List (List Nat) := (List.range a.length).map fun i => if i < q then stepR a k (a.getD i []) else a.getD i []
theorem stepM_len (a : List (List Nat)) (k q : Nat) : (stepM a k q).length = a.length := by simp [stepM]
theorem stepM_get {a : List (List Nat)} {k q i : Nat} {r : List Nat} (h : a[i]? = some r) : (stepM a k q)[i]? = some (if i < q then stepR a k r else r) := by
  unfold stepM
  have hi := (List.getElem?_eq_some_iff.1 h).1
  rw [List.getElem?_map, List.getElem?_range hi, Option.map_some, getD_at h]
theorem stepR_good {n : Nat} {a : List (List Nat)} (ha : Good n a) {k : Nat} (hk : k < n) {r : List Nat} (hr : r ∈ a) : W64 (stepR a k r) ∧ (stepR a k r).length = r.length ∧ ∀ j : Nat, hasR (stepR a k r) (j : Int) = (hasR r (j : Int) || (hasR r (k : Int) && hasM a (k : Int) (j : Int))) := by
  obtain ⟨s, hs, hws, _⟩ := ha.at_ hk
  have h1 := ha.row r hr
  have h2 := ha.row s (List.mem_of_getElem? hs)
  unfold stepR
  rw [getD_at hs]
  by_cases h : hasR r (k : Int) = true
  · rw [if_pos h]
    refine ⟨orR_w64 h1.1 hws, by rw [orR_len, h1.2.2.1, h2.2.2.1, Nat.max_self], fun j => ?_⟩
    rw [hasR_orR, h, hasM_in hs, Bool.true_and]
  · rw [if_neg h]
    refine ⟨h1.1, rfl, fun j => ?_⟩
    rw [Bool.not_eq_true] at h
    rw [h, Bool.false_and, Bool.or_false]
theorem stepM_good {n : Nat} {a : List (List Nat)} (ha : Good n a) {k : Nat} (hk : k < n) (q : Nat) : Good n (stepM a k q) := by
  refine ⟨ha.le, by rw [stepM_len, ha.len], fun r hr => ?_⟩
  obtain ⟨i, hi⟩ := List.getElem?_of_mem hr
  have hil : i < a.length := by
    have := (List.getElem?_eq_some_iff.1 hi).1
    rwa [stepM_len] at this
  have hx : a[i]? = some a[i] := List.getElem?_eq_getElem hil
  rw [stepM_get hx] at hi
  injection hi with hi
  have h0 := ha.row _ (List.mem_of_getElem? hx)
  by_cases hq : i < q
  · rw [if_pos hq] at hi
    obtain ⟨h1, h2, h3⟩ := stepR_good ha hk (List.mem_of_getElem? hx)
    subst hi
    refine ⟨h1, by rw [h2]; exact h0.2.1, by rw [h2]; exact h0.2.2.1, fun j hj => ?_⟩
    rw [h3 j, h0.2.2.2 j hj]
    cases hh : hasM a (k : Int) (j : Int) with
    | false => simp
    | true => exact absurd (ha.has_lt hh).2 (by omega)
  · rw [if_neg hq] at hi
    subst hi
    exact h0
theorem stepM_rel {n : Nat} {a : List (List Nat)} (ha : Good n a) {k : Nat} (hk : k < n) (i j : Nat) : Rel (stepM a k n) i j ↔ Rel a i j ∨ (Rel a i k ∧ Rel a k j) := by
  unfold Rel
  by_cases hi : i < n
  · obtain ⟨r, hr, _, _⟩ := ha.at_ hi
    have h1 := stepM_get (k := k) (q := n) hr
    rw [if_pos hi] at h1
    obtain ⟨_, _, h3⟩ := stepR_good ha hk (List.mem_of_getElem? hr)
    rw [hasM_in h1, h3 j, hasM_in hr, hasM_in hr, Bool.or_eq_true, Bool.and_eq_true]
  · rw [hasM_out (xss := stepM a k n) (.inr (by rw [stepM_len, ha.len]; omega)), hasM_out (xss := a) (i := (i : Int)) (.inr (by rw [ha.len]; omega)), hasM_out (xss := a) (i := (i : Int)) (.inr (by rw [ha.len]; omega))]
    simp
/-- the hull, step by step -/
def closeK (a : List (List Nat)) : Nat → List (List Nat)
  | 0 => a
  | k + 1 => stepM (closeK a k) k a.length
theorem closeK_facts {n : Nat} {a : List (List Nat)} (ha : Good n a) : ∀ k, k ≤ n → Good n (closeK a k) ∧ ∀ i j, Rel (closeK a k) i j ↔ Wk (Rel a) k i j
  | 0, _ => ⟨ha, fun i j => Iff.rfl⟩
  | k + 1, hk => by
    obtain ⟨h1, h2⟩ := closeK_facts ha k (by omega)
    show Good n (stepM (closeK a k) k a.length) ∧ ∀ i j, Rel (stepM (closeK a k) k a.length) i j ↔ _
    rw [ha.len]
    refine ⟨stepM_good h1 (by omega) n, fun i j => ?_⟩
    rw [stepM_rel h1 (by omega)]
    show _ ↔ Wk (Rel a) k i j ∨ (Wk (Rel a) k i k ∧ Wk (Rel a) k k j)
    rw [h2, h2, h2]
theorem closeK_hull {n : Nat} {a : List (List Nat)} (ha : Good n a) : IsHull n (Rel a) (closeK a n) := by
  obtain ⟨h1, h2⟩ := closeK_facts ha n (Nat.le_refl _)
  exact ⟨h1, fun i j => by rw [h2, Wk.all ha.rel_lt]⟩

end Go.Proofs.YtbeigdbljepfkaaGreat

namespace Go.Proofs.YtbeigdbljepfkaaGreat
set_option linter.unusedVariables false

theorem mem_rowPo {is : List It} {a n : Nat} {i j : Nat} : ((i : Int), (j : Int)) ∈ rowPo is a n ↔ i = a ∧ j < n ∧ aheadF is a j = true := by
  unfold rowPo
  rw [List.mem_map]
  constructor
  · rintro ⟨k, hk, he⟩
    obtain ⟨h1, h2⟩ := List.mem_filter.1 hk
    have h1 := List.mem_range.1 h1
    injection he with e1 e2
    have e1 : a = i := by omega
    have e2 : k = j := by omega
    subst e1; subst e2
    exact ⟨rfl, h1, h2⟩
  · rintro ⟨rfl, h1, h2⟩
    exact ⟨j, List.mem_filter.2 ⟨List.mem_range.2 h1, h2⟩, rfl⟩
theorem mem_uptoPo {is : List It} {n m : Nat} {i j : Nat} : ((i : Int), (j : Int)) ∈ uptoPo is n m ↔ i < m ∧ j < n ∧ aheadF is i j = true := by
  unfold uptoPo
  rw [List.mem_flatMap]
  constructor
  · rintro ⟨a, ha, h⟩
    obtain ⟨rfl, h1, h2⟩ := mem_rowPo.1 h
    exact ⟨List.mem_range.1 ha, h1, h2⟩
  · rintro ⟨h0, h1, h2⟩
    exact ⟨i, List.mem_range.2 h0, mem_rowPo.2 ⟨rfl, h1, h2⟩⟩
theorem uptoPo_ok (is : List It) (n m : Nat) (h : m ≤ n) : ∀ x ∈ uptoPo is n m, okP (n : Int) x = true := fun x hx => by
  unfold uptoPo at hx
  obtain ⟨a, ha, h1⟩ := List.mem_flatMap.1 hx
  have ha := List.mem_range.1 ha
  unfold rowPo at h1
  obtain ⟨k, hk, rfl⟩ := List.mem_map.1 h1
  have hk := List.mem_range.1 (List.mem_filter.1 hk).1
  unfold okP inM
  simp; omega
theorem poM_good {is : List It} (h : is.length ≤ 4096) : Good is.length (poM is) ∧ ∀ i j : Nat, hasM (poM is) (i : Int) (j : Int) = aheadF is i j := by
  obtain ⟨h1, h2⟩ := foldP_facts h (uptoPo is is.length is.length) (uptoPo_ok is _ _ (Nat.le_refl _))
  refine ⟨h1, fun i j => ?_⟩
  unfold poM
  rw [h2 i j, Bool.eq_iff_iff, decide_eq_true_eq, mem_uptoPo]
  constructor
  · exact fun h => h.2.2
  · intro h
    have := aheadF_in h
    exact ⟨by omega, by omega, h⟩
end Go.Proofs.YtbeigdbljepfkaaGreat

namespace Go.Proofs.YtbeigdbljepfkaaGreat
set_option linter.unusedVariables false

/-- is it a write of this value to this variable? -/
def hitW (v val : Int) (x : It) : Bool := x.wr && (decide (x.va = v) && decide (x.vl = val))
/-- the first write of a value to a variable -/
def writeF (is : List It) (v val : Int) : Option Nat := is.findIdx? (hitW v val)
theorem writeF_at {is : List It} {v val : Int} {k : Nat} {x : It} (hx : is[k]? = some x) (h : hitW v val x = true) (hn : ∀ j, j < k → ∀ y, is[j]? = some y → hitW v val y = false) : writeF is v val = some k := by
  obtain ⟨hk, he⟩ := List.getElem?_eq_some_iff.1 hx
  unfold writeF
  rw [List.findIdx?_eq_some_iff_getElem]
  exact ⟨hk, by rw [he]; exact h, fun j hj => by rw [hn j hj _ (List.getElem?_eq_getElem (by omega))]; simp⟩
theorem writeF_none {is : List It} {v val : Int} (hn : ∀ (j : Nat) (y : It), is[j]? = some y → hitW v val y = false) : writeF is v val = none := by
  unfold writeF
  rw [List.findIdx?_eq_none_iff]
  intro x hx
  obtain ⟨j, hj, e⟩ := List.mem_iff_getElem.1 hx
  exact hn j x (by rw [← e]; exact List.getElem?_eq_getElem hj)
theorem writeF_some {is : List It} {v val : Int} {k : Nat} (h : writeF is v val = some k) : ∃ x, is[k]? = some x ∧ hitW v val x = true ∧ ∀ (j : Nat) (y : It), j < k → is[j]? = some y → hitW v val y = false := by
  unfold writeF at h
  rw [List.findIdx?_eq_some_iff_getElem] at h
  obtain ⟨hk, h1, h2⟩ := h
  refine ⟨is[k], List.getElem?_eq_getElem hk, h1, fun j y hj hy => ?_⟩
  obtain ⟨hjl, e⟩ := List.getElem?_eq_some_iff.1 hy
  have := h2 j hj
  rw [e] at this
  simpa using this
/-- what item j says of it -/
def stepC (is : List It) (j : Nat) : Option (Int × Int × Int) :=
  match is[j]? with
  | none => none
  | some x => if x.wr = false then none else if x.vl = 0 then some (j, j, 5) else if (writeF is x.va x.vl).getD 0 < j then some (((writeF is x.va x.vl).getD 0 : Nat), j, 4) else none
/-- is a history differentiated? -/
def checkF (is : List It) : Int × Int × Int := ((List.range is.length).findSome? (stepC is)).getD (0, 0, 0)
theorem range_first {n j : Nat} {α : Type} {f : Nat → Option α} {a : α} (hj : j < n) (h : f j = some a) (hn : ∀ i, i < j → f i = none) : (List.range n).findSome? f = some a := by
  rw [List.findSome?_eq_some_iff]
  refine ⟨List.range j, j, List.range' (j + 1) (n - j - 1), ?_, h, fun x hx => hn x (by simpa using hx)⟩
  rw [List.range_eq_range', List.range_eq_range', show n = j + (n - j) by omega, ← List.range'_append_1, show j + (n - j) - j - 1 = n - j - 1 by omega]
  congr 1
  rw [show n - j = (n - j - 1) + 1 by omega, List.range'_succ]
  simp
theorem checkF_at {is : List It} {j : Nat} {r : Int × Int × Int} (h : stepC is j = some r) (hn : ∀ i, i < j → stepC is i = none) : checkF is = r := by
  have hj : j < is.length := by
    rcases Nat.lt_or_ge j is.length with h1 | h1
    · exact h1
    · unfold stepC at h; rw [List.getElem?_eq_none h1] at h; cases h
  unfold checkF
  rw [range_first hj h hn]; rfl
theorem checkF_none {is : List It} (hn : ∀ i, i < is.length → stepC is i = none) : checkF is = (0, 0, 0) := by
  unfold checkF
  have : (List.range is.length).findSome? (stepC is) = none := by
    rw [List.findSome?_eq_none_iff]
    exact fun x hx => hn x (by simpa using hx)
  rw [this]; rfl
end Go.Proofs.YtbeigdbljepfkaaGreat

namespace Go.Proofs.YtbeigdbljepfkaaGreat
set_option linter.unusedVariables false

/-- what an item reads from -/
def fromOne (is : List It) (x : It) : Int := if x.wr = true then -3 else if x.vl = 0 then -1 else match writeF is x.va x.vl with | some w => (w : Int) | none => -2
def fromF (is : List It) : List Int := is.map (fromOne is)
def fillF (f : Fac) : Fac := ⟨f.vars, f.items, fromF f.items⟩
theorem fromF_len (is : List It) : (fromF is).length = is.length := List.length_map _
theorem fromF_at {is : List It} {k : Nat} {x : It} (h : is[k]? = some x) : (fromF is)[k]? = some (fromOne is x) := by unfold fromF; rw [List.getElem?_map, h]; rfl
theorem fromF_take {is : List It} {k : Nat} {x : It} (h : is[k]? = some x) : (fromF is).take (k + 1) = (fromF is).take k ++ [fromOne is x] := by
  rw [List.take_add_one, fromF_at h]; rfl
theorem fromOne_range (is : List It) (x : It) : -3 ≤ fromOne is x ∧ fromOne is x < (is.length : Int) := by
  unfold fromOne
  split
  · omega
  · split
    · omega
    · cases h : writeF is x.va x.vl with
      | none => simp only; omega
      | some w =>
        obtain ⟨y, hy, _⟩ := writeF_some h
        have := (List.getElem?_eq_some_iff.1 hy).1
        simp only; omega

/-! ### how many reads read from a write -/
end Go.Proofs.YtbeigdbljepfkaaGreat

namespace Go.Proofs.YtbeigdbljepfkaaGreat
set_option linter.unusedVariables false

/-- the pairs of writes and their reads, of the first i reads -/
def rfPs (frm : List Int) (i : Nat) : List (Int × Int) := ((List.range i).filter fun k => decide (0 ≤ frm.getD k 0)).map fun (k : Nat) => (frm.getD k 0, (k : Int))
def rfM (n : Nat) (frm : List Int) : List (List Nat) := foldP n (rfPs frm frm.length)
def edgeM (f : Fac) : List (List Nat) := orM (poM f.items) (rfM f.items.length f.frm)
def coM (f : Fac) : List (List Nat) := closeK (edgeM f) f.items.length
theorem rfPs_succ (frm : List Int) (i : Nat) : rfPs frm (i + 1) = if 0 ≤ frm.getD i 0 then rfPs frm i ++ [(frm.getD i 0, (i : Int))] else rfPs frm i := by
  unfold rfPs
  rw [List.range_succ, List.filter_append]
  split
  · rename_i h; rw [List.filter_cons_of_pos (by exact decide_eq_true h)]; simp
  · rename_i h; rw [List.filter_cons_of_neg (by simpa using h)]; simp
theorem mem_rfPs {frm : List Int} {n i j : Nat} : ((i : Int), (j : Int)) ∈ rfPs frm n ↔ j < n ∧ frm.getD j 0 = (i : Int) := by
  unfold rfPs
  rw [List.mem_map]
  constructor
  · rintro ⟨k, hk, he⟩
    obtain ⟨h1, h2⟩ := List.mem_filter.1 hk
    have h1 := List.mem_range.1 h1
    injection he with e1 e2
    have e2 : k = j := by omega
    subst e2
    exact ⟨h1, e1⟩
  · rintro ⟨h1, h2⟩
    exact ⟨j, List.mem_filter.2 ⟨List.mem_range.2 h1, by rw [h2]; exact decide_eq_true (by omega)⟩, by rw [h2]⟩
/-- of whole facts: each read's write is an item -/
structure WholeF (f : Fac) : Prop where
  len : f.frm.length = f.items.length
  lt : ∀ z ∈ f.frm, z < (f.items.length : Int)
theorem fillF_whole (f : Fac) : WholeF (fillF f) := ⟨fromF_len _, fun z hz => by
  have hz : z ∈ f.items.map (fromOne f.items) := hz
  obtain ⟨x, -, rfl⟩ := List.mem_map.1 hz
  exact (fromOne_range _ _).2⟩
theorem rfPs_ok {f : Fac} (hw : WholeF f) : ∀ x ∈ rfPs f.frm f.frm.length, okP (f.items.length : Int) x = true := fun x hx => by
  unfold rfPs at hx
  obtain ⟨k, hk, rfl⟩ := List.mem_map.1 hx
  obtain ⟨h1, h2⟩ := List.mem_filter.1 hk
  have h1 := List.mem_range.1 h1
  have h2 := of_decide_eq_true h2
  have h3 := hw.len
  have h4 : f.frm.getD k 0 < (f.items.length : Int) := hw.lt _ (by rw [List.getD_eq_getElem?_getD, List.getElem?_eq_getElem h1]; exact List.getElem_mem h1)
  unfold okP inM
  simp only [Bool.and_eq_true, decide_eq_true_eq]
  omega
theorem rfM_good {f : Fac} (hw : WholeF f) (h : f.items.length ≤ 4096) : Good f.items.length (rfM f.items.length f.frm) ∧ ∀ i j : Nat, Rel (rfM f.items.length f.frm) i j ↔ j < f.items.length ∧ f.frm.getD j 0 = (i : Int) := by
  obtain ⟨h1, h2⟩ := foldP_facts h (rfPs f.frm f.frm.length) (rfPs_ok hw)
  refine ⟨h1, fun i j => ?_⟩
  unfold Rel rfM
  rw [h2 i j, decide_eq_true_eq, mem_rfPs, hw.len]
theorem orM_at {a b : List (List Nat)} {i : Nat} {r s : List Nat} (hr : a[i]? = some r) (hs : b[i]? = some s) : (orM a b)[i]? = some (orR r s) := by
  have hi := (List.getElem?_eq_some_iff.1 hr).1
  unfold orM
  rw [List.getElem?_map, List.getElem?_range hi, Option.map_some, getD_at hr, getD_at hs]
theorem orM_good {n : Nat} {a b : List (List Nat)} (ha : Good n a) (hb : Good n b) : Good n (orM a b) ∧ ∀ i j : Nat, Rel (orM a b) i j ↔ Rel a i j ∨ Rel b i j := by
  have hat : ∀ i, i < n → ∃ r s, a[i]? = some r ∧ b[i]? = some s ∧ (orM a b)[i]? = some (orR r s) := fun i hi => by
    obtain ⟨r, hr, -, -⟩ := ha.at_ hi
    obtain ⟨s, hs, -, -⟩ := hb.at_ hi
    exact ⟨r, s, hr, hs, orM_at hr hs⟩
  have hG : Good n (orM a b) := by
    refine ⟨ha.le, by rw [orM_len, ha.len], fun x hx => ?_⟩
    obtain ⟨i, hi⟩ := List.getElem?_of_mem hx
    have hil : i < n := by
      have := (List.getElem?_eq_some_iff.1 hi).1
      rwa [orM_len, ha.len] at this
    obtain ⟨r, s, hr, hs, ho⟩ := hat i hil
    rw [ho] at hi
    injection hi with hi
    subst hi
    have h1 := ha.row r (List.mem_of_getElem? hr)
    have h2 := hb.row s (List.mem_of_getElem? hs)
    have hl : (orR r s).length = r.length := by rw [orR_len, h1.2.2.1, h2.2.2.1]; omega
    refine ⟨orR_w64 h1.1 h2.1, by rw [hl]; exact h1.2.1, by rw [hl]; exact h1.2.2.1, fun j hj => ?_⟩
    rw [hasR_orR, h1.2.2.2 j hj, h2.2.2.2 j hj]; rfl
  refine ⟨hG, fun i j => ?_⟩
  unfold Rel
  by_cases hi : i < n
  · obtain ⟨r, s, hr, hs, ho⟩ := hat i hi
    rw [hasM_in ho, hasM_in hr, hasM_in hs, hasR_orR, Bool.or_eq_true]
  · rw [hasM_out (.inr (by rw [orM_len, ha.len]; omega)), hasM_out (.inr (by rw [ha.len]; omega)), hasM_out (.inr (by rw [hb.len]; omega))]; simp
/-- the edges of whole facts -/
theorem edgeM_good {f : Fac} (hw : WholeF f) (h : f.items.length ≤ 4096) : Good f.items.length (edgeM f) ∧ ∀ i j : Nat, Rel (edgeM f) i j ↔ aheadF f.items i j = true ∨ (j < f.items.length ∧ f.frm.getD j 0 = (i : Int)) := by
  have hp := poM_good h
  have hr := rfM_good hw h
  have ho := orM_good hp.1 hr.1
  refine ⟨ho.1, fun i j => ?_⟩
  rw [show edgeM f = orM (poM f.items) (rfM f.items.length f.frm) from rfl, ho.2, hr.2]
  unfold Rel
  rw [hp.2]
theorem coM_hull {f : Fac} (hw : WholeF f) (h : f.items.length ≤ 4096) : IsHull f.items.length (Rel (edgeM f)) (coM f) := closeK_hull (edgeM_good hw h).1
end Go.Proofs.YtbeigdbljepfkaaGreat

namespace Go.Proofs.YtbeigdbljepfkaaGreat
open Go.RowKit
set_option linter.unusedVariables false

/-- a conflict: two writes and a read -/
structure Ed where
  w1 : Int
  w2 : Int
  rd : Int
deriving DecidableEq
structure Ed.Ok (e : Ed) : Prop where
  a0 : -9223372036854775808 ≤ e.w1
  a1 : e.w1 < 9223372036854775808
  b0 : -9223372036854775808 ≤ e.w2
  b1 : e.w2 < 9223372036854775808
  r0 : -9223372036854775808 ≤ e.rd
  r1 : e.rd < 9223372036854775808
def encE : Enc Ed := { cells := fun e => [.int .i64 e.w1, .int .i64 e.w2, .int .i64 e.rd], sz := 3, pos := by decide, len := fun _ => rfl, one := fun x u h => by simp only [List.mem_cons, List.not_mem_nil, or_false] at h; rcases h with rfl | rfl | rfl <;> rfl, ok := Ed.Ok }
theorem LAt.edge {w : World} {A : Option Addr} {n k : Nat} {xs : List Ed} (h : LAt encE w A n xs) (hk : k < n) : ∃ b off x, A = some ⟨b, off, none⟩ ∧ b < w.heap.size ∧ xs[k]? = some x ∧ Ed.Ok x ∧
    w.cell? ⟨b, off + k * 3, none⟩ = some (.int .i64 x.w1) ∧ w.cell? ⟨b, off + k * 3 + 1, none⟩ = some (.int .i64 x.w2) ∧ w.cell? ⟨b, off + k * 3 + 2, none⟩ = some (.int .i64 x.rd) := by
  obtain ⟨b, off, x, e, hb, hx, hok, hc⟩ := h.at_ hk
  exact ⟨b, off, x, e, hb, hx, hok, hc 0 _ rfl, hc 1 _ rfl, hc 2 _ rfl⟩

/-- both are writes, to one variable -/
def bothW (is : List It) (a b : Nat) : Bool := match is[a]?, is[b]? with | some x, some y => x.wr && y.wr && decide (x.va = y.va) | _, _ => false
theorem bothW_at {is : List It} {a b : Nat} {x y : It} (hx : is[a]? = some x) (hy : is[b]? = some y) : bothW is a b = (x.wr && y.wr && decide (x.va = y.va)) := by unfold bothW; rw [hx, hy]
/-- the pairs of conflicts -/
def edP (l : List Ed) : List (Int × Int) := l.map fun e => (e.w1, e.w2)
end Go.Proofs.YtbeigdbljepfkaaGreat
