/- The contracts of slices.Equal at the parts of facts, and of the code's own Same. -/
import Derived.Test.YtmfcnlolfhkeeaaInternRefC
import Derived.Test.YtmfcnlolfhkeeaaHistA
namespace Go.Proofs.Ytmfcnlolfhkeeaa
open Go.RowKit
set_option linter.unusedVariables false
theorem list_eq_at {α : Type} {s t : List α} (hl : s.length = t.length) (h : ∀ i, i < s.length → s[i]? = t[i]?) : s = t := by
  apply List.ext_getElem?
  intro i
  by_cases hi : i < s.length
  · exact h i hi
  · rw [List.getElem?_eq_none (by omega), List.getElem?_eq_none (by omega)]
set_option maxRecDepth 100000 in
set_option maxHeartbeats 2000000 in
theorem equal_str (A B : Option Addr) (n c m d : Nat) (s t : List ByteArray) (w : World) (hX : LAt encS w A n s) (hY : LAt encS w B m t) (hn : n ≤ 9223372036854775807) (hm : m ≤ 9223372036854775807) :
    Calls Try.prog 28 #[.slice A n c, .slice B m d] w fun e w' => e = .returned (.bool (decide (s = t))) ∧ ∃ q, w' = w.drewN q := by
  have hXl := hX.len
  have hYl := hY.len
  by_cases hnm : n = m
  rotate_left
  · have hee : ((n : Int) != (m : Int)) = true := by simp; omega
    have hres : Hid (decide (s = t) = false) := Lib.hid (decide_eq_false (fun e => by subst e; omega))
    clear hnm hX hY
    replace hXl := Lib.hid hXl
    replace hYl := Lib.hid hYl
    go_enter Try.func28, Try.ntmps28
    go_wp2_with fail
    go_ret
    exact ⟨by rw [hres.out]; rfl, 0, rfl⟩
  subst hnm
  have hee : ((n : Int) != (n : Int)) = false := by simp
  replace hX := Lib.hid hX
  replace hY := Lib.hid hY
  replace hXl := Lib.hid hXl
  replace hYl := Lib.hid hYl
  go_enter Try.func28, Try.ntmps28
  go_wp2_with fail
  go_loopw [13] (fun t' wr => ∃ j q : Nat, j ≤ n ∧ t' = .int .i64 j ∧ Hid (∀ i, i < j → s[i]? = t[i]?) ∧ wr = w.drewN q) (fun t' _ => n - (intOf t').toNat)
  case atStart => exact ⟨0, 0, Nat.zero_le _, rfl, Lib.hid (fun i hi => absurd hi (by omega)), rfl⟩
  case round =>
    obtain ⟨j, q2, hj, rfl, hin, rfl⟩ := hrel
    by_cases hjl : j < n
    · have hjl' : (j : Int) < (n : Int) := by omega
      obtain ⟨b3, off3, x, rfl, hb3, hx, hok3, x0⟩ := hX.out.str hjl
      obtain ⟨b4, off4, y, rfl, hb4, hy, hok4, y0⟩ := hY.out.str hjl
      by_cases hxy : x = y
      · have e1 : (x.toList == y.toList) = true := by rw [hxy]; simp
        have hin' : Hid (∀ i, i < j + 1 → s[i]? = t[i]?) := Lib.hid (fun i hi => by
          rcases Nat.lt_succ_iff_lt_or_eq.1 hi with h1 | h1
          · exact hin.out i h1
          · subst h1; rw [hx, hy, hxy])
        clear hx hy hjl hxy
        go_wp2_with fail
        go_quiet (fail)
        go_wp2_with fail
        exact ⟨⟨j + 1, _, by omega, by go_num, hin', rfl⟩, by simp [intOf]; omega⟩
      · have hno : Hid (decide (s = t) = false) := Lib.hid (decide_eq_false (fun e => by subst e; rw [hx] at hy; injection hy with hy; exact hxy hy))
        have e1 : (x.toList == y.toList) = false := by
          cases e1 : (x.toList == y.toList) with
          | false => rfl
          | true => rw [beq_iff_eq] at e1; exact absurd (toList_inj e1) hxy
        clear hx hy hjl hxy
        go_wp2_with fail
        go_quiet (fail)
        go_wp2_with fail
        go_ret
        exact ⟨by rw [hno.out]; rfl, _, World.drewN_drewN _ _ _⟩
    · have hjn : j = n := by omega
      have hres := Lib.hid (decide_eq_true (list_eq_at (s := s) (t := t) (by rw [hXl.out, hYl.out]) (by rw [hXl.out, ← hjn]; exact hin.out)))
      have hlt' : ¬ (j : Int) < (n : Int) := by omega
      clear hin hjl hjn
      go_wp2_with fail
      go_ret
      exact ⟨by rw [hres.out]; rfl, _, rfl⟩
set_option maxRecDepth 100000 in
set_option maxHeartbeats 2000000 in
theorem equal_int (A B : Option Addr) (n c m d : Nat) (s t : List Int) (w : World) (hX : LAt encI w A n s) (hY : LAt encI w B m t) (hn : n ≤ 9223372036854775807) (hm : m ≤ 9223372036854775807) :
    Calls Try.prog 30 #[.slice A n c, .slice B m d] w fun e w' => e = .returned (.bool (decide (s = t))) ∧ ∃ q, w' = w.drewN q := by
  have hXl := hX.len
  have hYl := hY.len
  by_cases hnm : n = m
  rotate_left
  · have hee : ((n : Int) != (m : Int)) = true := by simp; omega
    have hres : Hid (decide (s = t) = false) := Lib.hid (decide_eq_false (fun e => by subst e; omega))
    clear hnm hX hY
    replace hXl := Lib.hid hXl
    replace hYl := Lib.hid hYl
    go_enter Try.func30, Try.ntmps30
    go_wp2_with fail
    go_ret
    exact ⟨by rw [hres.out]; rfl, 0, rfl⟩
  subst hnm
  have hee : ((n : Int) != (n : Int)) = false := by simp
  replace hX := Lib.hid hX
  replace hY := Lib.hid hY
  replace hXl := Lib.hid hXl
  replace hYl := Lib.hid hYl
  go_enter Try.func30, Try.ntmps30
  go_wp2_with fail
  go_loopw [13] (fun t' wr => ∃ j q : Nat, j ≤ n ∧ t' = .int .i64 j ∧ Hid (∀ i, i < j → s[i]? = t[i]?) ∧ wr = w.drewN q) (fun t' _ => n - (intOf t').toNat)
  case atStart => exact ⟨0, 0, Nat.zero_le _, rfl, Lib.hid (fun i hi => absurd hi (by omega)), rfl⟩
  case round =>
    obtain ⟨j, q2, hj, rfl, hin, rfl⟩ := hrel
    by_cases hjl : j < n
    · have hjl' : (j : Int) < (n : Int) := by omega
      obtain ⟨b3, off3, x, rfl, hb3, hx, hok3, x0⟩ := hX.out.int hjl
      obtain ⟨b4, off4, y, rfl, hb4, hy, hok4, y0⟩ := hY.out.int hjl
      by_cases hxy : x = y
      · have e1 : (x == y) = true := by rw [hxy]; simp
        have e2 : (x != y) = false := by rw [hxy]; simp
        have hin' : Hid (∀ i, i < j + 1 → s[i]? = t[i]?) := Lib.hid (fun i hi => by
          rcases Nat.lt_succ_iff_lt_or_eq.1 hi with h1 | h1
          · exact hin.out i h1
          · subst h1; rw [hx, hy, hxy])
        clear hx hy hjl hxy
        go_wp2_with fail
        go_quiet (fail)
        go_wp2_with fail
        exact ⟨⟨j + 1, _, by omega, by go_num, hin', rfl⟩, by simp [intOf]; omega⟩
      · have hno : Hid (decide (s = t) = false) := Lib.hid (decide_eq_false (fun e => by subst e; rw [hx] at hy; injection hy with hy; exact hxy hy))
        have e1 : (x == y) = false := by simpa using hxy
        have e2 : (x != y) = true := by simpa using hxy
        clear hx hy hjl hxy
        go_wp2_with fail
        go_quiet (fail)
        go_wp2_with fail
        go_ret
        exact ⟨by rw [hno.out]; rfl, _, World.drewN_drewN _ _ _⟩
    · have hjn : j = n := by omega
      have hres := Lib.hid (decide_eq_true (list_eq_at (s := s) (t := t) (by rw [hXl.out, hYl.out]) (by rw [hXl.out, ← hjn]; exact hin.out)))
      have hlt' : ¬ (j : Int) < (n : Int) := by omega
      clear hin hjl hjn
      go_wp2_with fail
      go_ret
      exact ⟨by rw [hres.out]; rfl, _, rfl⟩
set_option maxRecDepth 100000 in
set_option maxHeartbeats 2000000 in
theorem equal_it (A B : Option Addr) (n c m d : Nat) (s t : List It) (w : World) (hX : LAt encT w A n s) (hY : LAt encT w B m t) (hn : n ≤ 9223372036854775807) (hm : m ≤ 9223372036854775807) :
    Calls Try.prog 29 #[.slice A n c, .slice B m d] w fun e w' => e = .returned (.bool (decide (s = t))) ∧ ∃ q, w' = w.drewN q := by
  have hXl := hX.len
  have hYl := hY.len
  by_cases hnm : n = m
  rotate_left
  · have hee : ((n : Int) != (m : Int)) = true := by simp; omega
    have hres : Hid (decide (s = t) = false) := Lib.hid (decide_eq_false (fun e => by subst e; omega))
    clear hnm hX hY
    replace hXl := Lib.hid hXl
    replace hYl := Lib.hid hYl
    go_enter Try.func29, Try.ntmps29
    go_wp2_with fail
    go_ret
    exact ⟨by rw [hres.out]; rfl, 0, rfl⟩
  subst hnm
  have hee : ((n : Int) != (n : Int)) = false := by simp
  replace hX := Lib.hid hX
  replace hY := Lib.hid hY
  replace hXl := Lib.hid hXl
  replace hYl := Lib.hid hYl
  go_enter Try.func29, Try.ntmps29
  go_wp2_with fail
  go_loopw [13] (fun t' wr => ∃ j q : Nat, j ≤ n ∧ t' = .int .i64 j ∧ Hid (∀ i, i < j → s[i]? = t[i]?) ∧ wr = w.drewN q) (fun t' _ => n - (intOf t').toNat)
  case atStart => exact ⟨0, 0, Nat.zero_le _, rfl, Lib.hid (fun i hi => absurd hi (by omega)), rfl⟩
  case round =>
    obtain ⟨j, q2, hj, rfl, hin, rfl⟩ := hrel
    by_cases hjl : j < n
    · have hjl' : (j : Int) < (n : Int) := by omega
      obtain ⟨b3, off3, x, rfl, hb3, hx, hok3, x0, x1, x2, x3, x4⟩ := hX.out.item hjl
      obtain ⟨b4, off4, y, rfl, hb4, hy, hok4, y0, y1, y2, y3, y4⟩ := hY.out.item hjl
      obtain ⟨xa, xb, xc, xd, xe⟩ := x
      obtain ⟨ya, yb, yc, yd, ye⟩ := y
      simp only at x0 x1 x2 x3 x4 y0 y1 y2 y3 y4
      replace hok3 := Lib.hid hok3
      replace hok4 := Lib.hid hok4
      by_cases hxy : (⟨xa, xb, xc, xd, xe⟩ : It) = ⟨ya, yb, yc, yd, ye⟩
      · have hin' : Hid (∀ i, i < j + 1 → s[i]? = t[i]?) := Lib.hid (fun i hi => by
          rcases Nat.lt_succ_iff_lt_or_eq.1 hi with h1 | h1
          · exact hin.out i h1
          · subst h1; rw [hx, hy, hxy])
        injection hxy with h0 h1 h2 h3 h4
        have e0 : (xa == ya) = true := by rw [h0]; simp
        have e1 : (xb == yb) = true := by rw [h1]; simp
        have e2 : (xc == yc) = true := by rw [h2]; simp
        have e3 : (xd == yd) = true := by rw [h3]; simp
        have e4 : (xe == ye) = true := by rw [h4]; simp
        clear hx hy hjl h0 h1 h2 h3 h4
        go_wp2_with fail
        go_quiet (fail)
        go_wp2_with fail
        exact ⟨⟨j + 1, _, by omega, by go_num, hin', rfl⟩, by simp [intOf]; omega⟩
      · have hno : Hid (decide (s = t) = false) := Lib.hid (decide_eq_false (fun e => by subst e; rw [hx] at hy; injection hy with hy; exact hxy hy))
        have hcs : (xa == ya) = false ∨ ((xa == ya) = true ∧ (xb == yb) = false) ∨ ((xa == ya) = true ∧ (xb == yb) = true ∧ (xc == yc) = false) ∨ ((xa == ya) = true ∧ (xb == yb) = true ∧ (xc == yc) = true ∧ (xd == yd) = false) ∨ ((xa == ya) = true ∧ (xb == yb) = true ∧ (xc == yc) = true ∧ (xd == yd) = true ∧ (xe == ye) = false) := by
          cases e0 : (xa == ya) <;> cases e1 : (xb == yb) <;> cases e2 : (xc == yc) <;> cases e3 : (xd == yd) <;> cases e4 : (xe == ye) <;> simp
          simp only [beq_iff_eq] at e0 e1 e2 e3 e4
          exact hxy (by rw [e0, e1, e2, e3, e4])
        clear hx hy hjl hxy
        rcases hcs with e0 | ⟨e0, e1⟩ | ⟨e0, e1, e2⟩ | ⟨e0, e1, e2, e3⟩ | ⟨e0, e1, e2, e3, e4⟩
        all_goals (
          go_wp2_with fail
          go_quiet (fail)
          go_wp2_with fail
          go_ret
          exact ⟨by rw [hno.out]; rfl, _, World.drewN_drewN _ _ _⟩
          )
    · have hjn : j = n := by omega
      have hres := Lib.hid (decide_eq_true (list_eq_at (s := s) (t := t) (by rw [hXl.out, hYl.out]) (by rw [hXl.out, ← hjn]; exact hin.out)))
      have hlt' : ¬ (j : Int) < (n : Int) := by omega
      clear hin hjl hjn
      go_wp2_with fail
      go_ret
      exact ⟨by rw [hres.out]; rfl, _, rfl⟩
theorem intern_Same (u v : FV) (f g : Fac) (w : World) (hX : FactsAt w u f) (hY : FactsAt w v g) :
    Calls Try.prog 15 #[.agg #[.slice u.A u.n u.c, .slice u.B u.m u.d, .slice u.C u.k u.e], .agg #[.slice v.A v.n v.c, .slice v.B v.m v.d, .slice v.C v.k v.e]] w (RetBool (decide (f = g)) w) := by
  obtain ⟨W0, hW0⟩ : ∃ W, W = w.alloc (.cells #[.slice u.A u.n u.c, .slice u.B u.m u.d, .slice u.C u.k u.e] 27) := ⟨_, rfl⟩
  obtain ⟨W, hW⟩ : ∃ W, W = W0.alloc (.cells #[.slice v.A v.n v.c, .slice v.B v.m v.d, .slice v.C v.k v.e] 27) := ⟨_, rfl⟩
  have b0 : Below w.heap.size w W0 := by rw [hW0]; exact (Below.refl _ _).alloc (Nat.le_refl _) _
  have b1 : Below W0.heap.size W0 W := by rw [hW]; exact (Below.refl _ _).alloc (Nat.le_refl _) _
  have k0 : Blk W0 w.heap.size 27 [.slice u.A u.n u.c, .slice u.B u.m u.d, .slice u.C u.k u.e] := by rw [hW0]; exact Blk.new w _ _
  have k1 : Blk W W0.heap.size 27 [.slice v.A v.n v.c, .slice v.B v.m v.d, .slice v.C v.k v.e] := by rw [hW]; exact Blk.new W0 _ _
  replace k0 := k0.below b1 k0.lt
  have bb := Lib.hid (below_trans2 b0 b1)
  have hs0 : W0.heap.size = w.heap.size + 1 := by rw [hW0, World.size_alloc]
  rw [hs0] at k1
  have p0 := k0.cell 0
  have p1 := k0.cell 1
  have p2 := k0.cell 2
  have q0 := k1.cell 0
  have q1 := k1.cell 1
  have q2 := k1.cell 2
  have hXw := hX.below bb.out
  have hYw := hY.below bb.out
  have d0 := Nat.le_trans hX.vc hX.vm
  have d1 := Nat.le_trans hX.ic hX.im
  have d2 := Nat.le_trans hX.fc hX.fm
  have d3 := Nat.le_trans hY.vc hY.vm
  have d4 := Nat.le_trans hY.ic hY.im
  have d5 := Nat.le_trans hY.fc hY.fm
  have c1 := Lib.hid (equal_str u.A v.A u.n u.c v.n v.c f.vars g.vars W hXw.vs hYw.vs d0 d3)
  have c2 := Lib.hid (fun z => equal_it u.B v.B u.m u.d v.m v.d f.items g.items (W.drewN z) (hXw.is.below (below_drewN (Below.refl _ _) _)) (hYw.is.below (below_drewN (Below.refl _ _) _)) d1 d4)
  have c3 := Lib.hid (fun z => equal_int u.C v.C u.k u.e v.k v.e f.frm g.frm (W.drewN z) (hXw.fs.below (below_drewN (Below.refl _ _) _)) (hYw.fs.below (below_drewN (Below.refl _ _) _)) d2 d5)
  have hfg : decide (f = g) = (decide (f.vars = g.vars) && decide (f.items = g.items) && decide (f.frm = g.frm)) := by
    obtain ⟨f1, f2, f3⟩ := f
    obtain ⟨g1, g2, g3⟩ := g
    simp only [Fac.mk.injEq, Bool.decide_and, Bool.and_assoc]
  rw [hfg]
  clear b0 b1 k0 k1 hs0 hX hY hXw hYw hfg d0 d1 d2 d3 d4 d5
  cases h1 : decide (f.vars = g.vars) with
  | false =>
    rw [h1] at c1
    replace c1 := Lib.hid c1.out
    replace h1 := Lib.hid h1
    go_enter Try.func15, Try.ntmps15
    go_wp2_with (rw [← hW0, ← hW]; clear hW hW0)
    refine c1.out.mono ?_; rintro e w1 ⟨rfl, z, rfl⟩
    go_wp2_with fail
    go_ret
    exact ⟨rfl, below_drewN bb.out _⟩
  | true =>
    rw [h1] at c1
    replace c1 := Lib.hid c1.out
    replace h1 := Lib.hid h1
    cases h2 : decide (f.items = g.items) with
    | false =>
      rw [h2] at c2
      replace c2 := Lib.hid c2.out
      replace h2 := Lib.hid h2
      go_enter Try.func15, Try.ntmps15
      go_wp2_with (rw [← hW0, ← hW]; clear hW hW0)
      refine c1.out.mono ?_; rintro e w1 ⟨rfl, z, rfl⟩
      go_wp2_with fail
      refine (c2.out z).mono ?_; rintro e w1 ⟨rfl, z2, rfl⟩
      go_wp2_with fail
      go_ret
      exact ⟨rfl, below_drewN bb.out _⟩
    | true =>
      rw [h2] at c2
      replace c2 := Lib.hid c2.out
      replace h2 := Lib.hid h2
      obtain ⟨r3, hr3⟩ : ∃ r3, r3 = decide (f.frm = g.frm) := ⟨_, rfl⟩
      rw [← hr3] at c3 ⊢
      replace hr3 := Lib.hid hr3
      go_enter Try.func15, Try.ntmps15
      go_wp2_with (rw [← hW0, ← hW]; clear hW hW0)
      refine c1.out.mono ?_; rintro e w1 ⟨rfl, z, rfl⟩
      go_wp2_with fail
      refine (c2.out z).mono ?_; rintro e w1 ⟨rfl, z2, rfl⟩
      rw [World.drewN_drewN]
      go_wp2_with fail
      refine (c3.out _).mono ?_; rintro e w1 ⟨rfl, z3, rfl⟩
      go_wp2_with fail
      go_ret
      exact ⟨by simp, below_drewN bb.out _⟩
end Go.Proofs.Ytmfcnlolfhkeeaa
