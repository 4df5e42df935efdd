/- The code's own contract of layer 19: Find. -/
import Derived.Test.YtjhjojklfdjmdaaGreatBadFieldsPk15
namespace Go.Proofs.YtjhjojklfdjmdaaGreat
open Go.RowKit
set_option linter.unusedVariables false
theorem kinds_in {l z : Int} {i : Nat} (h : (kindsF l)[i]? = some z) : z = 1 ∨ z = 2 ∨ z = 3 ∨ z = 4 ∨ z = 5 ∨ z = 6 ∨ z = 7 := by
  have hm := List.mem_of_getElem? h
  unfold kindsF at hm
  split at hm
  · simp only [List.mem_cons, List.not_mem_nil, or_false] at hm; omega
  · split at hm
    · simp only [List.mem_cons, List.not_mem_nil, or_false] at hm; omega
    · split at hm
      · simp only [List.mem_cons, List.not_mem_nil, or_false] at hm; omega
      · cases hm
theorem kinds_prev {l z : Int} {i : Nat} (h : (kindsF l)[i]? = some z) (hz : 6 ≤ z) : (2 : Int) ∈ (kindsF l).take i ∧ (3 : Int) ∈ (kindsF l).take i := by
  unfold kindsF at h ⊢
  split at h
  · rcases i with _ | _ | _ | _ | i <;> simp at h <;> omega
  · rename_i h1
    split at h
    · rcases i with _ | _ | _ | _ | _ | i <;> simp at h <;> omega
    · rename_i h2
      split at h
      · rename_i h3
        rw [if_neg h1, if_neg h2, if_pos h3]
        rcases i with _ | _ | _ | _ | _ | _ | i <;> simp at h ⊢ <;> omega
      · cases h
theorem kinds_next {l z z' : Int} {i : Nat} (h : (kindsF l)[i]? = some z) (h' : (kindsF l)[i + 1]? = some z') : (z ≤ 5 → z' ≤ 6) ∧ (z = 6 → z' = 7) ∧ z ≠ 7 := by
  unfold kindsF at h h'
  split at h
  · rename_i h1
    rw [if_pos h1] at h'
    rcases i with _ | _ | _ | _ | i <;> simp at h h' <;> omega
  · rename_i h1
    rw [if_neg h1] at h'
    split at h
    · rename_i h2
      rw [if_pos h2] at h'
      rcases i with _ | _ | _ | _ | _ | i <;> simp at h h' <;> omega
    · rename_i h2
      rw [if_neg h2] at h'
      split at h
      · rename_i h3
        rw [if_pos h3] at h'
        rcases i with _ | _ | _ | _ | _ | _ | i <;> simp at h h' <;> omega
      · cases h
theorem sees6_all {f : Fac} (h : seesF f (coM f) 6 = none) : ∀ o, o < f.items.length → missB f o = false := fun o ho => by
  unfold seesF at h
  have h1 := List.findSome?_eq_none_iff.1 h o (List.mem_range.2 ho)
  rw [if_pos rfl, Option.map_eq_none_iff] at h1
  unfold missB
  rw [h1]; rfl
theorem kinds_first {l z : Int} (h : (kindsF l)[0]? = some z) : z = 1 := by
  unfold kindsF at h
  split at h
  · simp at h; omega
  · split at h
    · simp at h; omega
    · split at h
      · simp at h; omega
      · cases h
/-- what is known of the readers when kind z is looked for -/
def LkInv (f : Fac) (m : Nat) (z : Int) (R : Value) (U : World) : Prop := (z ≤ 6 → R = .slice none 0 0) ∧ (z = 7 → ∃ B, RdsAt f m B R U ∧ ∀ y ∈ ldF f m, missB f y.toNat = false)
/-- .. and behind it, when there was none -/
def LkNext (f : Fac) (m : Nat) (z : Int) (R : Value) (U : World) : Prop := (z ≤ 5 → R = .slice none 0 0) ∧ (z = 6 → ∃ B, RdsAt f m B R U ∧ ∀ y ∈ ldF f m, missB f y.toNat = false)
theorem LkInv.later {f : Fac} {m : Nat} {z : Int} {R : Value} {U U' : World} (h : LkInv f m z R U) (hb : Below U.heap.size U U') : LkInv f m z R U' :=
  ⟨h.1, fun hz => by
    obtain ⟨B, h1, h2⟩ := h.2 hz
    exact ⟨B, h1.later hb, h2⟩⟩
theorem LkNext.inv {f : Fac} {m : Nat} {l z z' : Int} {i : Nat} {R : Value} {U : World} (h : LkNext f m z R U) (hz : (kindsF l)[i]? = some z) (hz' : (kindsF l)[i + 1]? = some z') : LkInv f m z' R U := by
  obtain ⟨h1, h2, h3⟩ := kinds_next hz hz'
  have h4 := kinds_in hz
  refine ⟨fun h5 => h.1 ?_, fun h5 => h.2 ?_⟩
  · omega
  · omega
/-- what looks for the patterns of kind z: whether there is one, the first one in the variable at g -/
def RetLook (w0 : World) (v : FV) (f : Fac) (A : Option Addr) (c s g : Nat) (z : Int) (U : World) (e : Ending) (U' : World) : Prop :=
  ∃ (x : Wit) (R : Value), x = (kindF f z).getD (noneW z) ∧ e = .returned (.bool (kindF f z).isSome) ∧ Blk U' g 34 [.int .i64 x.ki, .int .i64 x.r, .int .i64 x.w1, .int .i64 x.w2, .int .i64 x.o, .slice none 0 0, .int .i64 x.fi, .int .i64 x.se] ∧ SrAt w0 v f A c s R U' ∧ But2 g s U U' ∧ (kindF f z = none → LkNext f v.m z R U')
section
variable {w0 U U' : World} {v : FV} {f : Fac} {A : Option Addr} {c s g : Nat} {R : Value} {e : Ending}
theorem RetLk.look {z : Int} {o : Option Wit} (h : RetLk g z o U e U') (ho : kindF f z = o) (hS : SrAt w0 v f A c s R U) (hne : g ≠ s) (h0 : w0.heap.size ≤ g) (hz : z ≤ 5) (hR : R = .slice none 0 0) : RetLook w0 v f A c s g z U e U' := by
  obtain ⟨x, h1, h2, h3, h4⟩ := h
  exact ⟨x, R, by rw [ho]; exact h1, by rw [ho]; exact h2, h3, hS.but h4 hne h0, But2.ofL h4, fun _ => ⟨fun _ => hR, fun h6 => by omega⟩⟩
theorem RetLk6.look (h : RetLk6 w0 v f A c s g 6 U e U') (hE : EnvB v f) : RetLook w0 v f A c s g 6 U e U' := by
  obtain ⟨x, R', h1, h2, h3, h4, h5, h6⟩ := h
  have hk : kindF f 6 = seesF f (coM f) 6 := by unfold kindF; rw [if_neg (by decide), if_neg (by decide), if_neg (by decide), if_neg (by decide), if_neg (by decide)]
  refine ⟨x, R', by rw [hk]; exact h1, by rw [hk]; exact h2, h3, h4, h5, fun hn => ⟨fun h7 => absurd h7 (by decide), fun _ => ⟨_, h6, fun y hy => ?_⟩⟩⟩
  rw [hk] at hn
  obtain ⟨q, it, rfl, hq, -⟩ := (ldF_is hE.hx.nb v.m (by rw [hE.hil]; exact Nat.le_refl _)).inn y hy
  rw [Int.toNat_natCast]
  exact sees6_all hn q (by rw [hE.hil]; exact hq)
theorem RetLk7.look (h : RetLk7 w0 v f A c s g 7 U e U') : RetLook w0 v f A c s g 7 U e U' := by
  obtain ⟨x, R', h1, h2, h3, h4, h5⟩ := h
  have hk : kindF f 7 = seesF f (coM f) 7 := by unfold kindF; rw [if_neg (by decide), if_neg (by decide), if_neg (by decide), if_neg (by decide), if_neg (by decide)]
  exact ⟨x, R', by rw [hk]; exact h1, by rw [hk]; exact h2, h3, h4, h5, fun _ => ⟨fun h7 => absurd h7 (by decide), fun h7 => absurd h7 (by decide)⟩⟩
theorem look1 (hE : EnvB v f) (hS : SrAt w0 v f A c s R U) (hne : g ≠ s) (h0 : w0.heap.size ≤ g) (hI : LkInv f v.m 1 R U) (hW : Blk U g 34 [.int .i64 1, .int .i64 (-1), .int .i64 (-1), .int .i64 (-1), .int .i64 (-1), .slice none 0 0, .int .i64 (-1), .int .i64 (-1)]) :
    Calls Tryz.prog 30 #[.pointer (some ⟨s, 0, none⟩), .pointer (some ⟨g, 0, none⟩)] U (RetLook w0 v f A c s g 1 U) :=
  (bad_thin g U hE hS hW).mono fun _ _ h => h.look (by unfold kindF; rw [if_pos rfl]) hS hne h0 (by decide) (hI.1 (by decide))
theorem look2 (hE : EnvB v f) (hS : SrAt w0 v f A c s R U) (hne : g ≠ s) (h0 : w0.heap.size ≤ g) (hI : LkInv f v.m 2 R U) (hW : Blk U g 34 [.int .i64 2, .int .i64 (-1), .int .i64 (-1), .int .i64 (-1), .int .i64 (-1), .slice none 0 0, .int .i64 (-1), .int .i64 (-1)]) :
    Calls Tryz.prog 31 #[.pointer (some ⟨s, 0, none⟩), .pointer (some ⟨g, 0, none⟩)] U (RetLook w0 v f A c s g 2 U) :=
  (bad_cyclicCO g U hE hS hW).mono fun _ _ h => h.look (by unfold kindF; rw [if_neg (by decide), if_pos rfl, hE.hil]) hS hne h0 (by decide) (hI.1 (by decide))
theorem look3 (hE : EnvB v f) (hS : SrAt w0 v f A c s R U) (hne : g ≠ s) (h0 : w0.heap.size ≤ g) (hI : LkInv f v.m 3 R U) (hW : Blk U g 34 [.int .i64 3, .int .i64 (-1), .int .i64 (-1), .int .i64 (-1), .int .i64 (-1), .slice none 0 0, .int .i64 (-1), .int .i64 (-1)]) :
    Calls Tryz.prog 32 #[.pointer (some ⟨s, 0, none⟩), .pointer (some ⟨g, 0, none⟩)] U (RetLook w0 v f A c s g 3 U) :=
  (bad_coInit g U hE hS hW).mono fun _ _ h => h.look (by unfold kindF; rw [if_neg (by decide), if_neg (by decide), if_pos rfl, hE.hil]; rfl) hS hne h0 (by decide) (hI.1 (by decide))
theorem look4 (hE : EnvB v f) (hS : SrAt w0 v f A c s R U) (hne : g ≠ s) (h0 : w0.heap.size ≤ g) (hI : LkInv f v.m 4 R U) (hW : Blk U g 34 [.int .i64 4, .int .i64 (-1), .int .i64 (-1), .int .i64 (-1), .int .i64 (-1), .slice none 0 0, .int .i64 (-1), .int .i64 (-1)]) :
    Calls Tryz.prog 33 #[.pointer (some ⟨s, 0, none⟩), .pointer (some ⟨g, 0, none⟩)] U (RetLook w0 v f A c s g 4 U) :=
  (bad_coRead g U hE hS hW).mono fun _ _ h => h.look (by unfold kindF; rw [if_neg (by decide), if_neg (by decide), if_neg (by decide), if_pos rfl]) hS hne h0 (by decide) (hI.1 (by decide))
theorem look5 (hE : EnvB v f) (hS : SrAt w0 v f A c s R U) (hne : g ≠ s) (h0 : w0.heap.size ≤ g) (hI : LkInv f v.m 5 R U) (hW : Blk U g 34 [.int .i64 5, .int .i64 (-1), .int .i64 (-1), .int .i64 (-1), .int .i64 (-1), .slice none 0 0, .int .i64 (-1), .int .i64 (-1)]) :
    Calls Tryz.prog 34 #[.pointer (some ⟨s, 0, none⟩), .pointer (some ⟨g, 0, none⟩)] U (RetLook w0 v f A c s g 5 U) :=
  (bad_cyclicCF g U hE hS hW).mono fun _ _ h => h.look (by unfold kindF; rw [if_neg (by decide), if_neg (by decide), if_neg (by decide), if_neg (by decide), if_pos rfl, hE.hil]) hS hne h0 (by decide) (hI.1 (by decide))
theorem look6 (hE : EnvB v f) (hS : SrAt w0 v f A c s R U) (hne : g ≠ s) (h0 : w0.heap.size ≤ g) (hI : LkInv f v.m 6 R U) (hk : kindF f 2 = none ∧ kindF f 3 = none) (hW : Blk U g 34 [.int .i64 6, .int .i64 (-1), .int .i64 (-1), .int .i64 (-1), .int .i64 (-1), .slice none 0 0, .int .i64 (-1), .int .i64 (-1)]) :
    Calls Tryz.prog 35 #[.pointer (some ⟨s, 0, none⟩), .pointer (some ⟨g, 0, none⟩)] U (RetLook w0 v f A c s g 6 U) := by
  have hR := hI.1 (by decide)
  subst hR
  exact (bad_six g U hE hS hne h0 hk.1 hk.2 hW).mono fun _ _ h => h.look hE
theorem look7 (hE : EnvB v f) (hS : SrAt w0 v f A c s R U) (hne : g ≠ s) (h0 : w0.heap.size ≤ g) (hI : LkInv f v.m 7 R U) (hk : kindF f 2 = none ∧ kindF f 3 = none) (hW : Blk U g 34 [.int .i64 7, .int .i64 (-1), .int .i64 (-1), .int .i64 (-1), .int .i64 (-1), .slice none 0 0, .int .i64 (-1), .int .i64 (-1)]) :
    Calls Tryz.prog 36 #[.pointer (some ⟨s, 0, none⟩), .pointer (some ⟨g, 0, none⟩)] U (RetLook w0 v f A c s g 7 U) := by
  obtain ⟨B, h1, h2⟩ := hI.2 rfl
  exact (bad_seven g B U hE hS h1 h2 hne h0 hk.1 hW).mono fun _ _ h => h.look
end
set_option maxRecDepth 100000 in
set_option maxHeartbeats 2000000 in
theorem bad_Find (v : FV) (f : Fac) (l : Int) (w : World) (hF : FactsAt w v f) (hvm : v.m < 64) (hw : WholeF f) (hx : SeenX v f) :
    Calls Tryz.prog 9 #[.agg #[.slice v.A v.n v.c, .slice v.B v.m v.d, .slice v.C v.k v.e], .int .i64 l] w (RetFind (findF f l) (findE f l) w) := by
  have hE : EnvB v f := ⟨hw, hvm, hx, hF.is.len⟩
  have hEh := Lib.hid hE
  obtain ⟨ks, hks⟩ : ∃ k, k = kindsF l := ⟨_, rfl⟩
  have hfF : Hid (findF f l = ks.findSome? (kindF f)) := Lib.hid (by rw [hks]; rfl)
  have hfE : Hid (findE f l = if ks.isEmpty = true then 1 else if (findF f l).isSome = true then 0 else 8) := Lib.hid (by rw [hks]; rfl)
  have hkl : ks.length ≤ 6 := by rw [hks]; unfold kindsF; split; decide; split; decide; split; decide; decide
  have hCl := Lib.hid hE.good.len
  have hpos := Lib.hid (fun h0 => rows_len_pos hE.good h0)
  -- a call with facts v: they are boxed at g, the world is W0 then
  have hB0 := Lib.hid (FBox.new hF)
  obtain ⟨g, hg⟩ : ∃ g, g = w.heap.size := ⟨_, rfl⟩
  obtain ⟨W0, hW0⟩ : ∃ W, W = w.alloc (.cells #[.slice v.A v.n v.c, .slice v.B v.m v.d, .slice v.C v.k v.e] 29) := ⟨_, rfl⟩
  rw [← hW0, ← hg] at hB0
  clear hF
  -- a result's variable (a pattern, zero) in the world W0: W1, gr; kR
  obtain ⟨W1, hW1⟩ : ∃ W, W = World.alloc W0 (.cells #[.int .i64 0, .int .i64 0, .int .i64 0, .int .i64 0, .int .i64 0, .slice none 0 0, .int .i64 0, .int .i64 0] 34) := ⟨_, rfl⟩
  obtain ⟨gr, hgr⟩ : ∃ g, g = (World.heap W0).size := ⟨_, rfl⟩
  have bW1 : Below (World.heap W0).size W0 W1 := by rw [hW1]; exact below_alloc _ _
  have kR := Lib.hid (show Blk W1 gr 34 [.int .i64 0, .int .i64 0, .int .i64 0, .int .i64 0, .int .i64 0, .slice none 0 0, .int .i64 0, .int .i64 0] from by rw [hW1, hgr]; exact Blk.new W0 _ _)
  have hB1 := Lib.hid (hB0.out.later bW1)
  have hgrw := Lib.hid (show w.heap.size ≤ gr from by rw [hgr]; exact hB0.out.o.size)
  clear hB0 bW1
  have cK := bad_Kinds l W1
  rw [← hks] at cK
  replace cK := Lib.hid cK
  replace hks := Lib.hid hks
  have cC := Lib.hid (fun W hW => cause_Co v f W hW hvm hw hx.nb)
  clear hw hx hE
  go_enter Tryz.func9, Tryz.ntmps9
  go_wp2_with (first | (rw [← hW0, ← hg]; clear hW0 hg) | (rw [← hW1, ← hgr]; clear hW1; replace hgr := Lib.hid hgr))
  refine cK.out.mono ?_; rintro e w2 ⟨A0, n, c0, rfl, hL, hnc, hcm, b2⟩
  have hB := Lib.hid (hB1.out.later b2)
  have kQ1 := Lib.hid (kR.out.below b2 kR.out.lt)
  have hln := hL.len
  have hn6 : n ≤ 6 := by omega
  replace hL := Lib.hid hL
  replace hnc := Lib.hid hnc
  clear b2 hB1 kR cK hkl
  by_cases hn0 : n = 0
  · have e0 : ((n : Int) == 0) = true := by rw [hn0]; rfl
    have hke : ks = [] := List.eq_nil_of_length_eq_zero (by omega)
    have hans : Hid (findF f l = none) := Lib.hid (by rw [hfF.out, hke]; rfl)
    have here : Hid (findE f l = 1) := Lib.hid (by rw [hfE.out, hke]; rfl)
    replace hn0 := Lib.hid hn0
    replace hke := Lib.hid hke
    replace hln := Lib.hid hln
    have kQ := kQ1.out
    have bV := hB.out.o
    clear kQ1
    -- the cells 0 .. are stored into the result's variable gr: kQ : Blk there (zero), bV : Below w.heap.size w ..; the answer is the pattern zeroW (hans), the error 1
    -- the cells of a pattern's variable: kQ : Blk W g Witness [8 cells]: c0 .. c7 (and $f0 .. : not frozen)
    have z0c := Blk.cell kQ 0
    have z1c := Blk.cell kQ 1
    have z2c := Blk.cell kQ 2
    have z3c := Blk.cell kQ 3
    have z4c := Blk.cell kQ 4
    have z5c := Blk.cell kQ 5
    have z6c := Blk.cell kQ 6
    have z7c := Blk.cell kQ 7
    simp only [List.getElem?_cons_zero, List.getElem?_cons_succ] at z0c z1c z2c z3c z4c z5c z6c z7c
    have z0fz := Blk.frozen kQ 0
    have z1fz := Blk.frozen kQ 1
    have z2fz := Blk.frozen kQ 2
    have z3fz := Blk.frozen kQ 3
    have z4fz := Blk.frozen kQ 4
    have z5fz := Blk.frozen kQ 5
    have z6fz := Blk.frozen kQ 6
    have z7fz := Blk.frozen kQ 7
    have kN := kQ.put8 (.int .i64 0) (.int .i64 0) (.int .i64 0) (.int .i64 0) (.int .i64 0) (.slice none 0 0) (.int .i64 0) (.int .i64 0)
    -- the cells of a pattern's variable: kN : Blk W g Witness [8 cells]: d0 .. d7 (and $f0 .. : not frozen)
    have z0d := Blk.cell kN 0
    have z1d := Blk.cell kN 1
    have z2d := Blk.cell kN 2
    have z3d := Blk.cell kN 3
    have z4d := Blk.cell kN 4
    have z5d := Blk.cell kN 5
    have z6d := Blk.cell kN 6
    have z7d := Blk.cell kN 7
    simp only [List.getElem?_cons_zero, List.getElem?_cons_succ] at z0d z1d z2d z3d z4d z5d z6d z7d
    have hbf := Lib.hid (below_put8 bV (g := gr) hgrw.out (.int .i64 0) (.int .i64 0) (.int .i64 0) (.int .i64 0) (.int .i64 0) (.slice none 0 0) (.int .i64 0) (.int .i64 0))
    have hdd := Lib.hid (And.intro z0d (And.intro z1d (And.intro z2d (And.intro z3d (And.intro z4d (And.intro z5d (And.intro z6d z7d)))))))
    clear kN kQ bV z0d z1d z2d z3d z4d z5d z6d z7d
    go_wp2_with fail
    obtain ⟨d0, d1, d2, d3, d4, d5, d6, d7⟩ := hdd.out
    exact bodyPost_ret (v := .tuple #[.agg #[.int .i64 0, .int .i64 0, .int .i64 0, .int .i64 0, .int .i64 0, .slice none 0 0, .int .i64 0, .int .i64 0], .int .i64 1]) (by simp [results, Tryz.results9, go_sem, d0, d1, d2, d3, d4, d5, d6, d7]) rfl ⟨zeroW, by rw [hans.out] <;> rfl, by rw [here.out] <;> rfl, hbf.out⟩
  · have e0 : ((n : Int) == 0) = false := by simp; omega
    have hne0 : Hid (ks.isEmpty = false) := Lib.hid (by cases h : ks with | nil => rw [h] at hln; simp at hln; omega | cons _ _ => rfl)
    replace hn0 := Lib.hid hn0
    replace hln := Lib.hid hln
    go_wp2_with fail
    refine wp_region_tree (.flt 0 (.flt 1 (.two 2 4 (.flt 3 (.one 4 (.one 5 .done))) (.one 2 (.flt 3 (.one 5 .done)))))) (by kernel_rfl) (by kernel_rfl) (fun V hV => ?_)
    have hV' : Below w2.heap.size w2 V := by rw [hV.out]; exact (Below.refl _ _).drew
    have hBV := Lib.hid (hB.out.later hV')
    replace kQ1 := Lib.hid (kQ1.out.below hV' kQ1.out.lt)
    replace hL := Lib.hid (hL.out.below hV')
    clear hV hV' hB
    have bW : Below V.heap.size V V := Below.refl _ _
    apply cut_four19 (F := fun (s : Nat) (w9 : World) (A : Option Addr) (c : Nat) => SrAt w9 v f A c s (.slice none 0 0) w9 ∧ V.heap.size ≤ s ∧ Below V.heap.size V w9)
    · intro key
      have p0 := hBV.out.c0
      have p1 := hBV.out.c1
      have p2 := hBV.out.c2
      iterate 2
        refine wpPT_float (v := ?_) rfl (by rfl) (fun w' hw' => ?_) (fun K hK => ?_)
        rotate_left
        · (go_simp; try with_reducible rfl)
        go_simp
        refine hK _ ?_
        clear hK K
      clear p0 p1 p2
      refine wpPT_two rfl (by rfl) rfl (by rfl) (fun K hK => ?_) (fun K hK => ?_)
      · skip
        go_simp
        refine (cC.out V (hBV.out.later bW).f).mono ?_; rintro e v1 ⟨A, nA, c, rfl, rA, hcA, b⟩
        obtain rfl : nA = v.m := by rw [← rA.len]; exact hCl.out
        replace bW := below_trans2 bW b
        refine hK _ _ bW ?_
        clear hK K
        iterate 1
          refine wpPT_float (v := ?_) rfl (by rfl) (fun w' hw' => ?_) (fun K hK => ?_)
          rotate_left
          · (go_simp; try with_reducible rfl)
          go_simp
          refine hK _ ?_
          clear hK K
        refine wpPT_one rfl (by rfl) (fun K hK => ?_)
        have hf1 := (hBV.out.later b).f
        clear b
        go_simp
        obtain ⟨M, hM⟩ : ∃ M, M = (World.heap v1).size := ⟨_, rfl⟩
        obtain ⟨v2, hw⟩ : ∃ X : World, X = World.alloc v1 (.cells #[.slice none 0 0, .slice none 0 0, .slice none 0 0, .int .i64 0, .slice none 0 0, .slice none 0 0] 61) := ⟨_, rfl⟩
        rw [← hw, ← hM]
        have b : Below (World.heap v1).size v1 v2 := by rw [hw]; exact below_alloc _ _
        have hUM : V.heap.size ≤ M := by rw [hM]; exact bW.size
        replace bW := below_trans2 bW b
        refine hK _ _ bW ?_
        clear hK K
        have kM := Lib.hid (show Blk v2 M 61 [.slice none 0 0, .slice none 0 0, .slice none 0 0, .int .i64 0, .slice none 0 0, .slice none 0 0] from by rw [hw, hM]; exact Blk.new _ _ _)
        have hkp := Lib.hid (show ∀ U', BelowB M v2 U' → FactsAt U' v f ∧ RowsAt U' A v.m (coM f) from fun U' hU' => by
          have hb1 : Below v1.heap.size v1 U' := b.trans (hU'.below b.size (Nat.le_of_eq hM.symm))
          exact ⟨hf1.below hb1, rA.below hb1⟩)
        clear hM hw b rA hf1
        -- the facts and the matrix are stored into M; hkp : they stay while nothing but M changes
        have f0 := kM.out.frozen 0
        have f1 := kM.out.frozen 1
        have f2 := kM.out.frozen 2
        have f3 := kM.out.frozen 3
        have f4 := kM.out.frozen 4
        have f5 := kM.out.frozen 5
        have g0 := kM.out.cell 0
        have g1 := kM.out.cell 1
        have g2 := kM.out.cell 2
        have g3 := kM.out.cell 3
        have g4 := kM.out.cell 4
        have g5 := kM.out.cell 5
        simp only [List.getElem?_cons_zero, List.getElem?_cons_succ] at g0 g1 g2 g3 g4 g5
        refine wpPT_one rfl (by rfl) (fun K hK => ?_)
        go_simp
        obtain ⟨wz, hw⟩ : ∃ X : World, X = (((((World.setCell v2 ⟨M, 0, none⟩ (.slice v.A v.n v.c)).setCell ⟨M, 1, none⟩ (.slice v.B v.m v.d)).setCell ⟨M, 2, none⟩ (.slice v.C v.k v.e)).setCell ⟨M, 3, none⟩ (.int .i64 (v.m : Int))).setCell ⟨M, 4, none⟩ (.slice A v.m c)).setCell ⟨M, 5, none⟩ (.slice none 0 0) := ⟨_, rfl⟩
        rw [← hw]
        have kN : Blk wz M 61 [.slice v.A v.n v.c, .slice v.B v.m v.d, .slice v.C v.k v.e, .int .i64 (v.m : Int), .slice A v.m c, .slice none 0 0] := by rw [hw]; exact (((((kM.out.set_ 0 _).set_ 1 _).set_ 2 _).set_ 3 _).set_ 4 _).set_ 5 _
        have hbz : BelowB M v2 wz := by rw [hw]; exact ((((((BelowB.refl M v2).setG19 0 _).setG19 1 _).setG19 2 _).setG19 3 _).setG19 4 _).setG19 5 _
        have hSn := Lib.hid (show SrAt wz v f A c M (.slice none 0 0) wz from ⟨fun U' hU' => hkp.out U' (hbz.trans hU'), hcA, BelowB.refl _ _, kN.lt, kN⟩)
        replace bW : Below V.heap.size V wz := bW.trans (hbz.below bW.size hUM)
        refine hK _ _ bW ?_
        clear hK K f0 f1 f2 f3 f4 f5 g0 g1 g2 g3 g4 g5 hw kM kN hbz hkp
        refine wpPT_done (NoPanic.normal ?_)
        exact key M wz A c ⟨hSn.out, hUM, bW⟩
      · skip
        go_simp
        obtain ⟨M, hM⟩ : ∃ M, M = (World.heap V).size := ⟨_, rfl⟩
        obtain ⟨v3, hw⟩ : ∃ X : World, X = World.alloc V (.cells #[.slice none 0 0, .slice none 0 0, .slice none 0 0, .int .i64 0, .slice none 0 0, .slice none 0 0] 61) := ⟨_, rfl⟩
        rw [← hw, ← hM]
        have b : Below (World.heap V).size V v3 := by rw [hw]; exact below_alloc _ _
        have hUM : V.heap.size ≤ M := by rw [hM]; exact bW.size
        replace bW := below_trans2 bW b
        refine hK _ _ bW ?_
        clear hK K
        have kM := Lib.hid (show Blk v3 M 61 [.slice none 0 0, .slice none 0 0, .slice none 0 0, .int .i64 0, .slice none 0 0, .slice none 0 0] from by rw [hw, hM]; exact Blk.new _ _ _)
        have hf1 := hBV.out.f
        have hMV := Lib.hid (show M = V.heap.size from hM)
        have b3 := b
        clear hM hw b
        refine wpPT_one rfl (by rfl) (fun K hK => ?_)
        go_simp
        refine (cC.out v3 (hBV.out.later bW).f).mono ?_; rintro e v4 ⟨A, nA, c, rfl, rA, hcA, b⟩
        obtain rfl : nA = v.m := by rw [← rA.len]; exact hCl.out
        replace bW := below_trans2 bW b
        refine hK _ _ bW ?_
        clear hK K
        have kM4 := kM.out.below b kM.out.lt
        have hkp := Lib.hid (show ∀ U', BelowB M v4 U' → FactsAt U' v f ∧ RowsAt U' A v.m (coM f) from fun U' hU' => by
          have hb1 : Below V.heap.size V U' := (below_trans2 b3 b).trans (hU'.below (below_trans2 b3 b).size (Nat.le_of_eq hMV.out.symm))
          exact ⟨hf1.below hb1, rA.keptB19 kM4 nou19 (rA.farC19 kM4 zero19 (fun xs hxs => hpos.out (by have h1 := hCl.out; have h2 := List.length_pos_of_mem hxs; omega) xs hxs)) hU'⟩)
        replace kM := Lib.hid kM4
        clear b b3 kM4 rA hf1 hMV
        iterate 1
          refine wpPT_float (v := ?_) rfl (by rfl) (fun w' hw' => ?_) (fun K hK => ?_)
          rotate_left
          · (go_simp; try with_reducible rfl)
          go_simp
          refine hK _ ?_
          clear hK K
        -- the facts and the matrix are stored into M; hkp : they stay while nothing but M changes
        have f0 := kM.out.frozen 0
        have f1 := kM.out.frozen 1
        have f2 := kM.out.frozen 2
        have f3 := kM.out.frozen 3
        have f4 := kM.out.frozen 4
        have f5 := kM.out.frozen 5
        have g0 := kM.out.cell 0
        have g1 := kM.out.cell 1
        have g2 := kM.out.cell 2
        have g3 := kM.out.cell 3
        have g4 := kM.out.cell 4
        have g5 := kM.out.cell 5
        simp only [List.getElem?_cons_zero, List.getElem?_cons_succ] at g0 g1 g2 g3 g4 g5
        refine wpPT_one rfl (by rfl) (fun K hK => ?_)
        go_simp
        obtain ⟨wz, hw⟩ : ∃ X : World, X = (((((World.setCell v4 ⟨M, 0, none⟩ (.slice v.A v.n v.c)).setCell ⟨M, 1, none⟩ (.slice v.B v.m v.d)).setCell ⟨M, 2, none⟩ (.slice v.C v.k v.e)).setCell ⟨M, 3, none⟩ (.int .i64 (v.m : Int))).setCell ⟨M, 4, none⟩ (.slice A v.m c)).setCell ⟨M, 5, none⟩ (.slice none 0 0) := ⟨_, rfl⟩
        rw [← hw]
        have kN : Blk wz M 61 [.slice v.A v.n v.c, .slice v.B v.m v.d, .slice v.C v.k v.e, .int .i64 (v.m : Int), .slice A v.m c, .slice none 0 0] := by rw [hw]; exact (((((kM.out.set_ 0 _).set_ 1 _).set_ 2 _).set_ 3 _).set_ 4 _).set_ 5 _
        have hbz : BelowB M v4 wz := by rw [hw]; exact ((((((BelowB.refl M v4).setG19 0 _).setG19 1 _).setG19 2 _).setG19 3 _).setG19 4 _).setG19 5 _
        have hSn := Lib.hid (show SrAt wz v f A c M (.slice none 0 0) wz from ⟨fun U' hU' => hkp.out U' (hbz.trans hU'), hcA, BelowB.refl _ _, kN.lt, kN⟩)
        replace bW : Below V.heap.size V wz := bW.trans (hbz.below bW.size hUM)
        refine hK _ _ bW ?_
        clear hK K f0 f1 f2 f3 f4 f5 g0 g1 g2 g3 g4 g5 hw kM kN hbz hkp
        refine wpPT_done (NoPanic.normal ?_)
        exact key M wz A c ⟨hSn.out, hUM, bW⟩
    · rintro s w9 A c ⟨hS9, hVs, b9⟩
      have hgs := Lib.hid (show gr ≠ s from by have h1 := kQ1.out.lt; omega)
      have hws := Lib.hid (show w.heap.size ≤ s from Nat.le_trans hBV.out.o.size hVs)
      have hLs := Lib.hid (show ∀ ad, A0 = some ad → ad.block ≠ s from fun ad e => by
        obtain ⟨b, off, e2, hb, -⟩ := hL.out.2.2 (by have := hn0.out; omega)
        rw [e] at e2
        cases e2
        show b ≠ s
        omega)
      have hbV := Lib.hid (below_trans2 hBV.out.o b9)
      replace kQ1 := Lib.hid (kQ1.out.below b9 kQ1.out.lt)
      replace hL := Lib.hid (hL.out.below b9)
      have hsw := Lib.hid hS9.lt
      replace hS9 := Lib.hid hS9
      have cLk := Lib.hid (bad_looks s w9)
      clear hVs b9 hBV cC hCl hpos bW
      go_wp2_with fail
      refine cLk.out.mono ?_
      rintro e V2 ⟨gl, rfl, kL, bL⟩
      have hS2 := Lib.hid (hS9.out.later bL)
      have kQ2 := Lib.hid (kQ1.out.below bL kQ1.out.lt)
      replace hL := Lib.hid (hL.out.below bL)
      replace hbV := Lib.hid (below_trans2 hbV.out bL)
      have hgl := Lib.hid (show gl ≠ s from fun e => by
        have h1 := hS2.out.k
        rw [← e] at h1
        have h2 := h1.symm.trans kL
        injection h2 with h2
        injection h2 with _ h3
        exact absurd h3 (by decide))
      have hw9V := Lib.hid bL.size
      replace kL := Lib.hid kL
      clear bL cLk hS9 kQ1
      go_wp2_with fail
      go_loopw [25] (fun t wr => ∃ (i : Nat) (R : Value), i ≤ n ∧ t = .int .i64 (i : Int) ∧ Hid ((ks.take i).findSome? (kindF f) = none) ∧ Hid (SrAt w9 v f A c s R wr) ∧ Hid (BelowB s V2 wr) ∧ Hid (∀ z, ks[i]? = some z → LkInv f v.m z R wr)) (fun t _ => n - (intOf t).toNat)
      case atStart => exact ⟨0, .slice none 0 0, Nat.zero_le _, rfl, Lib.hid rfl, hS2, Lib.hid (BelowB.refl _ _), Lib.hid (fun z hz => by
        have h1 := kinds_first (by rw [← hks.out]; exact hz)
        exact ⟨fun _ => rfl, fun h => by omega⟩)⟩
      case round =>
        clear hS2
        obtain ⟨i, R, hik, rfl, hno, hS, hb, hI⟩ := hrel
        by_cases hlt : i < n
        · have hlt' : (i : Int) < (n : Int) := by omega
          have bi : 0 ≤ (i : Int) ∧ (i : Int) < (n : Int) := by omega
          obtain ⟨zb, zo, z, hzA, -, hz, -, k0⟩ := (hL.out.keptB hb.out hLs.out).int hlt
          subst hzA
          have hst := findSome_step hz hno.out
          have hzz := kinds_in (by rw [← hks.out]; exact hz)
          have hprv := Lib.hid (show 6 ≤ z → kindF f 2 = none ∧ kindF f 3 = none from fun h6 => by
            have h1 := kinds_prev (l := l) (i := i) (by rw [← hks.out]; exact hz) h6
            rw [← hks.out] at h1
            exact ⟨List.findSome?_eq_none_iff.1 hno.out 2 h1.1, List.findSome?_eq_none_iff.1 hno.out 3 h1.2⟩)
          replace hlt := Lib.hid hlt
          rcases hzz with rfl | rfl | rfl | rfl | rfl | rfl | rfl
          · have cB := Lib.hid (bad_blank 1 wr)
            go_wp2_with fail
            refine cB.out.mono ?_
            rintro e w3 ⟨he, b3⟩
            have he' : e = .returned (.agg #[.int .i64 1, .int .i64 (-1), .int .i64 (-1), .int .i64 (-1), .int .i64 (-1), .slice none 0 0, .int .i64 (-1), .int .i64 (-1)]) := he
            subst he'
            obtain ⟨W3, hW3⟩ : ∃ W, W = w3.alloc (.cells #[.int .i64 1, .int .i64 (-1), .int .i64 (-1), .int .i64 (-1), .int .i64 (-1), .slice none 0 0, .int .i64 (-1), .int .i64 (-1)] 34) := ⟨_, rfl⟩
            obtain ⟨g3, hg3⟩ : ∃ g, g = w3.heap.size := ⟨_, rfl⟩
            have ba : Below w3.heap.size w3 W3 := by rw [hW3]; exact below_alloc _ _
            have kW3 := Lib.hid (show Blk W3 g3 34 [.int .i64 1, .int .i64 (-1), .int .i64 (-1), .int .i64 (-1), .int .i64 (-1), .slice none 0 0, .int .i64 (-1), .int .i64 (-1)] from by rw [hW3, hg3]; exact Blk.new _ _ _)
            have hgV2 : V2.heap.size ≤ g3 := by have h1 := hb.out.size; have h2 := b3.size; omega
            have hne : g3 ≠ s := by have h1 := hsw.out; have h2 := hw9V.out; omega
            have hg0 : w9.heap.size ≤ g3 := by have h2 := hw9V.out; omega
            have hS3 := Lib.hid ((hS.out.later b3).later ba)
            have hb3 := Lib.hid ((hb.out.trans (BelowB.of b3)).trans (BelowB.of ba))
            have hI3 := Lib.hid (((hI.out _ hz).later b3).later ba)
            have kLr := Lib.hid (hb3.out.blk kL.out hgl.out)
            clear he b3 ba cB k0 hS hb
            have yk := kLr.out.cell 0
            simp only [lookVs, List.getElem?_cons_zero] at yk
            have cK := Lib.hid (look1 hEh.out hS3.out hne hg0 hI3.out kW3.out)
            obtain ⟨an, han⟩ : ∃ a, a = kindF f 1 := ⟨_, rfl⟩
            rw [← han] at hst
            replace hst := Lib.hid hst
            have hiz := Lib.hid hz
            have hne3 := hne
            have hg03 := hg0
            clear hz hI kW3 hne hg0
            go_wp2_with (rw [← hW3, ← hg3]; clear hW3; replace hg3 := Lib.hid hg3)
            refine cK.out.mono ?_
            rintro e w4 ⟨x, R', hx, rfl, kV, hS4, hb4, hnx⟩
            rw [← han] at hx hnx ⊢
            have hbs : BelowB s V2 w4 := ⟨hb4.os.trans hb3.out.os, hb4.tape.trans hb3.out.tape, hb4.output.trans hb3.out.output, Nat.le_trans hb3.out.size hb4.size, fun k hk hks => (hb4.block k (Nat.lt_of_lt_of_le hk hb3.out.size) (by omega) hks).trans (hb3.out.block k hk hks)⟩
            replace hbs := Lib.hid hbs
            replace hS4 := Lib.hid hS4
            replace han := Lib.hid han
            clear hb4 cK yk kLr hS3
            cases an with
            | none =>
              have hnx1 := Lib.hid (hnx rfl)
              have hno1 := Lib.hid (hst.out.1 rfl)
              have hI1 := Lib.hid (show ∀ z', ks[i + 1]? = some z' → LkInv f v.m z' R' w4 from fun z' hz' => by
                rw [hks.out] at hz'
                have h1 := hiz.out
                rw [hks.out] at h1
                exact hnx1.out.inv h1 hz')
              clear hx kV hnx hst
              go_wp2_with fail
              exact ⟨⟨i + 1, R', by have := hlt.out; omega, by go_num, hno1, hS4, hbs, hI1⟩, by have := hlt.out; simp [intOf]; omega⟩
            | some y =>
              have hxy : x = y := hx
              subst hxy
              have hff := hst.out.2 _ rfl
              have hans : Hid (findF f l = some x) := Lib.hid (by rw [hfF.out]; exact hff)
              have here : Hid (findE f l = 0) := Lib.hid (by rw [hfE.out, hne0.out, hans.out]; rfl)
              have kQ := hbs.out.blk kQ2.out hgs.out
              have bV := hbV.out.trans (hbs.out.below hbV.out.size hws.out)
              -- the cells of a pattern's variable: kV : Blk W g Witness [8 cells]: x0 .. x7 (and $f0 .. : not frozen)
              have z0x := Blk.cell kV 0
              have z1x := Blk.cell kV 1
              have z2x := Blk.cell kV 2
              have z3x := Blk.cell kV 3
              have z4x := Blk.cell kV 4
              have z5x := Blk.cell kV 5
              have z6x := Blk.cell kV 6
              have z7x := Blk.cell kV 7
              simp only [List.getElem?_cons_zero, List.getElem?_cons_succ] at z0x z1x z2x z3x z4x z5x z6x z7x
              clear hx kV hnx hff hst
              -- the cells x.ki .. are stored into the result's variable gr: kQ : Blk there (zero), bV : Below w.heap.size w ..; the answer is the pattern x (hans), the error 0
              -- the cells of a pattern's variable: kQ : Blk W g Witness [8 cells]: c0 .. c7 (and $f0 .. : not frozen)
              have z0c := Blk.cell kQ 0
              have z1c := Blk.cell kQ 1
              have z2c := Blk.cell kQ 2
              have z3c := Blk.cell kQ 3
              have z4c := Blk.cell kQ 4
              have z5c := Blk.cell kQ 5
              have z6c := Blk.cell kQ 6
              have z7c := Blk.cell kQ 7
              simp only [List.getElem?_cons_zero, List.getElem?_cons_succ] at z0c z1c z2c z3c z4c z5c z6c z7c
              have z0fz := Blk.frozen kQ 0
              have z1fz := Blk.frozen kQ 1
              have z2fz := Blk.frozen kQ 2
              have z3fz := Blk.frozen kQ 3
              have z4fz := Blk.frozen kQ 4
              have z5fz := Blk.frozen kQ 5
              have z6fz := Blk.frozen kQ 6
              have z7fz := Blk.frozen kQ 7
              have kN := kQ.put8 (.int .i64 x.ki) (.int .i64 x.r) (.int .i64 x.w1) (.int .i64 x.w2) (.int .i64 x.o) (.slice none 0 0) (.int .i64 x.fi) (.int .i64 x.se)
              -- the cells of a pattern's variable: kN : Blk W g Witness [8 cells]: d0 .. d7 (and $f0 .. : not frozen)
              have z0d := Blk.cell kN 0
              have z1d := Blk.cell kN 1
              have z2d := Blk.cell kN 2
              have z3d := Blk.cell kN 3
              have z4d := Blk.cell kN 4
              have z5d := Blk.cell kN 5
              have z6d := Blk.cell kN 6
              have z7d := Blk.cell kN 7
              simp only [List.getElem?_cons_zero, List.getElem?_cons_succ] at z0d z1d z2d z3d z4d z5d z6d z7d
              have hbf := Lib.hid (below_put8 bV (g := gr) hgrw.out (.int .i64 x.ki) (.int .i64 x.r) (.int .i64 x.w1) (.int .i64 x.w2) (.int .i64 x.o) (.slice none 0 0) (.int .i64 x.fi) (.int .i64 x.se))
              have hdd := Lib.hid (And.intro z0d (And.intro z1d (And.intro z2d (And.intro z3d (And.intro z4d (And.intro z5d (And.intro z6d z7d)))))))
              clear kN kQ bV z0d z1d z2d z3d z4d z5d z6d z7d
              go_wp2_with fail
              obtain ⟨d0, d1, d2, d3, d4, d5, d6, d7⟩ := hdd.out
              exact bodyPost_ret (v := .tuple #[.agg #[.int .i64 x.ki, .int .i64 x.r, .int .i64 x.w1, .int .i64 x.w2, .int .i64 x.o, .slice none 0 0, .int .i64 x.fi, .int .i64 x.se], .int .i64 0]) (by simp [results, Tryz.results9, go_sem, d0, d1, d2, d3, d4, d5, d6, d7]) rfl ⟨x, by rw [hans.out] <;> rfl, by rw [here.out] <;> rfl, hbf.out⟩
          · have cB := Lib.hid (bad_blank 2 wr)
            go_wp2_with fail
            refine cB.out.mono ?_
            rintro e w3 ⟨he, b3⟩
            have he' : e = .returned (.agg #[.int .i64 2, .int .i64 (-1), .int .i64 (-1), .int .i64 (-1), .int .i64 (-1), .slice none 0 0, .int .i64 (-1), .int .i64 (-1)]) := he
            subst he'
            obtain ⟨W3, hW3⟩ : ∃ W, W = w3.alloc (.cells #[.int .i64 2, .int .i64 (-1), .int .i64 (-1), .int .i64 (-1), .int .i64 (-1), .slice none 0 0, .int .i64 (-1), .int .i64 (-1)] 34) := ⟨_, rfl⟩
            obtain ⟨g3, hg3⟩ : ∃ g, g = w3.heap.size := ⟨_, rfl⟩
            have ba : Below w3.heap.size w3 W3 := by rw [hW3]; exact below_alloc _ _
            have kW3 := Lib.hid (show Blk W3 g3 34 [.int .i64 2, .int .i64 (-1), .int .i64 (-1), .int .i64 (-1), .int .i64 (-1), .slice none 0 0, .int .i64 (-1), .int .i64 (-1)] from by rw [hW3, hg3]; exact Blk.new _ _ _)
            have hgV2 : V2.heap.size ≤ g3 := by have h1 := hb.out.size; have h2 := b3.size; omega
            have hne : g3 ≠ s := by have h1 := hsw.out; have h2 := hw9V.out; omega
            have hg0 : w9.heap.size ≤ g3 := by have h2 := hw9V.out; omega
            have hS3 := Lib.hid ((hS.out.later b3).later ba)
            have hb3 := Lib.hid ((hb.out.trans (BelowB.of b3)).trans (BelowB.of ba))
            have hI3 := Lib.hid (((hI.out _ hz).later b3).later ba)
            have kLr := Lib.hid (hb3.out.blk kL.out hgl.out)
            clear he b3 ba cB k0 hS hb
            have yk := kLr.out.cell 1
            simp only [lookVs, List.getElem?_cons_zero, List.getElem?_cons_succ] at yk
            have cK := Lib.hid (look2 hEh.out hS3.out hne hg0 hI3.out kW3.out)
            obtain ⟨an, han⟩ : ∃ a, a = kindF f 2 := ⟨_, rfl⟩
            rw [← han] at hst
            replace hst := Lib.hid hst
            have hiz := Lib.hid hz
            have hne3 := hne
            have hg03 := hg0
            clear hz hI kW3 hne hg0
            go_wp2_with (rw [← hW3, ← hg3]; clear hW3; replace hg3 := Lib.hid hg3)
            refine cK.out.mono ?_
            rintro e w4 ⟨x, R', hx, rfl, kV, hS4, hb4, hnx⟩
            rw [← han] at hx hnx ⊢
            have hbs : BelowB s V2 w4 := ⟨hb4.os.trans hb3.out.os, hb4.tape.trans hb3.out.tape, hb4.output.trans hb3.out.output, Nat.le_trans hb3.out.size hb4.size, fun k hk hks => (hb4.block k (Nat.lt_of_lt_of_le hk hb3.out.size) (by omega) hks).trans (hb3.out.block k hk hks)⟩
            replace hbs := Lib.hid hbs
            replace hS4 := Lib.hid hS4
            replace han := Lib.hid han
            clear hb4 cK yk kLr hS3
            cases an with
            | none =>
              have hnx1 := Lib.hid (hnx rfl)
              have hno1 := Lib.hid (hst.out.1 rfl)
              have hI1 := Lib.hid (show ∀ z', ks[i + 1]? = some z' → LkInv f v.m z' R' w4 from fun z' hz' => by
                rw [hks.out] at hz'
                have h1 := hiz.out
                rw [hks.out] at h1
                exact hnx1.out.inv h1 hz')
              clear hx kV hnx hst
              go_wp2_with fail
              exact ⟨⟨i + 1, R', by have := hlt.out; omega, by go_num, hno1, hS4, hbs, hI1⟩, by have := hlt.out; simp [intOf]; omega⟩
            | some y =>
              have hxy : x = y := hx
              subst hxy
              have hff := hst.out.2 _ rfl
              have hans : Hid (findF f l = some x) := Lib.hid (by rw [hfF.out]; exact hff)
              have here : Hid (findE f l = 0) := Lib.hid (by rw [hfE.out, hne0.out, hans.out]; rfl)
              have kQ := hbs.out.blk kQ2.out hgs.out
              have bV := hbV.out.trans (hbs.out.below hbV.out.size hws.out)
              -- the cells of a pattern's variable: kV : Blk W g Witness [8 cells]: x0 .. x7 (and $f0 .. : not frozen)
              have z0x := Blk.cell kV 0
              have z1x := Blk.cell kV 1
              have z2x := Blk.cell kV 2
              have z3x := Blk.cell kV 3
              have z4x := Blk.cell kV 4
              have z5x := Blk.cell kV 5
              have z6x := Blk.cell kV 6
              have z7x := Blk.cell kV 7
              simp only [List.getElem?_cons_zero, List.getElem?_cons_succ] at z0x z1x z2x z3x z4x z5x z6x z7x
              clear hx kV hnx hff hst
              -- the cells x.ki .. are stored into the result's variable gr: kQ : Blk there (zero), bV : Below w.heap.size w ..; the answer is the pattern x (hans), the error 0
              -- the cells of a pattern's variable: kQ : Blk W g Witness [8 cells]: c0 .. c7 (and $f0 .. : not frozen)
              have z0c := Blk.cell kQ 0
              have z1c := Blk.cell kQ 1
              have z2c := Blk.cell kQ 2
              have z3c := Blk.cell kQ 3
              have z4c := Blk.cell kQ 4
              have z5c := Blk.cell kQ 5
              have z6c := Blk.cell kQ 6
              have z7c := Blk.cell kQ 7
              simp only [List.getElem?_cons_zero, List.getElem?_cons_succ] at z0c z1c z2c z3c z4c z5c z6c z7c
              have z0fz := Blk.frozen kQ 0
              have z1fz := Blk.frozen kQ 1
              have z2fz := Blk.frozen kQ 2
              have z3fz := Blk.frozen kQ 3
              have z4fz := Blk.frozen kQ 4
              have z5fz := Blk.frozen kQ 5
              have z6fz := Blk.frozen kQ 6
              have z7fz := Blk.frozen kQ 7
              have kN := kQ.put8 (.int .i64 x.ki) (.int .i64 x.r) (.int .i64 x.w1) (.int .i64 x.w2) (.int .i64 x.o) (.slice none 0 0) (.int .i64 x.fi) (.int .i64 x.se)
              -- the cells of a pattern's variable: kN : Blk W g Witness [8 cells]: d0 .. d7 (and $f0 .. : not frozen)
              have z0d := Blk.cell kN 0
              have z1d := Blk.cell kN 1
              have z2d := Blk.cell kN 2
              have z3d := Blk.cell kN 3
              have z4d := Blk.cell kN 4
              have z5d := Blk.cell kN 5
              have z6d := Blk.cell kN 6
              have z7d := Blk.cell kN 7
              simp only [List.getElem?_cons_zero, List.getElem?_cons_succ] at z0d z1d z2d z3d z4d z5d z6d z7d
              have hbf := Lib.hid (below_put8 bV (g := gr) hgrw.out (.int .i64 x.ki) (.int .i64 x.r) (.int .i64 x.w1) (.int .i64 x.w2) (.int .i64 x.o) (.slice none 0 0) (.int .i64 x.fi) (.int .i64 x.se))
              have hdd := Lib.hid (And.intro z0d (And.intro z1d (And.intro z2d (And.intro z3d (And.intro z4d (And.intro z5d (And.intro z6d z7d)))))))
              clear kN kQ bV z0d z1d z2d z3d z4d z5d z6d z7d
              go_wp2_with fail
              obtain ⟨d0, d1, d2, d3, d4, d5, d6, d7⟩ := hdd.out
              exact bodyPost_ret (v := .tuple #[.agg #[.int .i64 x.ki, .int .i64 x.r, .int .i64 x.w1, .int .i64 x.w2, .int .i64 x.o, .slice none 0 0, .int .i64 x.fi, .int .i64 x.se], .int .i64 0]) (by simp [results, Tryz.results9, go_sem, d0, d1, d2, d3, d4, d5, d6, d7]) rfl ⟨x, by rw [hans.out] <;> rfl, by rw [here.out] <;> rfl, hbf.out⟩
          · have cB := Lib.hid (bad_blank 3 wr)
            go_wp2_with fail
            refine cB.out.mono ?_
            rintro e w3 ⟨he, b3⟩
            have he' : e = .returned (.agg #[.int .i64 3, .int .i64 (-1), .int .i64 (-1), .int .i64 (-1), .int .i64 (-1), .slice none 0 0, .int .i64 (-1), .int .i64 (-1)]) := he
            subst he'
            obtain ⟨W3, hW3⟩ : ∃ W, W = w3.alloc (.cells #[.int .i64 3, .int .i64 (-1), .int .i64 (-1), .int .i64 (-1), .int .i64 (-1), .slice none 0 0, .int .i64 (-1), .int .i64 (-1)] 34) := ⟨_, rfl⟩
            obtain ⟨g3, hg3⟩ : ∃ g, g = w3.heap.size := ⟨_, rfl⟩
            have ba : Below w3.heap.size w3 W3 := by rw [hW3]; exact below_alloc _ _
            have kW3 := Lib.hid (show Blk W3 g3 34 [.int .i64 3, .int .i64 (-1), .int .i64 (-1), .int .i64 (-1), .int .i64 (-1), .slice none 0 0, .int .i64 (-1), .int .i64 (-1)] from by rw [hW3, hg3]; exact Blk.new _ _ _)
            have hgV2 : V2.heap.size ≤ g3 := by have h1 := hb.out.size; have h2 := b3.size; omega
            have hne : g3 ≠ s := by have h1 := hsw.out; have h2 := hw9V.out; omega
            have hg0 : w9.heap.size ≤ g3 := by have h2 := hw9V.out; omega
            have hS3 := Lib.hid ((hS.out.later b3).later ba)
            have hb3 := Lib.hid ((hb.out.trans (BelowB.of b3)).trans (BelowB.of ba))
            have hI3 := Lib.hid (((hI.out _ hz).later b3).later ba)
            have kLr := Lib.hid (hb3.out.blk kL.out hgl.out)
            clear he b3 ba cB k0 hS hb
            have yk := kLr.out.cell 2
            simp only [lookVs, List.getElem?_cons_zero, List.getElem?_cons_succ] at yk
            have cK := Lib.hid (look3 hEh.out hS3.out hne hg0 hI3.out kW3.out)
            obtain ⟨an, han⟩ : ∃ a, a = kindF f 3 := ⟨_, rfl⟩
            rw [← han] at hst
            replace hst := Lib.hid hst
            have hiz := Lib.hid hz
            have hne3 := hne
            have hg03 := hg0
            clear hz hI kW3 hne hg0
            go_wp2_with (rw [← hW3, ← hg3]; clear hW3; replace hg3 := Lib.hid hg3)
            refine cK.out.mono ?_
            rintro e w4 ⟨x, R', hx, rfl, kV, hS4, hb4, hnx⟩
            rw [← han] at hx hnx ⊢
            have hbs : BelowB s V2 w4 := ⟨hb4.os.trans hb3.out.os, hb4.tape.trans hb3.out.tape, hb4.output.trans hb3.out.output, Nat.le_trans hb3.out.size hb4.size, fun k hk hks => (hb4.block k (Nat.lt_of_lt_of_le hk hb3.out.size) (by omega) hks).trans (hb3.out.block k hk hks)⟩
            replace hbs := Lib.hid hbs
            replace hS4 := Lib.hid hS4
            replace han := Lib.hid han
            clear hb4 cK yk kLr hS3
            cases an with
            | none =>
              have hnx1 := Lib.hid (hnx rfl)
              have hno1 := Lib.hid (hst.out.1 rfl)
              have hI1 := Lib.hid (show ∀ z', ks[i + 1]? = some z' → LkInv f v.m z' R' w4 from fun z' hz' => by
                rw [hks.out] at hz'
                have h1 := hiz.out
                rw [hks.out] at h1
                exact hnx1.out.inv h1 hz')
              clear hx kV hnx hst
              go_wp2_with fail
              exact ⟨⟨i + 1, R', by have := hlt.out; omega, by go_num, hno1, hS4, hbs, hI1⟩, by have := hlt.out; simp [intOf]; omega⟩
            | some y =>
              have hxy : x = y := hx
              subst hxy
              have hff := hst.out.2 _ rfl
              have hans : Hid (findF f l = some x) := Lib.hid (by rw [hfF.out]; exact hff)
              have here : Hid (findE f l = 0) := Lib.hid (by rw [hfE.out, hne0.out, hans.out]; rfl)
              have kQ := hbs.out.blk kQ2.out hgs.out
              have bV := hbV.out.trans (hbs.out.below hbV.out.size hws.out)
              -- the cells of a pattern's variable: kV : Blk W g Witness [8 cells]: x0 .. x7 (and $f0 .. : not frozen)
              have z0x := Blk.cell kV 0
              have z1x := Blk.cell kV 1
              have z2x := Blk.cell kV 2
              have z3x := Blk.cell kV 3
              have z4x := Blk.cell kV 4
              have z5x := Blk.cell kV 5
              have z6x := Blk.cell kV 6
              have z7x := Blk.cell kV 7
              simp only [List.getElem?_cons_zero, List.getElem?_cons_succ] at z0x z1x z2x z3x z4x z5x z6x z7x
              clear hx kV hnx hff hst
              -- the cells x.ki .. are stored into the result's variable gr: kQ : Blk there (zero), bV : Below w.heap.size w ..; the answer is the pattern x (hans), the error 0
              -- the cells of a pattern's variable: kQ : Blk W g Witness [8 cells]: c0 .. c7 (and $f0 .. : not frozen)
              have z0c := Blk.cell kQ 0
              have z1c := Blk.cell kQ 1
              have z2c := Blk.cell kQ 2
              have z3c := Blk.cell kQ 3
              have z4c := Blk.cell kQ 4
              have z5c := Blk.cell kQ 5
              have z6c := Blk.cell kQ 6
              have z7c := Blk.cell kQ 7
              simp only [List.getElem?_cons_zero, List.getElem?_cons_succ] at z0c z1c z2c z3c z4c z5c z6c z7c
              have z0fz := Blk.frozen kQ 0
              have z1fz := Blk.frozen kQ 1
              have z2fz := Blk.frozen kQ 2
              have z3fz := Blk.frozen kQ 3
              have z4fz := Blk.frozen kQ 4
              have z5fz := Blk.frozen kQ 5
              have z6fz := Blk.frozen kQ 6
              have z7fz := Blk.frozen kQ 7
              have kN := kQ.put8 (.int .i64 x.ki) (.int .i64 x.r) (.int .i64 x.w1) (.int .i64 x.w2) (.int .i64 x.o) (.slice none 0 0) (.int .i64 x.fi) (.int .i64 x.se)
              -- the cells of a pattern's variable: kN : Blk W g Witness [8 cells]: d0 .. d7 (and $f0 .. : not frozen)
              have z0d := Blk.cell kN 0
              have z1d := Blk.cell kN 1
              have z2d := Blk.cell kN 2
              have z3d := Blk.cell kN 3
              have z4d := Blk.cell kN 4
              have z5d := Blk.cell kN 5
              have z6d := Blk.cell kN 6
              have z7d := Blk.cell kN 7
              simp only [List.getElem?_cons_zero, List.getElem?_cons_succ] at z0d z1d z2d z3d z4d z5d z6d z7d
              have hbf := Lib.hid (below_put8 bV (g := gr) hgrw.out (.int .i64 x.ki) (.int .i64 x.r) (.int .i64 x.w1) (.int .i64 x.w2) (.int .i64 x.o) (.slice none 0 0) (.int .i64 x.fi) (.int .i64 x.se))
              have hdd := Lib.hid (And.intro z0d (And.intro z1d (And.intro z2d (And.intro z3d (And.intro z4d (And.intro z5d (And.intro z6d z7d)))))))
              clear kN kQ bV z0d z1d z2d z3d z4d z5d z6d z7d
              go_wp2_with fail
              obtain ⟨d0, d1, d2, d3, d4, d5, d6, d7⟩ := hdd.out
              exact bodyPost_ret (v := .tuple #[.agg #[.int .i64 x.ki, .int .i64 x.r, .int .i64 x.w1, .int .i64 x.w2, .int .i64 x.o, .slice none 0 0, .int .i64 x.fi, .int .i64 x.se], .int .i64 0]) (by simp [results, Tryz.results9, go_sem, d0, d1, d2, d3, d4, d5, d6, d7]) rfl ⟨x, by rw [hans.out] <;> rfl, by rw [here.out] <;> rfl, hbf.out⟩
          · have cB := Lib.hid (bad_blank 4 wr)
            go_wp2_with fail
            refine cB.out.mono ?_
            rintro e w3 ⟨he, b3⟩
            have he' : e = .returned (.agg #[.int .i64 4, .int .i64 (-1), .int .i64 (-1), .int .i64 (-1), .int .i64 (-1), .slice none 0 0, .int .i64 (-1), .int .i64 (-1)]) := he
            subst he'
            obtain ⟨W3, hW3⟩ : ∃ W, W = w3.alloc (.cells #[.int .i64 4, .int .i64 (-1), .int .i64 (-1), .int .i64 (-1), .int .i64 (-1), .slice none 0 0, .int .i64 (-1), .int .i64 (-1)] 34) := ⟨_, rfl⟩
            obtain ⟨g3, hg3⟩ : ∃ g, g = w3.heap.size := ⟨_, rfl⟩
            have ba : Below w3.heap.size w3 W3 := by rw [hW3]; exact below_alloc _ _
            have kW3 := Lib.hid (show Blk W3 g3 34 [.int .i64 4, .int .i64 (-1), .int .i64 (-1), .int .i64 (-1), .int .i64 (-1), .slice none 0 0, .int .i64 (-1), .int .i64 (-1)] from by rw [hW3, hg3]; exact Blk.new _ _ _)
            have hgV2 : V2.heap.size ≤ g3 := by have h1 := hb.out.size; have h2 := b3.size; omega
            have hne : g3 ≠ s := by have h1 := hsw.out; have h2 := hw9V.out; omega
            have hg0 : w9.heap.size ≤ g3 := by have h2 := hw9V.out; omega
            have hS3 := Lib.hid ((hS.out.later b3).later ba)
            have hb3 := Lib.hid ((hb.out.trans (BelowB.of b3)).trans (BelowB.of ba))
            have hI3 := Lib.hid (((hI.out _ hz).later b3).later ba)
            have kLr := Lib.hid (hb3.out.blk kL.out hgl.out)
            clear he b3 ba cB k0 hS hb
            have yk := kLr.out.cell 3
            simp only [lookVs, List.getElem?_cons_zero, List.getElem?_cons_succ] at yk
            have cK := Lib.hid (look4 hEh.out hS3.out hne hg0 hI3.out kW3.out)
            obtain ⟨an, han⟩ : ∃ a, a = kindF f 4 := ⟨_, rfl⟩
            rw [← han] at hst
            replace hst := Lib.hid hst
            have hiz := Lib.hid hz
            have hne3 := hne
            have hg03 := hg0
            clear hz hI kW3 hne hg0
            go_wp2_with (rw [← hW3, ← hg3]; clear hW3; replace hg3 := Lib.hid hg3)
            refine cK.out.mono ?_
            rintro e w4 ⟨x, R', hx, rfl, kV, hS4, hb4, hnx⟩
            rw [← han] at hx hnx ⊢
            have hbs : BelowB s V2 w4 := ⟨hb4.os.trans hb3.out.os, hb4.tape.trans hb3.out.tape, hb4.output.trans hb3.out.output, Nat.le_trans hb3.out.size hb4.size, fun k hk hks => (hb4.block k (Nat.lt_of_lt_of_le hk hb3.out.size) (by omega) hks).trans (hb3.out.block k hk hks)⟩
            replace hbs := Lib.hid hbs
            replace hS4 := Lib.hid hS4
            replace han := Lib.hid han
            clear hb4 cK yk kLr hS3
            cases an with
            | none =>
              have hnx1 := Lib.hid (hnx rfl)
              have hno1 := Lib.hid (hst.out.1 rfl)
              have hI1 := Lib.hid (show ∀ z', ks[i + 1]? = some z' → LkInv f v.m z' R' w4 from fun z' hz' => by
                rw [hks.out] at hz'
                have h1 := hiz.out
                rw [hks.out] at h1
                exact hnx1.out.inv h1 hz')
              clear hx kV hnx hst
              go_wp2_with fail
              exact ⟨⟨i + 1, R', by have := hlt.out; omega, by go_num, hno1, hS4, hbs, hI1⟩, by have := hlt.out; simp [intOf]; omega⟩
            | some y =>
              have hxy : x = y := hx
              subst hxy
              have hff := hst.out.2 _ rfl
              have hans : Hid (findF f l = some x) := Lib.hid (by rw [hfF.out]; exact hff)
              have here : Hid (findE f l = 0) := Lib.hid (by rw [hfE.out, hne0.out, hans.out]; rfl)
              have kQ := hbs.out.blk kQ2.out hgs.out
              have bV := hbV.out.trans (hbs.out.below hbV.out.size hws.out)
              -- the cells of a pattern's variable: kV : Blk W g Witness [8 cells]: x0 .. x7 (and $f0 .. : not frozen)
              have z0x := Blk.cell kV 0
              have z1x := Blk.cell kV 1
              have z2x := Blk.cell kV 2
              have z3x := Blk.cell kV 3
              have z4x := Blk.cell kV 4
              have z5x := Blk.cell kV 5
              have z6x := Blk.cell kV 6
              have z7x := Blk.cell kV 7
              simp only [List.getElem?_cons_zero, List.getElem?_cons_succ] at z0x z1x z2x z3x z4x z5x z6x z7x
              clear hx kV hnx hff hst
              -- the cells x.ki .. are stored into the result's variable gr: kQ : Blk there (zero), bV : Below w.heap.size w ..; the answer is the pattern x (hans), the error 0
              -- the cells of a pattern's variable: kQ : Blk W g Witness [8 cells]: c0 .. c7 (and $f0 .. : not frozen)
              have z0c := Blk.cell kQ 0
              have z1c := Blk.cell kQ 1
              have z2c := Blk.cell kQ 2
              have z3c := Blk.cell kQ 3
              have z4c := Blk.cell kQ 4
              have z5c := Blk.cell kQ 5
              have z6c := Blk.cell kQ 6
              have z7c := Blk.cell kQ 7
              simp only [List.getElem?_cons_zero, List.getElem?_cons_succ] at z0c z1c z2c z3c z4c z5c z6c z7c
              have z0fz := Blk.frozen kQ 0
              have z1fz := Blk.frozen kQ 1
              have z2fz := Blk.frozen kQ 2
              have z3fz := Blk.frozen kQ 3
              have z4fz := Blk.frozen kQ 4
              have z5fz := Blk.frozen kQ 5
              have z6fz := Blk.frozen kQ 6
              have z7fz := Blk.frozen kQ 7
              have kN := kQ.put8 (.int .i64 x.ki) (.int .i64 x.r) (.int .i64 x.w1) (.int .i64 x.w2) (.int .i64 x.o) (.slice none 0 0) (.int .i64 x.fi) (.int .i64 x.se)
              -- the cells of a pattern's variable: kN : Blk W g Witness [8 cells]: d0 .. d7 (and $f0 .. : not frozen)
              have z0d := Blk.cell kN 0
              have z1d := Blk.cell kN 1
              have z2d := Blk.cell kN 2
              have z3d := Blk.cell kN 3
              have z4d := Blk.cell kN 4
              have z5d := Blk.cell kN 5
              have z6d := Blk.cell kN 6
              have z7d := Blk.cell kN 7
              simp only [List.getElem?_cons_zero, List.getElem?_cons_succ] at z0d z1d z2d z3d z4d z5d z6d z7d
              have hbf := Lib.hid (below_put8 bV (g := gr) hgrw.out (.int .i64 x.ki) (.int .i64 x.r) (.int .i64 x.w1) (.int .i64 x.w2) (.int .i64 x.o) (.slice none 0 0) (.int .i64 x.fi) (.int .i64 x.se))
              have hdd := Lib.hid (And.intro z0d (And.intro z1d (And.intro z2d (And.intro z3d (And.intro z4d (And.intro z5d (And.intro z6d z7d)))))))
              clear kN kQ bV z0d z1d z2d z3d z4d z5d z6d z7d
              go_wp2_with fail
              obtain ⟨d0, d1, d2, d3, d4, d5, d6, d7⟩ := hdd.out
              exact bodyPost_ret (v := .tuple #[.agg #[.int .i64 x.ki, .int .i64 x.r, .int .i64 x.w1, .int .i64 x.w2, .int .i64 x.o, .slice none 0 0, .int .i64 x.fi, .int .i64 x.se], .int .i64 0]) (by simp [results, Tryz.results9, go_sem, d0, d1, d2, d3, d4, d5, d6, d7]) rfl ⟨x, by rw [hans.out] <;> rfl, by rw [here.out] <;> rfl, hbf.out⟩
          · have cB := Lib.hid (bad_blank 5 wr)
            go_wp2_with fail
            refine cB.out.mono ?_
            rintro e w3 ⟨he, b3⟩
            have he' : e = .returned (.agg #[.int .i64 5, .int .i64 (-1), .int .i64 (-1), .int .i64 (-1), .int .i64 (-1), .slice none 0 0, .int .i64 (-1), .int .i64 (-1)]) := he
            subst he'
            obtain ⟨W3, hW3⟩ : ∃ W, W = w3.alloc (.cells #[.int .i64 5, .int .i64 (-1), .int .i64 (-1), .int .i64 (-1), .int .i64 (-1), .slice none 0 0, .int .i64 (-1), .int .i64 (-1)] 34) := ⟨_, rfl⟩
            obtain ⟨g3, hg3⟩ : ∃ g, g = w3.heap.size := ⟨_, rfl⟩
            have ba : Below w3.heap.size w3 W3 := by rw [hW3]; exact below_alloc _ _
            have kW3 := Lib.hid (show Blk W3 g3 34 [.int .i64 5, .int .i64 (-1), .int .i64 (-1), .int .i64 (-1), .int .i64 (-1), .slice none 0 0, .int .i64 (-1), .int .i64 (-1)] from by rw [hW3, hg3]; exact Blk.new _ _ _)
            have hgV2 : V2.heap.size ≤ g3 := by have h1 := hb.out.size; have h2 := b3.size; omega
            have hne : g3 ≠ s := by have h1 := hsw.out; have h2 := hw9V.out; omega
            have hg0 : w9.heap.size ≤ g3 := by have h2 := hw9V.out; omega
            have hS3 := Lib.hid ((hS.out.later b3).later ba)
            have hb3 := Lib.hid ((hb.out.trans (BelowB.of b3)).trans (BelowB.of ba))
            have hI3 := Lib.hid (((hI.out _ hz).later b3).later ba)
            have kLr := Lib.hid (hb3.out.blk kL.out hgl.out)
            clear he b3 ba cB k0 hS hb
            have yk := kLr.out.cell 4
            simp only [lookVs, List.getElem?_cons_zero, List.getElem?_cons_succ] at yk
            have cK := Lib.hid (look5 hEh.out hS3.out hne hg0 hI3.out kW3.out)
            obtain ⟨an, han⟩ : ∃ a, a = kindF f 5 := ⟨_, rfl⟩
            rw [← han] at hst
            replace hst := Lib.hid hst
            have hiz := Lib.hid hz
            have hne3 := hne
            have hg03 := hg0
            clear hz hI kW3 hne hg0
            go_wp2_with (rw [← hW3, ← hg3]; clear hW3; replace hg3 := Lib.hid hg3)
            refine cK.out.mono ?_
            rintro e w4 ⟨x, R', hx, rfl, kV, hS4, hb4, hnx⟩
            rw [← han] at hx hnx ⊢
            have hbs : BelowB s V2 w4 := ⟨hb4.os.trans hb3.out.os, hb4.tape.trans hb3.out.tape, hb4.output.trans hb3.out.output, Nat.le_trans hb3.out.size hb4.size, fun k hk hks => (hb4.block k (Nat.lt_of_lt_of_le hk hb3.out.size) (by omega) hks).trans (hb3.out.block k hk hks)⟩
            replace hbs := Lib.hid hbs
            replace hS4 := Lib.hid hS4
            replace han := Lib.hid han
            clear hb4 cK yk kLr hS3
            cases an with
            | none =>
              have hnx1 := Lib.hid (hnx rfl)
              have hno1 := Lib.hid (hst.out.1 rfl)
              have hI1 := Lib.hid (show ∀ z', ks[i + 1]? = some z' → LkInv f v.m z' R' w4 from fun z' hz' => by
                rw [hks.out] at hz'
                have h1 := hiz.out
                rw [hks.out] at h1
                exact hnx1.out.inv h1 hz')
              clear hx kV hnx hst
              go_wp2_with fail
              exact ⟨⟨i + 1, R', by have := hlt.out; omega, by go_num, hno1, hS4, hbs, hI1⟩, by have := hlt.out; simp [intOf]; omega⟩
            | some y =>
              have hxy : x = y := hx
              subst hxy
              have hff := hst.out.2 _ rfl
              have hans : Hid (findF f l = some x) := Lib.hid (by rw [hfF.out]; exact hff)
              have here : Hid (findE f l = 0) := Lib.hid (by rw [hfE.out, hne0.out, hans.out]; rfl)
              have kQ := hbs.out.blk kQ2.out hgs.out
              have bV := hbV.out.trans (hbs.out.below hbV.out.size hws.out)
              -- the cells of a pattern's variable: kV : Blk W g Witness [8 cells]: x0 .. x7 (and $f0 .. : not frozen)
              have z0x := Blk.cell kV 0
              have z1x := Blk.cell kV 1
              have z2x := Blk.cell kV 2
              have z3x := Blk.cell kV 3
              have z4x := Blk.cell kV 4
              have z5x := Blk.cell kV 5
              have z6x := Blk.cell kV 6
              have z7x := Blk.cell kV 7
              simp only [List.getElem?_cons_zero, List.getElem?_cons_succ] at z0x z1x z2x z3x z4x z5x z6x z7x
              clear hx kV hnx hff hst
              -- the cells x.ki .. are stored into the result's variable gr: kQ : Blk there (zero), bV : Below w.heap.size w ..; the answer is the pattern x (hans), the error 0
              -- the cells of a pattern's variable: kQ : Blk W g Witness [8 cells]: c0 .. c7 (and $f0 .. : not frozen)
              have z0c := Blk.cell kQ 0
              have z1c := Blk.cell kQ 1
              have z2c := Blk.cell kQ 2
              have z3c := Blk.cell kQ 3
              have z4c := Blk.cell kQ 4
              have z5c := Blk.cell kQ 5
              have z6c := Blk.cell kQ 6
              have z7c := Blk.cell kQ 7
              simp only [List.getElem?_cons_zero, List.getElem?_cons_succ] at z0c z1c z2c z3c z4c z5c z6c z7c
              have z0fz := Blk.frozen kQ 0
              have z1fz := Blk.frozen kQ 1
              have z2fz := Blk.frozen kQ 2
              have z3fz := Blk.frozen kQ 3
              have z4fz := Blk.frozen kQ 4
              have z5fz := Blk.frozen kQ 5
              have z6fz := Blk.frozen kQ 6
              have z7fz := Blk.frozen kQ 7
              have kN := kQ.put8 (.int .i64 x.ki) (.int .i64 x.r) (.int .i64 x.w1) (.int .i64 x.w2) (.int .i64 x.o) (.slice none 0 0) (.int .i64 x.fi) (.int .i64 x.se)
              -- the cells of a pattern's variable: kN : Blk W g Witness [8 cells]: d0 .. d7 (and $f0 .. : not frozen)
              have z0d := Blk.cell kN 0
              have z1d := Blk.cell kN 1
              have z2d := Blk.cell kN 2
              have z3d := Blk.cell kN 3
              have z4d := Blk.cell kN 4
              have z5d := Blk.cell kN 5
              have z6d := Blk.cell kN 6
              have z7d := Blk.cell kN 7
              simp only [List.getElem?_cons_zero, List.getElem?_cons_succ] at z0d z1d z2d z3d z4d z5d z6d z7d
              have hbf := Lib.hid (below_put8 bV (g := gr) hgrw.out (.int .i64 x.ki) (.int .i64 x.r) (.int .i64 x.w1) (.int .i64 x.w2) (.int .i64 x.o) (.slice none 0 0) (.int .i64 x.fi) (.int .i64 x.se))
              have hdd := Lib.hid (And.intro z0d (And.intro z1d (And.intro z2d (And.intro z3d (And.intro z4d (And.intro z5d (And.intro z6d z7d)))))))
              clear kN kQ bV z0d z1d z2d z3d z4d z5d z6d z7d
              go_wp2_with fail
              obtain ⟨d0, d1, d2, d3, d4, d5, d6, d7⟩ := hdd.out
              exact bodyPost_ret (v := .tuple #[.agg #[.int .i64 x.ki, .int .i64 x.r, .int .i64 x.w1, .int .i64 x.w2, .int .i64 x.o, .slice none 0 0, .int .i64 x.fi, .int .i64 x.se], .int .i64 0]) (by simp [results, Tryz.results9, go_sem, d0, d1, d2, d3, d4, d5, d6, d7]) rfl ⟨x, by rw [hans.out] <;> rfl, by rw [here.out] <;> rfl, hbf.out⟩
          · have cB := Lib.hid (bad_blank 6 wr)
            go_wp2_with fail
            refine cB.out.mono ?_
            rintro e w3 ⟨he, b3⟩
            have he' : e = .returned (.agg #[.int .i64 6, .int .i64 (-1), .int .i64 (-1), .int .i64 (-1), .int .i64 (-1), .slice none 0 0, .int .i64 (-1), .int .i64 (-1)]) := he
            subst he'
            obtain ⟨W3, hW3⟩ : ∃ W, W = w3.alloc (.cells #[.int .i64 6, .int .i64 (-1), .int .i64 (-1), .int .i64 (-1), .int .i64 (-1), .slice none 0 0, .int .i64 (-1), .int .i64 (-1)] 34) := ⟨_, rfl⟩
            obtain ⟨g3, hg3⟩ : ∃ g, g = w3.heap.size := ⟨_, rfl⟩
            have ba : Below w3.heap.size w3 W3 := by rw [hW3]; exact below_alloc _ _
            have kW3 := Lib.hid (show Blk W3 g3 34 [.int .i64 6, .int .i64 (-1), .int .i64 (-1), .int .i64 (-1), .int .i64 (-1), .slice none 0 0, .int .i64 (-1), .int .i64 (-1)] from by rw [hW3, hg3]; exact Blk.new _ _ _)
            have hgV2 : V2.heap.size ≤ g3 := by have h1 := hb.out.size; have h2 := b3.size; omega
            have hne : g3 ≠ s := by have h1 := hsw.out; have h2 := hw9V.out; omega
            have hg0 : w9.heap.size ≤ g3 := by have h2 := hw9V.out; omega
            have hS3 := Lib.hid ((hS.out.later b3).later ba)
            have hb3 := Lib.hid ((hb.out.trans (BelowB.of b3)).trans (BelowB.of ba))
            have hI3 := Lib.hid (((hI.out _ hz).later b3).later ba)
            have kLr := Lib.hid (hb3.out.blk kL.out hgl.out)
            clear he b3 ba cB k0 hS hb
            have yk := kLr.out.cell 5
            simp only [lookVs, List.getElem?_cons_zero, List.getElem?_cons_succ] at yk
            have cK := Lib.hid (look6 hEh.out hS3.out hne hg0 hI3.out (hprv.out (by decide)) kW3.out)
            obtain ⟨an, han⟩ : ∃ a, a = kindF f 6 := ⟨_, rfl⟩
            rw [← han] at hst
            replace hst := Lib.hid hst
            have hiz := Lib.hid hz
            have hne3 := hne
            have hg03 := hg0
            clear hz hI kW3 hne hg0
            go_wp2_with (rw [← hW3, ← hg3]; clear hW3; replace hg3 := Lib.hid hg3)
            refine cK.out.mono ?_
            rintro e w4 ⟨x, R', hx, rfl, kV, hS4, hb4, hnx⟩
            rw [← han] at hx hnx ⊢
            have hbs : BelowB s V2 w4 := ⟨hb4.os.trans hb3.out.os, hb4.tape.trans hb3.out.tape, hb4.output.trans hb3.out.output, Nat.le_trans hb3.out.size hb4.size, fun k hk hks => (hb4.block k (Nat.lt_of_lt_of_le hk hb3.out.size) (by omega) hks).trans (hb3.out.block k hk hks)⟩
            replace hbs := Lib.hid hbs
            replace hS4 := Lib.hid hS4
            replace han := Lib.hid han
            clear hb4 cK yk kLr hS3
            cases an with
            | none =>
              have hnx1 := Lib.hid (hnx rfl)
              have hno1 := Lib.hid (hst.out.1 rfl)
              have hI1 := Lib.hid (show ∀ z', ks[i + 1]? = some z' → LkInv f v.m z' R' w4 from fun z' hz' => by
                rw [hks.out] at hz'
                have h1 := hiz.out
                rw [hks.out] at h1
                exact hnx1.out.inv h1 hz')
              clear hx kV hnx hst
              go_wp2_with fail
              exact ⟨⟨i + 1, R', by have := hlt.out; omega, by go_num, hno1, hS4, hbs, hI1⟩, by have := hlt.out; simp [intOf]; omega⟩
            | some y =>
              have hxy : x = y := hx
              subst hxy
              have hff := hst.out.2 _ rfl
              have hans : Hid (findF f l = some x) := Lib.hid (by rw [hfF.out]; exact hff)
              have here : Hid (findE f l = 0) := Lib.hid (by rw [hfE.out, hne0.out, hans.out]; rfl)
              have kQ := hbs.out.blk kQ2.out hgs.out
              have bV := hbV.out.trans (hbs.out.below hbV.out.size hws.out)
              -- the cells of a pattern's variable: kV : Blk W g Witness [8 cells]: x0 .. x7 (and $f0 .. : not frozen)
              have z0x := Blk.cell kV 0
              have z1x := Blk.cell kV 1
              have z2x := Blk.cell kV 2
              have z3x := Blk.cell kV 3
              have z4x := Blk.cell kV 4
              have z5x := Blk.cell kV 5
              have z6x := Blk.cell kV 6
              have z7x := Blk.cell kV 7
              simp only [List.getElem?_cons_zero, List.getElem?_cons_succ] at z0x z1x z2x z3x z4x z5x z6x z7x
              clear hx kV hnx hff hst
              -- the cells x.ki .. are stored into the result's variable gr: kQ : Blk there (zero), bV : Below w.heap.size w ..; the answer is the pattern x (hans), the error 0
              -- the cells of a pattern's variable: kQ : Blk W g Witness [8 cells]: c0 .. c7 (and $f0 .. : not frozen)
              have z0c := Blk.cell kQ 0
              have z1c := Blk.cell kQ 1
              have z2c := Blk.cell kQ 2
              have z3c := Blk.cell kQ 3
              have z4c := Blk.cell kQ 4
              have z5c := Blk.cell kQ 5
              have z6c := Blk.cell kQ 6
              have z7c := Blk.cell kQ 7
              simp only [List.getElem?_cons_zero, List.getElem?_cons_succ] at z0c z1c z2c z3c z4c z5c z6c z7c
              have z0fz := Blk.frozen kQ 0
              have z1fz := Blk.frozen kQ 1
              have z2fz := Blk.frozen kQ 2
              have z3fz := Blk.frozen kQ 3
              have z4fz := Blk.frozen kQ 4
              have z5fz := Blk.frozen kQ 5
              have z6fz := Blk.frozen kQ 6
              have z7fz := Blk.frozen kQ 7
              have kN := kQ.put8 (.int .i64 x.ki) (.int .i64 x.r) (.int .i64 x.w1) (.int .i64 x.w2) (.int .i64 x.o) (.slice none 0 0) (.int .i64 x.fi) (.int .i64 x.se)
              -- the cells of a pattern's variable: kN : Blk W g Witness [8 cells]: d0 .. d7 (and $f0 .. : not frozen)
              have z0d := Blk.cell kN 0
              have z1d := Blk.cell kN 1
              have z2d := Blk.cell kN 2
              have z3d := Blk.cell kN 3
              have z4d := Blk.cell kN 4
              have z5d := Blk.cell kN 5
              have z6d := Blk.cell kN 6
              have z7d := Blk.cell kN 7
              simp only [List.getElem?_cons_zero, List.getElem?_cons_succ] at z0d z1d z2d z3d z4d z5d z6d z7d
              have hbf := Lib.hid (below_put8 bV (g := gr) hgrw.out (.int .i64 x.ki) (.int .i64 x.r) (.int .i64 x.w1) (.int .i64 x.w2) (.int .i64 x.o) (.slice none 0 0) (.int .i64 x.fi) (.int .i64 x.se))
              have hdd := Lib.hid (And.intro z0d (And.intro z1d (And.intro z2d (And.intro z3d (And.intro z4d (And.intro z5d (And.intro z6d z7d)))))))
              clear kN kQ bV z0d z1d z2d z3d z4d z5d z6d z7d
              go_wp2_with fail
              obtain ⟨d0, d1, d2, d3, d4, d5, d6, d7⟩ := hdd.out
              exact bodyPost_ret (v := .tuple #[.agg #[.int .i64 x.ki, .int .i64 x.r, .int .i64 x.w1, .int .i64 x.w2, .int .i64 x.o, .slice none 0 0, .int .i64 x.fi, .int .i64 x.se], .int .i64 0]) (by simp [results, Tryz.results9, go_sem, d0, d1, d2, d3, d4, d5, d6, d7]) rfl ⟨x, by rw [hans.out] <;> rfl, by rw [here.out] <;> rfl, hbf.out⟩
          · have cB := Lib.hid (bad_blank 7 wr)
            go_wp2_with fail
            refine cB.out.mono ?_
            rintro e w3 ⟨he, b3⟩
            have he' : e = .returned (.agg #[.int .i64 7, .int .i64 (-1), .int .i64 (-1), .int .i64 (-1), .int .i64 (-1), .slice none 0 0, .int .i64 (-1), .int .i64 (-1)]) := he
            subst he'
            obtain ⟨W3, hW3⟩ : ∃ W, W = w3.alloc (.cells #[.int .i64 7, .int .i64 (-1), .int .i64 (-1), .int .i64 (-1), .int .i64 (-1), .slice none 0 0, .int .i64 (-1), .int .i64 (-1)] 34) := ⟨_, rfl⟩
            obtain ⟨g3, hg3⟩ : ∃ g, g = w3.heap.size := ⟨_, rfl⟩
            have ba : Below w3.heap.size w3 W3 := by rw [hW3]; exact below_alloc _ _
            have kW3 := Lib.hid (show Blk W3 g3 34 [.int .i64 7, .int .i64 (-1), .int .i64 (-1), .int .i64 (-1), .int .i64 (-1), .slice none 0 0, .int .i64 (-1), .int .i64 (-1)] from by rw [hW3, hg3]; exact Blk.new _ _ _)
            have hgV2 : V2.heap.size ≤ g3 := by have h1 := hb.out.size; have h2 := b3.size; omega
            have hne : g3 ≠ s := by have h1 := hsw.out; have h2 := hw9V.out; omega
            have hg0 : w9.heap.size ≤ g3 := by have h2 := hw9V.out; omega
            have hS3 := Lib.hid ((hS.out.later b3).later ba)
            have hb3 := Lib.hid ((hb.out.trans (BelowB.of b3)).trans (BelowB.of ba))
            have hI3 := Lib.hid (((hI.out _ hz).later b3).later ba)
            have kLr := Lib.hid (hb3.out.blk kL.out hgl.out)
            clear he b3 ba cB k0 hS hb
            have yk := kLr.out.cell 6
            simp only [lookVs, List.getElem?_cons_zero, List.getElem?_cons_succ] at yk
            have cK := Lib.hid (look7 hEh.out hS3.out hne hg0 hI3.out (hprv.out (by decide)) kW3.out)
            obtain ⟨an, han⟩ : ∃ a, a = kindF f 7 := ⟨_, rfl⟩
            rw [← han] at hst
            replace hst := Lib.hid hst
            have hiz := Lib.hid hz
            have hne3 := hne
            have hg03 := hg0
            clear hz hI kW3 hne hg0
            go_wp2_with (rw [← hW3, ← hg3]; clear hW3; replace hg3 := Lib.hid hg3)
            refine cK.out.mono ?_
            rintro e w4 ⟨x, R', hx, rfl, kV, hS4, hb4, hnx⟩
            rw [← han] at hx hnx ⊢
            have hbs : BelowB s V2 w4 := ⟨hb4.os.trans hb3.out.os, hb4.tape.trans hb3.out.tape, hb4.output.trans hb3.out.output, Nat.le_trans hb3.out.size hb4.size, fun k hk hks => (hb4.block k (Nat.lt_of_lt_of_le hk hb3.out.size) (by omega) hks).trans (hb3.out.block k hk hks)⟩
            replace hbs := Lib.hid hbs
            replace hS4 := Lib.hid hS4
            replace han := Lib.hid han
            clear hb4 cK yk kLr hS3
            cases an with
            | none =>
              have hnx1 := Lib.hid (hnx rfl)
              have hno1 := Lib.hid (hst.out.1 rfl)
              have hI1 := Lib.hid (show ∀ z', ks[i + 1]? = some z' → LkInv f v.m z' R' w4 from fun z' hz' => by
                rw [hks.out] at hz'
                have h1 := hiz.out
                rw [hks.out] at h1
                exact hnx1.out.inv h1 hz')
              clear hx kV hnx hst
              go_wp2_with fail
              exact ⟨⟨i + 1, R', by have := hlt.out; omega, by go_num, hno1, hS4, hbs, hI1⟩, by have := hlt.out; simp [intOf]; omega⟩
            | some y =>
              have hxy : x = y := hx
              subst hxy
              have hff := hst.out.2 _ rfl
              have hans : Hid (findF f l = some x) := Lib.hid (by rw [hfF.out]; exact hff)
              have here : Hid (findE f l = 0) := Lib.hid (by rw [hfE.out, hne0.out, hans.out]; rfl)
              have kQ := hbs.out.blk kQ2.out hgs.out
              have bV := hbV.out.trans (hbs.out.below hbV.out.size hws.out)
              -- the cells of a pattern's variable: kV : Blk W g Witness [8 cells]: x0 .. x7 (and $f0 .. : not frozen)
              have z0x := Blk.cell kV 0
              have z1x := Blk.cell kV 1
              have z2x := Blk.cell kV 2
              have z3x := Blk.cell kV 3
              have z4x := Blk.cell kV 4
              have z5x := Blk.cell kV 5
              have z6x := Blk.cell kV 6
              have z7x := Blk.cell kV 7
              simp only [List.getElem?_cons_zero, List.getElem?_cons_succ] at z0x z1x z2x z3x z4x z5x z6x z7x
              clear hx kV hnx hff hst
              -- the cells x.ki .. are stored into the result's variable gr: kQ : Blk there (zero), bV : Below w.heap.size w ..; the answer is the pattern x (hans), the error 0
              -- the cells of a pattern's variable: kQ : Blk W g Witness [8 cells]: c0 .. c7 (and $f0 .. : not frozen)
              have z0c := Blk.cell kQ 0
              have z1c := Blk.cell kQ 1
              have z2c := Blk.cell kQ 2
              have z3c := Blk.cell kQ 3
              have z4c := Blk.cell kQ 4
              have z5c := Blk.cell kQ 5
              have z6c := Blk.cell kQ 6
              have z7c := Blk.cell kQ 7
              simp only [List.getElem?_cons_zero, List.getElem?_cons_succ] at z0c z1c z2c z3c z4c z5c z6c z7c
              have z0fz := Blk.frozen kQ 0
              have z1fz := Blk.frozen kQ 1
              have z2fz := Blk.frozen kQ 2
              have z3fz := Blk.frozen kQ 3
              have z4fz := Blk.frozen kQ 4
              have z5fz := Blk.frozen kQ 5
              have z6fz := Blk.frozen kQ 6
              have z7fz := Blk.frozen kQ 7
              have kN := kQ.put8 (.int .i64 x.ki) (.int .i64 x.r) (.int .i64 x.w1) (.int .i64 x.w2) (.int .i64 x.o) (.slice none 0 0) (.int .i64 x.fi) (.int .i64 x.se)
              -- the cells of a pattern's variable: kN : Blk W g Witness [8 cells]: d0 .. d7 (and $f0 .. : not frozen)
              have z0d := Blk.cell kN 0
              have z1d := Blk.cell kN 1
              have z2d := Blk.cell kN 2
              have z3d := Blk.cell kN 3
              have z4d := Blk.cell kN 4
              have z5d := Blk.cell kN 5
              have z6d := Blk.cell kN 6
              have z7d := Blk.cell kN 7
              simp only [List.getElem?_cons_zero, List.getElem?_cons_succ] at z0d z1d z2d z3d z4d z5d z6d z7d
              have hbf := Lib.hid (below_put8 bV (g := gr) hgrw.out (.int .i64 x.ki) (.int .i64 x.r) (.int .i64 x.w1) (.int .i64 x.w2) (.int .i64 x.o) (.slice none 0 0) (.int .i64 x.fi) (.int .i64 x.se))
              have hdd := Lib.hid (And.intro z0d (And.intro z1d (And.intro z2d (And.intro z3d (And.intro z4d (And.intro z5d (And.intro z6d z7d)))))))
              clear kN kQ bV z0d z1d z2d z3d z4d z5d z6d z7d
              go_wp2_with fail
              obtain ⟨d0, d1, d2, d3, d4, d5, d6, d7⟩ := hdd.out
              exact bodyPost_ret (v := .tuple #[.agg #[.int .i64 x.ki, .int .i64 x.r, .int .i64 x.w1, .int .i64 x.w2, .int .i64 x.o, .slice none 0 0, .int .i64 x.fi, .int .i64 x.se], .int .i64 0]) (by simp [results, Tryz.results9, go_sem, d0, d1, d2, d3, d4, d5, d6, d7]) rfl ⟨x, by rw [hans.out] <;> rfl, by rw [here.out] <;> rfl, hbf.out⟩
        · have hlt' : ¬ (i : Int) < (n : Int) := by omega
          have hans : Hid (findF f l = none) := Lib.hid (by
            rw [hfF.out]
            have h := hno.out
            rwa [List.take_of_length_le (by have := hln.out; omega)] at h)
          have here : Hid (findE f l = 8) := Lib.hid (by rw [hfE.out, hne0.out, hans.out]; rfl)
          have kQ := hb.out.blk kQ2.out hgs.out
          have bV := hbV.out.trans (hb.out.below hbV.out.size hws.out)
          clear hlt
          -- the cells 0 .. are stored into the result's variable gr: kQ : Blk there (zero), bV : Below w.heap.size w ..; the answer is the pattern zeroW (hans), the error 8
          -- the cells of a pattern's variable: kQ : Blk W g Witness [8 cells]: c0 .. c7 (and $f0 .. : not frozen)
          have z0c := Blk.cell kQ 0
          have z1c := Blk.cell kQ 1
          have z2c := Blk.cell kQ 2
          have z3c := Blk.cell kQ 3
          have z4c := Blk.cell kQ 4
          have z5c := Blk.cell kQ 5
          have z6c := Blk.cell kQ 6
          have z7c := Blk.cell kQ 7
          simp only [List.getElem?_cons_zero, List.getElem?_cons_succ] at z0c z1c z2c z3c z4c z5c z6c z7c
          have z0fz := Blk.frozen kQ 0
          have z1fz := Blk.frozen kQ 1
          have z2fz := Blk.frozen kQ 2
          have z3fz := Blk.frozen kQ 3
          have z4fz := Blk.frozen kQ 4
          have z5fz := Blk.frozen kQ 5
          have z6fz := Blk.frozen kQ 6
          have z7fz := Blk.frozen kQ 7
          have kN := kQ.put8 (.int .i64 0) (.int .i64 0) (.int .i64 0) (.int .i64 0) (.int .i64 0) (.slice none 0 0) (.int .i64 0) (.int .i64 0)
          -- the cells of a pattern's variable: kN : Blk W g Witness [8 cells]: d0 .. d7 (and $f0 .. : not frozen)
          have z0d := Blk.cell kN 0
          have z1d := Blk.cell kN 1
          have z2d := Blk.cell kN 2
          have z3d := Blk.cell kN 3
          have z4d := Blk.cell kN 4
          have z5d := Blk.cell kN 5
          have z6d := Blk.cell kN 6
          have z7d := Blk.cell kN 7
          simp only [List.getElem?_cons_zero, List.getElem?_cons_succ] at z0d z1d z2d z3d z4d z5d z6d z7d
          have hbf := Lib.hid (below_put8 bV (g := gr) hgrw.out (.int .i64 0) (.int .i64 0) (.int .i64 0) (.int .i64 0) (.int .i64 0) (.slice none 0 0) (.int .i64 0) (.int .i64 0))
          have hdd := Lib.hid (And.intro z0d (And.intro z1d (And.intro z2d (And.intro z3d (And.intro z4d (And.intro z5d (And.intro z6d z7d)))))))
          clear kN kQ bV z0d z1d z2d z3d z4d z5d z6d z7d
          go_wp2_with fail
          obtain ⟨d0, d1, d2, d3, d4, d5, d6, d7⟩ := hdd.out
          exact bodyPost_ret (v := .tuple #[.agg #[.int .i64 0, .int .i64 0, .int .i64 0, .int .i64 0, .int .i64 0, .slice none 0 0, .int .i64 0, .int .i64 0], .int .i64 8]) (by simp [results, Tryz.results9, go_sem, d0, d1, d2, d3, d4, d5, d6, d7]) rfl ⟨zeroW, by rw [hans.out] <;> rfl, by rw [here.out] <;> rfl, hbf.out⟩
end Go.Proofs.YtjhjojklfdjmdaaGreat
