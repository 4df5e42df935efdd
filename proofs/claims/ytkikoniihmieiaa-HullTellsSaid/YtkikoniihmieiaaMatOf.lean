/- Contracts of package mat: New (refused), put. Contracts of package mat: Of. -/
import Derived.Test.YtkikoniihmieiaaMatNew
namespace Go.Proofs.Ytkikoniihmieiaa
open Go.RowKit
set_option linter.unusedVariables false

set_option maxHeartbeats 400000 in
theorem mat_New_no (n : Int) (h : n < 0 ∨ 4097 ≤ n) (w : World) :
    Calls Try.prog 57 #[.int .i64 n] w (RetMat 0 [] 1 w) := by
  have hb := Lib.hid (belowZ_no (i := n) (n := 4097) h)
  have ha : Below w.heap.size w (w.alloc (.cells #[.int .i64 0, .slice none 0 0] 24)) := (Below.refl _ _).alloc (Nat.le_refl _) _
  replace ha := Lib.hid ha
  clear h
  go_enter Try.func57, Try.ntmps57
  go_wp2_with fail
  refine (mat_below _ _ _).mono ?_; rintro e w' ⟨rfl, rfl⟩
  rw [hb.out]
  go_wp2_with fail
  exact bodyPost_ret (v := .tuple #[.agg #[.int .i64 0, .slice none 0 0], .int .i64 1]) (by simp [results, Try.results57, go_sem]) rfl ⟨none, 0, 0, rfl, RowsAt.nil _ _, Nat.le_refl _, ha.out⟩

/-- what 'put' ends in -/
def Put (g q y : Nat) (w : World) (e : Ending) (w' : World) : Prop := e = .returned (.tuple #[]) ∧ ∃ k, w' = (w.drewN k).setCell ⟨g, q, none⟩ (u64v y)
set_option maxHeartbeats 400000 in
theorem mat_put (g m c : Nat) (j : Nat) (x : Nat) (w : World) (hm : m ≤ 17592186044416) (hj : j < 64 * m) (hx64 : x < 18446744073709551616) (hc : w.cell? ⟨g, j / 64, none⟩ = some (.int .u64 (x : Int))) (hf : w.frozen? ⟨g, j / 64, none⟩ = false) :
    Calls Try.prog 77 #[.slice (some ⟨g, 0, none⟩) m c, .int .i64 (j : Int)] w (Put g (j / 64) (x ||| p2 (j % 64)) w) := by
  obtain ⟨r, hre⟩ : ∃ r, r = j % 64 := ⟨_, rfl⟩
  have hr64 : r < 64 := by omega
  have hE := u64_or_nat x (p2 r) hx64 (by have := p2_lt r hr64; omega)
  replace hE := Lib.hid hE
  have hA1 : (0 : Int) ≤ (j : Int) / 64 := by omega
  have hA2 : (j : Int) / 64 < (m : Int) := by omega
  have hA3 : ((j : Int) / 64).toNat = j / 64 := by omega
  have hj0 : (0 : Int) ≤ (j : Int) := by omega
  have hrem : (j : Int) % 64 = (r : Int) := by omega
  have hjb : (j : Int) < 9223372036854775807 := by omega
  rw [← hre]
  clear hre
  go_enter Try.func77, Try.ntmps77
  go_wp2_with fail
  refine still_tail 10 (by kernel_rfl) (by kernel_rfl) (fun W hW => ?_)
  have hc' : W.cell? ⟨g, j / 64, none⟩ = some (.int .u64 (x : Int)) := by rw [hW.out]; exact hc
  have hf' : W.frozen? ⟨g, j / 64, none⟩ = false := by rw [hW.out]; exact hf
  clear hc hf
  simp only [List.take_succ_cons, List.take_zero, List.drop_succ_cons, List.drop_zero]
  have htd : (j : Int).tdiv 64 = (j : Int) / 64 := Int.tdiv_eq_ediv_of_nonneg hj0
  have htm : (j : Int).tmod 64 = (r : Int) := by rw [Int.tmod_eq_emod_of_nonneg hj0]; exact hrem
  have hw1 : IntKind.i64.wrap ((j : Int) / 64) = (j : Int) / 64 := by rw [IntKind.wrap_i64]; omega
  have hw2 : IntKind.i64.wrap (r : Int) = (r : Int) := by rw [IntKind.wrap_i64]; omega
  clear hrem
  repeat still_step
  refine wpStill_step (fun K hK => ?_)
  go_simp
  refine ⟨_, still_call (word_BitN r hr64 _), hK _ ?_⟩
  clear hK K
  repeat still_step
  refine wpStill_nil ?_
  clear htd htm hw1 hw2
  go_wp2
  go_end0
  rw [hE.out, hW.out]
  exact ⟨rfl, 1, rfl⟩

end Go.Proofs.Ytkikoniihmieiaa

namespace Go.Proofs.Ytkikoniihmieiaa
open Go.RowKit
set_option linter.unusedVariables false

set_option maxHeartbeats 400000 in
theorem mat_Of_big (n : Int) (h : n < 0 ∨ 4097 ≤ n) (A : Option Addr) (m c : Nat) (w : World) :
    Calls Try.prog 41 #[.int .i64 n, .slice A m c] w (RetMat 0 [] 1 w) := by
  have hN := Lib.hid (mat_New_no n h)
  obtain ⟨W0, hW0⟩ : ∃ W0, W0 = w.alloc (.cells #[.int .i64 0, .slice none 0 0] 24) := ⟨_, rfl⟩
  have ha : Below w.heap.size w W0 := by rw [hW0]; exact (Below.refl _ _).alloc (Nat.le_refl _) _
  have hB : MatB W0 w.heap.size 24 0 none 0 0 := by rw [hW0]; exact MatB.new w _
  replace ha := Lib.hid ha
  replace hB := Lib.hid hB
  clear h
  go_enter Try.func41, Try.ntmps41
  go_wp2_with fail
  rw [← hW0]
  clear hW0
  refine (hN.out _).mono ?_; rintro e w1 ⟨C, p, q, rfl, _, _, hb1⟩
  have hbb := Lib.hid (below_trans2 ha.out hb1)
  have hB1 := hB.out.below_ hb1
  have f20 := hB1.c0
  have f21 := hB1.c1
  have g20 := hB1.frozen 0
  have g21 := hB1.frozen 1
  have hlt := hB1.lt
  clear hb1
  go_wp2_with fail
  have hcc := (hB1.put 0 none 0 0).below_ ((Below.refl _ _).alloc (Nat.le_refl _) (.cells #[.int .i64 0, .slice C p q] 24))
  have hc1 := hcc.c0
  have hc2 := hcc.c1
  refine bodyPost_ret (v := .tuple #[.agg #[.int .i64 0, .slice none 0 0], .int .i64 1]) (by simp [results, Try.results41, go_sem, hc1, hc2]) rfl ⟨none, 0, 0, rfl, RowsAt.nil _ _, Nat.le_refl _, ?_⟩
  exact ((hbb.out.setCell (by simp) _).setCell (by simp) _).alloc (by simpa using hbb.out.size) _

/-- what is known at each round's head -/
structure OfI (w : World) (n : Nat) (ps : List (Int × Int)) (A : Option Addr) (c M : Nat) (vs : List Value) (k : Nat) (wr : World) : Prop where
  res : MatB wr w.heap.size 24 0 none 0 0
  loc : MatB wr M 24 (n : Int) A n c
  out : wr.ownsRow (w.heap.size + 1) 53 1 (.slice A n c) n vs
  rows : OwnRows 56 wr (w.heap.size + 1) vs (foldP n (ps.take k))
  below : Below w.heap.size w wr
theorem OfI.keep {w : World} {n : Nat} {ps : List (Int × Int)} {A : Option Addr} {c M : Nat} {vs : List Value} {k : Nat} {wr w' : World} (h : OfI w n ps A c M vs k wr) (hb : Below wr.heap.size wr w') : OfI w n ps A c M vs k w' :=
  ⟨h.res.below_ hb, h.loc.below_ hb, own_below h.out hb, h.rows.below hb, below_trans2 h.below hb⟩
theorem OfI.put {w : World} {n : Nat} {ps : List (Int × Int)} {A : Option Addr} {c M : Nat} {vs : List Value} {k : Nat} {wr : World} (h : OfI w n ps A c M vs k wr) (hsep : ∀ v ∈ vs, ∀ g, v.ownBlock = some g → (Value.slice A n c).ownBlock ≠ some g ∧ g ≠ M) {i j : Nat} {g m d : Nat} {xs : List Nat} {x : Nat}
    (hp : ps[k]? = some ((i : Int), (j : Int))) (hv : vs[i]? = some (.slice (some ⟨g, 0, none⟩) m d)) (hx : (foldP n (ps.take k))[i]? = some xs) (hj : j < 64 * xs.length) (hxq : xs[j / 64]? = some x) (q : Nat) :
    OfI w n ps A c M vs (k + 1) ((wr.drewN q).setCell ⟨g, j / 64, none⟩ (u64v (x ||| p2 (j % 64)))) := by
  have hs := hsep _ (List.mem_of_getElem? hv) g rfl
  have hx64 : x < 18446744073709551616 := by
    obtain ⟨_, _, _, e, ho, hw⟩ := h.rows.2.1 i _ xs hv hx
    exact hw x (List.mem_of_getElem? hxq)
  have hg := h.rows.lt _ (List.mem_of_getElem? hv) g rfl
  have hr := (h.rows.put hv hx (j / 64) (x ||| p2 (j % 64)) (or_p2_lt hx64 (by omega)))
  have he : foldP n (ps.take (k + 1)) = (foldP n (ps.take k)).set i (xs.set (j / 64) (x ||| p2 (j % 64))) := by
    rw [foldP_snoc n ps k _ hp]
    show setM _ (i : Int) (j : Int) = _
    rw [setM_nat hx, setR_in hj hxq]
  refine ⟨?_, ?_, ?_, ?_, ?_⟩
  · exact (Blk.drewN h.res q).far (by show w.heap.size ≠ g; omega) _
  · exact (Blk.drewN h.loc q).far (fun e => hs.2 e.symm) _
  · exact own_far (p := ⟨g, j / 64, none⟩) (own_drewN h.out q) hs.1 _
  · rw [he]; exact hr
  · exact (below_drewN h.below q).setCell (by show w.heap.size ≤ g; omega) _
def ofOk (n : Int) (ps : List (Int × Int)) : Bool := belowZ n 4097 && ps.all (okP n)
def ofN (n : Int) (ps : List (Int × Int)) : Int := if ofOk n ps = true then n else 0
def ofM (n : Int) (ps : List (Int × Int)) : List (List Nat) := if ofOk n ps = true then foldP n.toNat ps else []
def ofE (n : Int) (ps : List (Int × Int)) : Int := if ofOk n ps = true then 0 else 1
theorem okP_no {n : Int} {i j : Int} (h : okP n (i, j) = false) : belowZ i n = false ∨ (belowZ i n = true ∧ belowZ j n = false) := by
  rcases inM_cases h with h | ⟨h1, h2⟩
  · exact .inl (belowZ_no h)
  · exact .inr ⟨h1, belowZ_no h2⟩
theorem okP_yes {n : Int} {i j : Int} (h : okP n (i, j) = true) : belowZ i n = true ∧ belowZ j n = true ∧ 0 ≤ i ∧ i < n ∧ 0 ≤ j ∧ j < n := by
  have h' : inM n i j = true := h
  unfold inM at h'
  simp only [Bool.and_eq_true, decide_eq_true_eq] at h'
  obtain ⟨⟨⟨a, b⟩, c⟩, d⟩ := h'
  exact ⟨belowZ_yes a b, belowZ_yes c d, a, b, c, d⟩
set_option maxHeartbeats 2000000 in
theorem mat_Of_in (n : Nat) (hn : n ≤ 4096) (A : Option Addr) (m c : Nat) (ps : List (Int × Int)) (w : World) (hp : PairsAt w A m ps) (hm : m ≤ 1073741824) :
    Calls Try.prog 41 #[.int .i64 (n : Int), .slice A m c] w (RetMat (ofN n ps) (ofM n ps) (ofE n ps) w) := by
  have hN := Lib.hid (mat_New n hn)
  have hin : belowZ (n : Int) 4097 = true := belowZ_yes (by omega) (by omega)
  obtain ⟨W0, hW0⟩ : ∃ W0, W0 = w.alloc (.cells #[.int .i64 0, .slice none 0 0] 24) := ⟨_, rfl⟩
  have ha : Below w.heap.size w W0 := by rw [hW0]; exact (Below.refl _ _).alloc (Nat.le_refl _) _
  have hB : MatB W0 w.heap.size 24 0 none 0 0 := by rw [hW0]; exact MatB.new w _
  have hs0 : W0.heap.size = w.heap.size + 1 := by rw [hW0]; simp
  have hyes : Hid (ps.all (okP n) = true → ofN n ps = n ∧ ofM n ps = foldP n ps ∧ ofE n ps = 0) := Lib.hid (fun h => by unfold ofN ofM ofE ofOk; rw [hin, h]; simp)
  have hno : Hid (∀ p ∈ ps, okP n p = false → ofN n ps = 0 ∧ ofM n ps = [] ∧ ofE n ps = 1) := Lib.hid (fun p hp h => by
    have : ps.all (okP n) = false := List.all_eq_false.2 ⟨p, hp, by rw [h]; simp⟩
    unfold ofN ofM ofE ofOk; rw [hin, this]; simp)
  replace ha := Lib.hid ha
  replace hB := Lib.hid hB
  replace hs0 := Lib.hid hs0
  replace hp := Lib.hid hp
  clear hin
  go_enter Try.func41, Try.ntmps41
  go_wp2_with fail
  rw [← hW0]
  clear hW0
  refine (hN.out _).mono ?_; rintro e w1 ⟨C, p, q, vs, rfl, hown, hrows, hsep, hb1⟩
  have hpn : p = n := by
    have h1 := hown.1
    have h2 := hrows.1
    have h3 := (DimM.new n).1
    omega
  subst hpn
  rw [hs0.out] at hown hrows
  obtain ⟨W2, hW2⟩ : ∃ W2, W2 = w1.alloc (.cells #[.int .i64 p, .slice C p q] 24) := ⟨_, rfl⟩
  have hb2 : Below w1.heap.size w1 W2 := by rw [hW2]; exact (Below.refl _ _).alloc (Nat.le_refl _) _
  have hI : OfI w p ps C q w1.heap.size vs 0 W2 := by
    refine ⟨(hB.out.below_ hb1).below_ hb2, ?_, own_below hown hb2, ?_, below_trans2 (below_trans2 ha.out hb1) hb2⟩
    · rw [hW2]; exact MatB.new w1 _
    · rw [List.take_zero, foldP_nil]; exact hrows.below hb2
  have hsep' : ∀ v ∈ vs, ∀ g, v.ownBlock = some g → (Value.slice C p q).ownBlock ≠ some g ∧ g ≠ w1.heap.size := fun v hv g hg => ⟨hsep v hv g hg, by have := (hrows.lt v hv g hg).2; omega⟩
  obtain ⟨M, hM⟩ : ∃ M, M = w1.heap.size := ⟨_, rfl⟩
  rw [← hM] at hI hsep'
  replace hI := Lib.hid hI
  replace hsep' := Lib.hid hsep'
  have hpW : Hid (PairsAt W2 A m ps) := Lib.hid (hp.out.below (below_trans2 (below_trans2 ha.out hb1) hb2))
  clear hown hrows hsep hb1 hb2 hN
  go_wp2_with fail
  rw [← hW2, ← hM]
  clear hW2 hM
  go_loopw [21] (fun i wr => ∃ k : Nat, k ≤ m ∧ i = .int .i64 k ∧ Hid (OfI w p ps C q M vs k wr) ∧ Hid (∀ x ∈ ps.take k, okP p x = true)) (fun i _ => m - (intOf i).toNat)
  case atStart => exact ⟨0, Nat.zero_le _, rfl, hI, Lib.hid (by simp)⟩
  case round =>
    obtain ⟨k, hk, rfl, hIr, hall⟩ := hrel
    clear hI
    by_cases hlt : k < m
    · obtain ⟨b, off, ⟨x, y⟩, rfl, hbl, hx, ⟨⟨x1, x2⟩, ⟨y1, y2⟩⟩, hc1, hc2⟩ := (hp.out.below hIr.out.below).at_ hlt
      simp only at x1 x2 y1 y2 hc1 hc2
      obtain ⟨W3, hW3⟩ : ∃ W3, W3 = wr.alloc (.cells #[.int .i64 x, .int .i64 y] 55) := ⟨_, rfl⟩
      have hb3 : Below wr.heap.size wr W3 := by rw [hW3]; exact (Below.refl _ _).alloc (Nat.le_refl _) _
      have hI3 := hIr.out.keep hb3
      obtain ⟨T, hT⟩ : ∃ T, T = wr.heap.size := ⟨_, rfl⟩
      have hBT : Blk W3 T 55 [.int .i64 x, .int .i64 y] := by rw [hW3, hT]; exact Blk.new wr _ _
      have e0 : W3.cell? ⟨T, 0, none⟩ = some (.int .i64 x) := hBT.cell 0
      have e1 : W3.cell? ⟨T, 1, none⟩ = some (.int .i64 y) := hBT.cell 1
      have hok1 : okP p (x, y) = true → Hid (∀ z ∈ ps.take (k + 1), okP p z = true) := fun h => Lib.hid (fun z hz => by
        rw [List.take_succ_eq_append_getElem (List.getElem?_eq_some_iff.1 hx).1, (List.getElem?_eq_some_iff.1 hx).2] at hz
        rcases List.mem_append.1 hz with h5 | h5
        · exact hall.out z h5
        · rw [List.mem_singleton.1 h5]; exact h)
      have hbad : okP p (x, y) = false → Hid (ofN p ps = 0 ∧ ofM p ps = [] ∧ ofE p ps = 1) := fun h => Lib.hid (hno.out _ (List.mem_of_getElem? hx) h)
      replace hx := Lib.hid hx
      have f20 := hI3.res.c0
      have f21 := hI3.res.c1
      have g20 := hI3.res.frozen 0
      have g21 := hI3.res.frozen 1
      have hl1 := hI3.loc.c1
      replace hI3 := Lib.hid hI3
      replace hBT := Lib.hid hBT
      clear hb3
      rcases Bool.eq_false_or_eq_true (okP p (x, y)) with hok | hok
      · have hokk := hok1 hok
        obtain ⟨o1, o2, o3, o4, o5, o6⟩ := okP_yes hok
        replace o1 := Lib.hid o1
        replace o2 := Lib.hid o2
        clear hok hok1 hbad
        obtain ⟨i, rfl⟩ := Int.eq_ofNat_of_zero_le o3
        obtain ⟨j, rfl⟩ := Int.eq_ofNat_of_zero_le o5
        have hi : i < p := by omega
        have hdim := DimM.fold p (ps.take k)
        obtain ⟨xs, hxs⟩ : ∃ xs, (foldP p (ps.take k))[i]? = some xs := ⟨_, List.getElem?_eq_getElem (by rw [hdim.1]; exact hi)⟩
        have hxl := hdim.2 i xs hxs
        have hwp := words_pos (n := p) (by omega)
        have hwl := words_le (n := p) hn
        obtain ⟨v, hv⟩ : ∃ v, vs[i]? = some v := ⟨_, List.getElem?_eq_getElem (by rw [hI3.out.rows.1, hdim.1]; exact hi)⟩
        obtain ⟨B, mm, d, rfl, hro, hr64⟩ := hI3.out.rows.2.1 i v xs hv hxs
        have hmm : mm = xs.length := by have := hro.1; simpa using this.symm
        obtain ⟨g, cap, hge, _⟩ := hro.form (by omega)
        injection hge with hg1 hg2 hg3
        subst hg1
        obtain ⟨xw, hxw⟩ : ∃ xw, xs[j / 64]? = some xw := ⟨_, List.getElem?_eq_getElem (by omega)⟩
        have hxw64 := hr64 _ (List.mem_of_getElem? hxw)
        have hout := hI3.out.out
        have hAf : ∃ G, C = some ⟨G, 0, none⟩ := by
          obtain ⟨G, cap', hh, _⟩ := hout.form (by omega)
          injection hh with h1 h2 h3
          exact ⟨G, h1⟩
        obtain ⟨G, rfl⟩ := hAf
        have hjm : j < 64 * mm := by omega
        have hmm2 : mm ≤ 64 := by omega
        have hcr : W3.cell? ⟨G, i, none⟩ = some (.slice (some ⟨g, 0, none⟩) mm d) := by rw [hout.cellAt _ (by omega)]; exact hv
        have hcw : W3.cell? ⟨g, j / 64, none⟩ = some (.int .u64 (xw : Int)) := by
          rw [hro.cellAt _ (by omega), List.getElem?_map, hxw]; rfl
        have hfw := hro.frozenAt (j / 64)
        have hi0 : (0 : Int) ≤ (i : Int) := by omega
        have hip : (i : Int) < (p : Int) := by omega
        have hput := Lib.hid (mat_put g mm d j xw)
        have hupd := Lib.hid (fun W (hI : OfI w p ps (some ⟨G, 0, none⟩) q M vs k W) (z : Nat) => hI.put hsep'.out hx.out hv hxs (j := j) (x := xw) (by omega) hxw z)
        clear hdim hxs hxl hwp hwl hv hro hr64 hmm hxw hout hg2 hg3
        go_wp2_with fail
        rw [← hW3, ← hT]
        clear hW3 hT
        refine (mat_below _ _ _).mono ?_; rintro e w' ⟨rfl, rfl⟩
        rw [o1.out]
        go_wp2_with fail
        refine (mat_below _ _ _).mono ?_; rintro e w' ⟨rfl, rfl⟩
        rw [o2.out]
        go_wp2_with fail
        refine still_tail 8 (by kernel_rfl) (by kernel_rfl) (fun W hW => ?_)
        have k0 : W.cell? ⟨T, 0, none⟩ = some (.int .i64 i) := by rw [hW.out]; exact e0
        have k1 : W.cell? ⟨T, 1, none⟩ = some (.int .i64 j) := by rw [hW.out]; exact e1
        have k2 : W.cell? ⟨M, 1, none⟩ = some (.slice (some ⟨G, 0, none⟩) p q) := by rw [hW.out]; exact hl1
        have k3 : W.cell? ⟨G, i, none⟩ = some (.slice (some ⟨g, 0, none⟩) mm d) := by rw [hW.out]; exact hcr
        have k4 := Lib.hid (show W.cell? ⟨g, j / 64, none⟩ = some (.int .u64 (xw : Int)) by rw [hW.out]; exact hcw)
        have k5 := Lib.hid (show W.frozen? ⟨g, j / 64, none⟩ = false by rw [hW.out]; exact hfw)
        have hIW := Lib.hid (show OfI w p ps (some ⟨G, 0, none⟩) q M vs k W by rw [hW.out]; exact hI3.out.keep (Below.refl _ _).drew)
        clear e0 e1 hl1 hcr hcw hfw f20 f21 g20 g21 hc1 hc2
        simp only [List.take_succ_cons, List.take_zero, List.drop_succ_cons, List.drop_zero]
        repeat still_step
        refine wpStill_nil ?_
        go_wp2_with fail
        refine (hput.out W (by omega) hjm hxw64 k4.out k5.out).mono ?_; rintro e w' ⟨rfl, z, rfl⟩
        go_wp2
        go_roundw
        case rel => exact ⟨k + 1, by omega, by go_num, Lib.hid (hupd.out W hIW.out z), hokk⟩
        case measure => simp [intOf]; omega
      · have hbb := hbad hok
        rcases okP_no hok with o1 | ⟨o1, o2⟩
        · replace o1 := Lib.hid o1
          clear hok hok1 hbad
          go_wp2_with fail
          rw [← hW3, ← hT]
          clear hW3 hT
          refine (mat_below _ _ _).mono ?_; rintro e w' ⟨rfl, rfl⟩
          rw [o1.out]
          go_wp2_with fail
          have hcc := hI3.out.res.two (.int .i64 0) (.slice none 0 0)
          have hc5 := hcc.1
          have hc6 := hcc.2
          obtain ⟨q1, q2, q3⟩ := hbb.out
          rw [q1, q2, q3]
          exact bodyPost_ret (v := .tuple #[.agg #[.int .i64 0, .slice none 0 0], .int .i64 1]) (by simp [results, Try.results41, go_sem, hc5, hc6]) rfl ⟨none, 0, 0, rfl, RowsAt.nil _ _, Nat.le_refl _, (hI3.out.below.setCell (by simp) _).setCell (by simp) _⟩
        · replace o1 := Lib.hid o1
          replace o2 := Lib.hid o2
          clear hok hok1 hbad
          go_wp2_with fail
          rw [← hW3, ← hT]
          clear hW3 hT
          refine (mat_below _ _ _).mono ?_; rintro e w' ⟨rfl, rfl⟩
          rw [o1.out]
          go_wp2_with fail
          refine (mat_below _ _ _).mono ?_; rintro e w' ⟨rfl, rfl⟩
          rw [o2.out]
          go_wp2_with fail
          have hcc := hI3.out.res.two (.int .i64 0) (.slice none 0 0)
          have hc5 := hcc.1
          have hc6 := hcc.2
          obtain ⟨q1, q2, q3⟩ := hbb.out
          rw [q1, q2, q3]
          exact bodyPost_ret (v := .tuple #[.agg #[.int .i64 0, .slice none 0 0], .int .i64 1]) (by simp [results, Try.results41, go_sem, hc5, hc6]) rfl ⟨none, 0, 0, rfl, RowsAt.nil _ _, Nat.le_refl _, (hI3.out.below.setCell (by simp) _).setCell (by simp) _⟩
    · have hkm : k = m := by omega
      have hall' : ps.all (okP p) = true := List.all_eq_true.2 (fun z hz => hall.out z (by rw [List.take_of_length_le (by rw [hp.out.1]; omega)]; exact hz))
      have hy := Lib.hid (hyes.out hall')
      have hfull : ps.take k = ps := List.take_of_length_le (by rw [hp.out.1]; omega)
      have hI3 := hIr.out
      have hrw := hI3.rows
      rw [hfull] at hrw
      replace hrw := Lib.hid hrw
      have f20 := hI3.res.c0
      have f21 := hI3.res.c1
      have g20 := hI3.res.frozen 0
      have g21 := hI3.res.frozen 1
      have hl0 := hI3.loc.c0
      have hl1 := hI3.loc.c1
      replace hI3 := Lib.hid hI3
      clear hfull hall' hkm
      go_wp2_with fail
      have hcc := hI3.out.res.two (.int .i64 p) (.slice C p q)
      have hc5 := hcc.1
      have hc6 := hcc.2
      obtain ⟨q1, q2, q3⟩ := hy.out
      rw [q1, q2, q3]
      refine bodyPost_ret (v := .tuple #[.agg #[.int .i64 p, .slice C p q], .int .i64 0]) (by simp [results, Try.results41, go_sem, hc5, hc6]) rfl ⟨_, _, _, rfl, ⟨vs, ?_, ?_⟩, own_cap hI3.out.out, (hI3.out.below.setCell (by simp) _).setCell (by simp) _⟩
      · have hne : (Value.slice C p q).ownBlock ≠ some w.heap.size := fun e => by have := own_lt_block hI3.out.out _ e; omega
        exact Rd.of_own' (own_far (own_far hI3.out.out (p := ⟨w.heap.size, 0, none⟩) hne _) (p := ⟨w.heap.size, 1, none⟩) hne _)
      · exact ((hrw.out.far (p := ⟨w.heap.size, 0, none⟩) (by simp) _).far (p := ⟨w.heap.size, 1, none⟩) (by simp) _).rows
theorem mat_Of (n : Int) (A : Option Addr) (m c : Nat) (ps : List (Int × Int)) (w : World) (hp : PairsAt w A m ps) (hm : m ≤ 1073741824) :
    Calls Try.prog 41 #[.int .i64 n, .slice A m c] w (RetMat (ofN n ps) (ofM n ps) (ofE n ps) w) := by
  by_cases h : 0 ≤ n ∧ n < 4097
  · obtain ⟨k, rfl⟩ := Int.eq_ofNat_of_zero_le h.1
    exact mat_Of_in k (by omega) A m c ps w hp hm
  · have hb := belowZ_no (i := n) (n := 4097) (by omega)
    have h0 : ofOk n ps = false := by unfold ofOk; rw [hb]; rfl
    have h1 : ofN n ps = 0 ∧ ofM n ps = [] ∧ ofE n ps = 1 := by unfold ofN ofM ofE; rw [h0]; simp
    rw [h1.1, h1.2.1, h1.2.2]
    exact mat_Of_big n (by omega) A m c w

end Go.Proofs.Ytkikoniihmieiaa
