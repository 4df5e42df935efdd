/- The contracts of the document's own answers of layer 18: New. A queue of numbers of a call's own: 'q = q[1:]', 'q = append(q, x)'. No function of the program is named here. And the search over a matrix's pairs, as plain mathematics. Contract of the document's own answer: Reach (a search with a queue). -/
import Derived.Test.YtbeigdbljepfkaaGreatSeenLeastPk6
import Derived.Test.YtbeigdbljepfkaaGreatSeenLeastPk7
import Derived.Test.YtbeigdbljepfkaaGreatSeenLeastPk5
import Derived.Test.YtbeigdbljepfkaaGreatSeenLeastPk4
import Derived.ArgAppend
namespace Go.Proofs.YtbeigdbljepfkaaGreat
open Go.RowKit
set_option linter.unusedVariables false
theorem encI_all18 (ds : List Int) : encI.all ds = ds.map i64v := by
  induction ds with
  | nil => rfl
  | cons d ds ih => rw [Enc.all_cons, ih]; rfl
theorem LAt.ints {w : World} {A : Option Addr} {n : Nat} {zs : List Int} (h : LAt encI w A n zs) : Ints w A n zs :=
  ⟨⟨by rw [List.length_map]; exact h.len, fun hn => by
    obtain ⟨b, off, e, hb, hc⟩ := h.2.2 hn
    exact ⟨b, off, e, hb, fun j u hu => hc j u (by rw [encI_all18]; exact hu)⟩⟩, h.okAll⟩
/-- a list of conflicts in a block of the call's own -/
def RetELF (xs : List Ed) (w : World) (e : Ending) (w' : World) : Prop := ∃ A n c, e = .returned (.slice A n c) ∧ LAt encE w' A n xs ∧ n ≤ c ∧ c ≤ 9223372036854775807 ∧ Below w.heap.size w w' ∧ ∀ ad, A = some ad → w.heap.size ≤ ad.block
set_option maxRecDepth 100000 in
set_option maxHeartbeats 4000000 in
theorem ref18_NewF (v : FV) (f : Fac) (A : Option Addr) (c : Nat) (X : List (List Nat)) (D : Option Addr) (m d : Nat) (kept : List Int) (w : World) (hF : FactsAt w v f) (hr : RowsAt w A v.m X) (hG : Good v.m X) (hL : LAt encI w D m kept) (hk : ∀ r ∈ kept, 0 ≤ r ∧ r < (v.m : Int)) (hvm : v.m ≤ 64) (hm : m ≤ 64) (hw : WholeF f) :
    Calls Tryz.prog 19 #[.agg #[.slice v.A v.n v.c, .slice v.B v.m v.d, .slice v.C v.k v.e], .agg #[.int .i64 (v.m : Int), .slice A v.m c], .slice D m d] w (RetELF (newF f X kept) w) := by
  have hil := hF.is.len
  have hkm := Lib.hid (show v.k = v.m from by rw [← hil, ← hF.fs.len]; exact hw.len)
  have hEok := Lib.hid (newF_okE (f := f) (X := X) (kept := kept) (by rw [hil]; exact hk) (by omega))
  unfold newF at hEok ⊢
  rw [hil] at hEok ⊢
  replace hk := Lib.hid hk
  clear hw hil
  obtain ⟨i0, hi, hz0, hz1, hz2⟩ := info_parts info_edge
  replace hi := Lib.hid hi
  replace hz0 := Lib.hid hz0
  replace hz1 := Lib.hid hz1
  replace hz2 := Lib.hid hz2
  replace hL := Lib.hid hL
  -- a call with facts v and the matrix (A v.m c a), hr : RowsAt w ..: boxed at g (W0), gm (W1): hB1, hM1
  -- a call with facts v: they are boxed at g, the world is W0 then
  have hB0 := Lib.hid (FBox.new hF)
  obtain ⟨g, hg⟩ : ∃ g, g = w.heap.size := ⟨_, rfl⟩
  obtain ⟨W0, hW0⟩ : ∃ W, W = w.alloc (.cells #[.slice v.A v.n v.c, .slice v.B v.m v.d, .slice v.C v.k v.e] 29) := ⟨_, rfl⟩
  rw [← hW0, ← hg] at hB0
  clear hF
  replace hr := hr.below hB0.out.o
  have hM1 := Lib.hid (MatK.new (N := (v.m : Int)) (c := c) W0 34 hr)
  obtain ⟨gm, hgm⟩ : ∃ g, g = W0.heap.size := ⟨_, rfl⟩
  obtain ⟨W1, hW1⟩ : ∃ W, W = W0.alloc (.cells #[.int .i64 (v.m : Int), .slice A v.m c] 34) := ⟨_, rfl⟩
  rw [← hW1, ← hgm] at hM1
  have hB1 := Lib.hid (hB0.out.later (show Below W0.heap.size W0 W1 from by rw [hW1]; exact below_alloc _ _))
  clear hr hB0
  have hL1 := Lib.hid (hL.out.below hB1.out.o)
  go_enter Tryz.func19, Tryz.ntmps19
  go_wp2_with (first | (rw [← hW0, ← hg]; clear hW0 hg) | (rw [← hW1, ← hgm]; clear hW1 hgm))
  go_loopw [7, 8] (fun u t wr => ∃ i : Nat, i ≤ v.m ∧ t = .int .i64 (i : Int) ∧ Hid (Below W1.heap.size W1 wr) ∧ Hid (wr.ownsRow W1.heap.size 55 3 u (nwA f X kept v.m i).length (encE.all (nwA f X kept v.m i)))) (fun _ t _ => v.m - (intOf t).toNat)
  case atStart => exact ⟨0, Nat.zero_le _, rfl, Lib.hid (Below.refl _ _), Lib.hid (World.ownsRow_nil _ _ _ _)⟩
  case round =>
    obtain ⟨i, hi0, rfl, hb, hown⟩ := hrel
    have hB := Lib.hid (hB1.out.later hb.out)
    have p0 := hB.out.c0
    have p1 := hB.out.c1
    have p2 := hB.out.c2
    by_cases hli : i < v.m
    · have hli' : (i : Int) < (v.m : Int) := by omega
      go_wp2_with fail
      clear p0 p1 p2 hB
      go_loopw [7, 9] (fun u t wr => ∃ j : Nat, j ≤ v.m ∧ t = .int .i64 (j : Int) ∧ Hid (Below W1.heap.size W1 wr) ∧ Hid (wr.ownsRow W1.heap.size 55 3 u (nwA f X kept v.m i ++ nwB f X kept i j).length (encE.all (nwA f X kept v.m i ++ nwB f X kept i j)))) (fun _ t _ => v.m - (intOf t).toNat)
      case atStart => exact ⟨0, Nat.zero_le _, rfl, hb, Lib.hid (by rw [nwB_zero, List.append_nil]; exact hown.out)⟩
      case round =>
        clear hb hown
        obtain ⟨j, hj0, rfl, hb, hown⟩ := hrel
        have hB := Lib.hid (hB1.out.later hb.out)
        have hM := Lib.hid (hM1.out.below hb.out)
        have p0 := hB.out.c0
        have p1 := hB.out.c1
        have p2 := hB.out.c2
        have m0 := hM.out.1.c0
        have m1 := hM.out.1.c1
        by_cases hlj : j < v.m
        · have hlj' : (j : Int) < (v.m : Int) := by omega
          have bi : 0 ≤ (i : Int) ∧ (i : Int) < (v.m : Int) := by omega
          have bj : 0 ≤ (j : Int) ∧ (j : Int) < (v.m : Int) := by omega
          obtain ⟨ib, io, x, hxB, hib, hx, -, i0, i1, i2, i3, i4⟩ := hB.out.f.is.item hli
          rw [hxB] at p1
          by_cases hij : i = j
          · have e0 : ((i : Int) == (j : Int)) = true := by simp [hij]
            have hno : nwG f X i j = false := by unfold nwG; rw [decide_eq_false (by omega)]; rfl
            replace hij := Lib.hid hij
            clear i0 i1 i2 i3 i4 hx hxB hib
            -- this b is passed over: hno : nwG f X a b = false
            have hnw : Hid (nwO f X kept i j = none) := Lib.hid (by unfold nwO; rw [if_neg (by rw [hno]; simp)])
            replace hno := Lib.hid hno
            clear hlj
            go_wp2_with fail
            go_quiet (fail)
            go_wp2_with fail
            exact ⟨⟨j + 1, by have := hlj'; omega, by go_num, Lib.hid (below_drewN hb.out _), Lib.hid (by rw [nwB_succ, hnw.out]; simp only [Option.toList_none, List.append_nil]; exact own_below hown.out (below_drewN (Below.refl _ _) _))⟩, by have := hlj'; simp [intOf]; omega⟩
          · have e0 : ((i : Int) == (j : Int)) = false := by simp; omega
            obtain ⟨jb, jo, y, hyB, hjb, hy, -, j0, j1, j2, j3, j4⟩ := hB.out.f.is.item hlj
            rw [hxB] at hyB
            injection hyB with hyB
            injection hyB with h1 h2
            subst h1; subst h2
            have hno : nwG f X i j = ((x.wr && y.wr && decide (x.va = y.va)) && !(hasM X (i : Int) (j : Int))) := by
              unfold nwG; rw [bothW_at hx hy, decide_eq_true hij, Bool.true_and]
            replace hij := Lib.hid hij
            obtain ⟨xs, xp, xw, xa, xl⟩ := x
            obtain ⟨ys, yp, yw, ya, yl⟩ := y
            simp only at i2 i3 j2 j3 hno
            clear i0 i1 i4 j0 j1 j4 hx hy hxB hib hjb
            cases xw with
            | false =>
              rw [Bool.false_and, Bool.false_and, Bool.false_and] at hno
              -- this b is passed over: hno : nwG f X a b = false
              have hnw : Hid (nwO f X kept i j = none) := Lib.hid (by unfold nwO; rw [if_neg (by rw [hno]; simp)])
              replace hno := Lib.hid hno
              clear hlj
              go_wp2_with fail
              go_quiet (fail)
              go_wp2_with fail
              exact ⟨⟨j + 1, by have := hlj'; omega, by go_num, Lib.hid (below_drewN hb.out _), Lib.hid (by rw [nwB_succ, hnw.out]; simp only [Option.toList_none, List.append_nil]; exact own_below hown.out (below_drewN (Below.refl _ _) _))⟩, by have := hlj'; simp [intOf]; omega⟩
            | true =>
              cases yw with
              | false =>
                rw [Bool.and_false, Bool.false_and, Bool.false_and] at hno
                -- this b is passed over: hno : nwG f X a b = false
                have hnw : Hid (nwO f X kept i j = none) := Lib.hid (by unfold nwO; rw [if_neg (by rw [hno]; simp)])
                replace hno := Lib.hid hno
                clear hlj
                go_wp2_with fail
                go_quiet (fail)
                go_wp2_with fail
                exact ⟨⟨j + 1, by have := hlj'; omega, by go_num, Lib.hid (below_drewN hb.out _), Lib.hid (by rw [nwB_succ, hnw.out]; simp only [Option.toList_none, List.append_nil]; exact own_below hown.out (below_drewN (Below.refl _ _) _))⟩, by have := hlj'; simp [intOf]; omega⟩
              | true =>
                by_cases hva : xa = ya
                · have e1 : (xa != ya) = false := by simp [hva]
                  rw [decide_eq_true hva, Bool.and_true, Bool.and_true, Bool.true_and] at hno
                  replace hva := Lib.hid hva
                  have cH := fun W hW => ref3_HasG A v.m c X hG (i : Int) (j : Int) W hW
                  go_wp2_with fail
                  refine wp_region_plan 42 [(true, 0), (true, 1), (true, 2), (true, 3), (true, 4), (true, 5), (true, 6), (true, 7), (true, 8), (true, 9), (true, 10), (true, 11), (true, 12), (true, 13), (true, 14), (true, 15), (true, 16), (true, 17), (true, 18), (true, 19), (true, 20), (true, 21), (true, 22), (true, 23), (true, 24), (true, 25), (true, 26), (true, 27), (true, 28), (true, 29), (true, 30), (true, 31), (true, 32), (true, 33), (true, 34), (true, 35), (true, 36), (true, 37), (true, 38), (true, 39), (false, 40), (true, 41)] (by kernel_rfl) (by kernel_rfl) (fun U hU => ?_)
                  have hU' : Below wr.heap.size wr U := by rw [hU.out]; exact (Below.refl _ _).drew
                  have drw : ∀ p u, wr.cell? p = some u → U.cell? p = some u := fun p u h => by rw [hU.out]; exact h
                  replace i2 := drw _ _ i2
                  replace i3 := drw _ _ i3
                  replace j2 := drw _ _ j2
                  replace j3 := drw _ _ j3
                  replace p1 := drw _ _ p1
                  replace m0 := drw _ _ m0
                  replace m1 := drw _ _ m1
                  clear drw
                  replace hM := Lib.hid (hM.out.below hU')
                  replace hown := Lib.hid (own_below hown.out hU')
                  replace hb := Lib.hid (below_trans2 hb.out hU')
                  clear hU hU' p0 p2
                  simp only [List.drop_succ_cons, List.drop_nil]
                  replace hlj := Lib.hid hlj
                  iterate 40
                    refine wpPlan_float (v := ?_) rfl (by rfl) (fun w' hw' => ?_) (fun K hK => ?_)
                    rotate_left
                    · (go_simp; try with_reducible rfl)
                    go_simp
                    refine hK _ ?_
                    clear hK K
                  clear p1 m0 m1 i2 i3 j2 j3
                  cases hh : hasM X (i : Int) (j : Int) with
                  | true =>
                    rw [hh] at hno cH
                    have hnw : Hid (nwO f X kept i j = none) := Lib.hid (by unfold nwO; rw [if_neg (by rw [hno]; simp)])
                    replace hno := Lib.hid hno
                    replace cH := Lib.hid cH
                    clear hh
                    refine wpPlan_only rfl (by rfl) (fun K hK => ?_)
                    go_simp
                    refine (cH.out U hM.out.2).mono ?_
                    rintro e x3 ⟨rfl, bx⟩
                    refine hK _ _ bx ?_
                    clear hK K
                    replace hown := Lib.hid (own_below hown.out bx)
                    replace hb := Lib.hid (below_trans2 hb.out bx)
                    clear bx hM
                    iterate 1
                      refine wpPlan_float (v := ?_) rfl (by rfl) (fun w' hw' => ?_) (fun K hK => ?_)
                      rotate_left
                      · (go_simp; try with_reducible rfl)
                      go_simp
                      refine hK _ ?_
                      clear hK K
                    refine wpPlan_nil (NoPanic.normal ?_)
                    go_wp2_with fail
                    exact ⟨⟨j + 1, by have := hlj.out; omega, by go_num, hb, Lib.hid (by rw [nwB_succ, hnw.out]; simp only [Option.toList_none, List.append_nil]; exact hown.out)⟩, by have := hlj.out; simp [intOf]; omega⟩
                  | false =>
                    rw [hh] at hno cH
                    have hnw : Hid (nwO f X kept i j = (kept.find? (nwK f X i j)).map (fun r => ⟨(i : Int), (j : Int), r⟩)) := Lib.hid (by unfold nwO; rw [if_pos (by rw [hno]; rfl)])
                    replace hno := Lib.hid hno
                    replace cH := Lib.hid cH
                    clear hh
                    refine wpPlan_only rfl (by rfl) (fun K hK => ?_)
                    go_simp
                    refine (cH.out U hM.out.2).mono ?_
                    rintro e x3 ⟨rfl, bx⟩
                    refine hK _ _ bx ?_
                    clear hK K
                    replace hown := Lib.hid (own_below hown.out bx)
                    replace hb := Lib.hid (below_trans2 hb.out bx)
                    clear bx hM cH
                    have hS0 := nwA_len (f := f) (X := X) (kept := kept) v.m i
                    have hS1 := nwB_len (f := f) (X := X) (kept := kept) i j
                    obtain ⟨S2, hS2⟩ : ∃ S, S = nwA f X kept v.m i ++ nwB f X kept i j := ⟨_, rfl⟩
                    have hS2l : S2.length ≤ 1048576 := by
                      rw [hS2, List.length_append]
                      have q1 : i * v.m ≤ 64 * 64 := Nat.mul_le_mul (by omega) hvm
                      omega
                    rw [← hS2] at hown
                    obtain ⟨L, hLl⟩ : ∃ L, L = S2.length := ⟨_, rfl⟩
                    rw [← hLl] at hown hS2l
                    replace hLl := Lib.hid hLl
                    replace hS2 := Lib.hid hS2
                    clear hS0 hS1
                    iterate 1
                      refine wpPlan_float (v := ?_) rfl (by rfl) (fun w' hw' => ?_) (fun K hK => ?_)
                      rotate_left
                      · (go_simp; try with_reducible rfl)
                      go_simp
                      refine hK _ ?_
                      clear hK K
                    refine wpPlan_nil (NoPanic.normal ?_)
                    go_wp2_with fail
                    go_loopw [7, 10] (fun u t wr => ∃ k : Nat, k ≤ m ∧ t = .int .i64 (k : Int) ∧ Hid (∀ q, q < k → ∀ r, kept[q]? = some r → nwK f X i j r = false) ∧ Hid (Below W1.heap.size W1 wr) ∧ Hid (wr.ownsRow W1.heap.size 55 3 u L (encE.all S2))) (fun _ t _ => m - (intOf t).toNat)
                    case atStart => exact ⟨0, Nat.zero_le _, rfl, Lib.hid (fun q h => absurd h (by omega)), hb, hown⟩
                    case round =>
                      clear hb hown
                      obtain ⟨k, hk0, rfl, hall, hb, hown⟩ := hrel
                      by_cases hkl : k < m
                      · have hkl' : (k : Int) < (m : Int) := by omega
                        have bk : 0 ≤ (k : Int) ∧ (k : Int) < (m : Int) := by omega
                        have hB := Lib.hid (hB1.out.later hb.out)
                        have hM := Lib.hid (hM1.out.below hb.out)
                        have p0 := hB.out.c0
                        have p1 := hB.out.c1
                        have p2 := hB.out.c2
                        have m0 := hM.out.1.c0
                        have m1 := hM.out.1.c1
                        obtain ⟨rb, ro, r, hDr, -, hr, -, r0⟩ := (hL1.out.below hb.out).int hkl
                        have hrr := hk.out r (List.mem_of_getElem? hr)
                        obtain ⟨zb, zo, z, hzC, -, hz, -, k0⟩ := hB.out.f.fs.int (show r.toNat < v.k by have := hkm.out; omega)
                        rw [hzC] at p2
                        subst hDr
                        have hgd : f.frm.getD r.toNat 0 = z := by rw [List.getD_eq_getElem?_getD, hz]; rfl
                        have brr : 0 ≤ r ∧ r < (v.k : Int) := by have := hkm.out; omega
                        have hnk : nwK f X i j r = (decide (z = (j : Int)) && hasM X (i : Int) r) := by unfold nwK; rw [hgd]
                        have cH := ref3_HasG A v.m c X hG (i : Int) r wr hM.out.2
                        have hnx : nwK f X i j r = false → Hid (∀ q, q < k + 1 → ∀ r, kept[q]? = some r → nwK f X i j r = false) := fun h => Lib.hid (fun q hq y hy => by
                          rcases Nat.lt_succ_iff_lt_or_eq.1 hq with h1 | h1
                          · exact hall.out q h1 y hy
                          · subst h1
                            rw [hr] at hy
                            injection hy with hy
                            rw [← hy]; exact h)
                        replace hgd := Lib.hid hgd
                        replace hrr := Lib.hid hrr
                        replace hkl := Lib.hid hkl
                        replace hr := Lib.hid hr
                        clear hz hzC
                        by_cases hzj : z = (j : Int)
                        · have e2 : (z == (j : Int)) = true := by simp [hzj]
                          rw [decide_eq_true hzj, Bool.true_and] at hnk
                          replace hzj := Lib.hid hzj
                          cases hh : hasM X (i : Int) r with
                          | true =>
                            rw [hh] at hnk cH
                            have hfo : Hid (nwO f X kept i j = some ⟨(i : Int), (j : Int), r⟩) := Lib.hid (by
                              have hq := (List.getElem?_eq_some_iff.1 hr.out).1
                              rw [hnw.out, List.find?_eq_some_iff_getElem.2 ⟨hnk, k, hq, (List.getElem?_eq_some_iff.1 hr.out).2, fun q hq' => by
                                rw [hall.out q hq' _ (List.getElem?_eq_getElem (by omega))]; rfl⟩]
                              rfl)
                            replace cH := Lib.hid cH
                            clear hh hnk hnx
                            have hrr' := hrr.out
                            go_wp2_with fail
                            refine cH.out.mono ?_; rintro e w5 ⟨rfl, b5⟩
                            have hown5 := Lib.hid (own_below hown.out b5)
                            have hb5 := Lib.hid (below_trans2 hb.out b5)
                            clear b5 cH k0 p0 p1 p2 m0 m1 r0
                            -- 'append(out, Edge{(i : Int), (j : Int), r})' (temps 91 96) in the world w5: hown : the row S2 of length L (hL), hb : Below W1 .. w5; behind it: hown', hb7
                            obtain ⟨gl, hgl⟩ : ∃ g, g = (w5).heap.size := ⟨_, rfl⟩
                            obtain ⟨VL, hVL⟩ : ∃ W, W = World.alloc (w5) (.cells #[.int .i64 (i : Int), .int .i64 (j : Int), .int .i64 r] 55) := ⟨_, rfl⟩
                            have bL : Below (w5).heap.size (w5) VL := by rw [hVL]; exact (Below.refl _ _).alloc (Nat.le_refl _) _
                            have hlit := Lib.hid (show LAt encE VL (some ⟨gl, 0, none⟩) 1 [⟨(i : Int), (j : Int), r⟩] from by rw [hVL, hgl]; exact LAt.lit1 (E := encE) (w5) 55 ⟨(i : Int), (j : Int), r⟩ ⟨by simp only; omega, by simp only; omega, by simp only; omega, by simp only; omega, by simp only; omega, by simp only; omega⟩)
                            have hownL := Lib.hid (own_below hown5.out bL)
                            have bWL := Lib.hid (below_trans2 hb5.out bL)
                            have hbase := Lib.hid bWL.out.size
                            clear bL
                            go_wp2_with (first
                              | (rw [← hVL, ← hgl]; clear hVL hgl)
                              | (at_builtin; refine wpList_append_L (E := encE) rfl (.tmp 91) (.tmp 96) _ rfl W1.heap.size 55 i0 _ 24 Tryz.underlying36 hi.out hz0.out hz1.out hz2.out rfl _ L S2 (by rfl) hownL.out _ 1 1 _ rfl hlit.out (by unfold maxLen; omega) (by omega) hbase.out ?_; intro v' w7 hown' hb7 _ _))
                            exact ⟨⟨j + 1, by have := hlj.out; omega, by go_num, Lib.hid (bWL.out.trans hb7), Lib.hid (by rw [nwB_succ, hfo.out, ← List.append_assoc, ← hS2.out]; simp only [Option.toList_some]; rw [List.length_append, ← hLl.out]; exact hown')⟩, by have := hlj.out; simp [intOf]; omega⟩
                          | false =>
                            rw [hh] at hnk cH
                            have hnn := hnx hnk
                            replace cH := Lib.hid cH
                            clear hh hnk hnx
                            go_wp2_with fail
                            refine cH.out.mono ?_; rintro e w5 ⟨rfl, b5⟩
                            have hown5 := Lib.hid (own_below hown.out b5)
                            have hb5 := Lib.hid (below_trans2 hb.out b5)
                            clear b5 cH k0 p0 p1 p2 m0 m1 r0
                            go_wp2_with fail
                            exact ⟨⟨k + 1, by have := hkl.out; omega, by go_num, hnn, hb5, hown5⟩, by have := hkl.out; simp [intOf]; omega⟩
                        · have e2 : (z == (j : Int)) = false := by simpa using hzj
                          rw [decide_eq_false hzj, Bool.false_and] at hnk
                          have hnn := hnx hnk
                          replace hzj := Lib.hid hzj
                          clear hnk hnx cH
                          go_wp2_with fail
                          exact ⟨⟨k + 1, by have := hkl.out; omega, by go_num, hnn, hb, hown⟩, by have := hkl.out; simp [intOf]; omega⟩
                      · have hkl' : ¬ (k : Int) < (m : Int) := by omega
                        have hno' : Hid (nwO f X kept i j = none) := Lib.hid (by
                          rw [hnw.out, List.find?_eq_none.2 (fun r hr => by
                            obtain ⟨q, hq, e⟩ := List.getElem_of_mem hr
                            rw [hall.out q (by have := hL.out.len; omega) r (by rw [List.getElem?_eq_getElem hq, e])]
                            simp)]
                          rfl)
                        clear hkl
                        go_wp2_with fail
                        exact ⟨⟨j + 1, by have := hlj.out; omega, by go_num, hb, Lib.hid (by rw [nwB_succ, hno'.out]; simp only [Option.toList_none, List.append_nil]; rw [← hS2.out, ← hLl.out]; exact hown.out)⟩, by have := hlj.out; simp [intOf]; omega⟩
                · have e1 : (xa != ya) = true := by simpa using hva
                  rw [decide_eq_false hva, Bool.and_false, Bool.false_and] at hno
                  replace hva := Lib.hid hva
                  -- this b is passed over: hno : nwG f X a b = false
                  have hnw : Hid (nwO f X kept i j = none) := Lib.hid (by unfold nwO; rw [if_neg (by rw [hno]; simp)])
                  replace hno := Lib.hid hno
                  clear hlj
                  go_wp2_with fail
                  go_quiet (fail)
                  go_wp2_with fail
                  exact ⟨⟨j + 1, by have := hlj'; omega, by go_num, Lib.hid (below_drewN hb.out _), Lib.hid (by rw [nwB_succ, hnw.out]; simp only [Option.toList_none, List.append_nil]; exact own_below hown.out (below_drewN (Below.refl _ _) _))⟩, by have := hlj'; simp [intOf]; omega⟩
        · have hlj' : ¬ (j : Int) < (v.m : Int) := by omega
          obtain rfl : j = v.m := by omega
          clear hlj
          go_wp2_with fail
          exact ⟨⟨i + 1, by omega, by go_num, hb, Lib.hid (by rw [nwA_succ]; exact hown.out)⟩, by simp [intOf]; omega⟩
    · have hli' : ¬ (i : Int) < (v.m : Int) := by omega
      obtain rfl : i = v.m := by omega
      have hfr := Lib.hid (own_lt_block hown.out)
      obtain ⟨A2, c2, rfl, hnc, hcm, hLA⟩ := LAt.of_own hown.out hEok.out rfl
      clear hli
      go_wp2_with fail
      go_ret
      exact ⟨A2, _, c2, rfl, hLA, hnc, hcm, below_trans2 hB1.out.o hb.out, fun ad e => by subst e; exact Nat.le_trans hB1.out.o.size (hfr.out _ rfl)⟩
end Go.Proofs.YtbeigdbljepfkaaGreat

namespace Go.Proofs.YtbeigdbljepfkaaGreat
open Go.RowKit
set_option linter.unusedVariables false

/-- a slice somewhere in a block of the call's own, that reads as the numbers zs -/
def QN (w : World) (base : Nat) (t : TypeId) (v : Value) (zs : List Nat) : Prop :=
  ∃ g off cap cs, v = .slice (some ⟨g, off, none⟩) zs.length cap ∧ base ≤ g ∧ w.heap[g]? = some (.cells cs t (0, 0)) ∧ zs.length ≤ cap ∧ cap ≤ maxLen ∧ off + cap ≤ cs.size ∧ ∀ (j z : Nat), zs[j]? = some z → cs[off + j]? = some (.int .i64 (z : Int))
def qlen : Value → Nat
  | .slice _ n _ => n
  | _ => 0
section
variable {w w' : World} {base : Nat} {t : TypeId} {v : Value} {zs : List Nat}
theorem cell_cells {w : World} {g : Nat} {cs : Array Value} {t : TypeId} {fr : Nat × Nat} (h : w.heap[g]? = some (.cells cs t fr)) (i : Nat) : w.cell? ⟨g, i, none⟩ = cs[i]? := cell_of_row w g i cs t fr h
theorem frozen_cells {w : World} {g : Nat} {cs : Array Value} {t : TypeId} (h : w.heap[g]? = some (.cells cs t (0, 0))) (i : Nat) : w.frozen? ⟨g, i, none⟩ = false := by simp [World.frozen?, h]
theorem QN.qlen_ (h : QN w base t v zs) : qlen v = zs.length := by obtain ⟨g, off, cap, cs, rfl, _⟩ := h; rfl
theorem QN.of_own {n : Nat} (h : w.ownsRow base t 1 v n (zs.map natv)) (h0 : 0 < n) : QN w base t v zs := by
  have hl : zs.length = n := by have := h.1; simpa using this
  rcases h.2 with ⟨h1, h2⟩ | ⟨g, cap, cur, rfl, hbg, hg, hnc, hcm, hcs, htake⟩
  · omega
  · refine ⟨g, 0, cap, cur, by rw [hl], hbg, hg, by omega, hcm, by omega, fun j z hj => ?_⟩
    have hjl := (List.getElem?_eq_some_iff.1 hj).1
    have : (zs.map natv)[j]? = some (natv z) := by rw [List.getElem?_map, hj]; rfl
    rw [← htake, List.getElem?_take_of_lt (by omega)] at this
    rw [Nat.zero_add]
    simpa [natv] using this
theorem QN.lt (h : QN w base t v zs) : ∀ g, v.ownBlock = some g → base ≤ g ∧ g < w.heap.size := by
  obtain ⟨g, off, cap, cs, rfl, hb, hg, _⟩ := h
  intro k hk
  have : g = k := by simpa [Value.ownBlock] using hk
  subst this
  exact ⟨hb, (Array.getElem?_eq_some_iff.1 hg).1⟩
theorem QN.below (h : QN w base t v zs) (hb : Below w.heap.size w w') : QN w' base t v zs := by
  obtain ⟨g, off, cap, cs, hv, h1, hg, r⟩ := h
  exact ⟨g, off, cap, cs, hv, h1, (hb.block g (Array.getElem?_eq_some_iff.1 hg).1).trans hg, r⟩
theorem QN.far (h : QN w base t v zs) {p : Addr} (hp : v.ownBlock ≠ some p.block) (u : Value) : QN (w.setCell p u) base t v zs := by
  obtain ⟨g, off, cap, cs, rfl, h1, hg, r⟩ := h
  refine ⟨g, off, cap, cs, rfl, h1, ?_, r⟩
  rw [Below.heap_setCell w p u g (fun e => hp (by rw [← e]; rfl))]; exact hg
/-- 'q[0]', 'q[1:]' -/
theorem QN.pop {z : Nat} (h : QN w base t v (z :: zs)) : ∃ g off cap, v = .slice (some ⟨g, off, none⟩) (zs.length + 1) cap ∧ w.cell? ⟨g, off, none⟩ = some (.int .i64 (z : Int)) ∧ zs.length + 1 ≤ cap ∧
    (cap = 1 → QN w base t (.slice (some ⟨g, off, none⟩) zs.length 0) zs) ∧ (cap ≠ 1 → QN w base t (.slice (some ⟨g, off + 1, none⟩) zs.length (cap - 1)) zs) := by
  obtain ⟨g, off, cap, cs, hv, h1, hg, hl, hm, hs, hc⟩ := h
  have hl' : zs.length + 1 ≤ cap := by simpa using hl
  refine ⟨g, off, cap, by rw [hv]; simp, ?_, hl', fun hc1 => ?_, fun hc1 => ?_⟩
  · rw [cell_cells hg]
    have := hc 0 z rfl
    simpa using this
  · have : zs = [] := List.eq_nil_of_length_eq_zero (by omega)
    subst this
    exact ⟨g, off, 0, cs, rfl, h1, hg, Nat.le_refl _, by omega, by omega, fun j z h => by simp at h⟩
  · refine ⟨g, off + 1, cap - 1, cs, rfl, h1, hg, by omega, by omega, by omega, fun j z' hj => ?_⟩
    have := hc (j + 1) z' (by simpa using hj)
    rw [show off + 1 + j = off + (j + 1) by omega]; exact this
theorem QN.nil (h : QN w base t v []) : ∃ g off cap, v = .slice (some ⟨g, off, none⟩) 0 cap := by
  obtain ⟨g, off, cap, cs, hv, _⟩ := h
  exact ⟨g, off, cap, by simpa using hv⟩
end
section
variable {P : Program}
/-- 'q = append(q, x)' -/
theorem run_append_q (w : World) (base : Nat) (t ty e : TypeId) (i : TypeInfo) (z : Value) (ht : P.underlying t = some (.slice e)) (hi : P.info? e = some i) (hz : i.zero = some z) (hsize : i.size = 1) (hby : i.bytes = 8) (hzs : z.cells.size = 1)
    {v : Value} {zs : List Nat} (hq : QN w base e v zs) (ad : Addr) (c x : Nat) (hx : w.cell? ad = some (.int .i64 (x : Int))) (hn : zs.length ≤ 1073741824) (hbase : base ≤ w.heap.size) :
    ∃ v' w', (Builtin.append_ #[t, t] ty #[v, .slice (some ad) 1 c]).run P w = .ok v' w' ∧ QN w' base e v' (zs ++ [x]) ∧ w.grownBy w' v.ownBlock := by
  obtain ⟨g, off, cap, cs, rfl, hb, hg, hl, hm, hs, hc⟩ := hq
  have hnews : ∀ j u, [Value.int .i64 (x : Int)][j]? = some u → w.cell? (ad.add j) = some u := fun j u hj => by
    match j, hj with
    | 0, hj =>
      have ha : ad.add 0 = ad := by obtain ⟨b, o, s⟩ := ad; unfold Addr.add; split <;> simp_all
      rw [ha, hx]
      simpa using hj
    | j + 1, hj => simp at hj
  by_cases hr : zs.length + 1 ≤ cap
  · have hcell : (w.cell? ⟨g, off + zs.length, none⟩).isSome = true := by
      rw [cell_cells hg, Array.getElem?_eq_getElem (by omega)]; rfl
    have hrun := run_append_room_cells (P := P) w t ty e i ht hi g off zs.length cap ad 1 c [.int .i64 (x : Int)] (by rw [hsize]; rfl) hnews (by simp [Value.oneCell']) hr
      (fun j hj => by
        have : j = 0 := by simpa using hj
        subst this
        rw [hsize]; simpa using hcell)
      (fun j hj => frozen_cells hg _)
    rw [hsize, Nat.mul_one] at hrun
    have hset : w.setCells g (off + zs.length) [.int .i64 (x : Int)] = w.setCell ⟨g, off + zs.length, none⟩ (.int .i64 (x : Int)) := rfl
    rw [hset] at hrun
    refine ⟨_, _, hrun, ⟨g, off, cap, cs.set! (off + zs.length) (.int .i64 (x : Int)), by simp, hb, ?_, by simpa using hr, hm, by simpa using hs, fun j z' hj => ?_⟩, ?_⟩
    · simp [World.setCell, Array.getElem?_modify, hg]
    · simp only [Array.set!_eq_setIfInBounds, Array.getElem?_setIfInBounds]
      rcases Nat.lt_or_ge j zs.length with hj' | hj'
      · rw [List.getElem?_append_left hj'] at hj
        rw [if_neg (by omega)]
        exact hc j z' hj
      · rw [List.getElem?_append_right hj'] at hj
        have hj0 : j - zs.length = 0 := by
          have := (List.getElem?_eq_some_iff.1 hj).1
          simpa using this
        rw [hj0] at hj
        simp at hj
        rw [if_pos (by omega), if_pos (by omega), hj]
    · exact ⟨rfl, rfl, rfl, by simp, fun k hk hne => Below.heap_setCell w _ _ k (by
        intro e'
        apply hne
        have e2 : k = g := e'
        rw [e2]; rfl)⟩
  · obtain ⟨v', w', hrun, hown, hgrow⟩ := run_append_arg_grows (P := P) w t ty e i z 1 8 ht hi hz hsize hby hzs (by omega) ⟨g, off, none⟩ zs.length cap (zs.map natv) (by simp)
      (fun j u hj => by
        rw [List.getElem?_map] at hj
        cases hh : zs[j]? with
        | none => rw [hh] at hj; cases hj
        | some y =>
          rw [hh] at hj
          have ha : (⟨g, off, none⟩ : Addr).add j = ⟨g, off + j, none⟩ := by unfold Addr.add; split <;> simp_all
          rw [ha, cell_cells hg, hc j y hh]
          simpa [natv] using hj)
      ad 1 c [.int .i64 (x : Int)] rfl hnews (by omega) (by unfold maxLen; omega) (by omega)
    refine ⟨v', w', hrun, ?_, ⟨hgrow.os, hgrow.tape, hgrow.output, hgrow.size, fun k hk _ => hgrow.block k hk (by simp)⟩⟩
    have h2 : w'.ownsRow base e 1 v' (zs.length + 1) ((zs ++ [x]).map natv) := by
      rw [List.map_append]
      exact own_base hown hbase
    exact QN.of_own h2 (by omega)
theorem wpList_append_q (w : World) {ops : Array Oper} {rest : List Oper} {o : Oper} {a : Act} {Q : Exit → Act → World → Prop} (hgd : o.guard = none) (s x : Operand) (t : TypeId)
    (ho : o.op = .call { callee := .builtin .append, args := #[s, x], argTypes := #[t, t] })
    (base : Nat) (e : TypeId) (i : TypeInfo) (z : Value) (ht : P.underlying t = some (.slice e)) (hi : P.info? e = some i) (hz : i.zero = some z) (hsize : i.size = 1) (hby : i.bytes = 8) (hzs : z.cells.size = 1)
    {v : Value} {zs : List Nat} (hs : a.eval s = v) (hq : QN w base e v zs) (ad : Addr) (c y : Nat) (hx : a.eval x = .slice (some ad) 1 c) (hy : w.cell? ad = some (.int .i64 (y : Int))) (hn : zs.length ≤ 1073741824) (hbase : base ≤ w.heap.size)
    (hK : ∀ v' w', QN w' base e v' (zs ++ [y]) → w.grownBy w' v.ownBlock → wpList P ops Q rest (a.put o.dst v') w') : wpList P ops Q (o :: rest) a w := by
  refine wpList_plain hgd fun K hK' => ?_
  obtain ⟨v', w', hrun, h1, h2⟩ := run_append_q (P := P) w base t o.type e i z ht hi hz hsize hby hzs hq ad c y hy hn hbase
  unfold Oper.wp
  simp [execOp, ho, resolve, invoke, builtin, hs, hx, hrun, Result.andThen]
  exact hK' _ _ (hK v' w' h1 h2)
end

/-! ### how many are not seen yet -/
def zeroOf : Bool → Nat
  | true => 0
  | false => 1
def unseen (bs : List Bool) : Nat := (bs.map zeroOf).sum
theorem unseen_set {bs : List Bool} {j : Nat} (h : bs[j]? = some false) : unseen (bs.set j true) + 1 = unseen bs := by
  unfold unseen
  rw [List.map_set]
  have := sum_set (bs.map zeroOf) j (zeroOf true) (zeroOf false) (by rw [List.getElem?_map, h]; rfl)
  simpa [zeroOf] using this
theorem unseen_all (n : Nat) : unseen (List.replicate n false) = n := by
  unfold unseen
  induction n with
  | zero => rfl
  | succ n ih => rw [List.replicate_succ, List.map_cons, List.sum_cons, ih]; simp [zeroOf]; omega
def zeroV : Value → Nat
  | .bool false => 1
  | _ => 0
/-- .. as memory has it -/
def unseenW (w : World) (g : Nat) : Nat := match w.heap[g]? with
  | some (.cells cs _ _) => (cs.toList.map zeroV).sum
  | _ => 0
theorem unseenW_blk {w : World} {g : Nat} {t : TypeId} {bs : List Bool} (h : Blk w g t (bs.map .bool)) : unseenW w g = unseen bs := by
  unfold Blk at h
  unfold unseenW unseen
  rw [h]
  simp only [List.map_map]
  congr 1
  apply List.map_congr_left
  intro b _
  cases b <;> rfl

/-! ### the search -/
structure ReachI (n : Nat) (a : List (List Nat)) (i : Nat) (E : Nat → Nat → Prop) (bs : List Bool) (zs : List Nat) : Prop where
  len : bs.length = n
  seen : ∀ x : Nat, bs[x]? = some true → Conn (Rel a) i x
  todo : ∀ z ∈ zs, z < n ∧ (z = i ∨ Conn (Rel a) i z)
  done : ∀ x y : Nat, (x = i ∨ bs[x]? = some true) → Rel a x y → bs[y]? = some true ∨ x ∈ zs ∨ E x y
section
variable {n : Nat} {a : List (List Nat)} {i : Nat} {bs : List Bool} {zs : List Nat}
theorem ReachI.start (hi : i < n) : ReachI n a i (fun _ _ => False) (List.replicate n false) [i] :=
  ⟨by simp, fun x h => by rw [List.getElem?_replicate] at h; split at h <;> simp at h, fun z hz => by rw [List.mem_singleton.1 hz]; exact ⟨hi, .inl rfl⟩, fun x y h _ => by
    rcases h with rfl | h
    · exact .inr (.inl (List.mem_singleton.2 rfl))
    · rw [List.getElem?_replicate] at h; split at h <;> simp at h⟩
theorem ReachI.pop {z : Nat} (h : ReachI n a i (fun _ _ => False) bs (z :: zs)) : ReachI n a i (fun x y => x = z ∧ 0 ≤ y) bs zs :=
  ⟨h.len, h.seen, fun y hy => h.todo y (List.mem_cons_of_mem _ hy), fun x y h1 h2 => by
    rcases h.done x y h1 h2 with h3 | h3 | h3
    · exact .inl h3
    · rcases List.mem_cons.1 h3 with rfl | h4
      · exact .inr (.inr ⟨rfl, Nat.zero_le _⟩)
      · exact .inr (.inl h4)
    · exact h3.elim⟩
theorem ReachI.skip {z j : Nat} (h : ReachI n a i (fun x y => x = z ∧ j ≤ y) bs zs) (hj : ¬ Rel a z j ∨ bs[j]? = some true) : ReachI n a i (fun x y => x = z ∧ j + 1 ≤ y) bs zs :=
  ⟨h.len, h.seen, h.todo, fun x y h1 h2 => by
    rcases h.done x y h1 h2 with h3 | h3 | ⟨rfl, h4⟩
    · exact .inl h3
    · exact .inr (.inl h3)
    · rcases Nat.lt_or_ge j y with h5 | h5
      · exact .inr (.inr ⟨rfl, h5⟩)
      · obtain rfl : j = y := by omega
        rcases hj with hj | hj
        · exact absurd h2 hj
        · exact .inl hj⟩
theorem ReachI.push {z j : Nat} (h : ReachI n a i (fun x y => x = z ∧ j ≤ y) bs zs) (hz : z = i ∨ Conn (Rel a) i z) (hj : Rel a z j) (hjn : j < n) : ReachI n a i (fun x y => x = z ∧ j + 1 ≤ y) (bs.set j true) (zs ++ [j]) := by
  have hc : Conn (Rel a) i j := by
    rcases hz with rfl | hz
    · exact .one hj
    · exact .step hz hj
  have hjs : (bs.set j true)[j]? = some true := by rw [List.getElem?_set, if_pos rfl, if_pos (by rw [h.len]; exact hjn)]
  have old : ∀ x : Nat, (bs.set j true)[x]? = some true → x = j ∨ bs[x]? = some true := fun x hx => by
    rw [List.getElem?_set] at hx
    by_cases e : j = x
    · exact .inl e.symm
    · rw [if_neg e] at hx; exact .inr hx
  have new : ∀ x : Nat, bs[x]? = some true → (bs.set j true)[x]? = some true := fun x hx => by
    by_cases e : j = x
    · subst e; exact hjs
    · rw [List.getElem?_set, if_neg e]; exact hx
  refine ⟨by rw [List.length_set]; exact h.len, fun x hx => ?_, fun y hy => ?_, fun x y h1 h2 => ?_⟩
  · rcases old x hx with rfl | hx
    · exact hc
    · exact h.seen x hx
  · rcases List.mem_append.1 hy with hy | hy
    · exact h.todo y hy
    · rw [List.mem_singleton.1 hy]; exact ⟨hjn, .inr hc⟩
  · have h1' : x = j ∨ (x = i ∨ bs[x]? = some true) := by
      rcases h1 with h1 | h1
      · exact .inr (.inl h1)
      · rcases old x h1 with h3 | h3
        · exact .inl h3
        · exact .inr (.inr h3)
    rcases h1' with rfl | h1'
    · exact .inr (.inl (List.mem_append.2 (.inr (List.mem_singleton.2 rfl))))
    · rcases h.done x y h1' h2 with h3 | h3 | ⟨rfl, h4⟩
      · exact .inl (new y h3)
      · exact .inr (.inl (List.mem_append.2 (.inl h3)))
      · rcases Nat.lt_or_ge j y with h5 | h5
        · exact .inr (.inr ⟨rfl, h5⟩)
        · obtain rfl : j = y := by omega
          exact .inl hjs
theorem ReachI.next {z : Nat} (hG : Good n a) (h : ReachI n a i (fun x y => x = z ∧ n ≤ y) bs zs) : ReachI n a i (fun _ _ => False) bs zs :=
  ⟨h.len, h.seen, h.todo, fun x y h1 h2 => by
    rcases h.done x y h1 h2 with h3 | h3 | ⟨rfl, h4⟩
    · exact .inl h3
    · exact .inr (.inl h3)
    · exact absurd (hG.has_lt h2).2 (by omega)⟩
theorem ReachI.all (h : ReachI n a i (fun _ _ => False) bs []) (x : Nat) : bs[x]? = some true ↔ Conn (Rel a) i x := by
  refine ⟨h.seen x, fun hc => ?_⟩
  induction hc with
  | one h1 =>
    rcases h.done i _ (.inl rfl) h1 with h2 | h2 | h2
    · exact h2
    · cases h2
    · exact h2.elim
  | step _ h1 ih =>
    rcases h.done _ _ (.inr ih) h1 with h2 | h2 | h2
    · exact h2
    · cases h2
    · exact h2.elim
end

end Go.Proofs.YtbeigdbljepfkaaGreat

namespace Go.Proofs.YtbeigdbljepfkaaGreat
open Go.RowKit
set_option linter.unusedVariables false

theorem info_bool : (Tryz.prog.info? 4).map (fun i => (i.zero, i.size, i.bytes)) = some (some (.bool false), 1, 1) := by kernel_rfl
theorem mk_bool (kl kc : IntKind) (n c : Nat) (hnc : n ≤ c) (hc : c ≤ 35184372088832) (W : World) :
    (Instr.makeSlice 110 (.int kl (n : Int)) (.int kc (c : Int))).run Tryz.prog W = .ok (.slice (some ⟨W.heap.size, 0, none⟩) n c) (W.alloc (.cells (zeros c (.bool false)) 4)) := by
  obtain ⟨i, hi, hz0, hz1, hz2⟩ := info_parts info_bool
  exact run_make_one _ _ i _ Tryz.underlying110 hi hz0 hz1 rfl kl kc n c hnc (by rw [hz2]; omega) (by omega) W
/-- what is known in the search: the queue, who was seen, the matrix -/
structure StR (w : World) (n : Nat) (A : Option Addr) (c : Nat) (v : Value) (bs : List Bool) (zs : List Nat) (wr : World) : Prop where
  q : QN wr (w.heap.size + 2) 3 v zs
  b : Blk wr (w.heap.size + 1) 4 (bs.map .bool)
  m : MatB wr w.heap.size 34 n A n c
  bel : Below w.heap.size w wr
  big : w.heap.size + 2 ≤ wr.heap.size
theorem StR.later {w : World} {n : Nat} {A : Option Addr} {c : Nat} {v : Value} {bs : List Bool} {zs : List Nat} {wr w' : World} (h : StR w n A c v bs zs wr) (hb : Below wr.heap.size wr w') : StR w n A c v bs zs w' :=
  ⟨h.q.below hb, h.b.below hb h.b.lt, h.m.below_ hb, below_trans2 h.bel hb, Nat.le_trans h.big hb.size⟩
def reachL (bs : List Bool) (k : Nat) : List Nat := (List.range k).filter fun x => bs[x]? == some true
theorem reachL_yes {bs : List Bool} {k : Nat} (h : bs[k]? = some true) : reachL bs (k + 1) = reachL bs k ++ [k] := by
  unfold reachL; rw [List.range_succ, List.filter_append]; simp [h]
theorem reachL_no {bs : List Bool} {k : Nat} (h : bs[k]? = some false) : reachL bs (k + 1) = reachL bs k := by
  unfold reachL; rw [List.range_succ, List.filter_append]; simp [h]
theorem reachL_len (bs : List Bool) (k : Nat) : (reachL bs k).length ≤ k := by
  have := List.length_filter_le (fun x => bs[x]? == some true) (List.range k)
  simpa [reachL] using this
theorem reachL_mem (bs : List Bool) (k x : Nat) : x ∈ reachL bs k ↔ x < k ∧ bs[x]? = some true := by
  unfold reachL; rw [List.mem_filter, List.mem_range, beq_iff_eq]
/-- a call that answers what is reached from i -/
def RetReach (n : Nat) (a : List (List Nat)) (i : Nat) (w : World) (e : Ending) (w' : World) : Prop :=
  ∃ (B : Option Addr) (m d : Nat) (l : List Nat), e = .returned (.slice B m d) ∧ Ints w' B m (l.map Int.ofNat) ∧ (∀ x : Nat, x ∈ l ↔ x < n ∧ Conn (Rel a) i x) ∧ l.length ≤ n ∧ (∀ ad, B = some ad → w.heap.size ≤ ad.block) ∧ Below w.heap.size w w'
set_option maxRecDepth 100000 in
set_option maxHeartbeats 4000000 in
theorem ref4_Reach (A : Option Addr) (n c : Nat) (a : List (List Nat)) (i : Nat) (w : World) (hr : RowsAt w A n a) (hG : Good n a) (hin : i < n) :
    Calls Tryz.prog 45 #[.agg #[.int .i64 (n : Int), .slice A n c], .int .i64 (i : Int)] w (RetReach n a i w) := by
  have hnn : n ≤ 4096 := hG.le
  obtain ⟨i0, hi, hz0, hz1, hz2⟩ := info_parts info_int
  replace hi := Lib.hid hi
  replace hz0 := Lib.hid hz0
  replace hz1 := Lib.hid hz1
  replace hz2 := Lib.hid hz2
  have hmk := mk_bool .i64 .i64 n n (Nat.le_refl _) (by omega)
  obtain ⟨W0, hW0⟩ : ∃ W0, W0 = w.alloc (.cells #[.int .i64 n, .slice A n c] 34) := ⟨_, rfl⟩
  obtain ⟨W1, hW1⟩ : ∃ W1, W1 = W0.alloc (.cells (zeros n (.bool false)) 4) := ⟨_, rfl⟩
  obtain ⟨W2, hW2⟩ : ∃ W2, W2 = W1.alloc (.cells #[.int .i64 (i : Int)] 3) := ⟨_, rfl⟩
  have b0 : Below w.heap.size w W0 := by rw [hW0]; exact below_alloc _ _
  have b1 : Below W0.heap.size W0 W1 := by rw [hW1]; exact below_alloc _ _
  have b2 : Below W1.heap.size W1 W2 := by rw [hW2]; exact below_alloc _ _
  have hs0 : W0.heap.size = w.heap.size + 1 := by rw [hW0]; simp
  have hs1 : W1.heap.size = w.heap.size + 2 := by rw [hW1]; simp [hs0]
  have hs2 : W2.heap.size = w.heap.size + 3 := by rw [hW2]; simp [hs1]
  have hB0 : MatB W0 w.heap.size 34 n A n c := by rw [hW0]; exact MatB.new w _
  have l0 := hB0.c0
  have hSt : Hid (StR w n A c (.slice (some ⟨w.heap.size + 2, 0, none⟩) 1 1) (List.replicate n false) [i] W2) := Lib.hid
    { q := ⟨w.heap.size + 2, 0, 1, #[.int .i64 (i : Int)], rfl, Nat.le_refl _, by rw [hW2, ← hs1]; exact heap_alloc_new _ _, Nat.le_refl _, by unfold maxLen; omega, by simp, fun j z hj => by
        match j, hj with
        | 0, hj => simp at hj; subst hj; rfl
        | j + 1, hj => simp at hj⟩
      b := by
        have h : Blk W1 (w.heap.size + 1) 4 ((List.replicate n false).map .bool) := by
          rw [hW1, ← hs0, List.map_replicate]
          exact Blk.new W0 _ _
        exact h.below b2 h.lt
      m := (hB0.below_ b1).below_ b2
      bel := below_trans2 (below_trans2 b0 b1) b2
      big := by omega }
  have hR : Hid (ReachI n a i (fun _ _ => False) (List.replicate n false) [i]) := Lib.hid (ReachI.start hin)
  have hU : Hid (unseen (List.replicate n false) + [i].length ≤ n + 1) := Lib.hid (by rw [unseen_all]; simp)
  have hH := Lib.hid (fun (x y : Nat) W (hW : RowsAt W A n a) => ref3_HasG A n c a hG (x : Int) (y : Int) W hW)
  have hn1 := Lib.hid (fun z bs zs => ReachI.next (n := n) (a := a) (i := i) (bs := bs) (zs := zs) (z := z) hG)
  replace hs0 := Lib.hid hs0
  replace hs1 := Lib.hid hs1
  replace hr := Lib.hid hr
  replace hG := Lib.hid hG
  clear b0 b1 b2 hB0 hs2
  have p1 : W0.heap.size = w.heap.size + 1 := hs0.out
  have p2 : W1.heap.size = w.heap.size + 2 := hs1.out
  go_enter Tryz.func45, Tryz.ntmps45
  go_wp2_with fail
  rw [← hW0]
  clear hW0
  go_wp2_with fail
  rw [← hW1, ← hW2]
  clear hW1 hW2 hmk l0 p1 p2
  go_loopw [7] (fun v wr => ∃ (bs : List Bool) (zs : List Nat), Hid (ReachI n a i (fun _ _ => False) bs zs) ∧ Hid (unseen bs + zs.length ≤ n + 1) ∧ Hid (StR w n A c v bs zs wr)) (fun v wr => unseenW wr (w.heap.size + 1) + qlen v)
  case atStart => exact ⟨_, _, hR, hU, hSt⟩
  case round =>
    clear hR hU hSt
    obtain ⟨bs, zs, hR, hU, hSt⟩ := hrel
    cases zs with
    | nil =>
      obtain ⟨g, off, cap, rfl⟩ := hSt.out.q.nil
      have hall := Lib.hid hR.out.all
      have hbl := Lib.hid hR.out.len
      have hB := Lib.hid hSt.out.b
      have hMm := Lib.hid hSt.out.m
      have hbel := Lib.hid hSt.out.bel
      have hbig := Lib.hid hSt.out.big
      clear hR hU hSt
      go_wp2_with fail
      go_loopw [5, 10] (fun l t wi => ∃ j : Nat, j ≤ n ∧ t = .int .i64 j ∧ Hid (wi.ownsRow (w.heap.size + 2) 3 1 l (reachL bs j).length ((reachL bs j).map natv)) ∧ Hid (Blk wi (w.heap.size + 1) 4 (bs.map .bool)) ∧ Hid (MatB wi w.heap.size 34 n A n c) ∧ Hid (Below w.heap.size w wi) ∧ Hid (w.heap.size + 2 ≤ wi.heap.size)) (fun _ t _ => n - (intOf t).toNat)
      case atStart => exact ⟨0, Nat.zero_le _, rfl, Lib.hid (World.ownsRow_nil _ _ _ _), hB, hMm, hbel, hbig⟩
      case round =>
        clear hB hMm hbel hbig
        obtain ⟨j, hj, rfl, hown, hB, hMm, hbel, hbig⟩ := hrel
        have l0 := hMm.out.c0
        by_cases hlt : j < n
        · obtain ⟨bj, hbj⟩ : ∃ b, bs[j]? = some b := ⟨_, List.getElem?_eq_getElem (by rw [hbl.out]; exact hlt)⟩
          have cb := Blk.cell hB.out j
          rw [List.getElem?_map, hbj, Option.map_some] at cb
          have hj0 : (0 : Int) ≤ (j : Int) := by omega
          have hjn : (j : Int) < (n : Int) := by omega
          have hrl := reachL_len bs j
          cases bj with
          | true =>
            have hy := Lib.hid (reachL_yes hbj)
            replace hbj := Lib.hid hbj
            go_wp2_with (at_builtin; refine wpList_append_lies _ rfl (.tmp 58) (.tmp 60) _ rfl (w.heap.size + 2) 3 i0 _ 1 8 Tryz.underlying27 hi.out hz0.out hz1.out hz2.out rfl (by omega) _ _ _ (by rfl) (hown.out.alloc _) ⟨wr.heap.size, 0, none⟩ 1 1 [.int .i64 (j : Int)] rfl rfl (cell_one_new _ _ _) (by simp [Value.oneCell']) (by omega) (by unfold maxLen; omega) (by omega) (by have := hbig.out; simp; omega) _ rfl ?_; intro g2 cap2 w1 hown1 hgrow hat hlt1)
            have hB1 := Lib.hid (Blk.grown (hB.out.alloc _) hgrow (fun e => by have := own_lt_block hown.out _ e.symm; omega))
            have hM1 := Lib.hid (Blk.grown (Blk.alloc hMm.out _) hgrow (fun e => by have := own_lt_block hown.out _ e.symm; omega))
            have hb1 := Lib.hid ((hbel.out.alloc hbel.out.size _).grown hgrow (by have := hbel.out.size; simp; omega) (fun k hk => by have := own_lt_block hown.out k hk; omega))
            have hg1 : Hid (w.heap.size + 2 ≤ w1.heap.size) := Lib.hid (by have := hgrow.size; have := hbig.out; simp at *; omega)
            clear hgrow hat hlt1 cb l0
            go_roundw
            case rel =>
              refine ⟨j + 1, by omega, by go_num, Lib.hid ?_, hB1, hM1, hb1, hg1⟩
              rw [hy.out, List.length_append, List.map_append]
              exact hown1
            case measure => simp [intOf]; omega
          | false =>
            have hy := Lib.hid (reachL_no hbj)
            replace hbj := Lib.hid hbj
            go_wp2_with fail
            go_roundw
            case rel => exact ⟨j + 1, by omega, by go_num, Lib.hid (by rw [hy.out]; exact hown.out), hB, hMm, hbel, hbig⟩
            case measure => simp [intOf]; omega
        · obtain rfl : j = n := by omega
          have hfr := Lib.hid (fun k hk => own_lt_block hown.out k hk)
          obtain ⟨A', c', rfl, hI⟩ := own_ints hown.out (fun x hx => by have := ((reachL_mem _ _ _).1 hx).1; omega)
          replace hI := Lib.hid hI
          clear hown
          go_wp2_with fail
          go_ret
          exact ⟨_, _, _, reachL bs j, rfl, hI.out, fun x => by
            rw [reachL_mem, hall.out], reachL_len _ _, fun ad e => by subst e; have := hfr.out ad.block rfl; omega, hbel.out⟩
    | cons z zs =>
      obtain ⟨g, off, cap, rfl, hcz, hcap, hq1, hq2⟩ := hSt.out.q.pop
      have hM : Hid (unseenW wr (w.heap.size + 1) = unseen bs) := Lib.hid (unseenW_blk hSt.out.b)
      have hz := Lib.hid (hR.out.todo z (List.mem_cons_self ..))
      have hRp := Lib.hid hR.out.pop
      have hzl : 0 < zs.length + 1 := by omega
      replace hq1 := Lib.hid hq1
      replace hq2 := Lib.hid hq2
      have hc1 : 1 ≤ cap := by omega
      clear hR
      go_wp2_with fail
      · have hS : Hid (StR w n A c (.slice (some ⟨g, off, none⟩) zs.length 0) bs zs wr) := Lib.hid { q := hq1.out (by first | rfl | assumption), b := hSt.out.b, m := hSt.out.m, bel := hSt.out.bel, big := hSt.out.big }
        clear hcz hSt hq1 hq2
        go_loopw [7, 9] (fun v t wi => ∃ (j : Nat) (bs' : List Bool) (zs' : List Nat), j ≤ n ∧ t = .int .i64 j ∧ Hid (ReachI n a i (fun x y => x = z ∧ j ≤ y) bs' zs') ∧ Hid (unseen bs' + zs'.length + 1 ≤ unseen bs + (zs.length + 1)) ∧ Hid (StR w n A c v bs' zs' wi)) (fun _ t _ => n - (intOf t).toNat)
        case atStart => exact ⟨0, bs, zs, Nat.zero_le _, rfl, hRp, Lib.hid (by omega), hS⟩
        case round =>
          obtain ⟨j, bs', zs', hj, rfl, hR', hU', hS'⟩ := hrel
          clear hS
          have l0 := hS'.out.m.c0
          have l1 := hS'.out.m.c1
          by_cases hlt : j < n
          · have hC := Lib.hid (hH.out z j wr (hr.out.below hS'.out.bel))
            go_wp2_with fail
            refine hC.out.mono ?_; rintro e w1 ⟨rfl, hb1⟩
            replace hS' := Lib.hid (hS'.out.later hb1)
            clear hb1 hC l0 l1
            cases hh : hasM a (z : Int) (j : Int) with
            | false =>
              have hR2 := Lib.hid (hR'.out.skip (.inl (by unfold Rel; rw [hh]; simp)))
              go_wp2_with fail
              go_roundw
              case rel => exact ⟨j + 1, bs', zs', by omega, by go_num, hR2, hU', hS'⟩
              case measure => simp [intOf]; omega
            | true =>
              have hbl : bs'.length = n := hR'.out.len
              obtain ⟨bj, hbj⟩ : ∃ b, bs'[j]? = some b := ⟨_, List.getElem?_eq_getElem (by omega)⟩
              have cb := Blk.cell hS'.out.b j
              rw [List.getElem?_map, hbj, Option.map_some] at cb
              have hj0 : (0 : Int) ≤ (j : Int) := by omega
              have hjn : (j : Int) < (n : Int) := by omega
              replace hbl := Lib.hid hbl
              cases bj with
              | true =>
                have hR2 := Lib.hid (hR'.out.skip (.inr hbj))
                replace hbj := Lib.hid hbj
                go_wp2_with fail
                go_roundw
                case rel => exact ⟨j + 1, bs', zs', by omega, by go_num, hR2, hU', hS'⟩
                case measure => simp [intOf]; omega
              | false =>
                have hR2 := Lib.hid (hR'.out.push hz.out.2 (by unfold Rel; exact hh) hlt)
                have hun := Lib.hid (unseen_set hbj)
                have fz := Blk.frozen hS'.out.b j
                have hzs : zs'.length ≤ 1073741824 := by have := hU'.out; have := hU.out; simp at this; omega
                have hqw := Lib.hid (hS'.out.q.far (p := ⟨w.heap.size + 1, j, none⟩) (fun e => by have := (hS'.out.q.lt _ e).1; simp at this) (.bool true))
                replace hbj := Lib.hid hbj
                go_wp2_with (at_builtin; refine wpList_append_q _ rfl (.tmp 44) (.tmp 46) _ rfl (w.heap.size + 2) 3 i0 _ Tryz.underlying27 hi.out hz0.out hz1.out hz2.out rfl (by rfl) (hqw.out.below (below_alloc _ _)) ⟨w1.heap.size, 0, none⟩ 1 j rfl (by have h := Blk.cell (Blk.new (w1.setCell ⟨w.heap.size + 1, j, none⟩ (.bool true)) 3 [.int .i64 (j : Int)]) 0; simpa using h) hzs (by have := hS'.out.big; simp; omega) ?_; intro v' w2 hq' hgrow)
                have hS2 : Hid (StR w n A c v' (bs'.set j true) (zs' ++ [j]) w2) := Lib.hid
                  { q := hq'
                    b := by
                      rw [List.map_set]
                      exact Blk.grown (((hS'.out.b.set_ j (.bool true))).alloc _) hgrow (fun e => by have := (hqw.out.lt _ e.symm).1; omega)
                    m := Blk.grown (((Blk.far hS'.out.m (p := ⟨w.heap.size + 1, j, none⟩) (by simp) (.bool true))).alloc _) hgrow (fun e => by have := (hqw.out.lt _ e.symm).1; omega)
                    bel := ((hS'.out.bel.setCell (p := ⟨w.heap.size + 1, j, none⟩) (by simp) (.bool true)).alloc (by have := hS'.out.big; simp; omega) _).grown hgrow (by have := hS'.out.big; simp; omega) (fun k hk => by have := (hqw.out.lt k hk).1; omega)
                    big := by have := hgrow.size; have := hS'.out.big; simp at *; omega }
                clear hq' hgrow hqw cb fz
                go_roundw
                case rel => exact ⟨j + 1, bs'.set j true, zs' ++ [j], by omega, by go_num, hR2, Lib.hid (by have := hun.out; have := hU'.out; simp; omega), hS2⟩
                case measure => simp [intOf]; omega
          · obtain rfl : j = n := by omega
            have hR2 := Lib.hid (hn1.out z bs' zs' hR'.out)
            have hU2 : Hid (unseen bs' + zs'.length ≤ j + 1) := Lib.hid (by have := hU'.out; have := hU.out; simp at this; omega)
            go_wp2_with fail
            go_roundw
            case rel => exact ⟨bs', zs', hR2, hU2, hS'⟩
            case measure =>
              have h1 := unseenW_blk hS'.out.b
              have h2 := hS'.out.q.qlen_
              have h3 := hU'.out
              rw [h1, h2, hM.out]
              simp only [qlen]
              omega
      · have hS : Hid (StR w n A c (.slice (some ⟨g, off + 1, none⟩) zs.length (cap - 1)) bs zs wr) := Lib.hid { q := hq2.out (by assumption), b := hSt.out.b, m := hSt.out.m, bel := hSt.out.bel, big := hSt.out.big }
        clear hcz hSt hq1 hq2
        go_loopw [7, 9] (fun v t wi => ∃ (j : Nat) (bs' : List Bool) (zs' : List Nat), j ≤ n ∧ t = .int .i64 j ∧ Hid (ReachI n a i (fun x y => x = z ∧ j ≤ y) bs' zs') ∧ Hid (unseen bs' + zs'.length + 1 ≤ unseen bs + (zs.length + 1)) ∧ Hid (StR w n A c v bs' zs' wi)) (fun _ t _ => n - (intOf t).toNat)
        case atStart => exact ⟨0, bs, zs, Nat.zero_le _, rfl, hRp, Lib.hid (by omega), hS⟩
        case round =>
          obtain ⟨j, bs', zs', hj, rfl, hR', hU', hS'⟩ := hrel
          clear hS
          have l0 := hS'.out.m.c0
          have l1 := hS'.out.m.c1
          by_cases hlt : j < n
          · have hC := Lib.hid (hH.out z j wr (hr.out.below hS'.out.bel))
            go_wp2_with fail
            refine hC.out.mono ?_; rintro e w1 ⟨rfl, hb1⟩
            replace hS' := Lib.hid (hS'.out.later hb1)
            clear hb1 hC l0 l1
            cases hh : hasM a (z : Int) (j : Int) with
            | false =>
              have hR2 := Lib.hid (hR'.out.skip (.inl (by unfold Rel; rw [hh]; simp)))
              go_wp2_with fail
              go_roundw
              case rel => exact ⟨j + 1, bs', zs', by omega, by go_num, hR2, hU', hS'⟩
              case measure => simp [intOf]; omega
            | true =>
              have hbl : bs'.length = n := hR'.out.len
              obtain ⟨bj, hbj⟩ : ∃ b, bs'[j]? = some b := ⟨_, List.getElem?_eq_getElem (by omega)⟩
              have cb := Blk.cell hS'.out.b j
              rw [List.getElem?_map, hbj, Option.map_some] at cb
              have hj0 : (0 : Int) ≤ (j : Int) := by omega
              have hjn : (j : Int) < (n : Int) := by omega
              replace hbl := Lib.hid hbl
              cases bj with
              | true =>
                have hR2 := Lib.hid (hR'.out.skip (.inr hbj))
                replace hbj := Lib.hid hbj
                go_wp2_with fail
                go_roundw
                case rel => exact ⟨j + 1, bs', zs', by omega, by go_num, hR2, hU', hS'⟩
                case measure => simp [intOf]; omega
              | false =>
                have hR2 := Lib.hid (hR'.out.push hz.out.2 (by unfold Rel; exact hh) hlt)
                have hun := Lib.hid (unseen_set hbj)
                have fz := Blk.frozen hS'.out.b j
                have hzs : zs'.length ≤ 1073741824 := by have := hU'.out; have := hU.out; simp at this; omega
                have hqw := Lib.hid (hS'.out.q.far (p := ⟨w.heap.size + 1, j, none⟩) (fun e => by have := (hS'.out.q.lt _ e).1; simp at this) (.bool true))
                replace hbj := Lib.hid hbj
                go_wp2_with (at_builtin; refine wpList_append_q _ rfl (.tmp 44) (.tmp 46) _ rfl (w.heap.size + 2) 3 i0 _ Tryz.underlying27 hi.out hz0.out hz1.out hz2.out rfl (by rfl) (hqw.out.below (below_alloc _ _)) ⟨w1.heap.size, 0, none⟩ 1 j rfl (by have h := Blk.cell (Blk.new (w1.setCell ⟨w.heap.size + 1, j, none⟩ (.bool true)) 3 [.int .i64 (j : Int)]) 0; simpa using h) hzs (by have := hS'.out.big; simp; omega) ?_; intro v' w2 hq' hgrow)
                have hS2 : Hid (StR w n A c v' (bs'.set j true) (zs' ++ [j]) w2) := Lib.hid
                  { q := hq'
                    b := by
                      rw [List.map_set]
                      exact Blk.grown (((hS'.out.b.set_ j (.bool true))).alloc _) hgrow (fun e => by have := (hqw.out.lt _ e.symm).1; omega)
                    m := Blk.grown (((Blk.far hS'.out.m (p := ⟨w.heap.size + 1, j, none⟩) (by simp) (.bool true))).alloc _) hgrow (fun e => by have := (hqw.out.lt _ e.symm).1; omega)
                    bel := ((hS'.out.bel.setCell (p := ⟨w.heap.size + 1, j, none⟩) (by simp) (.bool true)).alloc (by have := hS'.out.big; simp; omega) _).grown hgrow (by have := hS'.out.big; simp; omega) (fun k hk => by have := (hqw.out.lt k hk).1; omega)
                    big := by have := hgrow.size; have := hS'.out.big; simp at *; omega }
                clear hq' hgrow hqw cb fz
                go_roundw
                case rel => exact ⟨j + 1, bs'.set j true, zs' ++ [j], by omega, by go_num, hR2, Lib.hid (by have := hun.out; have := hU'.out; simp; omega), hS2⟩
                case measure => simp [intOf]; omega
          · obtain rfl : j = n := by omega
            have hR2 := Lib.hid (hn1.out z bs' zs' hR'.out)
            have hU2 : Hid (unseen bs' + zs'.length ≤ j + 1) := Lib.hid (by have := hU'.out; have := hU.out; simp at this; omega)
            go_wp2_with fail
            go_roundw
            case rel => exact ⟨bs', zs', hR2, hU2, hS'⟩
            case measure =>
              have h1 := unseenW_blk hS'.out.b
              have h2 := hS'.out.q.qlen_
              have h3 := hU'.out
              rw [h1, h2, hM.out]
              simp only [qlen]
              omega

end Go.Proofs.YtbeigdbljepfkaaGreat
