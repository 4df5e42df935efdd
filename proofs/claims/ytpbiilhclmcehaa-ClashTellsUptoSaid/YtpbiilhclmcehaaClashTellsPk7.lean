/- The contracts of the document's own answers of layer 17: Edges. A queue of numbers of a call's own: 'q = q[1:]', 'q = append(q, x)'. No function of the program is named here. And the search over a matrix's pairs, as plain mathematics. Contract of the document's own answer: Reach (a search with a queue). Contracts of the document's own answers of layer 4: Close, Add. -/
import Derived.Test.YtpbiilhclmcehaaClashTellsPk5
import Derived.Test.YtpbiilhclmcehaaClashTellsPk6
import Derived.Test.YtpbiilhclmcehaaClashTellsPk4
import Derived.ArgAppend
namespace Go.Proofs.Ytpbiilhclmcehaa
open Go.RowKit
set_option linter.unusedVariables false
theorem info_edge : (Try.prog.info? 46).map (fun i => (i.zero, i.size, i.bytes)) = some (some (.agg #[.int .i64 0, .int .i64 0, .int .i64 0]), 3, 24) := by kernel_rfl
set_option maxRecDepth 100000 in
set_option maxHeartbeats 4000000 in
theorem ref17_Edges (v : FV) (f : Fac) (A : Option Addr) (c : Nat) (a : List (List Nat)) (w : World) (hF : FactsAt w v f) (hr : RowsAt w A v.m a) (hG : Good v.m a) (hm : v.m ≤ 64) (hw : WholeF f) :
    Calls Try.prog 14 #[.agg #[.slice v.A v.n v.c, .slice v.B v.m v.d, .slice v.C v.k v.e], .agg #[.int .i64 (v.m : Int), .slice A v.m c]] w (RetEL (edgesF f a) w) := by
  have hil := hF.is.len
  have hkm := Lib.hid (show v.k = v.m from by rw [← hil, ← hF.fs.len]; exact hw.len)
  have hEok := Lib.hid (edgesF_ok (f := f) (M := a) (by omega))
  unfold edgesF at hEok ⊢
  rw [hil] at hEok ⊢
  clear hw hil
  obtain ⟨i0, hi, hz0, hz1, hz2⟩ := info_parts info_edge
  replace hi := Lib.hid hi
  replace hz0 := Lib.hid hz0
  replace hz1 := Lib.hid hz1
  replace hz2 := Lib.hid hz2
  -- a call with facts v: they are boxed at g, the world is W0 then
  have hB0 := Lib.hid (FBox.new hF)
  obtain ⟨g, hg⟩ : ∃ g, g = w.heap.size := ⟨_, rfl⟩
  obtain ⟨W0, hW0⟩ : ∃ W, W = w.alloc (.cells #[.slice v.A v.n v.c, .slice v.B v.m v.d, .slice v.C v.k v.e] 30) := ⟨_, rfl⟩
  rw [← hW0, ← hg] at hB0
  clear hF
  replace hr := hr.below hB0.out.o
  have hM1 := Lib.hid (MatK.new (N := (v.m : Int)) (c := c) W0 35 hr)
  obtain ⟨gm, hgm⟩ : ∃ g, g = W0.heap.size := ⟨_, rfl⟩
  obtain ⟨W1, hW1⟩ : ∃ W, W = W0.alloc (.cells #[.int .i64 (v.m : Int), .slice A v.m c] 35) := ⟨_, rfl⟩
  rw [← hW1, ← hgm] at hM1
  have hB1 := Lib.hid (hB0.out.later (show Below W0.heap.size W0 W1 from by rw [hW1]; exact below_alloc _ _))
  clear hr hB0
  go_enter Try.func14, Try.ntmps14
  go_wp2_with (first | (rw [← hW0, ← hg]; clear hW0 hg) | (rw [← hW1, ← hgm]; clear hW1 hgm))
  go_loopw [5, 6] (fun u t wr => ∃ i : Nat, i ≤ v.m ∧ t = .int .i64 (i : Int) ∧ Hid (Below W1.heap.size W1 wr) ∧ Hid (wr.ownsRow W1.heap.size 46 3 u (eA f a v.m i).length (encE.all (eA f a v.m i)))) (fun _ t _ => v.m - (intOf t).toNat)
  case atStart => exact ⟨0, Nat.zero_le _, rfl, Lib.hid (Below.refl _ _), Lib.hid (World.ownsRow_nil _ _ _ _)⟩
  case round =>
    obtain ⟨i, hi0, rfl, hb, hown⟩ := hrel
    have hB := Lib.hid (hB1.out.later hb.out)
    have p0 := hB.out.c0
    have p1 := hB.out.c1
    have p2 := hB.out.c2
    by_cases hli : i < v.m
    · have hli' : (i : Int) < (v.m : Int) := by omega
      go_wp2_with fail
      clear p0 p1 p2 hB
      go_loopw [5, 7] (fun u t wr => ∃ j : Nat, j ≤ v.m ∧ t = .int .i64 (j : Int) ∧ Hid (Below W1.heap.size W1 wr) ∧ Hid (wr.ownsRow W1.heap.size 46 3 u (eA f a v.m i ++ eB f a i v.m j).length (encE.all (eA f a v.m i ++ eB f a i v.m j)))) (fun _ t _ => v.m - (intOf t).toNat)
      case atStart => exact ⟨0, Nat.zero_le _, rfl, hb, Lib.hid (by rw [eB_zero, List.append_nil]; exact hown.out)⟩
      case round =>
        clear hb hown
        obtain ⟨j, hj0, rfl, hb, hown⟩ := hrel
        have hB := Lib.hid (hB1.out.later hb.out)
        have p0 := hB.out.c0
        have p1 := hB.out.c1
        have p2 := hB.out.c2
        by_cases hlj : j < v.m
        · have hlj' : (j : Int) < (v.m : Int) := by omega
          have hS0 := eA_len f a v.m i
          have hS1 := eB_len f a i v.m j
          obtain ⟨S2, hS2⟩ : ∃ S, S = eA f a v.m i ++ eB f a i v.m j := ⟨_, rfl⟩
          have hS2l : S2.length ≤ 1048576 := by
            rw [hS2, List.length_append]
            have q1 : i * (v.m * v.m) ≤ 64 * (64 * 64) := Nat.mul_le_mul (by omega) (Nat.mul_le_mul hm hm)
            have q2 : j * v.m ≤ 64 * 64 := Nat.mul_le_mul (by omega) hm
            omega
          rw [← hS2] at hown
          replace hS2 := Lib.hid hS2
          clear hS0 hS1
          go_wp2_with fail
          clear p0 p1 p2 hB
          go_loopw [5, 8] (fun u t wr => ∃ r : Nat, r ≤ v.m ∧ t = .int .i64 (r : Int) ∧ Hid (Below W1.heap.size W1 wr) ∧ Hid (wr.ownsRow W1.heap.size 46 3 u (S2 ++ eR f a i j r).length (encE.all (S2 ++ eR f a i j r)))) (fun _ t _ => v.m - (intOf t).toNat)
          case atStart => exact ⟨0, Nat.zero_le _, rfl, hb, Lib.hid (by rw [eR_zero, List.append_nil]; exact hown.out)⟩
          case round =>
            clear hb hown
            obtain ⟨r, hr0, rfl, hb, hown⟩ := hrel
            have hB := Lib.hid (hB1.out.later hb.out)
            have p0 := hB.out.c0
            have p1 := hB.out.c1
            have p2 := hB.out.c2
            by_cases hlr : r < v.m
            · have hlr' : (r : Int) < (v.m : Int) := by omega
              have hrl : (S2 ++ eR f a i j r).length ≤ 1048576 + 64 := by rw [List.length_append]; have := eR_len f a i j r; omega
              have hrs := eR_succ f a i j r
              obtain ⟨L, hLl⟩ : ∃ L, L = (S2 ++ eR f a i j r).length := ⟨_, rfl⟩
              rw [← hLl] at hown hrl
              replace hLl := Lib.hid hLl
              have bi : 0 ≤ (i : Int) ∧ (i : Int) < (v.m : Int) := by omega
              have bj : 0 ≤ (j : Int) ∧ (j : Int) < (v.m : Int) := by omega
              have br : 0 ≤ (r : Int) ∧ (r : Int) < (v.k : Int) := by have := hkm.out; omega
              obtain ⟨ib, io, x, hxB, hib, hx, -, i0, i1, i2, i3, i4⟩ := hB.out.f.is.item hli
              rw [hxB] at p1
              by_cases hij : i = j
              · have e0 : ((i : Int) != (j : Int)) = false := by simp [hij]
                have hcl : clB f a i j r = false := by unfold clB; rw [decide_eq_false (by omega)]; simp
                subst hij
                obtain ⟨xs, xp, xw, xa, xl⟩ := x
                simp only at i2 i3
                clear i0 i1 i4 hx hxB hib
                cases xw with
                | false =>
                  rw [if_neg (by rw [hcl]; simp)] at hrs
                  replace hrs := Lib.hid hrs
                  replace hcl := Lib.hid hcl
                  -- behind the draws of 'both': the world is Wq
                  clear hlr
                  go_wp2_with fail
                  go_quiet (fail)
                  obtain ⟨Wq, hWq⟩ : ∃ W, W = wr.drewN nq := ⟨_, rfl⟩
                  have hown3 := Lib.hid (show Wq.ownsRow W1.heap.size 46 3 _ L (encE.all (S2 ++ eR f a i i r)) from by rw [hWq]; exact own_below hown.out (below_drewN (Below.refl _ _) _))
                  have hb3 := Lib.hid (show Below W1.heap.size W1 Wq from by rw [hWq]; exact below_drewN hb.out _)
                  have hBq := Lib.hid (show FBox w g v f Wq from hB1.out.later hb3.out)
                  have hMq := Lib.hid (hM1.out.below hb3.out)
                  rw [← hWq]
                  clear hWq p0 p1 p2
                  have p0 := hBq.out.c0
                  have p1 := hBq.out.c1
                  have p2 := hBq.out.c2
                  have m0 := hMq.out.1.c0
                  have m1 := hMq.out.1.c1
                  go_wp2_with fail
                  exact ⟨⟨r + 1, by have := hlr'; omega, by go_num, hb3, Lib.hid (by rw [hrs.out, ← hLl.out]; exact hown3.out)⟩, by have := hlr'; simp [intOf]; omega⟩
                | true =>
                  have e1 : (xa == xa) = true := by simp
                  rw [if_neg (by rw [hcl]; simp)] at hrs
                  replace hrs := Lib.hid hrs
                  replace hcl := Lib.hid hcl
                  -- behind the draws of 'both': the world is Wq
                  clear hlr
                  go_wp2_with fail
                  go_quiet (fail)
                  obtain ⟨Wq, hWq⟩ : ∃ W, W = wr.drewN nq := ⟨_, rfl⟩
                  have hown3 := Lib.hid (show Wq.ownsRow W1.heap.size 46 3 _ L (encE.all (S2 ++ eR f a i i r)) from by rw [hWq]; exact own_below hown.out (below_drewN (Below.refl _ _) _))
                  have hb3 := Lib.hid (show Below W1.heap.size W1 Wq from by rw [hWq]; exact below_drewN hb.out _)
                  have hBq := Lib.hid (show FBox w g v f Wq from hB1.out.later hb3.out)
                  have hMq := Lib.hid (hM1.out.below hb3.out)
                  rw [← hWq]
                  clear hWq p0 p1 p2
                  have p0 := hBq.out.c0
                  have p1 := hBq.out.c1
                  have p2 := hBq.out.c2
                  have m0 := hMq.out.1.c0
                  have m1 := hMq.out.1.c1
                  go_wp2_with fail
                  exact ⟨⟨r + 1, by have := hlr'; omega, by go_num, hb3, Lib.hid (by rw [hrs.out, ← hLl.out]; exact hown3.out)⟩, by have := hlr'; simp [intOf]; omega⟩
              · have e0 : ((i : Int) != (j : Int)) = true := by simp; omega
                obtain ⟨jb, jo, y, hyB, hjb, hy, -, j0, j1, j2, j3, j4⟩ := hB.out.f.is.item hlj
                rw [hxB] at hyB
                injection hyB with hyB
                injection hyB with h1 h2
                subst h1; subst h2
                have hcl : clB f a i j r = ((x.wr && y.wr && decide (x.va = y.va)) && decide (f.frm.getD r 0 = (j : Int)) && hasM a (i : Int) (r : Int)) := by
                  unfold clB; rw [bothW_at hx hy, decide_eq_true hij, Bool.true_and]
                replace hij := Lib.hid hij
                obtain ⟨xs, xp, xw, xa, xl⟩ := x
                obtain ⟨ys, yp, yw, ya, yl⟩ := y
                simp only at i2 i3 j2 j3 hcl
                clear i0 i1 i4 j0 j1 j4 hx hy hxB hib hjb
                cases xw with
                | false =>
                  rw [Bool.false_and, Bool.false_and, Bool.false_and, Bool.false_and] at hcl
                  rw [if_neg (by rw [hcl]; simp)] at hrs
                  replace hrs := Lib.hid hrs
                  replace hcl := Lib.hid hcl
                  -- behind the draws of 'both': the world is Wq
                  clear hlr
                  go_wp2_with fail
                  go_quiet (fail)
                  obtain ⟨Wq, hWq⟩ : ∃ W, W = wr.drewN nq := ⟨_, rfl⟩
                  have hown3 := Lib.hid (show Wq.ownsRow W1.heap.size 46 3 _ L (encE.all (S2 ++ eR f a i j r)) from by rw [hWq]; exact own_below hown.out (below_drewN (Below.refl _ _) _))
                  have hb3 := Lib.hid (show Below W1.heap.size W1 Wq from by rw [hWq]; exact below_drewN hb.out _)
                  have hBq := Lib.hid (show FBox w g v f Wq from hB1.out.later hb3.out)
                  have hMq := Lib.hid (hM1.out.below hb3.out)
                  rw [← hWq]
                  clear hWq p0 p1 p2
                  have p0 := hBq.out.c0
                  have p1 := hBq.out.c1
                  have p2 := hBq.out.c2
                  have m0 := hMq.out.1.c0
                  have m1 := hMq.out.1.c1
                  go_wp2_with fail
                  exact ⟨⟨r + 1, by have := hlr'; omega, by go_num, hb3, Lib.hid (by rw [hrs.out, ← hLl.out]; exact hown3.out)⟩, by have := hlr'; simp [intOf]; omega⟩
                | true =>
                  cases yw with
                  | false =>
                    rw [Bool.and_false, Bool.false_and, Bool.false_and, Bool.false_and] at hcl
                    rw [if_neg (by rw [hcl]; simp)] at hrs
                    replace hrs := Lib.hid hrs
                    replace hcl := Lib.hid hcl
                    -- behind the draws of 'both': the world is Wq
                    clear hlr
                    go_wp2_with fail
                    go_quiet (fail)
                    obtain ⟨Wq, hWq⟩ : ∃ W, W = wr.drewN nq := ⟨_, rfl⟩
                    have hown3 := Lib.hid (show Wq.ownsRow W1.heap.size 46 3 _ L (encE.all (S2 ++ eR f a i j r)) from by rw [hWq]; exact own_below hown.out (below_drewN (Below.refl _ _) _))
                    have hb3 := Lib.hid (show Below W1.heap.size W1 Wq from by rw [hWq]; exact below_drewN hb.out _)
                    have hBq := Lib.hid (show FBox w g v f Wq from hB1.out.later hb3.out)
                    have hMq := Lib.hid (hM1.out.below hb3.out)
                    rw [← hWq]
                    clear hWq p0 p1 p2
                    have p0 := hBq.out.c0
                    have p1 := hBq.out.c1
                    have p2 := hBq.out.c2
                    have m0 := hMq.out.1.c0
                    have m1 := hMq.out.1.c1
                    go_wp2_with fail
                    exact ⟨⟨r + 1, by have := hlr'; omega, by go_num, hb3, Lib.hid (by rw [hrs.out, ← hLl.out]; exact hown3.out)⟩, by have := hlr'; simp [intOf]; omega⟩
                  | true =>
                    by_cases hva : xa = ya
                    · have e1 : (xa == ya) = true := by simp [hva]
                      rw [decide_eq_true hva, Bool.and_true, Bool.and_true, Bool.true_and] at hcl
                      replace hva := Lib.hid hva
                      obtain ⟨-, -, z, -, -, hz, hzok, -⟩ := hB.out.f.fs.int (show r < v.k by have := hkm.out; omega)
                      have hgd : f.frm.getD r 0 = z := by rw [List.getD_eq_getElem?_getD, hz]; rfl
                      rw [hgd] at hcl
                      replace hz := Lib.hid hz
                      replace hgd := Lib.hid hgd
                      by_cases hzj : z = (j : Int)
                      · have e2 : (z == (j : Int)) = true := by simp [hzj]
                        rw [decide_eq_true hzj, Bool.true_and] at hcl
                        replace hzj := Lib.hid hzj
                        have cH := ref3_HasG A v.m c a hG (i : Int) (r : Int)
                        cases hh : hasM a (i : Int) (r : Int) with
                        | false =>
                          rw [hh] at hcl cH
                          rw [if_neg (by rw [hcl]; simp)] at hrs
                          replace hrs := Lib.hid hrs
                          replace hcl := Lib.hid hcl
                          replace cH := Lib.hid cH
                          clear hh
                          -- behind the draws of 'both': the world is Wq
                          clear hlr
                          go_wp2_with fail
                          go_quiet (fail)
                          obtain ⟨Wq, hWq⟩ : ∃ W, W = wr.drewN nq := ⟨_, rfl⟩
                          have hown3 := Lib.hid (show Wq.ownsRow W1.heap.size 46 3 _ L (encE.all (S2 ++ eR f a i j r)) from by rw [hWq]; exact own_below hown.out (below_drewN (Below.refl _ _) _))
                          have hb3 := Lib.hid (show Below W1.heap.size W1 Wq from by rw [hWq]; exact below_drewN hb.out _)
                          have hBq := Lib.hid (show FBox w g v f Wq from hB1.out.later hb3.out)
                          have hMq := Lib.hid (hM1.out.below hb3.out)
                          rw [← hWq]
                          clear hWq p0 p1 p2
                          have p0 := hBq.out.c0
                          have p1 := hBq.out.c1
                          have p2 := hBq.out.c2
                          have m0 := hMq.out.1.c0
                          have m1 := hMq.out.1.c1
                          obtain ⟨zb, zo, z2, hzC, hzb, hz2, -, k0⟩ := hBq.out.f.fs.int (show r < v.k by have := hkm.out; omega)
                          obtain rfl : z2 = z := by have h := hz.out; rw [hz2] at h; injection h
                          rw [hzC] at p2
                          clear hzC hz2 hzb
                          go_wp2_with fail
                          refine (cH.out Wq hMq.out.2).mono ?_; rintro e w5 ⟨rfl, b5⟩
                          have hown5 := Lib.hid (own_below hown3.out b5)
                          have hb5 := Lib.hid (below_trans2 hb3.out b5)
                          clear b5 cH k0 p0 p1 p2 m0 m1
                          go_wp2_with fail
                          exact ⟨⟨r + 1, by omega, by go_num, hb5, Lib.hid (by rw [hrs.out, ← hLl.out]; exact hown5.out)⟩, by simp [intOf]; omega⟩
                        | true =>
                          rw [hh] at hcl cH
                          rw [if_pos hcl] at hrs
                          replace hrs := Lib.hid hrs
                          replace hcl := Lib.hid hcl
                          replace cH := Lib.hid cH
                          clear hh
                          -- behind the draws of 'both': the world is Wq
                          clear hlr
                          go_wp2_with fail
                          go_quiet (fail)
                          obtain ⟨Wq, hWq⟩ : ∃ W, W = wr.drewN nq := ⟨_, rfl⟩
                          have hown3 := Lib.hid (show Wq.ownsRow W1.heap.size 46 3 _ L (encE.all (S2 ++ eR f a i j r)) from by rw [hWq]; exact own_below hown.out (below_drewN (Below.refl _ _) _))
                          have hb3 := Lib.hid (show Below W1.heap.size W1 Wq from by rw [hWq]; exact below_drewN hb.out _)
                          have hBq := Lib.hid (show FBox w g v f Wq from hB1.out.later hb3.out)
                          have hMq := Lib.hid (hM1.out.below hb3.out)
                          rw [← hWq]
                          clear hWq p0 p1 p2
                          have p0 := hBq.out.c0
                          have p1 := hBq.out.c1
                          have p2 := hBq.out.c2
                          have m0 := hMq.out.1.c0
                          have m1 := hMq.out.1.c1
                          obtain ⟨zb, zo, z2, hzC, hzb, hz2, -, k0⟩ := hBq.out.f.fs.int (show r < v.k by have := hkm.out; omega)
                          obtain rfl : z2 = z := by have h := hz.out; rw [hz2] at h; injection h
                          rw [hzC] at p2
                          clear hzC hz2 hzb
                          go_wp2_with fail
                          refine (cH.out Wq hMq.out.2).mono ?_; rintro e w5 ⟨rfl, b5⟩
                          have hown5 := Lib.hid (own_below hown3.out b5)
                          have hb5 := Lib.hid (below_trans2 hb3.out b5)
                          clear b5 cH k0 p0 p1 p2 m0 m1
                          -- 'append(out, Edge{(i : Int), (j : Int), (r : Int)})' (temps 81 86) in the world w5: hown : the row (S2 ++ eR f a i j r) of length L (hL), hb : Below W1 .. w5; behind it: hown', hb7
                          obtain ⟨gl, hgl⟩ : ∃ g, g = (w5).heap.size := ⟨_, rfl⟩
                          obtain ⟨VL, hVL⟩ : ∃ W, W = World.alloc (w5) (.cells #[.int .i64 (i : Int), .int .i64 (j : Int), .int .i64 (r : Int)] 46) := ⟨_, rfl⟩
                          have bL : Below (w5).heap.size (w5) VL := by rw [hVL]; exact (Below.refl _ _).alloc (Nat.le_refl _) _
                          have hlit := Lib.hid (show LAt encE VL (some ⟨gl, 0, none⟩) 1 [⟨(i : Int), (j : Int), (r : Int)⟩] from by rw [hVL, hgl]; exact LAt.lit1 (E := encE) (w5) 46 ⟨(i : Int), (j : Int), (r : Int)⟩ ⟨by simp only; omega, by simp only; omega, by simp only; omega, by simp only; omega, by simp only; omega, by simp only; omega⟩)
                          have hownL := Lib.hid (own_below hown5.out bL)
                          have bWL := Lib.hid (below_trans2 hb5.out bL)
                          have hbase := Lib.hid bWL.out.size
                          clear bL
                          go_wp2_with (first
                            | (rw [← hVL, ← hgl]; clear hVL hgl)
                            | (at_builtin; refine wpList_append_L (E := encE) rfl (.tmp 81) (.tmp 86) _ rfl W1.heap.size 46 i0 _ 24 Try.underlying41 hi.out hz0.out hz1.out hz2.out rfl _ L (S2 ++ eR f a i j r) (by rfl) hownL.out _ 1 1 _ rfl hlit.out (by unfold maxLen; omega) (by omega) hbase.out ?_; intro v' w7 hown' hb7 _ _))
                          exact ⟨⟨r + 1, by omega, by go_num, Lib.hid (bWL.out.trans hb7), Lib.hid (by rw [hrs.out, ← List.append_assoc, List.length_append, ← hLl.out]; exact hown')⟩, by simp [intOf]; omega⟩
                      · have e2 : (z == (j : Int)) = false := by simpa using hzj
                        rw [decide_eq_false hzj, Bool.false_and] at hcl
                        rw [if_neg (by rw [hcl]; simp)] at hrs
                        replace hrs := Lib.hid hrs
                        replace hcl := Lib.hid hcl
                        replace hzj := Lib.hid hzj
                        -- behind the draws of 'both': the world is Wq
                        clear hlr
                        go_wp2_with fail
                        go_quiet (fail)
                        obtain ⟨Wq, hWq⟩ : ∃ W, W = wr.drewN nq := ⟨_, rfl⟩
                        have hown3 := Lib.hid (show Wq.ownsRow W1.heap.size 46 3 _ L (encE.all (S2 ++ eR f a i j r)) from by rw [hWq]; exact own_below hown.out (below_drewN (Below.refl _ _) _))
                        have hb3 := Lib.hid (show Below W1.heap.size W1 Wq from by rw [hWq]; exact below_drewN hb.out _)
                        have hBq := Lib.hid (show FBox w g v f Wq from hB1.out.later hb3.out)
                        have hMq := Lib.hid (hM1.out.below hb3.out)
                        rw [← hWq]
                        clear hWq p0 p1 p2
                        have p0 := hBq.out.c0
                        have p1 := hBq.out.c1
                        have p2 := hBq.out.c2
                        have m0 := hMq.out.1.c0
                        have m1 := hMq.out.1.c1
                        obtain ⟨zb, zo, z2, hzC, hzb, hz2, -, k0⟩ := hBq.out.f.fs.int (show r < v.k by have := hkm.out; omega)
                        obtain rfl : z2 = z := by have h := hz.out; rw [hz2] at h; injection h
                        rw [hzC] at p2
                        clear hzC hz2 hzb
                        go_wp2_with fail
                        exact ⟨⟨r + 1, by omega, by go_num, hb3, Lib.hid (by rw [hrs.out, ← hLl.out]; exact hown3.out)⟩, by simp [intOf]; omega⟩
                    · have e1 : (xa == ya) = false := by simpa using hva
                      rw [decide_eq_false hva, Bool.and_false, Bool.false_and, Bool.false_and] at hcl
                      replace hva := Lib.hid hva
                      rw [if_neg (by rw [hcl]; simp)] at hrs
                      replace hrs := Lib.hid hrs
                      replace hcl := Lib.hid hcl
                      -- behind the draws of 'both': the world is Wq
                      clear hlr
                      go_wp2_with fail
                      go_quiet (fail)
                      obtain ⟨Wq, hWq⟩ : ∃ W, W = wr.drewN nq := ⟨_, rfl⟩
                      have hown3 := Lib.hid (show Wq.ownsRow W1.heap.size 46 3 _ L (encE.all (S2 ++ eR f a i j r)) from by rw [hWq]; exact own_below hown.out (below_drewN (Below.refl _ _) _))
                      have hb3 := Lib.hid (show Below W1.heap.size W1 Wq from by rw [hWq]; exact below_drewN hb.out _)
                      have hBq := Lib.hid (show FBox w g v f Wq from hB1.out.later hb3.out)
                      have hMq := Lib.hid (hM1.out.below hb3.out)
                      rw [← hWq]
                      clear hWq p0 p1 p2
                      have p0 := hBq.out.c0
                      have p1 := hBq.out.c1
                      have p2 := hBq.out.c2
                      have m0 := hMq.out.1.c0
                      have m1 := hMq.out.1.c1
                      go_wp2_with fail
                      exact ⟨⟨r + 1, by have := hlr'; omega, by go_num, hb3, Lib.hid (by rw [hrs.out, ← hLl.out]; exact hown3.out)⟩, by have := hlr'; simp [intOf]; omega⟩
            · have hlr' : ¬ (r : Int) < (v.m : Int) := by omega
              obtain rfl : r = v.m := by omega
              clear hlr
              go_wp2_with fail
              exact ⟨⟨j + 1, by omega, by go_num, hb, Lib.hid (by rw [eB_succ, ← List.append_assoc, ← hS2.out]; exact hown.out)⟩, by simp [intOf]; omega⟩
        · have hlj' : ¬ (j : Int) < (v.m : Int) := by omega
          obtain rfl : j = v.m := by omega
          clear hlj
          go_wp2_with fail
          exact ⟨⟨i + 1, by omega, by go_num, hb, Lib.hid (by rw [eA_succ]; exact hown.out)⟩, by simp [intOf]; omega⟩
    · have hli' : ¬ (i : Int) < (v.m : Int) := by omega
      obtain rfl : i = v.m := by omega
      obtain ⟨A2, c2, rfl, hnc, hcm, hLA⟩ := LAt.of_own hown.out hEok.out rfl
      clear hli
      go_wp2_with fail
      go_ret
      exact ⟨A2, _, c2, rfl, hLA, hnc, hcm, below_trans2 hB1.out.o hb.out⟩
end Go.Proofs.Ytpbiilhclmcehaa

namespace Go.Proofs.Ytpbiilhclmcehaa
open Go.RowKit
set_option linter.unusedVariables false

/-- a slice somewhere in a block of the call's own, that reads as the numbers zs -/
def QN (w : World) (base : Nat) (t : TypeId) (v : Value) (zs : List Nat) : Prop :=
  ∃ g off cap cs, v = .slice (some ⟨g, off, none⟩) zs.length cap ∧ base ≤ g ∧ w.heap[g]? = some (.cells cs t (0, 0)) ∧ zs.length ≤ cap ∧ cap ≤ maxLen ∧ off + cap ≤ cs.size ∧ ∀ (j z : Nat), zs[j]? = some z → cs[off + j]? = some (.int .i64 (z : Int))
def qlen : Value → Nat
  | .slice _ n _ => n
  | _ => 0
section
variable {w w' : World} {base : Nat} {t : TypeId} {v : Value} {zs : List Nat}
theorem cell_cells {w : World} {g : Nat} {cs : Array Value} {t : TypeId} {fr : Nat × Nat} (h : w.heap[g]? = some (.cells cs t fr)) (i : Nat) : w.cell? ⟨g, i, none⟩ = cs[i]? := cell_of_row w g i cs t fr h
theorem frozen_cells {w : World} {g : Nat} {cs : Array Value} {t : TypeId} (h : w.heap[g]? = some (.cells cs t (0, 0))) (i : Nat) : w.frozen? ⟨g, i, none⟩ = false := by simp [World.frozen?, h]
theorem QN.qlen_ (h : QN w base t v zs) : qlen v = zs.length := by obtain ⟨g, off, cap, cs, rfl, _⟩ := h; rfl
theorem QN.of_own {n : Nat} (h : w.ownsRow base t 1 v n (zs.map natv)) (h0 : 0 < n) : QN w base t v zs := by
  have hl : zs.length = n := by have := h.1; simpa using this
  rcases h.2 with ⟨h1, h2⟩ | ⟨g, cap, cur, rfl, hbg, hg, hnc, hcm, hcs, htake⟩
  · omega
  · refine ⟨g, 0, cap, cur, by rw [hl], hbg, hg, by omega, hcm, by omega, fun j z hj => ?_⟩
    have hjl := (List.getElem?_eq_some_iff.1 hj).1
    have : (zs.map natv)[j]? = some (natv z) := by rw [List.getElem?_map, hj]; rfl
    rw [← htake, List.getElem?_take_of_lt (by omega)] at this
    rw [Nat.zero_add]
    simpa [natv] using this
theorem QN.lt (h : QN w base t v zs) : ∀ g, v.ownBlock = some g → base ≤ g ∧ g < w.heap.size := by
  obtain ⟨g, off, cap, cs, rfl, hb, hg, _⟩ := h
  intro k hk
  have : g = k := by simpa [Value.ownBlock] using hk
  subst this
  exact ⟨hb, (Array.getElem?_eq_some_iff.1 hg).1⟩
theorem QN.below (h : QN w base t v zs) (hb : Below w.heap.size w w') : QN w' base t v zs := by
  obtain ⟨g, off, cap, cs, hv, h1, hg, r⟩ := h
  exact ⟨g, off, cap, cs, hv, h1, (hb.block g (Array.getElem?_eq_some_iff.1 hg).1).trans hg, r⟩
theorem QN.far (h : QN w base t v zs) {p : Addr} (hp : v.ownBlock ≠ some p.block) (u : Value) : QN (w.setCell p u) base t v zs := by
  obtain ⟨g, off, cap, cs, rfl, h1, hg, r⟩ := h
  refine ⟨g, off, cap, cs, rfl, h1, ?_, r⟩
  rw [Below.heap_setCell w p u g (fun e => hp (by rw [← e]; rfl))]; exact hg
/-- 'q[0]', 'q[1:]' -/
theorem QN.pop {z : Nat} (h : QN w base t v (z :: zs)) : ∃ g off cap, v = .slice (some ⟨g, off, none⟩) (zs.length + 1) cap ∧ w.cell? ⟨g, off, none⟩ = some (.int .i64 (z : Int)) ∧ zs.length + 1 ≤ cap ∧
    (cap = 1 → QN w base t (.slice (some ⟨g, off, none⟩) zs.length 0) zs) ∧ (cap ≠ 1 → QN w base t (.slice (some ⟨g, off + 1, none⟩) zs.length (cap - 1)) zs) := by
  obtain ⟨g, off, cap, cs, hv, h1, hg, hl, hm, hs, hc⟩ := h
  have hl' : zs.length + 1 ≤ cap := by simpa using hl
  refine ⟨g, off, cap, by rw [hv]; simp, ?_, hl', fun hc1 => ?_, fun hc1 => ?_⟩
  · rw [cell_cells hg]
    have := hc 0 z rfl
    simpa using this
  · have : zs = [] := List.eq_nil_of_length_eq_zero (by omega)
    subst this
    exact ⟨g, off, 0, cs, rfl, h1, hg, Nat.le_refl _, by omega, by omega, fun j z h => by simp at h⟩
  · refine ⟨g, off + 1, cap - 1, cs, rfl, h1, hg, by omega, by omega, by omega, fun j z' hj => ?_⟩
    have := hc (j + 1) z' (by simpa using hj)
    rw [show off + 1 + j = off + (j + 1) by omega]; exact this
theorem QN.nil (h : QN w base t v []) : ∃ g off cap, v = .slice (some ⟨g, off, none⟩) 0 cap := by
  obtain ⟨g, off, cap, cs, hv, _⟩ := h
  exact ⟨g, off, cap, by simpa using hv⟩
end
section
variable {P : Program}
/-- 'q = append(q, x)' -/
theorem run_append_q (w : World) (base : Nat) (t ty e : TypeId) (i : TypeInfo) (z : Value) (ht : P.underlying t = some (.slice e)) (hi : P.info? e = some i) (hz : i.zero = some z) (hsize : i.size = 1) (hby : i.bytes = 8) (hzs : z.cells.size = 1)
    {v : Value} {zs : List Nat} (hq : QN w base e v zs) (ad : Addr) (c x : Nat) (hx : w.cell? ad = some (.int .i64 (x : Int))) (hn : zs.length ≤ 1073741824) (hbase : base ≤ w.heap.size) :
    ∃ v' w', (Builtin.append_ #[t, t] ty #[v, .slice (some ad) 1 c]).run P w = .ok v' w' ∧ QN w' base e v' (zs ++ [x]) ∧ w.grownBy w' v.ownBlock := by
  obtain ⟨g, off, cap, cs, rfl, hb, hg, hl, hm, hs, hc⟩ := hq
  have hnews : ∀ j u, [Value.int .i64 (x : Int)][j]? = some u → w.cell? (ad.add j) = some u := fun j u hj => by
    match j, hj with
    | 0, hj =>
      have ha : ad.add 0 = ad := by obtain ⟨b, o, s⟩ := ad; unfold Addr.add; split <;> simp_all
      rw [ha, hx]
      simpa using hj
    | j + 1, hj => simp at hj
  by_cases hr : zs.length + 1 ≤ cap
  · have hcell : (w.cell? ⟨g, off + zs.length, none⟩).isSome = true := by
      rw [cell_cells hg, Array.getElem?_eq_getElem (by omega)]; rfl
    have hrun := run_append_room_cells (P := P) w t ty e i ht hi g off zs.length cap ad 1 c [.int .i64 (x : Int)] (by rw [hsize]; rfl) hnews (by simp [Value.oneCell']) hr
      (fun j hj => by
        have : j = 0 := by simpa using hj
        subst this
        rw [hsize]; simpa using hcell)
      (fun j hj => frozen_cells hg _)
    rw [hsize, Nat.mul_one] at hrun
    have hset : w.setCells g (off + zs.length) [.int .i64 (x : Int)] = w.setCell ⟨g, off + zs.length, none⟩ (.int .i64 (x : Int)) := rfl
    rw [hset] at hrun
    refine ⟨_, _, hrun, ⟨g, off, cap, cs.set! (off + zs.length) (.int .i64 (x : Int)), by simp, hb, ?_, by simpa using hr, hm, by simpa using hs, fun j z' hj => ?_⟩, ?_⟩
    · simp [World.setCell, Array.getElem?_modify, hg]
    · simp only [Array.set!_eq_setIfInBounds, Array.getElem?_setIfInBounds]
      rcases Nat.lt_or_ge j zs.length with hj' | hj'
      · rw [List.getElem?_append_left hj'] at hj
        rw [if_neg (by omega)]
        exact hc j z' hj
      · rw [List.getElem?_append_right hj'] at hj
        have hj0 : j - zs.length = 0 := by
          have := (List.getElem?_eq_some_iff.1 hj).1
          simpa using this
        rw [hj0] at hj
        simp at hj
        rw [if_pos (by omega), if_pos (by omega), hj]
    · exact ⟨rfl, rfl, rfl, by simp, fun k hk hne => Below.heap_setCell w _ _ k (by
        intro e'
        apply hne
        have e2 : k = g := e'
        rw [e2]; rfl)⟩
  · obtain ⟨v', w', hrun, hown, hgrow⟩ := run_append_arg_grows (P := P) w t ty e i z 1 8 ht hi hz hsize hby hzs (by omega) ⟨g, off, none⟩ zs.length cap (zs.map natv) (by simp)
      (fun j u hj => by
        rw [List.getElem?_map] at hj
        cases hh : zs[j]? with
        | none => rw [hh] at hj; cases hj
        | some y =>
          rw [hh] at hj
          have ha : (⟨g, off, none⟩ : Addr).add j = ⟨g, off + j, none⟩ := by unfold Addr.add; split <;> simp_all
          rw [ha, cell_cells hg, hc j y hh]
          simpa [natv] using hj)
      ad 1 c [.int .i64 (x : Int)] rfl hnews (by omega) (by unfold maxLen; omega) (by omega)
    refine ⟨v', w', hrun, ?_, ⟨hgrow.os, hgrow.tape, hgrow.output, hgrow.size, fun k hk _ => hgrow.block k hk (by simp)⟩⟩
    have h2 : w'.ownsRow base e 1 v' (zs.length + 1) ((zs ++ [x]).map natv) := by
      rw [List.map_append]
      exact own_base hown hbase
    exact QN.of_own h2 (by omega)
theorem wpList_append_q (w : World) {ops : Array Oper} {rest : List Oper} {o : Oper} {a : Act} {Q : Exit → Act → World → Prop} (hgd : o.guard = none) (s x : Operand) (t : TypeId)
    (ho : o.op = .call { callee := .builtin .append, args := #[s, x], argTypes := #[t, t] })
    (base : Nat) (e : TypeId) (i : TypeInfo) (z : Value) (ht : P.underlying t = some (.slice e)) (hi : P.info? e = some i) (hz : i.zero = some z) (hsize : i.size = 1) (hby : i.bytes = 8) (hzs : z.cells.size = 1)
    {v : Value} {zs : List Nat} (hs : a.eval s = v) (hq : QN w base e v zs) (ad : Addr) (c y : Nat) (hx : a.eval x = .slice (some ad) 1 c) (hy : w.cell? ad = some (.int .i64 (y : Int))) (hn : zs.length ≤ 1073741824) (hbase : base ≤ w.heap.size)
    (hK : ∀ v' w', QN w' base e v' (zs ++ [y]) → w.grownBy w' v.ownBlock → wpList P ops Q rest (a.put o.dst v') w') : wpList P ops Q (o :: rest) a w := by
  refine wpList_plain hgd fun K hK' => ?_
  obtain ⟨v', w', hrun, h1, h2⟩ := run_append_q (P := P) w base t o.type e i z ht hi hz hsize hby hzs hq ad c y hy hn hbase
  unfold Oper.wp
  simp [execOp, ho, resolve, invoke, builtin, hs, hx, hrun, Result.andThen]
  exact hK' _ _ (hK v' w' h1 h2)
end

/-! ### how many are not seen yet -/
def zeroOf : Bool → Nat
  | true => 0
  | false => 1
def unseen (bs : List Bool) : Nat := (bs.map zeroOf).sum
theorem unseen_set {bs : List Bool} {j : Nat} (h : bs[j]? = some false) : unseen (bs.set j true) + 1 = unseen bs := by
  unfold unseen
  rw [List.map_set]
  have := sum_set (bs.map zeroOf) j (zeroOf true) (zeroOf false) (by rw [List.getElem?_map, h]; rfl)
  simpa [zeroOf] using this
theorem unseen_all (n : Nat) : unseen (List.replicate n false) = n := by
  unfold unseen
  induction n with
  | zero => rfl
  | succ n ih => rw [List.replicate_succ, List.map_cons, List.sum_cons, ih]; simp [zeroOf]; omega
def zeroV : Value → Nat
  | .bool false => 1
  | _ => 0
/-- .. as memory has it -/
def unseenW (w : World) (g : Nat) : Nat := match w.heap[g]? with
  | some (.cells cs _ _) => (cs.toList.map zeroV).sum
  | _ => 0
theorem unseenW_blk {w : World} {g : Nat} {t : TypeId} {bs : List Bool} (h : Blk w g t (bs.map .bool)) : unseenW w g = unseen bs := by
  unfold Blk at h
  unfold unseenW unseen
  rw [h]
  simp only [List.map_map]
  congr 1
  apply List.map_congr_left
  intro b _
  cases b <;> rfl

/-! ### the search -/
structure ReachI (n : Nat) (a : List (List Nat)) (i : Nat) (E : Nat → Nat → Prop) (bs : List Bool) (zs : List Nat) : Prop where
  len : bs.length = n
  seen : ∀ x : Nat, bs[x]? = some true → Conn (Rel a) i x
  todo : ∀ z ∈ zs, z < n ∧ (z = i ∨ Conn (Rel a) i z)
  done : ∀ x y : Nat, (x = i ∨ bs[x]? = some true) → Rel a x y → bs[y]? = some true ∨ x ∈ zs ∨ E x y
section
variable {n : Nat} {a : List (List Nat)} {i : Nat} {bs : List Bool} {zs : List Nat}
theorem ReachI.start (hi : i < n) : ReachI n a i (fun _ _ => False) (List.replicate n false) [i] :=
  ⟨by simp, fun x h => by rw [List.getElem?_replicate] at h; split at h <;> simp at h, fun z hz => by rw [List.mem_singleton.1 hz]; exact ⟨hi, .inl rfl⟩, fun x y h _ => by
    rcases h with rfl | h
    · exact .inr (.inl (List.mem_singleton.2 rfl))
    · rw [List.getElem?_replicate] at h; split at h <;> simp at h⟩
theorem ReachI.pop {z : Nat} (h : ReachI n a i (fun _ _ => False) bs (z :: zs)) : ReachI n a i (fun x y => x = z ∧ 0 ≤ y) bs zs :=
  ⟨h.len, h.seen, fun y hy => h.todo y (List.mem_cons_of_mem _ hy), fun x y h1 h2 => by
    rcases h.done x y h1 h2 with h3 | h3 | h3
    · exact .inl h3
    · rcases List.mem_cons.1 h3 with rfl | h4
      · exact .inr (.inr ⟨rfl, Nat.zero_le _⟩)
      · exact .inr (.inl h4)
    · exact h3.elim⟩
theorem ReachI.skip {z j : Nat} (h : ReachI n a i (fun x y => x = z ∧ j ≤ y) bs zs) (hj : ¬ Rel a z j ∨ bs[j]? = some true) : ReachI n a i (fun x y => x = z ∧ j + 1 ≤ y) bs zs :=
  ⟨h.len, h.seen, h.todo, fun x y h1 h2 => by
    rcases h.done x y h1 h2 with h3 | h3 | ⟨rfl, h4⟩
    · exact .inl h3
    · exact .inr (.inl h3)
    · rcases Nat.lt_or_ge j y with h5 | h5
      · exact .inr (.inr ⟨rfl, h5⟩)
      · obtain rfl : j = y := by omega
        rcases hj with hj | hj
        · exact absurd h2 hj
        · exact .inl hj⟩
theorem ReachI.push {z j : Nat} (h : ReachI n a i (fun x y => x = z ∧ j ≤ y) bs zs) (hz : z = i ∨ Conn (Rel a) i z) (hj : Rel a z j) (hjn : j < n) : ReachI n a i (fun x y => x = z ∧ j + 1 ≤ y) (bs.set j true) (zs ++ [j]) := by
  have hc : Conn (Rel a) i j := by
    rcases hz with rfl | hz
    · exact .one hj
    · exact .step hz hj
  have hjs : (bs.set j true)[j]? = some true := by rw [List.getElem?_set, if_pos rfl, if_pos (by rw [h.len]; exact hjn)]
  have old : ∀ x : Nat, (bs.set j true)[x]? = some true → x = j ∨ bs[x]? = some true := fun x hx => by
    rw [List.getElem?_set] at hx
    by_cases e : j = x
    · exact .inl e.symm
    · rw [if_neg e] at hx; exact .inr hx
  have new : ∀ x : Nat, bs[x]? = some true → (bs.set j true)[x]? = some true := fun x hx => by
    by_cases e : j = x
    · subst e; exact hjs
    · rw [List.getElem?_set, if_neg e]; exact hx
  refine ⟨by rw [List.length_set]; exact h.len, fun x hx => ?_, fun y hy => ?_, fun x y h1 h2 => ?_⟩
  · rcases old x hx with rfl | hx
    · exact hc
    · exact h.seen x hx
  · rcases List.mem_append.1 hy with hy | hy
    · exact h.todo y hy
    · rw [List.mem_singleton.1 hy]; exact ⟨hjn, .inr hc⟩
  · have h1' : x = j ∨ (x = i ∨ bs[x]? = some true) := by
      rcases h1 with h1 | h1
      · exact .inr (.inl h1)
      · rcases old x h1 with h3 | h3
        · exact .inl h3
        · exact .inr (.inr h3)
    rcases h1' with rfl | h1'
    · exact .inr (.inl (List.mem_append.2 (.inr (List.mem_singleton.2 rfl))))
    · rcases h.done x y h1' h2 with h3 | h3 | ⟨rfl, h4⟩
      · exact .inl (new y h3)
      · exact .inr (.inl (List.mem_append.2 (.inl h3)))
      · rcases Nat.lt_or_ge j y with h5 | h5
        · exact .inr (.inr ⟨rfl, h5⟩)
        · obtain rfl : j = y := by omega
          exact .inl hjs
theorem ReachI.next {z : Nat} (hG : Good n a) (h : ReachI n a i (fun x y => x = z ∧ n ≤ y) bs zs) : ReachI n a i (fun _ _ => False) bs zs :=
  ⟨h.len, h.seen, h.todo, fun x y h1 h2 => by
    rcases h.done x y h1 h2 with h3 | h3 | ⟨rfl, h4⟩
    · exact .inl h3
    · exact .inr (.inl h3)
    · exact absurd (hG.has_lt h2).2 (by omega)⟩
theorem ReachI.all (h : ReachI n a i (fun _ _ => False) bs []) (x : Nat) : bs[x]? = some true ↔ Conn (Rel a) i x := by
  refine ⟨h.seen x, fun hc => ?_⟩
  induction hc with
  | one h1 =>
    rcases h.done i _ (.inl rfl) h1 with h2 | h2 | h2
    · exact h2
    · cases h2
    · exact h2.elim
  | step _ h1 ih =>
    rcases h.done _ _ (.inr ih) h1 with h2 | h2 | h2
    · exact h2
    · cases h2
    · exact h2.elim
end

end Go.Proofs.Ytpbiilhclmcehaa

namespace Go.Proofs.Ytpbiilhclmcehaa
open Go.RowKit
set_option linter.unusedVariables false

theorem info_bool : (Try.prog.info? 4).map (fun i => (i.zero, i.size, i.bytes)) = some (some (.bool false), 1, 1) := by kernel_rfl
theorem mk_bool (kl kc : IntKind) (n c : Nat) (hnc : n ≤ c) (hc : c ≤ 35184372088832) (W : World) :
    (Instr.makeSlice 106 (.int kl (n : Int)) (.int kc (c : Int))).run Try.prog W = .ok (.slice (some ⟨W.heap.size, 0, none⟩) n c) (W.alloc (.cells (zeros c (.bool false)) 4)) := by
  obtain ⟨i, hi, hz0, hz1, hz2⟩ := info_parts info_bool
  exact run_make_one _ _ i _ Try.underlying106 hi hz0 hz1 rfl kl kc n c hnc (by rw [hz2]; omega) (by omega) W
/-- what is known in the search: the queue, who was seen, the matrix -/
structure StR (w : World) (n : Nat) (A : Option Addr) (c : Nat) (v : Value) (bs : List Bool) (zs : List Nat) (wr : World) : Prop where
  q : QN wr (w.heap.size + 2) 3 v zs
  b : Blk wr (w.heap.size + 1) 4 (bs.map .bool)
  m : MatB wr w.heap.size 35 n A n c
  bel : Below w.heap.size w wr
  big : w.heap.size + 2 ≤ wr.heap.size
theorem StR.later {w : World} {n : Nat} {A : Option Addr} {c : Nat} {v : Value} {bs : List Bool} {zs : List Nat} {wr w' : World} (h : StR w n A c v bs zs wr) (hb : Below wr.heap.size wr w') : StR w n A c v bs zs w' :=
  ⟨h.q.below hb, h.b.below hb h.b.lt, h.m.below_ hb, below_trans2 h.bel hb, Nat.le_trans h.big hb.size⟩
def reachL (bs : List Bool) (k : Nat) : List Nat := (List.range k).filter fun x => bs[x]? == some true
theorem reachL_yes {bs : List Bool} {k : Nat} (h : bs[k]? = some true) : reachL bs (k + 1) = reachL bs k ++ [k] := by
  unfold reachL; rw [List.range_succ, List.filter_append]; simp [h]
theorem reachL_no {bs : List Bool} {k : Nat} (h : bs[k]? = some false) : reachL bs (k + 1) = reachL bs k := by
  unfold reachL; rw [List.range_succ, List.filter_append]; simp [h]
theorem reachL_len (bs : List Bool) (k : Nat) : (reachL bs k).length ≤ k := by
  have := List.length_filter_le (fun x => bs[x]? == some true) (List.range k)
  simpa [reachL] using this
theorem reachL_mem (bs : List Bool) (k x : Nat) : x ∈ reachL bs k ↔ x < k ∧ bs[x]? = some true := by
  unfold reachL; rw [List.mem_filter, List.mem_range, beq_iff_eq]
/-- a call that answers what is reached from i -/
def RetReach (n : Nat) (a : List (List Nat)) (i : Nat) (w : World) (e : Ending) (w' : World) : Prop :=
  ∃ (B : Option Addr) (m d : Nat) (l : List Nat), e = .returned (.slice B m d) ∧ Ints w' B m (l.map Int.ofNat) ∧ (∀ x : Nat, x ∈ l ↔ x < n ∧ Conn (Rel a) i x) ∧ l.length ≤ n ∧ (∀ ad, B = some ad → w.heap.size ≤ ad.block) ∧ Below w.heap.size w w'
set_option maxRecDepth 100000 in
set_option maxHeartbeats 4000000 in
theorem ref4_Reach (A : Option Addr) (n c : Nat) (a : List (List Nat)) (i : Nat) (w : World) (hr : RowsAt w A n a) (hG : Good n a) (hin : i < n) :
    Calls Try.prog 59 #[.agg #[.int .i64 (n : Int), .slice A n c], .int .i64 (i : Int)] w (RetReach n a i w) := by
  have hnn : n ≤ 4096 := hG.le
  obtain ⟨i0, hi, hz0, hz1, hz2⟩ := info_parts info_int
  replace hi := Lib.hid hi
  replace hz0 := Lib.hid hz0
  replace hz1 := Lib.hid hz1
  replace hz2 := Lib.hid hz2
  have hmk := mk_bool .i64 .i64 n n (Nat.le_refl _) (by omega)
  obtain ⟨W0, hW0⟩ : ∃ W0, W0 = w.alloc (.cells #[.int .i64 n, .slice A n c] 35) := ⟨_, rfl⟩
  obtain ⟨W1, hW1⟩ : ∃ W1, W1 = W0.alloc (.cells (zeros n (.bool false)) 4) := ⟨_, rfl⟩
  obtain ⟨W2, hW2⟩ : ∃ W2, W2 = W1.alloc (.cells #[.int .i64 (i : Int)] 3) := ⟨_, rfl⟩
  have b0 : Below w.heap.size w W0 := by rw [hW0]; exact below_alloc _ _
  have b1 : Below W0.heap.size W0 W1 := by rw [hW1]; exact below_alloc _ _
  have b2 : Below W1.heap.size W1 W2 := by rw [hW2]; exact below_alloc _ _
  have hs0 : W0.heap.size = w.heap.size + 1 := by rw [hW0]; simp
  have hs1 : W1.heap.size = w.heap.size + 2 := by rw [hW1]; simp [hs0]
  have hs2 : W2.heap.size = w.heap.size + 3 := by rw [hW2]; simp [hs1]
  have hB0 : MatB W0 w.heap.size 35 n A n c := by rw [hW0]; exact MatB.new w _
  have l0 := hB0.c0
  have hSt : Hid (StR w n A c (.slice (some ⟨w.heap.size + 2, 0, none⟩) 1 1) (List.replicate n false) [i] W2) := Lib.hid
    { q := ⟨w.heap.size + 2, 0, 1, #[.int .i64 (i : Int)], rfl, Nat.le_refl _, by rw [hW2, ← hs1]; exact heap_alloc_new _ _, Nat.le_refl _, by unfold maxLen; omega, by simp, fun j z hj => by
        match j, hj with
        | 0, hj => simp at hj; subst hj; rfl
        | j + 1, hj => simp at hj⟩
      b := by
        have h : Blk W1 (w.heap.size + 1) 4 ((List.replicate n false).map .bool) := by
          rw [hW1, ← hs0, List.map_replicate]
          exact Blk.new W0 _ _
        exact h.below b2 h.lt
      m := (hB0.below_ b1).below_ b2
      bel := below_trans2 (below_trans2 b0 b1) b2
      big := by omega }
  have hR : Hid (ReachI n a i (fun _ _ => False) (List.replicate n false) [i]) := Lib.hid (ReachI.start hin)
  have hU : Hid (unseen (List.replicate n false) + [i].length ≤ n + 1) := Lib.hid (by rw [unseen_all]; simp)
  have hH := Lib.hid (fun (x y : Nat) W (hW : RowsAt W A n a) => ref3_HasG A n c a hG (x : Int) (y : Int) W hW)
  have hn1 := Lib.hid (fun z bs zs => ReachI.next (n := n) (a := a) (i := i) (bs := bs) (zs := zs) (z := z) hG)
  replace hs0 := Lib.hid hs0
  replace hs1 := Lib.hid hs1
  replace hr := Lib.hid hr
  replace hG := Lib.hid hG
  clear b0 b1 b2 hB0 hs2
  have p1 : W0.heap.size = w.heap.size + 1 := hs0.out
  have p2 : W1.heap.size = w.heap.size + 2 := hs1.out
  go_enter Try.func59, Try.ntmps59
  go_wp2_with fail
  rw [← hW0]
  clear hW0
  go_wp2_with fail
  rw [← hW1, ← hW2]
  clear hW1 hW2 hmk l0 p1 p2
  go_loopw [7] (fun v wr => ∃ (bs : List Bool) (zs : List Nat), Hid (ReachI n a i (fun _ _ => False) bs zs) ∧ Hid (unseen bs + zs.length ≤ n + 1) ∧ Hid (StR w n A c v bs zs wr)) (fun v wr => unseenW wr (w.heap.size + 1) + qlen v)
  case atStart => exact ⟨_, _, hR, hU, hSt⟩
  case round =>
    clear hR hU hSt
    obtain ⟨bs, zs, hR, hU, hSt⟩ := hrel
    cases zs with
    | nil =>
      obtain ⟨g, off, cap, rfl⟩ := hSt.out.q.nil
      have hall := Lib.hid hR.out.all
      have hbl := Lib.hid hR.out.len
      have hB := Lib.hid hSt.out.b
      have hMm := Lib.hid hSt.out.m
      have hbel := Lib.hid hSt.out.bel
      have hbig := Lib.hid hSt.out.big
      clear hR hU hSt
      go_wp2_with fail
      go_loopw [5, 10] (fun l t wi => ∃ j : Nat, j ≤ n ∧ t = .int .i64 j ∧ Hid (wi.ownsRow (w.heap.size + 2) 3 1 l (reachL bs j).length ((reachL bs j).map natv)) ∧ Hid (Blk wi (w.heap.size + 1) 4 (bs.map .bool)) ∧ Hid (MatB wi w.heap.size 35 n A n c) ∧ Hid (Below w.heap.size w wi) ∧ Hid (w.heap.size + 2 ≤ wi.heap.size)) (fun _ t _ => n - (intOf t).toNat)
      case atStart => exact ⟨0, Nat.zero_le _, rfl, Lib.hid (World.ownsRow_nil _ _ _ _), hB, hMm, hbel, hbig⟩
      case round =>
        clear hB hMm hbel hbig
        obtain ⟨j, hj, rfl, hown, hB, hMm, hbel, hbig⟩ := hrel
        have l0 := hMm.out.c0
        by_cases hlt : j < n
        · obtain ⟨bj, hbj⟩ : ∃ b, bs[j]? = some b := ⟨_, List.getElem?_eq_getElem (by rw [hbl.out]; exact hlt)⟩
          have cb := Blk.cell hB.out j
          rw [List.getElem?_map, hbj, Option.map_some] at cb
          have hj0 : (0 : Int) ≤ (j : Int) := by omega
          have hjn : (j : Int) < (n : Int) := by omega
          have hrl := reachL_len bs j
          cases bj with
          | true =>
            have hy := Lib.hid (reachL_yes hbj)
            replace hbj := Lib.hid hbj
            go_wp2_with (at_builtin; refine wpList_append_lies _ rfl (.tmp 58) (.tmp 60) _ rfl (w.heap.size + 2) 3 i0 _ 1 8 Try.underlying28 hi.out hz0.out hz1.out hz2.out rfl (by omega) _ _ _ (by rfl) (hown.out.alloc _) ⟨wr.heap.size, 0, none⟩ 1 1 [.int .i64 (j : Int)] rfl rfl (cell_one_new _ _ _) (by simp [Value.oneCell']) (by omega) (by unfold maxLen; omega) (by omega) (by have := hbig.out; simp; omega) _ rfl ?_; intro g2 cap2 w1 hown1 hgrow hat hlt1)
            have hB1 := Lib.hid (Blk.grown (hB.out.alloc _) hgrow (fun e => by have := own_lt_block hown.out _ e.symm; omega))
            have hM1 := Lib.hid (Blk.grown (Blk.alloc hMm.out _) hgrow (fun e => by have := own_lt_block hown.out _ e.symm; omega))
            have hb1 := Lib.hid ((hbel.out.alloc hbel.out.size _).grown hgrow (by have := hbel.out.size; simp; omega) (fun k hk => by have := own_lt_block hown.out k hk; omega))
            have hg1 : Hid (w.heap.size + 2 ≤ w1.heap.size) := Lib.hid (by have := hgrow.size; have := hbig.out; simp at *; omega)
            clear hgrow hat hlt1 cb l0
            go_roundw
            case rel =>
              refine ⟨j + 1, by omega, by go_num, Lib.hid ?_, hB1, hM1, hb1, hg1⟩
              rw [hy.out, List.length_append, List.map_append]
              exact hown1
            case measure => simp [intOf]; omega
          | false =>
            have hy := Lib.hid (reachL_no hbj)
            replace hbj := Lib.hid hbj
            go_wp2_with fail
            go_roundw
            case rel => exact ⟨j + 1, by omega, by go_num, Lib.hid (by rw [hy.out]; exact hown.out), hB, hMm, hbel, hbig⟩
            case measure => simp [intOf]; omega
        · obtain rfl : j = n := by omega
          have hfr := Lib.hid (fun k hk => own_lt_block hown.out k hk)
          obtain ⟨A', c', rfl, hI⟩ := own_ints hown.out (fun x hx => by have := ((reachL_mem _ _ _).1 hx).1; omega)
          replace hI := Lib.hid hI
          clear hown
          go_wp2_with fail
          go_ret
          exact ⟨_, _, _, reachL bs j, rfl, hI.out, fun x => by
            rw [reachL_mem, hall.out], reachL_len _ _, fun ad e => by subst e; have := hfr.out ad.block rfl; omega, hbel.out⟩
    | cons z zs =>
      obtain ⟨g, off, cap, rfl, hcz, hcap, hq1, hq2⟩ := hSt.out.q.pop
      have hM : Hid (unseenW wr (w.heap.size + 1) = unseen bs) := Lib.hid (unseenW_blk hSt.out.b)
      have hz := Lib.hid (hR.out.todo z (List.mem_cons_self ..))
      have hRp := Lib.hid hR.out.pop
      have hzl : 0 < zs.length + 1 := by omega
      replace hq1 := Lib.hid hq1
      replace hq2 := Lib.hid hq2
      have hc1 : 1 ≤ cap := by omega
      clear hR
      go_wp2_with fail
      · have hS : Hid (StR w n A c (.slice (some ⟨g, off, none⟩) zs.length 0) bs zs wr) := Lib.hid { q := hq1.out (by first | rfl | assumption), b := hSt.out.b, m := hSt.out.m, bel := hSt.out.bel, big := hSt.out.big }
        clear hcz hSt hq1 hq2
        go_loopw [7, 9] (fun v t wi => ∃ (j : Nat) (bs' : List Bool) (zs' : List Nat), j ≤ n ∧ t = .int .i64 j ∧ Hid (ReachI n a i (fun x y => x = z ∧ j ≤ y) bs' zs') ∧ Hid (unseen bs' + zs'.length + 1 ≤ unseen bs + (zs.length + 1)) ∧ Hid (StR w n A c v bs' zs' wi)) (fun _ t _ => n - (intOf t).toNat)
        case atStart => exact ⟨0, bs, zs, Nat.zero_le _, rfl, hRp, Lib.hid (by omega), hS⟩
        case round =>
          obtain ⟨j, bs', zs', hj, rfl, hR', hU', hS'⟩ := hrel
          clear hS
          have l0 := hS'.out.m.c0
          have l1 := hS'.out.m.c1
          by_cases hlt : j < n
          · have hC := Lib.hid (hH.out z j wr (hr.out.below hS'.out.bel))
            go_wp2_with fail
            refine hC.out.mono ?_; rintro e w1 ⟨rfl, hb1⟩
            replace hS' := Lib.hid (hS'.out.later hb1)
            clear hb1 hC l0 l1
            cases hh : hasM a (z : Int) (j : Int) with
            | false =>
              have hR2 := Lib.hid (hR'.out.skip (.inl (by unfold Rel; rw [hh]; simp)))
              go_wp2_with fail
              go_roundw
              case rel => exact ⟨j + 1, bs', zs', by omega, by go_num, hR2, hU', hS'⟩
              case measure => simp [intOf]; omega
            | true =>
              have hbl : bs'.length = n := hR'.out.len
              obtain ⟨bj, hbj⟩ : ∃ b, bs'[j]? = some b := ⟨_, List.getElem?_eq_getElem (by omega)⟩
              have cb := Blk.cell hS'.out.b j
              rw [List.getElem?_map, hbj, Option.map_some] at cb
              have hj0 : (0 : Int) ≤ (j : Int) := by omega
              have hjn : (j : Int) < (n : Int) := by omega
              replace hbl := Lib.hid hbl
              cases bj with
              | true =>
                have hR2 := Lib.hid (hR'.out.skip (.inr hbj))
                replace hbj := Lib.hid hbj
                go_wp2_with fail
                go_roundw
                case rel => exact ⟨j + 1, bs', zs', by omega, by go_num, hR2, hU', hS'⟩
                case measure => simp [intOf]; omega
              | false =>
                have hR2 := Lib.hid (hR'.out.push hz.out.2 (by unfold Rel; exact hh) hlt)
                have hun := Lib.hid (unseen_set hbj)
                have fz := Blk.frozen hS'.out.b j
                have hzs : zs'.length ≤ 1073741824 := by have := hU'.out; have := hU.out; simp at this; omega
                have hqw := Lib.hid (hS'.out.q.far (p := ⟨w.heap.size + 1, j, none⟩) (fun e => by have := (hS'.out.q.lt _ e).1; simp at this) (.bool true))
                replace hbj := Lib.hid hbj
                go_wp2_with (at_builtin; refine wpList_append_q _ rfl (.tmp 44) (.tmp 46) _ rfl (w.heap.size + 2) 3 i0 _ Try.underlying28 hi.out hz0.out hz1.out hz2.out rfl (by rfl) (hqw.out.below (below_alloc _ _)) ⟨w1.heap.size, 0, none⟩ 1 j rfl (by have h := Blk.cell (Blk.new (w1.setCell ⟨w.heap.size + 1, j, none⟩ (.bool true)) 3 [.int .i64 (j : Int)]) 0; simpa using h) hzs (by have := hS'.out.big; simp; omega) ?_; intro v' w2 hq' hgrow)
                have hS2 : Hid (StR w n A c v' (bs'.set j true) (zs' ++ [j]) w2) := Lib.hid
                  { q := hq'
                    b := by
                      rw [List.map_set]
                      exact Blk.grown (((hS'.out.b.set_ j (.bool true))).alloc _) hgrow (fun e => by have := (hqw.out.lt _ e.symm).1; omega)
                    m := Blk.grown (((Blk.far hS'.out.m (p := ⟨w.heap.size + 1, j, none⟩) (by simp) (.bool true))).alloc _) hgrow (fun e => by have := (hqw.out.lt _ e.symm).1; omega)
                    bel := ((hS'.out.bel.setCell (p := ⟨w.heap.size + 1, j, none⟩) (by simp) (.bool true)).alloc (by have := hS'.out.big; simp; omega) _).grown hgrow (by have := hS'.out.big; simp; omega) (fun k hk => by have := (hqw.out.lt k hk).1; omega)
                    big := by have := hgrow.size; have := hS'.out.big; simp at *; omega }
                clear hq' hgrow hqw cb fz
                go_roundw
                case rel => exact ⟨j + 1, bs'.set j true, zs' ++ [j], by omega, by go_num, hR2, Lib.hid (by have := hun.out; have := hU'.out; simp; omega), hS2⟩
                case measure => simp [intOf]; omega
          · obtain rfl : j = n := by omega
            have hR2 := Lib.hid (hn1.out z bs' zs' hR'.out)
            have hU2 : Hid (unseen bs' + zs'.length ≤ j + 1) := Lib.hid (by have := hU'.out; have := hU.out; simp at this; omega)
            go_wp2_with fail
            go_roundw
            case rel => exact ⟨bs', zs', hR2, hU2, hS'⟩
            case measure =>
              have h1 := unseenW_blk hS'.out.b
              have h2 := hS'.out.q.qlen_
              have h3 := hU'.out
              rw [h1, h2, hM.out]
              simp only [qlen]
              omega
      · have hS : Hid (StR w n A c (.slice (some ⟨g, off + 1, none⟩) zs.length (cap - 1)) bs zs wr) := Lib.hid { q := hq2.out (by assumption), b := hSt.out.b, m := hSt.out.m, bel := hSt.out.bel, big := hSt.out.big }
        clear hcz hSt hq1 hq2
        go_loopw [7, 9] (fun v t wi => ∃ (j : Nat) (bs' : List Bool) (zs' : List Nat), j ≤ n ∧ t = .int .i64 j ∧ Hid (ReachI n a i (fun x y => x = z ∧ j ≤ y) bs' zs') ∧ Hid (unseen bs' + zs'.length + 1 ≤ unseen bs + (zs.length + 1)) ∧ Hid (StR w n A c v bs' zs' wi)) (fun _ t _ => n - (intOf t).toNat)
        case atStart => exact ⟨0, bs, zs, Nat.zero_le _, rfl, hRp, Lib.hid (by omega), hS⟩
        case round =>
          obtain ⟨j, bs', zs', hj, rfl, hR', hU', hS'⟩ := hrel
          clear hS
          have l0 := hS'.out.m.c0
          have l1 := hS'.out.m.c1
          by_cases hlt : j < n
          · have hC := Lib.hid (hH.out z j wr (hr.out.below hS'.out.bel))
            go_wp2_with fail
            refine hC.out.mono ?_; rintro e w1 ⟨rfl, hb1⟩
            replace hS' := Lib.hid (hS'.out.later hb1)
            clear hb1 hC l0 l1
            cases hh : hasM a (z : Int) (j : Int) with
            | false =>
              have hR2 := Lib.hid (hR'.out.skip (.inl (by unfold Rel; rw [hh]; simp)))
              go_wp2_with fail
              go_roundw
              case rel => exact ⟨j + 1, bs', zs', by omega, by go_num, hR2, hU', hS'⟩
              case measure => simp [intOf]; omega
            | true =>
              have hbl : bs'.length = n := hR'.out.len
              obtain ⟨bj, hbj⟩ : ∃ b, bs'[j]? = some b := ⟨_, List.getElem?_eq_getElem (by omega)⟩
              have cb := Blk.cell hS'.out.b j
              rw [List.getElem?_map, hbj, Option.map_some] at cb
              have hj0 : (0 : Int) ≤ (j : Int) := by omega
              have hjn : (j : Int) < (n : Int) := by omega
              replace hbl := Lib.hid hbl
              cases bj with
              | true =>
                have hR2 := Lib.hid (hR'.out.skip (.inr hbj))
                replace hbj := Lib.hid hbj
                go_wp2_with fail
                go_roundw
                case rel => exact ⟨j + 1, bs', zs', by omega, by go_num, hR2, hU', hS'⟩
                case measure => simp [intOf]; omega
              | false =>
                have hR2 := Lib.hid (hR'.out.push hz.out.2 (by unfold Rel; exact hh) hlt)
                have hun := Lib.hid (unseen_set hbj)
                have fz := Blk.frozen hS'.out.b j
                have hzs : zs'.length ≤ 1073741824 := by have := hU'.out; have := hU.out; simp at this; omega
                have hqw := Lib.hid (hS'.out.q.far (p := ⟨w.heap.size + 1, j, none⟩) (fun e => by have := (hS'.out.q.lt _ e).1; simp at this) (.bool true))
                replace hbj := Lib.hid hbj
                go_wp2_with (at_builtin; refine wpList_append_q _ rfl (.tmp 44) (.tmp 46) _ rfl (w.heap.size + 2) 3 i0 _ Try.underlying28 hi.out hz0.out hz1.out hz2.out rfl (by rfl) (hqw.out.below (below_alloc _ _)) ⟨w1.heap.size, 0, none⟩ 1 j rfl (by have h := Blk.cell (Blk.new (w1.setCell ⟨w.heap.size + 1, j, none⟩ (.bool true)) 3 [.int .i64 (j : Int)]) 0; simpa using h) hzs (by have := hS'.out.big; simp; omega) ?_; intro v' w2 hq' hgrow)
                have hS2 : Hid (StR w n A c v' (bs'.set j true) (zs' ++ [j]) w2) := Lib.hid
                  { q := hq'
                    b := by
                      rw [List.map_set]
                      exact Blk.grown (((hS'.out.b.set_ j (.bool true))).alloc _) hgrow (fun e => by have := (hqw.out.lt _ e.symm).1; omega)
                    m := Blk.grown (((Blk.far hS'.out.m (p := ⟨w.heap.size + 1, j, none⟩) (by simp) (.bool true))).alloc _) hgrow (fun e => by have := (hqw.out.lt _ e.symm).1; omega)
                    bel := ((hS'.out.bel.setCell (p := ⟨w.heap.size + 1, j, none⟩) (by simp) (.bool true)).alloc (by have := hS'.out.big; simp; omega) _).grown hgrow (by have := hS'.out.big; simp; omega) (fun k hk => by have := (hqw.out.lt k hk).1; omega)
                    big := by have := hgrow.size; have := hS'.out.big; simp at *; omega }
                clear hq' hgrow hqw cb fz
                go_roundw
                case rel => exact ⟨j + 1, bs'.set j true, zs' ++ [j], by omega, by go_num, hR2, Lib.hid (by have := hun.out; have := hU'.out; simp; omega), hS2⟩
                case measure => simp [intOf]; omega
          · obtain rfl : j = n := by omega
            have hR2 := Lib.hid (hn1.out z bs' zs' hR'.out)
            have hU2 : Hid (unseen bs' + zs'.length ≤ j + 1) := Lib.hid (by have := hU'.out; have := hU.out; simp at this; omega)
            go_wp2_with fail
            go_roundw
            case rel => exact ⟨bs', zs', hR2, hU2, hS'⟩
            case measure =>
              have h1 := unseenW_blk hS'.out.b
              have h2 := hS'.out.q.qlen_
              have h3 := hU'.out
              rw [h1, h2, hM.out]
              simp only [qlen]
              omega

end Go.Proofs.Ytpbiilhclmcehaa

namespace Go.Proofs.Ytpbiilhclmcehaa
open Go.RowKit
set_option linter.unusedVariables false

theorem RowsAt.farK {w : World} {C : Option Addr} {p g : Nat} {t : TypeId} {xss : List (List Nat)} {N : Int} {A : Option Addr} {n c : Nat} {yss : List (List Nat)} (h : RowsAt w C p xss) (hM : MatK w g t N A n c yss) (hn : 0 < n) : 0 < p → ∀ ad, C = some ad → ad.block ≠ g := by
  intro h0 ad e
  obtain ⟨b, off, B, m, d, xs, e2, _, hx, hc, hr⟩ := h.at_ h0
  rw [e] at e2
  cases e2
  intro hb
  have hb' : b = g := hb
  subst hb'
  rw [Blk.cell hM.1] at hc
  match off + 0, hc with
  | 0, hc => simp at hc
  | 1, hc =>
    simp at hc
    obtain ⟨rfl, rfl, rfl⟩ := hc
    obtain ⟨b3, o3, x, e3, _, _, _, h3⟩ := hr.at_ hn
    obtain ⟨b4, o4, B4, m4, d4, xs4, e4, _, _, h4, _⟩ := hM.2.at_ hn
    rw [e3] at e4
    cases e4
    rw [h3] at h4
    cases h4
  | k + 2, hc => simp at hc
theorem MatK.put2 {w : World} {g : Nat} {t : TypeId} {N : Int} {A : Option Addr} {n c : Nat} (h : MatB w g t N A n c) {G : Nat} {t' : TypeId} {M : Int} {B : Option Addr} {m d : Nat} {yss : List (List Nat)} (k : MatK w G t' M B m d yss) (hne : G ≠ g) (hb : 0 < m → ∀ ad, B = some ad → ad.block ≠ g) (x y : Value) : MatK ((w.setCell ⟨g, 0, none⟩ x).setCell ⟨g, 1, none⟩ y) G t' M B m d yss :=
  ⟨(k.1.farB (p := ⟨g, 0, none⟩) (by simpa using hne) _).farB (p := ⟨g, 1, none⟩) (by simpa using hne) _, k.2.putB h hb _ _⟩
theorem Ints.setCell {w : World} {A : Option Addr} {n : Nat} {zs : List Int} {p : Addr} (h : Ints w A n zs) (hne : ∀ ad, A = some ad → ad.block ≠ p.block) (u : Value) : Ints (w.setCell p u) A n zs := ⟨h.1.setCell hne u, h.2⟩
theorem Conn.lt {n : Nat} {a : List (List Nat)} (hG : Good n a) {i j : Nat} (h : Conn (Rel a) i j) : i < n ∧ j < n := by
  induction h with
  | one h => exact hG.has_lt h
  | step _ h ih => exact ⟨ih.1, (hG.has_lt h).2⟩
/-- what is laid so far: the rows ahead of i, and some of row i -/
def CloseR (n : Nat) (a : List (List Nat)) (i : Nat) (l : List Nat) (X : List (List Nat)) : Prop := Good n X ∧ ∀ x y : Nat, Rel X x y ↔ (x < i ∧ Conn (Rel a) x y) ∨ (x = i ∧ y ∈ l)
section
variable {n : Nat} {a X : List (List Nat)} {i : Nat} {l : List Nat}
theorem CloseR.start (hn : n ≤ 4096) : CloseR n a 0 [] (newM n) := ⟨Good.new hn, fun x y => by
  unfold Rel
  rw [newM_has]
  constructor
  · intro h; cases h
  · rintro (⟨h, _⟩ | ⟨_, h⟩)
    · omega
    · cases h⟩
theorem CloseR.set (h : CloseR n a i l X) {y : Nat} (hi : i < n) (hy : y < n) : CloseR n a i (l ++ [y]) (setM X (i : Int) (y : Int)) := ⟨h.1.set hi hy, fun u v => by
  rw [rel_set h.1 hi hy, h.2]
  simp only [List.mem_append, List.mem_singleton]
  constructor
  · rintro ((h1 | ⟨h1, h2⟩) | ⟨h1, h2⟩)
    · exact .inl h1
    · exact .inr ⟨h1, .inl h2⟩
    · exact .inr ⟨h1, .inr h2⟩
  · rintro (h1 | ⟨h1, h2 | h2⟩)
    · exact .inl (.inl h1)
    · exact .inl (.inr ⟨h1, h2⟩)
    · exact .inr ⟨h1, h2⟩⟩
theorem CloseR.next (h : CloseR n a i l X) (hG : Good n a) (hl : ∀ x : Nat, x ∈ l ↔ x < n ∧ Conn (Rel a) i x) : CloseR n a (i + 1) [] X := ⟨h.1, fun u v => by
  rw [h.2, hl]
  constructor
  · rintro (⟨h1, h2⟩ | ⟨rfl, _, h2⟩)
    · exact .inl ⟨by omega, h2⟩
    · exact .inl ⟨by omega, h2⟩
  · rintro (⟨h1, h2⟩ | ⟨_, h2⟩)
    · rcases Nat.lt_succ_iff_lt_or_eq.1 h1 with h3 | h3
      · exact .inl ⟨h3, h2⟩
      · subst h3
        exact .inr ⟨rfl, (Conn.lt hG h2).2, h2⟩
    · cases h2⟩
theorem CloseR.all (h : CloseR n a n [] X) (hG : Good n a) : X = closeK a n :=
  IsHull.unique (r := Rel a) ⟨h.1, fun u v => by
    rw [h.2]
    constructor
    · rintro (⟨_, h2⟩ | ⟨_, h2⟩)
      · exact h2
      · cases h2
    · intro h2
      exact .inl ⟨(Conn.lt hG h2).1, h2⟩⟩ (closeK_hull hG) fun _ _ => Iff.rfl
end
/-- a matrix all of whose blocks are the call's own -/
def RetMat1G (N : Int) (xss : List (List Nat)) (w : World) (e : Ending) (w' : World) : Prop :=
  ∃ A n c, e = .returned (.agg #[.int .i64 N, .slice A n c]) ∧ RowsG w.heap.size w' A n xss ∧ n ≤ c ∧ Below w.heap.size w w'
set_option maxRecDepth 100000 in
set_option maxHeartbeats 4000000 in
theorem ref4_CloseG (A : Option Addr) (n c : Nat) (a : List (List Nat)) (w : World) (hr : RowsAt w A n a) (hG : Good n a) (hn64 : n < 64) :
    Calls Try.prog 34 #[.agg #[.int .i64 (n : Int), .slice A n c]] w (RetMat1G (n : Int) (closeK a n) w) := by
  have hnn : n ≤ 4096 := hG.le
  obtain ⟨W0, hW0⟩ : ∃ W0, W0 = (w.alloc (.cells #[.int .i64 n, .slice A n c] 35)).alloc (.cells #[.int .i64 0, .slice none 0 0] 35) := ⟨_, rfl⟩
  have bb := Lib.hid (show Below w.heap.size w W0 by rw [hW0]; exact ((Below.refl _ _).alloc (Nat.le_refl _) _).alloc (by simp) _)
  have k1 := Lib.hid (show MatK W0 w.heap.size 35 n A n c a by rw [hW0]; exact (MatK.new w _ hr).below (below_alloc _ _))
  have m2 := Lib.hid (show MatB W0 (w.heap.size + 1) 35 0 none 0 0 by rw [hW0]; exact MatB.new1 w _ _)
  have cN := Lib.hid (fun W => ref3_NewG n hnn W)
  have cR := Lib.hid (fun (i : Nat) (hi : i < n) W (hW : RowsAt W A n a) => ref4_Reach A n c a i W hW hG hi)
  have cS := Lib.hid (fun (i y : Nat) (hi : i < n) (hy : y < n) C d X (hX : Good n X) W (hW : RowsG w.heap.size W C n X) (hs : w.heap.size ≤ W.heap.size) => ref3_SetG w.heap.size (n : Int) C n d X (i : Int) (y : Int) W hW hs rfl hnn (fun xs hx => by have := hX.small xs hx; omega) (by unfold inM; simp; omega))
  replace hG := Lib.hid hG
  clear hr
  have qk10 := k1.out.1.c0
  have qk11 := k1.out.1.c1
  go_enter Try.func34, Try.ntmps34
  go_wp2_with fail
  rw [← hW0]
  clear hW0
  go_wp2_with fail
  refine (cN.out W0).mono ?_; rintro e w1 ⟨A3, n3, c3, rfl, s3, hc3, b, -⟩
  have r3 := s3.at
  obtain rfl : n = n3 := by have := r3.len; simp [newM] at this; omega
  replace s3 := s3.mono (show w.heap.size ≤ W0.heap.size from bb.out.size)
  replace m2 := Lib.hid (m2.out.below b)
  obtain ⟨W1, hW1⟩ : ∃ W1, W1 = w1.alloc (.cells #[.int .i64 n, .slice A3 n c3] 35) := ⟨_, rfl⟩
  obtain ⟨G3, hG3⟩ : ∃ G, G = w1.heap.size := ⟨_, rfl⟩
  have ba : Below w1.heap.size w1 W1 := by rw [hW1]; exact below_alloc _ _
  have k3 := Lib.hid (show MatK W1 G3 35 n A3 n c3 (newM n) from ⟨by rw [hW1, hG3]; exact MatB.new _ _, r3.below ba⟩)
  replace s3 := Lib.hid (s3.below ba)
  have hlt := m2.out.lt
  have h23 : w.heap.size + 1 < G3 := by omega
  replace m2 := Lib.hid (m2.out.below ba)
  replace b := below_trans2 b ba
  replace k1 := Lib.hid (k1.out.below b)
  replace qk10 := k1.out.1.c0
  replace qk11 := k1.out.1.c1
  replace bb := Lib.hid (below_trans2 bb.out b)
  clear b
  rw [hW1] at qk10 qk11
  clear ba r3 hlt
  go_wp2_with fail
  rw [← hW1, ← hG3]
  clear hW1 hG3 qk10 qk11
  go_loopw [5] (fun t wr => ∃ (i : Nat) (A3 : Option Addr) (c3 : Nat) (X : List (List Nat)), i ≤ n ∧ t = .int .i64 i ∧ Hid (CloseR n a i [] X) ∧ Hid (n ≤ c3) ∧ Hid (MatK wr w.heap.size 35 n A n c a) ∧ Hid (MatB wr (w.heap.size + 1) 35 0 none 0 0) ∧ Hid (MatK wr G3 35 n A3 n c3 X) ∧ Hid (RowsG w.heap.size wr A3 n X) ∧ Hid (Below w.heap.size w wr)) (fun t _ => n - (intOf t).toNat)
  case atStart => exact ⟨0, A3, c3, newM n, Nat.zero_le _, rfl, Lib.hid (CloseR.start hnn), Lib.hid hc3, k1, m2, k3, s3, bb⟩
  case round =>
    clear k1 m2 k3 s3 bb
    obtain ⟨i, A3, c3, X, hi, rfl, hX, hc3', k1, m2, k3, s3, bb⟩ := hrel
    have qk10 := k1.out.1.c0
    have qk11 := k1.out.1.c1
    by_cases hlt : i < n
    · have cRi := Lib.hid (cR.out i hlt wr k1.out.2)
      go_wp2_with fail
      refine cRi.out.mono ?_; rintro e w2 ⟨B, m, d, l, rfl, hl, hmem, hll, hfr, b⟩
      have hlm : l.length = m := by have := hl.len; simpa using this
      have h3 : G3 < wr.heap.size := k3.out.1.lt
      have hfr3 : Hid (∀ ad, B = some ad → ad.block ≠ G3) := Lib.hid (fun ad e => by have := hfr ad e; omega)
      replace m2 := Lib.hid (m2.out.below b)
      replace s3 := Lib.hid (s3.out.below b)
      replace k1 := Lib.hid (k1.out.below b)
      replace qk10 := k1.out.1.c0
      replace qk11 := k1.out.1.c1
      replace k3 := Lib.hid (k3.out.below b)
      replace qk30 := k3.out.1.c0
      replace qk31 := k3.out.1.c1
      replace bb := Lib.hid (below_trans2 bb.out b)
      clear b
      replace hl := Lib.hid hl
      replace hmem := Lib.hid hmem
      have hm64 : m ≤ 64 := by omega
      replace hlm := Lib.hid hlm
      clear cRi hfr h3 hll
      go_wp2_with fail
      clear qk10 qk11 qk30 qk31
      go_loopw [7] (fun t wr => ∃ (k : Nat) (A3 : Option Addr) (c3 : Nat) (X : List (List Nat)), k ≤ m ∧ t = .int .i64 k ∧ Hid (CloseR n a i (l.take k) X) ∧ Hid (n ≤ c3) ∧ Hid (MatK wr w.heap.size 35 n A n c a) ∧ Hid (MatB wr (w.heap.size + 1) 35 0 none 0 0) ∧ Hid (MatK wr G3 35 n A3 n c3 X) ∧ Hid (RowsG w.heap.size wr A3 n X) ∧ Hid (Below w.heap.size w wr) ∧ Hid (Ints wr B m (l.map Int.ofNat))) (fun t _ => m - (intOf t).toNat)
      case atStart => exact ⟨0, A3, c3, X, Nat.zero_le _, rfl, hX, hc3', k1, m2, k3, s3, bb, hl⟩
      case round =>
        clear hX hc3' k1 m2 k3 s3 bb hl
        obtain ⟨k, A3, c3, X, hk, rfl, hX, hc3', k1, m2, k3, s3, bb, hl⟩ := hrel
        by_cases hkm : k < m
        · obtain ⟨b4, o4, x, rfl, hb4, hx, hx64, c4⟩ := hl.out.at_ hkm
          obtain ⟨y, hy, rfl⟩ : ∃ y : Nat, l[k]? = some y ∧ (y : Int) = x := by
            rw [List.getElem?_map] at hx
            cases hh : l[k]? with
            | none => rw [hh] at hx; cases hx
            | some y => rw [hh] at hx; exact ⟨y, rfl, by simpa using hx⟩
          have hyn : y < n := ((hmem.out y).1 (List.mem_of_getElem? hy)).1
          have cSk := Lib.hid (cS.out i y hlt hyn A3 c3 X hX.out.1)
          have hX2 := Lib.hid (hX.out.set hlt hyn)
          rw [show l.take k ++ [y] = l.take (k + 1) by rw [List.take_succ_eq_append_getElem (List.getElem?_eq_some_iff.1 hy).1, (List.getElem?_eq_some_iff.1 hy).2]] at hX2
          have hk0 : (0 : Int) ≤ (k : Int) := by omega
          have hkm' : (k : Int) < (m : Int) := by omega
          clear hx hx64 hy
          have qk30 := k3.out.1.c0
          have qk31 := k3.out.1.c1
          go_wp2_with fail
          refine wp_region_planT 8 [(true, 0), (true, 1), (true, 2), (true, 3), (true, 4), (true, 5), (false, 6), (true, 7)] 10 [8, 9] (by kernel_rfl) (by kernel_rfl) (fun W1 hW1 => ?_)
          replace k1 := Lib.hid (show MatK W1 w.heap.size 35 n A n c a by rw [hW1.out]; exact k1.out.drew)
          replace s3 := Lib.hid (show RowsG w.heap.size W1 A3 n X by rw [hW1.out]; exact s3.out.below (Below.refl _ _).drew)
          replace k3 := Lib.hid (show MatK W1 G3 35 n A3 n c3 X by rw [hW1.out]; exact k3.out.drew)
          replace m2 := Lib.hid (show MatB W1 (w.heap.size + 1) 35 0 none 0 0 by rw [hW1.out]; exact Blk.drew m2.out)
          replace bb := Lib.hid (show Below w.heap.size w W1 by rw [hW1.out]; exact bb.out.drew)
          replace hl := Lib.hid (show Ints W1 (some ⟨b4, o4, none⟩) m (l.map Int.ofNat) by rw [hW1.out]; exact hl.out)
          replace c4 : W1.cell? ⟨b4, o4 + k, none⟩ = some (.int .i64 (y : Int)) := by rw [hW1.out]; exact c4
          clear hW1 qk30 qk31
          simp only [List.drop_succ_cons, List.drop_zero]
          have qk30 := k3.out.1.c0
          have qk31 := k3.out.1.c1
          iterate 6
            refine wpPlanE_float (v := ?_) rfl (by rfl) (fun w' hw' => ?_) (fun K hK => ?_)
            rotate_left
            · (go_simp; try with_reducible rfl)
            go_simp
            refine hK _ ?_
            clear hK K
          clear c4 qk30 qk31
          refine wpPlanE_only rfl (by rfl) (fun K hK => ?_)
          go_simp
          refine (cSk.out W1 s3.out bb.out.size).mono ?_
          rintro e w3 ⟨D, nn, dd, rfl, sD, hcD, b, -⟩
          have rD := sD.at
          obtain rfl : n = nn := by have := rD.len; have := hX2.out.1.len; omega
          refine hK _ _ b ?_
          clear hK K cSk
          replace m2 := Lib.hid (m2.out.below b)
          replace hl := Lib.hid (hl.out.below b)
          replace k1 := Lib.hid (k1.out.below b)
          replace k3 := Lib.hid (k3.out.below b)
          replace bb := Lib.hid (below_trans2 bb.out b)
          replace rD := Lib.hid rD
          replace sD := Lib.hid sD
          clear s3
          replace hcD := Lib.hid hcD
          clear b
          iterate 1
            refine wpPlanE_float (v := ?_) rfl (by rfl) (fun w' hw' => ?_) (fun K hK => ?_)
            rotate_left
            · (go_simp; try with_reducible rfl)
            go_simp
            refine hK _ ?_
            clear hK K
          refine wpPlanE_nil ?_
          iterate 2
            refine wpPlanT_float (v := ?_) rfl (by rfl) (fun w' => ?_) (fun K hK => ?_)
            rotate_left
            · (go_simp; try with_reducible rfl)
            go_simp
            refine hK _ ?_
            clear hK K
          refine wpPlanT_nil ?_
          have qk30 := k3.out.1.c0
          have qk31 := k3.out.1.c1
          have f0 := k3.out.1.frozen 0
          have f1 := k3.out.1.frozen 1
          go_wp2_with fail
          refine NoPanic.normal ?_
          clear f0 f1 qk30 qk31
          obtain ⟨Wz, hWz⟩ : ∃ X : World, X = (w3.setCell ⟨G3, 0, none⟩ (.int .i64 n)).setCell ⟨G3, 1, none⟩ (.slice D n dd) := ⟨_, rfl⟩
          rw [← hWz]
          have hn0 : 0 < n := by omega
          have k3' := Lib.hid (show MatK Wz G3 35 n D n dd (setM X (i : Int) (y : Int)) by rw [hWz]; exact ⟨k3.out.1.put n D n dd, rD.out.putB k3.out.1 (rD.out.farK k3.out hn0) _ _⟩)
          have s3' := Lib.hid (show RowsG w.heap.size Wz D n (setM X (i : Int) (y : Int)) by rw [hWz]; exact sD.out.putB k3.out.1 (rD.out.farK k3.out hn0) _ _)
          have k1' := Lib.hid (show MatK Wz w.heap.size 35 n A n c a by rw [hWz]; exact MatK.put2 k3.out.1 k1.out (by omega) (k1.out.2.farK k3.out hn0) _ _)
          have m2' := Lib.hid (show MatB Wz (w.heap.size + 1) 35 0 none 0 0 by rw [hWz]; exact (m2.out.farB (p := ⟨G3, 0, none⟩) (by simp <;> omega) _).farB (p := ⟨G3, 1, none⟩) (by simp <;> omega) _)
          have hl' := Lib.hid (show Ints Wz (some ⟨b4, o4, none⟩) m (l.map Int.ofNat) by rw [hWz]; exact (hl.out.setCell (p := ⟨G3, 0, none⟩) (fun ad e => hfr3.out ad e) _).setCell (p := ⟨G3, 1, none⟩) (fun ad e => hfr3.out ad e) _)
          replace bb := Lib.hid (show Below w.heap.size w Wz by rw [hWz]; exact (bb.out.setCell (p := ⟨G3, 0, none⟩) (by simp <;> omega) _).setCell (p := ⟨G3, 1, none⟩) (by simp <;> omega) _)
          clear hWz k1 k3 m2 hl rD sD
          go_wp2_with fail
          go_roundw
          case rel => exact ⟨k + 1, D, dd, _, by omega, by go_num, hX2, hcD, k1', m2', k3', s3', bb, hl'⟩
          case measure => simp [intOf]; omega
        · obtain rfl : k = m := by omega
          rw [List.take_of_length_le (by rw [hlm.out]; exact Nat.le_refl _)] at hX
          have hX2 := Lib.hid (hX.out.next hG.out hmem.out)
          clear hl
          go_wp2_with fail
          go_roundw
          case rel => exact ⟨i + 1, A3, c3, X, by omega, by go_num, hX2, hc3', k1, m2, k3, s3, bb⟩
          case measure => simp [intOf]; omega
    · obtain rfl : i = n := by omega
      have he := hX.out.all hG.out
      have hone := hX.out.1.one hn64
      replace he := Lib.hid he
      replace hone := Lib.hid hone
      have qk30 := k3.out.1.c0
      have qk31 := k3.out.1.c1
      have f0 := m2.out.c0
      have f1 := m2.out.c1
      have g0 := m2.out.frozen 0
      have g1 := m2.out.frozen 1
      clear hX
      go_wp2_with fail
      have hcc := m2.out.two (.int .i64 i) (.slice A3 i c3)
      have hc1 := hcc.1
      have hc2 := hcc.2
      clear hcc f0 f1 g0 g1
      refine bodyPost_ret (v := .agg #[.int .i64 i, .slice A3 i c3]) (by simp [results, Try.results34, go_sem, hc1, hc2]) rfl ⟨_, _, _, rfl, ?_, hc3'.out, ?_⟩
      · rw [← he.out]
        exact s3.out.putB m2.out (k3.out.2.farM m2.out hone.out) _ _
      · exact (bb.out.setCell (p := ⟨w.heap.size + 1, 0, none⟩) (by simp) _).setCell (p := ⟨w.heap.size + 1, 1, none⟩) (by simp) _
theorem ref4_Close (A : Option Addr) (n c : Nat) (a : List (List Nat)) (w : World) (hr : RowsAt w A n a) (hG : Good n a) (hn64 : n < 64) :
    Calls Try.prog 34 #[.agg #[.int .i64 (n : Int), .slice A n c]] w (RetMat1 (n : Int) (closeK a n) w) :=
  (ref4_CloseG A n c a w hr hG hn64).mono fun _ _ ⟨A', n', c', h1, h2, h3, h4⟩ => ⟨A', n', c', h1, h2.at, h3, h4⟩

end Go.Proofs.Ytpbiilhclmcehaa
