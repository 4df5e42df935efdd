/- Layer 9's law InternBack, walked (where what comes in is of no more than 2^40 operations). -/
import Derived.Test.YtmfcnlolfhkeeaaLaw9A
import Derived.Test.YtmfcnlolfhkeeaaInternMathD
namespace Go.Proofs.Ytmfcnlolfhkeeaa
open Go.RowKit
set_option linter.unusedVariables false

/-- what InternBack's loops keep -/
structure BI9 (w : World) (g : Nat) (x : FV) (f : Fac) (wr : World) : Prop where
  b : FactsAt wr x f
  k : Blk wr g 27 [.slice x.A x.n x.c, .slice x.B x.m x.d, .slice x.C x.k x.e]
  o : Below w.heap.size w wr
theorem BI9.later {w : World} {g : Nat} {x : FV} {f : Fac} {wr w' : World} (h : BI9 w g x f wr) (hb : Below wr.heap.size wr w') : BI9 w g x f w' :=
  ⟨h.b.below hb, h.k.below hb h.k.lt, below_trans2 h.o hb⟩
set_option maxRecDepth 100000 in
set_option maxHeartbeats 4000000 in
theorem law9_InternBack (A : Option Addr) (n c : Nat) (hs : List (List OpT)) (w : World) (hX : HistAt w A n hs) (hnc : n ≤ c) (hc : c ≤ 1099511627776) (hF : (allO hs).length ≤ 1099511627776) :
    Calls Try.prog 4 #[.slice A n c] w (RetBool true w) := by
  have hXl := Lib.hid hX.len
  have cS := Lib.hid (ref6_Small A n c 60 hs w hX (by omega) (by omega))
  replace hX := Lib.hid hX
  cases hsa : smallL hs 60 with
  | false =>
    rw [hsa] at cS
    clear hsa
    go_enter Try.func4, Try.ntmps4
    go_wp2_with fail
    refine cS.out.mono ?_; rintro e w1 ⟨rfl, b1⟩
    go_wp2_with fail
    refine (law9_awake w1).mono ?_; rintro e w9 ⟨rfl, b9⟩
    go_wp2_with fail
    go_ret
    exact ⟨rfl, below_trans2 b1 b9⟩
  | true =>
    rw [hsa] at cS
    obtain ⟨hnx, hFx, -⟩ := smallL_says hsa
    rw [hXl.out] at hnx
    clear hsa
    go_enter Try.func4, Try.ntmps4
    go_wp2_with fail
    refine cS.out.mono ?_; rintro e w1 ⟨rfl, b1⟩
    replace hX := Lib.hid (hX.out.below b1)
    have cR := Lib.hid (ref6_Right A n c hs w1 hX.out (by omega) (by omega))
    cases hri : rightL hs with
    | false =>
      rw [hri] at cR
      clear hri
      go_wp2_with fail
      refine cR.out.mono ?_; rintro e w2 ⟨rfl, b2⟩
      go_wp2_with fail
      refine (law9_awake w2).mono ?_; rintro e w9 ⟨rfl, b9⟩
      go_wp2_with fail
      go_ret
      exact ⟨rfl, below_trans2 (below_trans2 b1 b2) b9⟩
    | true =>
      rw [hri] at cR
      obtain ⟨f, hf⟩ : ∃ f : Fac, f = facO hs := ⟨_, rfl⟩
      obtain ⟨gs, hgs⟩ : ∃ gs, gs = trimH hs := ⟨_, rfl⟩
      have hbk : Hid (backF f = some gs) := Lib.hid (by rw [hf, hgs]; exact backF_facO hri)
      have hse : Hid (∀ x ∈ f.items, x.se ≤ 1000) := Lib.hid (fun x hx => by
        rw [hf] at hx
        have := hisF_se hs x hx
        rw [hXl.out] at this
        omega)
      have hil : Hid (f.items.length ≤ 1000) := Lib.hid (by
        rw [hf]
        show (hisF hs).2.length ≤ 1000
        rw [hisF_len]; omega)
      have hnd : Hid (f.vars.Nodup) := Lib.hid (by rw [hf]; exact hisF_nodup hs)
      have hgt : Hid (hs.take gs.length = gs) := Lib.hid (by rw [hgs]; exact trimH_take hs)
      have hgl : gs.length ≤ n := by rw [hgs, ← hXl.out]; exact trimH_len hs
      have hgo : Hid ((allO gs).length = (allO hs).length) := Lib.hid (by rw [hgs, allO_trim])
      have hri' := Lib.hid hri
      clear hri
      replace hf := Lib.hid hf
      replace hgs := Lib.hid hgs
      go_wp2_with fail
      refine cR.out.mono ?_; rintro e w2 ⟨rfl, b2⟩
      replace hX := Lib.hid (hX.out.below b2)
      have b12 := Lib.hid (below_trans2 b1 b2)
      clear b1 b2 cS cR
      have c1 := intern_Of A n c hs w2 hX.out hnc (by omega) (by omega) hF
      unfold RetOf at c1
      rw [hri'.out, if_pos rfl, if_pos rfl, ← hf.out] at c1
      replace c1 := Lib.hid c1
      go_wp2_with fail
      refine c1.out.mono ?_; rintro e w3 ⟨x, rfl, hG, b3⟩
      replace hX := Lib.hid (hX.out.below b3)
      obtain ⟨F, hW⟩ : ∃ W, W = w3.alloc (.cells #[.slice x.A x.n x.c, .slice x.B x.m x.d, .slice x.C x.k x.e] 27) := ⟨_, rfl⟩
      obtain ⟨g, hg⟩ : ∃ g, g = w3.heap.size := ⟨_, rfl⟩
      have bf : Below w3.heap.size w3 F := by rw [hW]; exact (Below.refl _ _).alloc (Nat.le_refl _) _
      have hI : Hid (BI9 w g x f F) := Lib.hid ⟨hG.below bf, by rw [hW, hg]; exact Blk.new w3 _ _, below_trans2 (below_trans2 b12.out b3) bf⟩
      replace hX := Lib.hid (hX.out.below bf)
      clear bf b3 b12 c1 hG
      have p0 := hI.out.k.cell 0
      have p1 := hI.out.k.cell 1
      have p2 := hI.out.k.cell 2
      have c2 := intern_Back x f F hI.out.b hse.out hil.out
      unfold RetBack at c2
      rw [hbk.out] at c2
      simp only [Option.isSome, Option.getD] at c2
      replace c2 := Lib.hid c2
      go_wp2_with (rw [← hW, ← hg]; clear hW; replace hg := Lib.hid hg)
      refine c2.out.mono ?_; rintro e w4 ⟨A1, n1, d1, rfl, hH, hc1, hd1, b4⟩
      replace hX := Lib.hid (hX.out.below b4)
      replace hI := Lib.hid (hI.out.later b4)
      have hn1 : Hid (gs.length = n1) := Lib.hid hH.len
      have hle : (n1 : Int) ≤ (n : Int) := by have := hn1.out; omega
      have hle' : n1 ≤ c := by omega
      have hlf : decide (n < n1) = false := decide_eq_false (by omega)
      replace hH := Lib.hid hH
      clear b4 c2 p0 p1 p2 hgl
      have cH := ref6_Same A1 A n1 d1 n1 c gs (hs.take n1) w4 hH.out (hX.out.take (by omega)) (by omega) (by omega)
      rw [← hn1.out, hgt.out, hn1.out, decide_eq_true (rfl : gs = gs)] at cH
      replace cH := Lib.hid cH
      go_wp2_with fail
      refine cH.out.mono ?_; rintro e w5 ⟨rfl, z, rfl⟩
      replace hX := Lib.hid (hX.out.below (below_drewN (Below.refl _ _) z))
      replace hH := Lib.hid (hH.out.below (below_drewN (Below.refl _ _) z))
      replace hI := Lib.hid (hI.out.later (below_drewN (Below.refl _ _) z))
      obtain ⟨w6, hw6⟩ : ∃ W, W = w4.drewN z := ⟨_, rfl⟩
      rw [← hw6] at hX hH hI ⊢
      clear hw6 cH
      have cA := Lib.hid (ref6_Count A1 n1 d1 gs w6 hH.out (by omega) (by rw [hgo.out]; omega))
      go_wp2_with fail
      refine cA.out.mono ?_; rintro e w7 ⟨rfl, b7⟩
      replace hX := Lib.hid (hX.out.below b7)
      replace hI := Lib.hid (hI.out.later b7)
      clear b7 cA hH
      rw [hgo.out]
      obtain ⟨N, hN⟩ : ∃ N, N = (allO hs).length := ⟨_, rfl⟩
      rw [← hN]
      have cB := ref6_Count A n c hs w7 hX.out (by omega) (by omega)
      rw [← hN] at cB
      replace cB := Lib.hid cB
      replace hN := Lib.hid hN
      have eN : ((N : Int) != (N : Int)) = false := by simp
      go_wp2_with fail
      refine cB.out.mono ?_; rintro e w8 ⟨rfl, b8⟩
      replace hI := Lib.hid (hI.out.later b8)
      clear b8 cB hX
      obtain ⟨M, hM⟩ : ∃ M, M = x.n := ⟨_, rfl⟩
      go_wp2_with fail
      go_loopw [7] (fun t wr => ∃ q : Nat, q ≤ x.n ∧ t = .int .i64 q ∧ Hid (BI9 w g x f wr)) (fun t _ => x.n - (intOf t).toNat)
      case atStart => exact ⟨0, Nat.zero_le _, rfl, hI⟩
      case round =>
        clear hI
        obtain ⟨q, hq, rfl, hI⟩ := hrel
        have p0 := hI.out.k.cell 0
        have hxn : x.n ≤ 9223372036854775807 := by have := hI.out.b.vc; have := hI.out.b.vm; omega
        by_cases hlt : q < x.n
        · have hlt' : (q : Int) < (x.n : Int) := by omega
          go_wp2_with fail
          clear p0
          obtain ⟨Wo, rfl⟩ : ∃ Wo, Wo = wr := ⟨_, rfl⟩
          go_loopw [2, 8] (fun v t wr => ∃ k : Nat, k ≤ q ∧ t = .int .i64 k ∧ Hid (BI9 w g x f wr)) (fun v t _ => q - (intOf t).toNat)
          case atStart => exact ⟨0, Nat.zero_le _, rfl, hI⟩
          case round =>
            clear hI
            obtain ⟨k, hk, rfl, hI⟩ := hrel
            by_cases hkl : k < q
            · have hkl' : (k : Int) < (q : Int) := by omega
              have p0 := hI.out.k.cell 0
              obtain ⟨b4, off4, s4, hA4, hb4, hs4, hok4, x4⟩ := hI.out.b.vs.str (show q < x.n by omega)
              obtain ⟨b5, off5, s5, hA5, hb5, hs5, hok5, x5⟩ := hI.out.b.vs.str (show k < x.n by omega)
              rw [hA4] at p0 hA5
              injection hA5 with hA5
              injection hA5 with e1 e2
              subst e1; subst e2
              have hne : (s4.toList == s5.toList) = false := by
                rw [beq_eq_false_iff_ne]
                intro e
                have e' := toList_inj e
                subst e'
                have h4 := List.getElem?_eq_some_iff.1 hs4
                have h5 := List.getElem?_eq_some_iff.1 hs5
                exact absurd (h5.2.trans h4.2.symm) (List.pairwise_iff_getElem.1 hnd.out k q h5.1 h4.1 hkl)
              have hk1 : k + 1 ≤ q := by omega
              have hkx : (k : Int) < (x.n : Int) := by omega
              clear hkl hlt hA4 hs4 hs5
              go_wp2_with fail
              go_quiet (fail)
              go_wp2_with fail
              have hwr : Hid (BI9 w g x f (wr.drewN nq)) := Lib.hid (hI.out.later (below_drewN (Below.refl _ _) _))
              refine ⟨⟨k + 1, hk1, ?_, hwr⟩, ?_⟩
              · go_num
              · simp [intOf]; omega
            · have hkl' : ¬ (k : Int) < (q : Int) := by omega
              clear hkl
              go_wp2_with fail
              exact ⟨⟨q + 1, by omega, by go_num, hI⟩, by simp [intOf]; omega⟩
        · have hlt' : ¬ (q : Int) < (x.n : Int) := by omega
          clear hlt
          go_wp2_with fail
          refine (law9_awake wr).mono ?_; rintro e w9 ⟨rfl, b9⟩
          replace hI := Lib.hid (hI.out.later b9)
          go_wp2_with fail
          go_ret
          exact ⟨rfl, hI.out.o⟩

end Go.Proofs.Ytmfcnlolfhkeeaa
