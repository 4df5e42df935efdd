/- Layer 9's law InternSpots, walked (where what comes in is of no more than 2^40 operations). -/
import Derived.Test.YtmfcnlolfhkeeaaLaw9A
import Derived.Test.YtmfcnlolfhkeeaaInternMathD
import Derived.BigQuiet
namespace Go.Proofs.Ytmfcnlolfhkeeaa
open Go.RowKit
set_option linter.unusedVariables false
/-- what InternSpots' loop keeps -/
structure SI9 (w : World) (g : Nat) (x : FV) (f : Fac) (A : Option Addr) (n : Nat) (hs : List (List OpT)) (L : Option Addr) (N : Nat) (wr : World) : Prop where
  b : FactsAt wr x f
  k : Blk wr g 27 [.slice x.A x.n x.c, .slice x.B x.m x.d, .slice x.C x.k x.e]
  h : HistAt wr A n hs
  l : OpsAt wr L N (allO hs)
  o : Below w.heap.size w wr
theorem SI9.later {w : World} {g : Nat} {x : FV} {f : Fac} {A : Option Addr} {n : Nat} {hs : List (List OpT)} {L : Option Addr} {N : Nat} {wr w' : World} (h : SI9 w g x f A n hs L N wr) (hb : Below wr.heap.size wr w') : SI9 w g x f A n hs L N w' :=
  ⟨h.b.below hb, h.k.below hb h.k.lt, h.h.below hb, h.l.below hb, below_trans2 h.o hb⟩
set_option maxRecDepth 100000 in
set_option maxHeartbeats 4000000 in
theorem law9_InternSpots (A : Option Addr) (n c : Nat) (hs : List (List OpT)) (w : World) (hX : HistAt w A n hs) (hnc : n ≤ c) (hc : c ≤ 1099511627776) (hF : (allO hs).length ≤ 1099511627776) :
    Calls Try.prog 5 #[.slice A n c] w (RetBool true w) := by
  -- a law of one history hs (at A n c) that guards itself by Small 60 and Right: walked to the call of Of in the world w2; hX : HistAt w2 .., b12 : Below w.heap.size w w2, hri' : rightL hs = true
  have hXl := Lib.hid hX.len
  have cS := Lib.hid (ref6_Small A n c 60 hs w hX (by omega) (by omega))
  replace hX := Lib.hid hX
  cases hsa : smallL hs 60 with
  | false =>
    rw [hsa] at cS
    clear hsa
    go_enter Try.func5, Try.ntmps5
    go_wp2_with fail
    refine cS.out.mono ?_; rintro e w1 ⟨rfl, b1⟩
    go_wp2_with fail
    refine (law9_awake w1).mono ?_; rintro e w9 ⟨rfl, b9⟩
    go_wp2_with fail
    go_ret
    exact ⟨rfl, below_trans2 b1 b9⟩
  | true =>
    rw [hsa] at cS
    obtain ⟨hnx, hFx, hnm8⟩ := smallL_says hsa
    rw [hXl.out] at hnx
    replace hnm8 := Lib.hid hnm8
    clear hsa
    go_enter Try.func5, Try.ntmps5
    go_wp2_with fail
    refine cS.out.mono ?_; rintro e w1 ⟨rfl, b1⟩
    replace hX := Lib.hid (hX.out.below b1)
    have cR := Lib.hid (ref6_Right A n c hs w1 hX.out (by omega) (by omega))
    cases hri : rightL hs with
    | false =>
      rw [hri] at cR
      clear hri
      go_wp2_with fail
      refine cR.out.mono ?_; rintro e w2 ⟨rfl, b2⟩
      go_wp2_with fail
      refine (law9_awake w2).mono ?_; rintro e w9 ⟨rfl, b9⟩
      go_wp2_with fail
      go_ret
      exact ⟨rfl, below_trans2 (below_trans2 b1 b2) b9⟩
    | true =>
      rw [hri] at cR
      have hri' := Lib.hid hri
      clear hri
      go_wp2_with fail
      refine cR.out.mono ?_; rintro e w2 ⟨rfl, b2⟩
      replace hX := Lib.hid (hX.out.below b2)
      have b12 := Lib.hid (below_trans2 b1 b2)
      clear b1 b2 cS cR
      obtain ⟨f, hf⟩ : ∃ f : Fac, f = facO hs := ⟨_, rfl⟩
      have c1 := intern_Of A n c hs w2 hX.out hnc (by omega) (by omega) hF
      unfold RetOf at c1
      rw [hri'.out, if_pos rfl, if_pos rfl, ← hf] at c1
      replace c1 := Lib.hid c1
      replace hf := Lib.hid hf
      go_wp2_with fail
      refine c1.out.mono ?_; rintro e w3 ⟨x, rfl, hG, b3⟩
      replace hX := Lib.hid (hX.out.below b3)
      obtain ⟨V, hW⟩ : ∃ W, W = w3.alloc (.cells #[.slice x.A x.n x.c, .slice x.B x.m x.d, .slice x.C x.k x.e] 27) := ⟨_, rfl⟩
      obtain ⟨g, hg⟩ : ∃ g, g = w3.heap.size := ⟨_, rfl⟩
      have bf : Below w3.heap.size w3 V := by rw [hW]; exact (Below.refl _ _).alloc (Nat.le_refl _) _
      have hGV := Lib.hid (hG.below bf)
      have hK := Lib.hid (show Blk V g 27 [.slice x.A x.n x.c, .slice x.B x.m x.d, .slice x.C x.k x.e] from by rw [hW, hg]; exact Blk.new w3 _ _)
      replace b12 := Lib.hid (below_trans2 (below_trans2 b12.out b3) bf)
      replace hX := Lib.hid (hX.out.below bf)
      clear bf b3 c1 hG
      have cF := Lib.hid (ref6_Flat A n c hs V hX.out (by omega) (by omega))
      go_wp2_with (rw [← hW, ← hg]; clear hW; replace hg := Lib.hid hg)
      refine cF.out.mono ?_; rintro e w4 ⟨L, N, c2, rfl, -, hN, -, hL, hNc, b⟩
      have hI := Lib.hid (⟨hGV.out.below b, hK.out.below b hK.out.lt, hX.out.below b, hL, below_trans2 b12.out b⟩ : SI9 w g x f A n hs L N w4)
      have hNm : Hid (x.m = N) := Lib.hid (by rw [← hGV.out.is.len, hf.out, hN]; exact hisF_len hs)
      have hCk : Hid (x.k = 0) := Lib.hid (by rw [← hGV.out.fs.len, hf.out]; rfl)
      replace hN := Lib.hid hN
      replace hNc := Lib.hid hNc
      have p0 := hI.out.k.cell 0
      have p1 := hI.out.k.cell 1
      have p2 := hI.out.k.cell 2
      simp only [List.getElem?_cons_zero, List.getElem?_cons_succ] at p0 p1 p2
      have e1 : ((x.m : Int) != (N : Int)) = false := by rw [hNm.out]; simp
      have e2 : ((x.k : Int) != 0) = false := by rw [hCk.out]; rfl
      clear hGV hK b12 b cF hX
      go_wp2_with fail
      clear p0 p1 p2
      go_loopw [6] (fun t wr => ∃ k : Nat, k ≤ N ∧ t = .int .i64 k ∧ Hid (SI9 w g x f A n hs L N wr)) (fun t _ => N - (intOf t).toNat)
      case atStart => exact ⟨0, Nat.zero_le _, rfl, hI⟩
      case round =>
        clear hI
        obtain ⟨k, hk, rfl, hI⟩ := hrel
        by_cases hlt : k < N
        · have hlt' : (k : Int) < (N : Int) := by omega
          have p0 := hI.out.k.cell 0
          have p1 := hI.out.k.cell 1
          simp only [List.getElem?_cons_zero, List.getElem?_cons_succ] at p0 p1
          obtain ⟨ib, io, it, hxB, hib, hit, hito, i0, i1, i2, i3, i4⟩ := hI.out.b.is.item (show k < x.m by rw [hNm.out]; exact hlt)
          obtain ⟨lb, lo, y, rfl, hlb, hy, hoky, y0, y1, y2⟩ := hI.out.l.at_ hlt
          obtain ⟨s, p, va, hsp, hit', hva0, hvar⟩ := hisF_item hs k y hy
          have hfi : (hisF hs).2 = f.items := by rw [hf.out]; rfl
          have hfv : (hisF hs).1 = f.vars := by rw [hf.out]; rfl
          rw [hfi, hit] at hit'
          injection hit' with hit'
          subst hit'
          rw [hfv] at hvar
          have hvl : va.toNat < x.n := by rw [← hI.out.b.vs.len]; exact (List.getElem?_eq_some_iff.1 hvar).1
          obtain ⟨sb, so, nm, hxA, hsb, hnm, hnmo, s0⟩ := hI.out.b.vs.str hvl
          rw [hvar] at hnm
          injection hnm with hnm
          subst hnm
          obtain ⟨yw, yn, yv⟩ := y
          simp only at i0 i1 i2 i3 i4 y0 y1 y2 s0
          rw [hxA] at p0
          rw [hxB] at p1
          obtain ⟨a, ha⟩ : ∃ a : Int, a = s := ⟨_, rfl⟩
          obtain ⟨b, hb⟩ : ∃ b : Int, b = p := ⟨_, rfl⟩
          rw [← ha] at i0
          rw [← hb] at i1
          obtain ⟨V1, hV1⟩ : ∃ W, W = wr.alloc (.cells #[.int .i64 a, .int .i64 b, .bool yw, .int .i64 va, .int .i64 yv] 44) := ⟨_, rfl⟩
          obtain ⟨g1, hg1⟩ : ∃ g, g = wr.heap.size := ⟨_, rfl⟩
          have bV1 : Below wr.heap.size wr V1 := by rw [hV1]; exact (Below.refl _ _).alloc (Nat.le_refl _) _
          have kIt := Lib.hid (show Blk V1 g1 44 [.int .i64 a, .int .i64 b, .bool yw, .int .i64 va, .int .i64 yv] from by rw [hV1, hg1]; exact Blk.new wr _ _)
          have hI1 := Lib.hid (hI.out.later bV1)
          have cSp : Hid (Calls Try.prog 19 #[.slice A n c, .int .i64 (k : Int)] V1 fun e w' => e = .returned (.tuple #[.agg #[.int .i64 a, .int .i64 b], .bool true]) ∧ Below V1.heap.size V1 w') := Lib.hid (by
            have h := ref6_Spot A n c (k : Int) hs V1 hI1.out.h (by omega) (by omega) (by have := hN.out; omega)
            rw [show spotZ hs (k : Int) = some (s, p) from by unfold spotZ; rw [if_neg (by omega), Int.toNat_natCast, hsp]] at h
            rw [ha, hb]
            exact h)
          have hxm : (k : Int) < (x.m : Int) := by rw [hNm.out]; exact hlt'
          have hvz : va < (x.n : Int) := by omega
          have hvi : 0 ≤ va ∧ va < (x.n : Int) := ⟨hva0, hvz⟩
          replace ha := Lib.hid ha
          replace hb := Lib.hid hb
          replace hsp := Lib.hid hsp
          replace hit := Lib.hid hit
          replace hy := Lib.hid hy
          replace hvar := Lib.hid hvar
          replace hxA := Lib.hid hxA
          clear hL hoky hnmo hito hfi hfv hlt hxB
          go_wp2_with (rw [← hV1, ← hg1]; clear hV1; replace hg1 := Lib.hid hg1)
          refine cSp.out.mono ?_; rintro e w4 ⟨rfl, b4⟩
          replace hI1 := Lib.hid (hI1.out.later b4)
          replace kIt := Lib.hid (kIt.out.below b4 kIt.out.lt)
          obtain ⟨V2, hV2⟩ : ∃ W, W = w4.alloc (.cells #[.int .i64 a, .int .i64 b] 46) := ⟨_, rfl⟩
          obtain ⟨g2, hg2⟩ : ∃ g, g = w4.heap.size := ⟨_, rfl⟩
          have bV2 : Below w4.heap.size w4 V2 := by rw [hV2]; exact (Below.refl _ _).alloc (Nat.le_refl _) _
          have kSp : Blk V2 g2 46 [.int .i64 a, .int .i64 b] := by rw [hV2, hg2]; exact Blk.new w4 _ _
          replace hI1 := Lib.hid (hI1.out.later bV2)
          replace kIt := kIt.out.below bV2 kIt.out.lt
          clear p0 p1 i0 i1 i2 i3 i4 y0 y1 y2 s0 b4 bV1 bV2 hI cSp hsb hlb hib
          go_wp2_with (rw [← hV2, ← hg2]; clear hV2; replace hg2 := Lib.hid hg2)
          have p0 := hI1.out.k.cell 0
          simp only [List.getElem?_cons_zero] at p0
          rw [hxA.out] at p0
          obtain ⟨lb', lo', y', el, hlb, hy', -, y0, y1, y2⟩ := hI1.out.l.at_ (show k < N by omega)
          injection el with el
          injection el with el1 el2
          subst el1; subst el2
          rw [hy.out] at hy'
          injection hy' with hy'
          subst hy'
          obtain ⟨sb', so', nm, es, hsb, hnm, -, s0⟩ := hI1.out.b.vs.str hvl
          rw [hxA.out] at es
          injection es with es
          injection es with es1 es2
          subst es1; subst es2
          rw [hvar.out] at hnm
          injection hnm with hnm
          subst hnm
          have i0 := kIt.cell 0
          have i1 := kIt.cell 1
          have i2 := kIt.cell 2
          have i3 := kIt.cell 3
          have i4 := kIt.cell 4
          have j0 := kSp.cell 0
          have j1 := kSp.cell 1
          simp only [List.getElem?_cons_zero, List.getElem?_cons_succ] at i0 i1 i2 i3 i4 j0 j1
          simp only at y0 y1 y2
          have d1 : decide (va < 0) = false := decide_eq_false (by omega)
          have d2 : decide ((x.n : Int) ≤ va) = false := decide_eq_false (by omega)
          have n1 : (a != a) = false := by simp
          have n2 : (b != b) = false := by simp
          have n3 : (yv != yv) = false := by simp
          have n4 : (yw != yw) = false := by simp
          have n5 : (yn.toList == yn.toList) = true := by simp
          have hwr : Hid (∀ q, SI9 w g x f A n hs (some ⟨lb, lo, none⟩) N (V2.drewN q)) := Lib.hid (fun q => hI1.out.later (below_drewN (Below.refl _ _) _))
          have hN60 : N ≤ 60 := by have := hN.out; omega
          clear kIt kSp
          go_quiet (fail)
          go_wp2_with fail
          refine ⟨⟨k + 1, by omega, by go_num, hwr.out _⟩, by simp [intOf]; omega⟩
        · have hkN : k = N := by omega
          have hlt' : ¬ (k : Int) < (N : Int) := by omega
          go_wp2_with fail
          refine (law9_awake wr).mono ?_; rintro e w5 ⟨rfl, b5⟩
          go_wp2_with fail
          go_ret
          exact ⟨rfl, below_trans2 hI.out.o b5⟩
end Go.Proofs.Ytmfcnlolfhkeeaa
