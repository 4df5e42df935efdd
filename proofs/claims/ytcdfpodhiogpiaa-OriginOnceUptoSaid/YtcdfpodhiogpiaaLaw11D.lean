/- Layer 11's law OriginOnce, walked (where what comes in is of no more than 2^40 operations). -/
import Derived.Test.YtcdfpodhiogpiaaLaw11A
import Derived.BigQuiet
namespace Go.Proofs.Ytcdfpodhiogpiaa
open Go.RowKit
set_option linter.unusedVariables false
set_option maxRecDepth 100000 in
set_option maxHeartbeats 4000000 in
theorem law11_OriginOnce (A : Option Addr) (n c : Nat) (hs : List (List OpT)) (w : World) (hX : HistAt w A n hs) (hnc : n ≤ c) (hc : c ≤ 1099511627776) (hF : (allO hs).length ≤ 1099511627776) :
    Calls Try.prog 5 #[.slice A n c] w (RetBool true w) := by
  -- a law of layer 11 over one history, walked to where the facts f and the filled ones lie (hI : OI .., in V4, not yet named)
  have c1 := Lib.hid (law11_facts A n c hs w hX hnc hc hF)
  go_enter Try.func5, Try.ntmps5
  go_wp2_with fail
  refine c1.out.mono ?_; rintro e w3 ⟨v, rfl, hG, b3⟩
  obtain ⟨V, hV⟩ : ∃ W, W = w3.alloc (.cells #[.slice v.A v.n v.c, .slice v.B v.m v.d, .slice v.C v.k v.e] 27) := ⟨_, rfl⟩
  obtain ⟨g, hg⟩ : ∃ g, g = w3.heap.size := ⟨_, rfl⟩
  have bV : Below w3.heap.size w3 V := by rw [hV]; exact (Below.refl _ _).alloc (Nat.le_refl _) _
  cases hok : okF11 hs with
  | false =>
    rw [hok] at hG
    have bb := Lib.hid (below_trans2 b3 bV)
    clear hG b3 bV
    go_wp2_with (rw [← hV, ← hg]; clear hV; replace hg := Lib.hid hg)
    refine (law11_awake V).mono ?_; rintro e w9 ⟨rfl, b9⟩
    go_wp2_with fail
    go_ret
    exact ⟨rfl, below_trans2 bb.out b9⟩
  | true =>
    obtain ⟨f, hf⟩ : ∃ f : Fac, f = facO hs := ⟨_, rfl⟩
    have hGf := hG hok
    rw [← hf] at hGf
    have hm60 : v.m ≤ 40 := by
      obtain ⟨-, hFx, -⟩ := smallL_says (okF11_says hok).1
      rw [← hGf.is.len, hf]
      show (hisF hs).2.length ≤ 40
      rw [hisF_len]; omega
    have hdf := Lib.hid (okF11_says hok).2.2
    rw [← hf] at hdf
    have hn60 : v.n ≤ 4294967296 := by
      obtain ⟨-, hFx, -⟩ := smallL_says (okF11_says hok).1
      rw [← hGf.vs.len, hf]
      have := hisF_vars hs
      show (hisF hs).1.length ≤ 4294967296
      omega
    have hB := Lib.hid ((FBox.new hGf).from_ b3)
    rw [← hV, ← hg] at hB
    replace hok := Lib.hid hok
    replace hf := Lib.hid hf
    clear hG hGf b3 bV hX c1
    have p0 := hB.out.c0
    have p1 := hB.out.c1
    have p2 := hB.out.c2
    have cF := Lib.hid (origin_Fill v f V hB.out.f (by omega) hn60 hdf.out)
    go_wp2_with (rw [← hV, ← hg]; clear hV; replace hg := Lib.hid hg)
    refine cF.out.mono ?_; rintro e w4 ⟨y, rfl, hY, b4⟩
    obtain ⟨V4, hV4⟩ : ∃ W, W = w4.alloc (.cells #[.slice y.A y.n y.c, .slice y.B y.m y.d, .slice y.C y.k y.e] 27) := ⟨_, rfl⟩
    obtain ⟨gh, hgh⟩ : ∃ g, g = w4.heap.size := ⟨_, rfl⟩
    have bV4 : Below w4.heap.size w4 V4 := by rw [hV4]; exact (Below.refl _ _).alloc (Nat.le_refl _) _
    have hI := Lib.hid (show OI w g v f gh y V4 from ⟨(hB.out.later b4).later bV4, hY.below bV4, by rw [hV4, hgh]; exact Blk.new w4 _ _⟩)
    have hyk : Hid (y.k = v.m ∧ y.m = v.m) := Lib.hid (by
      have h1 := hY.fs.len
      have h2 := hY.is.len
      have h3 := hB.out.f.is.len
      have h4 : (fillF f).frm = fromF f.items := rfl
      have h5 : (fillF f).items = f.items := rfl
      rw [h4, fromF_len] at h1
      rw [h5] at h2
      omega)
    clear b4 bV4 hY cF hB p0 p1 p2
    have z0 := hI.out.y.c0
    have z1 := hI.out.y.c1
    have z2 := hI.out.y.c2
    have p0 := hI.out.b.c0
    have p1 := hI.out.b.c1
    obtain ⟨N, hN⟩ : ∃ N, N = v.m := ⟨_, rfl⟩
    obtain ⟨fr, hfr⟩ : ∃ fr, fr = fromF f.items := ⟨_, rfl⟩
    have hfl : Hid (fr.length = v.m) := Lib.hid (by rw [hfr, fromF_len]; exact hI.out.b.f.is.len)
    have hlt3 : Hid (∀ i, i < v.m → fr.getD i 0 < (v.m : Int)) := Lib.hid (fun i hi => by
      have h1 := hI.out.b.f.is.len
      rw [List.getD_eq_getElem?_getD, hfr, fromF_at (List.getElem?_eq_getElem (by omega))]
      have := (fromOne_range f.items f.items[i]).2
      show fromOne f.items f.items[i] < _
      omega)
    have hff : Hid ((fillF f).frm = fr ∧ (fillF f).items.length = v.m) := Lib.hid ⟨hfr.symm, hI.out.b.f.is.len⟩
    replace hfr := Lib.hid hfr
    clear hN N
    go_wp2_with (rw [← hV4, ← hgh]; clear hV4; replace hgh := Lib.hid hgh)
    clear z0 z1 z2 p0 p1
    go_loopw [6, 7] (fun u t wr => ∃ (x : Int) (k : Nat), -3 ≤ x ∧ x ≤ (v.m : Int) + 1 ∧ t = .int .i64 x ∧ u = .int .i64 (k : Int) ∧ k = cntF fr x v.m ∧ Hid (OI w g v f gh y wr)) (fun _ t _ => ((v.m : Int) + 4 - intOf t).toNat)
    case atStart => exact ⟨-3, 0, by omega, by omega, rfl, rfl, (cntF_start fr (by omega) v.m).symm, hI⟩
    case round =>
      clear hI
      obtain ⟨x, k, hx0, hx1, rfl, rfl, hk, hI⟩ := hrel
      have hkm := cntF_le fr x v.m
      rw [← hk] at hkm
      have p1 := hI.out.b.c1
      by_cases hxm : x ≤ (v.m : Int)
      · have z0 := hI.out.y.c0
        have z1 := hI.out.y.c1
        have z2 := hI.out.y.c2
        have cR := origin_Readers y (fillF f) x wr hI.out.y.1 (by have := hyk.out.2; omega) rfl
        rw [hff.out.1, hff.out.2] at cR
        obtain ⟨rl, hrl⟩ : ∃ rl, rl = readF fr x v.m := ⟨_, rfl⟩
        have hnx := cntF_next fr x v.m
        rw [← hrl, ← hk] at hnx
        rw [← hrl] at cR
        replace cR := Lib.hid cR
        replace hrl := Lib.hid hrl
        replace hk := Lib.hid hk
        go_wp2_with fail
        refine cR.out.mono ?_; rintro e w5 ⟨A1, n1, c1, rfl, hL, hn1, hc1, b⟩
        replace hI := Lib.hid (hI.out.later b)
        have hln := hL.len
        have hn1m : n1 ≤ v.m := by rw [← hln, hrl.out]; exact readF_len fr x v.m
        rw [hln] at hnx
        replace hL := Lib.hid hL
        replace hln := Lib.hid hln
        replace hnx := Lib.hid hnx
        clear b cR z0 z1 z2 p1
        go_wp2_with fail
        obtain ⟨Wo, rfl⟩ : ∃ Wo, Wo = wr := ⟨_, rfl⟩
        go_loopw [9] (fun t wr => ∃ q : Nat, q ≤ n1 ∧ t = .int .i64 (q : Int) ∧ Hid (OI w g v f gh y wr) ∧ Hid (LAt encI wr A1 n1 rl)) (fun t _ => n1 - (intOf t).toNat)
        case atStart => exact ⟨0, Nat.zero_le _, rfl, hI, hL⟩
        case round =>
          clear hI hL
          obtain ⟨q, hq, rfl, hI, hL⟩ := hrel
          by_cases hql : q < n1
          · have hql' : (q : Int) < (n1 : Int) := by omega
            obtain ⟨lb, lo, z, hA1, hlb, hz, -, j0⟩ := hL.out.int hql
            obtain ⟨r0, r1, r2, r3⟩ := readF_at (show (readF fr x v.m)[q]? = some z from by rw [← hrl.out]; exact hz)
            have hzk : z.toNat < y.k := by rw [hyk.out.1]; omega
            obtain ⟨fb, fo, zf, hzC, hfb, hzf, -, f0⟩ := hI.out.y.1.fs.int hzk
            have hzfx : zf = x := by
              rw [hff.out.1] at hzf
              rw [List.getD_eq_getElem?_getD, hzf] at r3
              exact r3
            subst hzfx
            have z2 := hI.out.y.c2
            rw [hzC] at z2
            have hzi : 0 ≤ z ∧ z < (y.k : Int) := ⟨r1, by omega⟩
            have d0 : decide (z < 0) = false := decide_eq_false (by omega)
            have d1 : decide ((y.k : Int) ≤ z) = false := decide_eq_false (by omega)
            have e0 : (zf != zf) = false := by simp
            replace hzf := Lib.hid hzf
            replace r3 := Lib.hid r3
            cases q with
            | zero =>
              subst hA1
              obtain ⟨qi, hqi⟩ : ∃ qi : Int, qi = ((0 : Nat) : Int) := ⟨_, rfl⟩
              have hqn : qi.toNat = 0 := by omega
              rw [← hqn] at j0
              rw [← hqi] at hql' ⊢
              have bq : 0 ≤ qi ∧ qi < (n1 : Int) := ⟨by omega, hql'⟩
              have dq : decide (0 < qi) = false := decide_eq_false (by omega)
              have hw1 : wrap64 (qi + 1) = ((0 + 1 : Nat) : Int) := by unfold wrap64; omega
              have hmeas : n1 - (0 + 1) < n1 - qi.toNat := by omega
              replace hz := Lib.hid hz
              replace hqi := Lib.hid hqi
              replace hqn := Lib.hid hqn
              clear hzC hfb hlb hql
              go_wp2_with fail
              go_quiet (fail)
              go_wp2_with fail
              exact ⟨⟨0 + 1, by omega, congrArg (Value.int .i64) (by have := hqi.out; omega), Lib.hid (hI.out.later (below_drewN (Below.refl _ _) nq)), Lib.hid (hL.out.below (below_drewN (Below.refl _ _) nq))⟩, by simp [intOf] <;> omega⟩
            | succ r =>
              obtain ⟨lb2, lo2, z', hA2, hlb2, hz', -, j1⟩ := hL.out.int (show r < n1 by omega)
              have hlt := readF_lt (frm := fr) (w := zf) (n := v.m) (q := r) (y := z') (z := z) (by rw [← hrl.out]; exact hz') (by rw [← hrl.out]; exact hz)
              rw [hA1] at hA2
              injection hA2 with hA2
              injection hA2 with hb2 ho2
              subst hb2; subst ho2
              subst hA1
              obtain ⟨qi, hqi⟩ : ∃ qi : Int, qi = ((r + 1 : Nat) : Int) := ⟨_, rfl⟩
              have hqn : qi.toNat = r + 1 := by omega
              rw [← hqn] at j0
              rw [← hqi] at hql' ⊢
              obtain ⟨ri, hri⟩ : ∃ ri : Int, ri = (r : Int) := ⟨_, rfl⟩
              have hrn : ri.toNat = r := by omega
              rw [← hrn] at j1
              have hwr : wrap64 (qi - 1) = ri := by unfold wrap64; omega
              have hwi : IntKind.i64.wrap (qi - 1) = ri := by rw [IntKind.wrap_i64]; omega
              have bq : 0 ≤ qi ∧ qi < (n1 : Int) := ⟨by omega, hql'⟩
              have br : 0 ≤ ri ∧ ri < (n1 : Int) := ⟨by omega, by omega⟩
              have dq : decide (0 < qi) = true := decide_eq_true (by omega)
              have dz : decide (z ≤ z') = false := decide_eq_false (by omega)
              have hw1 : wrap64 (qi + 1) = ((r + 1 + 1 : Nat) : Int) := by unfold wrap64; omega
              have hmeas : n1 - (r + 1 + 1) < n1 - qi.toNat := by omega
              replace hz := Lib.hid hz
              replace hz' := Lib.hid hz'
              replace hqi := Lib.hid hqi
              replace hri := Lib.hid hri
              replace hqn := Lib.hid hqn
              replace hrn := Lib.hid hrn
              clear hzC hfb hlb hlb2 hlt
              go_wp2_with fail
              go_quiet (fail)
              go_wp2_with fail
              exact ⟨⟨r + 1 + 1, by omega, congrArg (Value.int .i64) (by have := hqi.out; omega), Lib.hid (hI.out.later (below_drewN (Below.refl _ _) nq)), Lib.hid (hL.out.below (below_drewN (Below.refl _ _) nq))⟩, by simp [intOf] <;> omega⟩
          · have hql' : ¬ (q : Int) < (n1 : Int) := by omega
            clear hql
            have hw1 : wrap64 ((k : Int) + (n1 : Int)) = ((k + n1 : Nat) : Int) := by unfold wrap64; omega
            have hw3 := Lib.hid hw1
            have hw2 : wrap64 (x + 1) = x + 1 := by unfold wrap64; omega
            go_wp2_with fail
            exact ⟨⟨x + 1, k + n1, by omega, by omega, rfl, by first | rfl | (rw [Int.natCast_add]; done) | (rw [hw3.out]), hnx.out.symm, hI⟩, by simp [intOf]; omega⟩
      · have hxm' : ¬ x ≤ (v.m : Int) := hxm
        have hall : k = posF fr v.m := by
          rw [hk]
          exact cntF_all (fun i hi => by have := hlt3.out i hi; omega)
        replace hk := Lib.hid hk
        replace hall := Lib.hid hall
        clear hxm
        go_wp2_with fail
        clear p1
        obtain ⟨Wo, rfl⟩ : ∃ Wo, Wo = wr := ⟨_, rfl⟩
        go_loopw [6, 10] (fun u t wr => ∃ s i : Nat, i ≤ y.k ∧ t = .int .i64 (i : Int) ∧ u = .int .i64 (s : Int) ∧ s + posF fr i = posF fr v.m ∧ Hid (OI w g v f gh y wr)) (fun _ t _ => y.k - (intOf t).toNat)
        case atStart => exact ⟨k, 0, Nat.zero_le _, rfl, rfl, by rw [hall.out]; rfl, hI⟩
        case round =>
          clear hI
          obtain ⟨s, i, hi, rfl, rfl, hs, hI⟩ := hrel
          have hpl := posF_le fr v.m
          have z2 := hI.out.y.c2
          have hyk40 : y.k ≤ 40 := by rw [hyk.out.1]; exact hm60
          by_cases hil : i < y.k
          · have hil' : (i : Int) < (y.k : Int) := by omega
            obtain ⟨fb, fo, zf, hzC, hfb, hzf, -, f0⟩ := hI.out.y.1.fs.int hil
            rw [hzC] at z2
            have hgd : fr.getD i 0 = zf := by rw [hff.out.1] at hzf; rw [List.getD_eq_getElem?_getD, hzf]; rfl
            have hps := posF_succ fr i
            rw [hgd] at hps
            have hpm := posF_mono fr (show i + 1 ≤ v.m by have := hyk.out.1; omega)
            by_cases h0 : 0 ≤ zf
            · rw [if_pos h0] at hps
              have e0 : decide (0 ≤ zf) = true := decide_eq_true h0
              have hw1 : wrap64 ((s : Int) - 1) = ((s - 1 : Nat) : Int) := by unfold wrap64; omega
              have hfin : s - 1 + posF fr (i + 1) = posF fr v.m := by omega
              replace hs := Lib.hid hs
              replace hfin := Lib.hid hfin
              replace hzf := Lib.hid hzf
              replace hps := Lib.hid hps
              replace hpm := Lib.hid hpm
              replace hgd := Lib.hid hgd
              clear hzC hil h0 hpl
              go_wp2_with fail
              exact ⟨⟨s - 1, i + 1, by omega, by go_num, by first | rfl | (rw [hw1]), hfin.out, hI⟩, by simp [intOf]; omega⟩
            · rw [if_neg h0] at hps
              have e0 : decide (0 ≤ zf) = false := decide_eq_false h0
              have hfin : s + posF fr (i + 1) = posF fr v.m := by omega
              replace hs := Lib.hid hs
              replace hfin := Lib.hid hfin
              replace hzf := Lib.hid hzf
              replace hps := Lib.hid hps
              replace hpm := Lib.hid hpm
              replace hgd := Lib.hid hgd
              clear hzC hil h0 hpl
              go_wp2_with fail
              exact ⟨⟨s, i + 1, by omega, by go_num, rfl, hfin.out, hI⟩, by simp [intOf]; omega⟩
          · have hil' : ¬ (i : Int) < (y.k : Int) := by omega
            have hs0 : s = 0 := by
              have h1 : i = v.m := by have := hyk.out.1; omega
              rw [h1] at hs; omega
            subst hs0
            replace hs := Lib.hid hs
            clear hil
            go_wp2_with fail
            refine (law11_awake wr).mono ?_; rintro e w9 ⟨rfl, b9⟩
            go_wp2_with fail
            go_ret
            exact ⟨rfl, below_trans2 hI.out.b.o b9⟩
end Go.Proofs.Ytcdfpodhiogpiaa
