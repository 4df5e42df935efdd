/- The contracts of the document's own answers of layer 10: Write, Check. -/
import Derived.Test.YtcdfpodhiogpiaaDiffMath
import Derived.Test.YtcdfpodhiogpiaaFacts
namespace Go.Proofs.Ytcdfpodhiogpiaa
open Go.RowKit
set_option linter.unusedVariables false
def RetWrite (o : Option Nat) (w : World) (e : Ending) (w' : World) : Prop := e = .returned (.tuple #[.int .i64 ((o.getD 0 : Nat) : Int), .bool o.isSome]) ∧ Below w.heap.size w w'
def RetCheck (r : Int × Int × Int) (w : World) (e : Ending) (w' : World) : Prop := e = .returned (.tuple #[.int .i64 r.1, .int .i64 r.2.1, .int .i64 r.2.2]) ∧ Below w.heap.size w w'
set_option maxRecDepth 100000 in
set_option maxHeartbeats 1000000 in
theorem ref10_Write (v : FV) (f : Fac) (va vl : Int) (w : World) (hF : FactsAt w v f) :
    Calls Try.prog 31 #[.agg #[.slice v.A v.n v.c, .slice v.B v.m v.d, .slice v.C v.k v.e], .int .i64 va, .int .i64 vl] w (RetWrite (writeF f.items va vl) w) := by
  have hil := hF.is.len
  have him : v.m ≤ 9223372036854775807 := by have := hF.ic; have := hF.im; omega
  -- a call with facts v: they are boxed at g, the world is W0 then
  have hB0 := Lib.hid (FBox.new hF)
  obtain ⟨g, hg⟩ : ∃ g, g = w.heap.size := ⟨_, rfl⟩
  obtain ⟨W0, hW0⟩ : ∃ W, W = w.alloc (.cells #[.slice v.A v.n v.c, .slice v.B v.m v.d, .slice v.C v.k v.e] 27) := ⟨_, rfl⟩
  rw [← hW0, ← hg] at hB0
  clear hF
  have p0 := hB0.out.c0
  have p1 := hB0.out.c1
  have p2 := hB0.out.c2
  go_enter Try.func31, Try.ntmps31
  go_wp2_with (rw [← hW0, ← hg]; clear hW0 hg)
  go_loopw [8] (fun t wr => ∃ k : Nat, k ≤ v.m ∧ t = .int .i64 k ∧ wr = W0 ∧ Hid (∀ j, j < k → ∀ y, f.items[j]? = some y → hitW va vl y = false)) (fun t _ => v.m - (intOf t).toNat)
  case atStart => exact ⟨0, Nat.zero_le _, rfl, rfl, Lib.hid (fun j hj => absurd hj (by omega))⟩
  case round =>
    obtain ⟨k, hk, rfl, rfl, hall⟩ := hrel
    by_cases hlt : k < v.m
    · have hlt' : (k : Int) < (v.m : Int) := by omega
      obtain ⟨ib, io, x, hxB, hib, hx, hxo, i0, i1, i2, i3, i4⟩ := hB0.out.f.is.item hlt
      rw [hxB] at p1
      have hno := fun (h : hitW va vl x = false) => Lib.hid (show ∀ j, j < k + 1 → ∀ y, f.items[j]? = some y → hitW va vl y = false from fun j hj y hy => by
        rcases Nat.lt_succ_iff_lt_or_eq.1 hj with h1 | h1
        · exact hall.out j h1 y hy
        · subst h1; rw [hx] at hy; injection hy with hy; subst hy; exact h)
      have hyes := fun (h : hitW va vl x = true) => writeF_at hx h hall.out
      obtain ⟨xs, xp, xw, xa, xl⟩ := x
      simp only at i0 i1 i2 i3 i4
      have hh : hitW va vl ⟨xs, xp, xw, xa, xl⟩ = (xw && (decide (xa = va) && decide (xl = vl))) := rfl
      rw [hh] at hno hyes
      clear hh hxo hx hall hlt hxB
      have hkw : (k : Int) + 1 < 9223372036854775808 := by omega
      cases xw with
      | false =>
        have hn := hno rfl
        clear hno hyes
        go_wp2_with fail
        go_round
        case rel => exact ⟨k + 1, by omega, by go_num, trivial, hn⟩
        case measure => simp [intOf]; omega
      | true =>
        by_cases ha : xa = va
        · by_cases hl : xl = vl
          · have hy := hyes (by simp [ha, hl])
            clear hno hyes
            have e1 : (xa == va) = true := by simp [ha]
            have e2 : (xl == vl) = true := by simp [hl]
            replace ha := Lib.hid ha
            replace hl := Lib.hid hl
            replace hy := Lib.hid hy
            go_wp2_with fail
            exact bodyPost_ret (v := .tuple #[.int .i64 (k : Int), .bool true]) (by simp [results, go_sem]) rfl ⟨by rw [hy.out]; rfl, hB0.out.o⟩
          · have hn := hno (by simp [hl])
            clear hno hyes
            have e1 : (xa == va) = true := by simp [ha]
            have e2 : (xl == vl) = false := by simp [hl]
            replace ha := Lib.hid ha
            replace hl := Lib.hid hl
            go_wp2_with fail
            go_round
            case rel => exact ⟨k + 1, by omega, by go_num, trivial, hn⟩
            case measure => simp [intOf]; omega
        · have hn := hno (by simp [ha])
          clear hno hyes
          have e1 : (xa == va) = false := by simp [ha]
          replace ha := Lib.hid ha
          go_wp2_with fail
          go_round
          case rel => exact ⟨k + 1, by omega, by go_num, trivial, hn⟩
          case measure => simp [intOf]; omega
    · have hlt' : ¬ (k : Int) < (v.m : Int) := by omega
      have hn := Lib.hid (writeF_none (is := f.items) (v := va) (val := vl) (fun j y hy => hall.out j (by have := (List.getElem?_eq_some_iff.1 hy).1; omega) y hy))
      clear hall hlt
      go_wp2_with fail
      exact bodyPost_ret (v := .tuple #[.int .i64 0, .bool false]) (by simp [results, go_sem]) rfl ⟨by rw [hn.out]; rfl, hB0.out.o⟩
set_option maxRecDepth 100000 in
set_option maxHeartbeats 1000000 in
theorem ref10_Check (v : FV) (f : Fac) (w : World) (hF : FactsAt w v f) :
    Calls Try.prog 19 #[.agg #[.slice v.A v.n v.c, .slice v.B v.m v.d, .slice v.C v.k v.e]] w (RetCheck (checkF f.items) w) := by
  have hil := hF.is.len
  have him : v.m ≤ 9223372036854775807 := by have := hF.ic; have := hF.im; omega
  -- a call with facts v: they are boxed at g, the world is W0 then
  have hB0 := Lib.hid (FBox.new hF)
  obtain ⟨g, hg⟩ : ∃ g, g = w.heap.size := ⟨_, rfl⟩
  obtain ⟨W0, hW0⟩ : ∃ W, W = w.alloc (.cells #[.slice v.A v.n v.c, .slice v.B v.m v.d, .slice v.C v.k v.e] 27) := ⟨_, rfl⟩
  rw [← hW0, ← hg] at hB0
  clear hF
  have p0 := hB0.out.c0
  have p1 := hB0.out.c1
  have p2 := hB0.out.c2
  go_enter Try.func19, Try.ntmps19
  go_wp2_with (rw [← hW0, ← hg]; clear hW0 hg)
  clear p0 p1 p2
  go_loopw [5] (fun t wr => ∃ k : Nat, k ≤ v.m ∧ t = .int .i64 k ∧ Hid (FBox w g v f wr) ∧ Hid (∀ j, j < k → stepC f.items j = none)) (fun t _ => v.m - (intOf t).toNat)
  case atStart => exact ⟨0, Nat.zero_le _, rfl, hB0, Lib.hid (fun j hj => absurd hj (by omega))⟩
  case round =>
    clear hB0
    obtain ⟨k, hk, rfl, hB, hall⟩ := hrel
    have p0 := hB.out.c0
    have p1 := hB.out.c1
    have p2 := hB.out.c2
    by_cases hlt : k < v.m
    · have hlt' : (k : Int) < (v.m : Int) := by omega
      obtain ⟨ib, io, x, hxB, hib, hx, hxo, i0, i1, i2, i3, i4⟩ := hB.out.f.is.item hlt
      rw [hxB] at p1
      have hkw : (k : Int) + 1 < 9223372036854775808 := by omega
      have hno := fun (h : stepC f.items k = none) => Lib.hid (show ∀ j, j < k + 1 → stepC f.items j = none from fun j hj => by
        rcases Nat.lt_succ_iff_lt_or_eq.1 hj with h1 | h1
        · exact hall.out j h1
        · subst h1; exact h)
      have hyes := fun r (h : stepC f.items k = some r) => checkF_at h hall.out
      have hst : stepC f.items k = if x.wr = false then none else if x.vl = 0 then some ((k : Int), (k : Int), 5) else if (writeF f.items x.va x.vl).getD 0 < k then some (((writeF f.items x.va x.vl).getD 0 : Nat), (k : Int), 4) else none := by
        unfold stepC; rw [hx]
      obtain ⟨xs, xp, xw, xa, xl⟩ := x
      simp only at i0 i1 i2 i3 i4 hst
      obtain ⟨V, hV⟩ : ∃ W, W = wr.alloc (.cells #[.int .i64 xs, .int .i64 xp, .bool xw, .int .i64 xa, .int .i64 xl] 38) := ⟨_, rfl⟩
      obtain ⟨gx, hgx⟩ : ∃ g, g = wr.heap.size := ⟨_, rfl⟩
      have bV : Below wr.heap.size wr V := by rw [hV]; exact (Below.refl _ _).alloc (Nat.le_refl _) _
      have kIt : Blk V gx 38 [.int .i64 xs, .int .i64 xp, .bool xw, .int .i64 xa, .int .i64 xl] := by rw [hV, hgx]; exact Blk.new wr _ _
      have hBV := Lib.hid (hB.out.later bV)
      have j2 := kIt.cell 2
      have j3 := kIt.cell 3
      have j4 := kIt.cell 4
      simp only [List.getElem?_cons_zero, List.getElem?_cons_succ] at j2 j3 j4
      have w0 := hBV.out.c0
      have w1 := hBV.out.c1
      have w2 := hBV.out.c2
      clear bV kIt hx hxo hxB hlt
      cases xw with
      | false =>
        have hn := hno (by rw [hst]; rfl)
        clear hno hyes hst hall
        go_wp2_with (rw [← hV, ← hgx]; clear hV hgx)
        go_round
        case rel => exact ⟨k + 1, by omega, by go_num, hBV, hn⟩
        case measure => simp [intOf]; omega
      | true =>
        by_cases h0 : xl = 0
        · have hy := Lib.hid (hyes _ (by rw [hst, if_neg (by simp), if_pos h0]))
          have e0 : (xl == 0) = true := by simp [h0]
          clear hno hyes hst hall
          replace h0 := Lib.hid h0
          go_wp2_with (rw [← hV, ← hgx]; clear hV hgx)
          exact bodyPost_ret (v := .tuple #[.int .i64 (k : Int), .int .i64 (k : Int), .int .i64 5]) (by simp [results, go_sem]) rfl ⟨by rw [hy.out], hBV.out.o⟩
        · have e0 : (xl == 0) = false := by simp [h0]
          have cW := ref10_Write v f xa xl V hBV.out.f
          obtain ⟨o, ho⟩ : ∃ o, o = writeF f.items xa xl := ⟨_, rfl⟩
          rw [← ho] at cW hst
          rw [if_neg (by simp), if_neg h0] at hst
          unfold RetWrite at cW
          obtain ⟨i, hi⟩ : ∃ i, i = o.getD 0 := ⟨_, rfl⟩
          rw [← hi] at cW hst
          obtain ⟨ii, hii⟩ : ∃ ii : Int, ii = (i : Int) := ⟨_, rfl⟩
          rw [← hii] at cW
          replace cW := Lib.hid cW
          replace h0 := Lib.hid h0
          replace ho := Lib.hid ho
          replace hi := Lib.hid hi
          by_cases hik : i < k
          · have hy := Lib.hid (hyes _ (by rw [hst, if_pos hik]))
            have hik' : ii < (k : Int) := by omega
            replace hii := Lib.hid hii
            clear hno hyes hst hall hik
            go_wp2_with (rw [← hV, ← hgx]; clear hV hgx)
            refine cW.out.mono ?_; rintro e w3 ⟨rfl, b3⟩
            go_wp2_with fail
            exact bodyPost_ret (v := .tuple #[.int .i64 ii, .int .i64 (k : Int), .int .i64 4]) (by simp [results, go_sem]) rfl ⟨by rw [hy.out, hii.out], below_trans2 hBV.out.o b3⟩
          · have hn := hno (by rw [hst, if_neg hik])
            have dk : decide (ii < (k : Int)) = false := decide_eq_false (by omega)
            replace hii := Lib.hid hii
            clear hno hyes hst hall hik
            go_wp2_with (rw [← hV, ← hgx]; clear hV hgx)
            refine cW.out.mono ?_; rintro e w3 ⟨rfl, b3⟩
            have hB3 := Lib.hid (hBV.out.later b3)
            clear w0 w1 w2 j2 j3 j4 p0 p1 p2 i0 i1 i2 i3 i4 b3 e0
            go_wp2_with fail
            go_round
            case rel => exact ⟨k + 1, by omega, by go_num, hB3, hn⟩
            case measure => simp [intOf]; omega
    · have hlt' : ¬ (k : Int) < (v.m : Int) := by omega
      have hn := Lib.hid (checkF_none (is := f.items) (fun j hj => hall.out j (by omega)))
      clear hall hlt
      go_wp2_with fail
      exact bodyPost_ret (v := .tuple #[.int .i64 0, .int .i64 0, .int .i64 0]) (by simp [results, go_sem]) rfl ⟨by rw [hn.out], hB.out.o⟩
end Go.Proofs.Ytcdfpodhiogpiaa
