/- The walk of RowLists. -/
import Derived.Test.YtjiinfhfeajooaaLaw2
namespace Go.Proofs.Ytjiinfhfeajooaa
open Go.RowKit
set_option linter.unusedVariables false

theorem quiet_eq {P : Program} {f : FuncId} {args : Array Value} {w : World} {n : Nat} {v : Value}
    (h : Calls P f args (w.drewN n) fun e w' => e = .returned v ∧ w.drewN n = w') : Calls P f args (w.drewN n) fun e w'' => e = .returned v ∧ ∃ m, w'' = w.drewN m :=
  h.mono fun _ _ ⟨he, hm⟩ => ⟨he, n, hm.symm⟩
/-- what the statement's loop makes, with the first k bits of the list -/
def LoopL (n : Nat) (xs : List Nat) (k : Nat) (W : World) (b : Value) (wr : World) : Prop :=
  ∃ A c, b = .slice A n c ∧ Row wr A n (setAll n ((listN xs).take k)) ∧ Below W.heap.size W wr
set_option maxHeartbeats 1000000 in
theorem law_RowLists (A : Option Addr) (n c : Nat) (xs : List Nat) (w : World) (hr : Row w A n xs) (hn : n ≤ 9223372036854775807) :
    Calls Try.prog 4 #[.slice A n c] w fun e w' => e = .returned (.bool true) ∧ Below w.heap.size w w' := by
  show Calls _ _ _ w (RetT w)
  by_cases h10 : 10 < n
  · have hd : (10 : Int) < (n : Int) := by omega
    clear hr
    go_enter Try.func4, Try.ntmps4
    go_wp2_with fail
    refine (awake2 _).mono ?_; rintro e w1 ⟨rfl, hb⟩
    go_wp2
    go_ret
    exact ⟨rfl, hb⟩
  have hd : ¬ (10 : Int) < (n : Int) := by omega
  have hlen := hr.len
  have hcle : countR xs ≤ 640 := by have := countR_le xs; rw [hlen] at this; omega
  have hmem := Lib.hid (listN_mem xs)
  have hrise := Lib.hid (listN_rises xs)
  have hback := setAll_back (xs := xs) hr.2
  rw [hlen] at hback
  replace hback := Lib.hid hback
  have hnew : List.replicate (wordsN (64 * (n : Int))) 0 = setAll n ((listN xs).take 0) := by
    have : wordsN (64 * (n : Int)) = n := by unfold wordsN wordsZ; rw [if_neg (by omega)]; omega
    rw [this]; rfl
  replace hnew := Lib.hid hnew
  have hll := Lib.hid (listR_len xs)
  have hfac := Lib.hid (fun k => setAll_facts n ((listN xs).take k) (fun i hi => by have := ((listN_mem xs i).1 (List.mem_of_mem_take hi)).1; omega))
  have hsame := Lib.hid (sameR_refl xs)
  replace hlen := Lib.hid hlen
  replace hr := Lib.hid hr
  go_enter Try.func4, Try.ntmps4
  go_wp2_with fail
  refine (row_List _ _ _ _ _ hr.out (by omega)).mono ?_; rintro e w1 ⟨A1, n1, c1, rfl, h1, b1⟩
  have hl1 := h1.len
  rw [hll.out] at hl1
  have hn1 : n1 ≤ 640 := by omega
  replace hl1 := Lib.hid hl1
  have hr1 := Lib.hid (hr.out.below b1)
  have h1' := Lib.hid h1
  have b1' := Lib.hid b1
  clear h1 b1 hr
  go_wp2_with fail
  refine (row_New _ (by omega) (by omega) _).mono ?_; rintro e w2 ⟨A2, n2, c2, rfl, h2, b2⟩
  rw [hnew.out] at h2
  obtain rfl : n2 = n := by have := h2.len; rw [(hfac.out 0).1] at this; exact this.symm
  have h12 := Lib.hid (h1'.out.below b2)
  have hr2 := Lib.hid (hr1.out.below b2)
  have b2' := Lib.hid (below_trans2 b1'.out b2)
  have hL : LoopL n2 xs 0 w2 (.slice A2 n2 c2) w2 := ⟨_, _, rfl, h2, Below.refl _ _⟩
  replace hL := Lib.hid hL
  clear h2 b2 h1' hr1 b1'
  go_wp2
  go_loopw [4, 5] (fun b i wr => ∃ k : Nat, k ≤ n1 ∧ i = .int .i64 k ∧ LoopL n2 xs k w2 b wr) (fun _ i _ => n1 - (intOf i).toNat)
  case atStart => exact ⟨0, Nat.zero_le _, rfl, hL.out⟩
  case round =>
    clear hL
    obtain ⟨k, hk, rfl, A3, c3, rfl, h3, b3⟩ := hrel
    have h13 := h12.out.below b3
    have hr3 := Lib.hid (hr2.out.below b3)
    replace h3 := Lib.hid h3
    replace b3 := Lib.hid b3
    by_cases hlt : k < n1
    · obtain ⟨b, off, z, rfl, hbk, hz, hz64, hc⟩ := h13.at_ hlt
      have hzget : ∀ (j : Nat) (z : Int), (listR xs)[j]? = some z → ∃ i, (listN xs)[j]? = some i ∧ z = Int.ofNat i := by
        intro j z hz
        unfold listR at hz
        rw [List.getElem?_map] at hz
        cases hx : (listN xs)[j]? with
        | none => rw [hx] at hz; cases hz
        | some i => rw [hx] at hz; exact ⟨i, rfl, by simpa using hz.symm⟩
      obtain ⟨i, hi, rfl⟩ := hzget k z hz
      have hc' : wr.cell? ⟨b, off + k, none⟩ = some (.int .i64 (i : Int)) := hc
      have hi64 := ((hmem.out i).1 (List.mem_of_getElem? hi))
      have hHas := hi64.2
      have hH : Hid (∀ nq, Calls Try.prog 13 #[.slice A n2 c, .int .i64 (i : Int)] (wr.drewN nq) fun e w' => e = .returned (.bool true) ∧ wr.drewN nq = w') := by
        intro nq
        have := row_Has A n2 c xs (i : Int) (wr.drewN nq) (hr3.out.drewN nq) (by omega) hz64.1 hz64.2
        rwa [hHas] at this
      have htake : (listN xs).take (k + 1) = (listN xs).take k ++ [i] := by
        have hkl := (List.getElem?_eq_some_iff.1 hi).1
        rw [List.take_succ_eq_append_getElem hkl, (List.getElem?_eq_some_iff.1 hi).2]
      have hset := setAll_snoc n2 ((listN xs).take k) i
      rw [← htake] at hset
      replace hset := Lib.hid hset
      have hi640 : i < 640 := by have := hi64.1; have := hlen.out; omega
      have hk0 : (0 : Int) ≤ (k : Int) := by omega
      have hkn : (k : Int) < (n1 : Int) := by omega
      have hS := Lib.hid (fun nq => row_Set A3 n2 c3 (setAll n2 ((listN xs).take k)) (i : Int) (wr.drewN nq) (h3.out.drewN nq) (by omega) (by omega) (by omega))
      clear htake hHas hz hz64 hc hi64
      by_cases hk1 : k = 0
      · have hd0 : decide (0 < k) = false := decide_eq_false (by omega)
        replace hk1 := Lib.hid hk1
        clear hzget hi
        go_wp2
        go_quiet ((go_at_call 13; exact quiet_eq (hH.out _)))
        clear hd0 hk1
        go_wp2_with fail
        refine (hS.out _).mono ?_; rintro e w4 ⟨A4, n4, c4, rfl, h4, b4⟩
        rw [← hset.out] at h4
        obtain rfl : n4 = n2 := by have := h4.len; rw [(hfac.out (k + 1)).1] at this; exact this.symm
        have b4' := below_trans2 b3.out ((below_drewN (Below.refl _ _) nq).trans b4)
        replace h4 := Lib.hid h4
        replace b4' := Lib.hid b4'
        clear b4 hS hset
        go_wp2
        go_roundw
        case rel => exact ⟨k + 1, by omega, by go_num, _, _, rfl, h4.out, b4'.out⟩
        case measure => simp [intOf]; omega
      · have hd0 : decide (0 < k) = true := decide_eq_true (by omega)
        obtain ⟨b', off', z1, hz0, _, hz1, hz164, hc1⟩ := h13.at_ (k := k - 1) (by omega)
        injection hz0 with hz0
        injection hz0 with hb' hoff' _
        subst hb'
        subst hoff'
        obtain ⟨i1, hi1, rfl⟩ := hzget _ _ hz1
        have hlt1 := hrise.out (k - 1) i1 i hi1 (by rw [show k - 1 + 1 = k from by omega]; exact hi)
        have hc1' : wr.cell? ⟨b, off + (k - 1), none⟩ = some (.int .i64 (i1 : Int)) := hc1
        have hle : decide ((i : Int) ≤ (i1 : Int)) = false := decide_eq_false (by omega)
        have hle2 : decide (i ≤ i1) = false := decide_eq_false (by omega)
        have hi1' : i1 < 640 := by omega
        have hs1 : IntKind.i64.wrap ((k : Int) - 1) = (k : Int) - 1 := IntWalk.i64_in _ (by omega)
        have hs2 : (0 : Int) ≤ (k : Int) - 1 := by omega
        have hs3 : (k : Int) - 1 < (n1 : Int) := by omega
        have hs4 : ((k : Int) - 1).toNat = k - 1 := by omega
        have hk1' : 1 ≤ k := by omega
        clear hzget hi hk1 hz1 hz164 hc1 hi1 hlt1
        go_wp2
        go_quiet ((go_at_call 13; exact quiet_eq (hH.out _)))
        clear hd0 hle hle2 hs1 hs2 hs3 hs4 hc1'
        go_wp2_with fail
        refine (hS.out _).mono ?_; rintro e w4 ⟨A4, n4, c4, rfl, h4, b4⟩
        rw [← hset.out] at h4
        obtain rfl : n4 = n2 := by have := h4.len; rw [(hfac.out (k + 1)).1] at this; exact this.symm
        have b4' := below_trans2 b3.out ((below_drewN (Below.refl _ _) nq).trans b4)
        replace h4 := Lib.hid h4
        replace b4' := Lib.hid b4'
        clear b4 hS hset
        go_wp2
        go_roundw
        case rel => exact ⟨k + 1, by omega, by go_num, _, _, rfl, h4.out, b4'.out⟩
        case measure => simp [intOf]; omega
    · have hkn : k = n1 := by omega
      have hfull : (listN xs).take k = listN xs := List.take_of_length_le (by
        have h1 := hl1.out
        have h2 : (listR xs).length = (listN xs).length := List.length_map _
        have h3 := hll.out
        omega)
      have h3' := h3.out
      rw [hfull, hback.out] at h3'
      replace h3' := Lib.hid h3'
      have b3' := Lib.hid (below_trans2 b2'.out b3.out)
      have hcn := hl1.out
      have hfin : (((n1 : Nat) : Int) == ((countR xs : Nat) : Int)) = true := by rw [beq_iff_eq]; omega
      replace hcn := Lib.hid hcn
      clear hfull hkn h13 h3 b3
      go_wp2_with fail
      refine (awake2 _).mono ?_; rintro e w5 ⟨rfl, b5⟩
      have hr5 := Lib.hid (hr3.out.below b5)
      have h35 := Lib.hid (h3'.out.below b5)
      have b5' := Lib.hid (below_trans2 b3'.out b5)
      clear b5
      go_wp2_with fail
      refine (ref2_Same _ _ _ _ _ _ _ _ _ hr5.out h35.out (by omega) (by omega)).mono ?_; rintro e w6 ⟨rfl, q, rfl⟩
      rw [hsame.out]
      go_wp2_with fail
      refine (row_Count _ _ _ _ _ (hr5.out.drewN q) (by omega)).mono ?_; rintro e w' ⟨rfl, rfl⟩
      go_wp2
      go_ret
      exact ⟨rfl, below_drewN b5'.out q⟩

end Go.Proofs.Ytjiinfhfeajooaa
