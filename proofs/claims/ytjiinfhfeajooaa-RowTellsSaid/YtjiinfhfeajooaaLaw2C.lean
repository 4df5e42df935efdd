/- The walk of RowTells (its lines are written by wip/bin/gen_rowtells.py). -/
import Derived.Test.YtjiinfhfeajooaaLaw2B
namespace Go.Proofs.Ytjiinfhfeajooaa
open Go.RowKit
set_option linter.unusedVariables false

set_option maxHeartbeats 4000000 in
theorem law_RowTells (A B : Option Addr) (n m c d : Nat) (xs ys : List Nat) (i : Int) (w : World) (hr : Row w A n xs) (hs : Row w B m ys) (hn : n ≤ 9223372036854775807) (hm : m ≤ 9223372036854775807) (wi : (Lit.int .i64 i).wf = true) :
    Calls Try.prog 3 #[.slice A n c, .slice B m d, .int .i64 i] w fun e w' => e = .returned (.bool true) ∧ Below w.heap.size w w' := by
  show Calls _ _ _ w (RetT w)
  have bi := bounds_i64 wi
  have h1 : -9223372036854775808 ≤ i := by omega
  have h2 : i < 9223372036854775808 := by omega
  clear bi wi
  by_cases h10 : 10 < n
  · have hd : (10 : Int) < (n : Int) := by omega
    clear hr hs
    go_enter Try.func3, Try.ntmps3
    go_wp2_with fail
    refine (awake2 _).mono ?_; rintro e w1 ⟨rfl, hb⟩
    go_wp2
    go_ret
    exact ⟨rfl, hb⟩
  have hd : ¬ (10 : Int) < (n : Int) := by omega
  by_cases h11 : 10 < m
  · have hd2 : (10 : Int) < (m : Int) := by omega
    clear hr hs
    go_enter Try.func3, Try.ntmps3
    go_wp2_with fail
    refine (awake2 _).mono ?_; rintro e w1 ⟨rfl, hb⟩
    go_wp2
    go_ret
    exact ⟨rfl, hb⟩
  have hd2 : ¬ (10 : Int) < (m : Int) := by omega
  have lset : Hid ((setR xs i).length ≤ 10) := Lib.hid (by rw [setR_len, hr.len]; omega)
  have lor : Hid ((orR xs ys).length ≤ 10) := Lib.hid (by rw [orR_len, hr.len, hs.len]; omega)
  have llist : Hid ((listR xs).length ≤ 640) := Lib.hid (by rw [listR_len]; have := countR_le xs; rw [hr.len] at this; omega)
  have lnew : Hid ((List.replicate (wordsN i) 0).length = wordsN i) := Lib.hid List.length_replicate
  have sset := Lib.hid (sameR_refl (setR xs i))
  have sor := Lib.hid (sameR_refl (orR xs ys))
  have slist := Lib.hid (sameI_refl (listR xs))
  have snew := Lib.hid (sameR_refl (List.replicate (wordsN i) 0))
  have hr0 := Lib.hid hr
  have hs0 := Lib.hid hs
  have bb0 := Lib.hid (Below.refl w.heap.size w)
  clear hr hs
  have hsplit : (i ≤ 1000 ∧ i ≤ 1099511627776) ∨ (¬ i ≤ 1000 ∧ i ≤ 1099511627776) ∨ (¬ i ≤ 1000 ∧ ¬ i ≤ 1099511627776) := by omega
  rcases hsplit with ⟨s1, s2⟩ | ⟨s1, s2⟩ | ⟨s1, s2⟩
  · go_enter Try.func3, Try.ntmps3
    go_wp2_with fail
    refine (row_Words _ h1 h2 _).mono ?_; rintro e w' ⟨rfl, rfl⟩
    go_wp2_with fail
    refine (ref2_Words _ h1 s2 _).mono ?_; rintro e w' ⟨rfl, rfl⟩
    have hwle : wordsN i ≤ 1000 := by unfold wordsN wordsZ; split <;> omega
    go_wp2_with fail
    refine (row_New _ h1 s2 _).mono ?_; rintro e wp ⟨Ap, np, cp, rfl, hp, dp⟩
    have hnp : np ≤ 1073741824 := by have := hp.len; have := (lnew).out; omega
    have hr1 := Lib.hid (hr0.out.below dp)
    have hs1 := Lib.hid (hs0.out.below dp)
    have bb1 := Lib.hid (below_trans2 bb0.out dp)
    clear dp hr0 hs0 bb0
    replace hp := Lib.hid hp
    have xp_1 := hp
    clear hp
    go_wp2_with fail
    refine (ref2_New _ h1 s2 _).mono ?_; rintro e wq ⟨Aq, nq, cq, rfl, hq, dq⟩
    have hnq : nq ≤ 1073741824 := by have := hq.len; have := (lnew).out; omega
    have hr2 := Lib.hid (hr1.out.below dq)
    have hs2 := Lib.hid (hs1.out.below dq)
    have bb2 := Lib.hid (below_trans2 bb1.out dq)
    have xp_2 := Lib.hid (xp_1.out.below dq)
    clear dq hr1 hs1 bb1 xp_1
    replace hq := Lib.hid hq
    have xq_2 := hq
    clear hq
    go_wp2_with fail
    refine (ref2_Same _ _ _ _ _ _ _ _ _ xp_2.out xq_2.out (by omega) (by omega)).mono ?_; rintro e wq2 ⟨rfl, hq⟩
    have dq := RetQ.below (e := .returned (.bool true)) (v := .bool true) (⟨rfl, hq⟩ : RetQ _ _ _ wq2)
    clear hq
    rw [snew.out]
    have hr3 := Lib.hid (hr2.out.below dq)
    have hs3 := Lib.hid (hs2.out.below dq)
    have bb3 := Lib.hid (below_trans2 bb2.out dq)
    have xp_3 := Lib.hid (xp_2.out.below dq)
    have xq_3 := Lib.hid (xq_2.out.below dq)
    clear dq hr2 hs2 bb2 xp_2 xq_2
    clear xp_3
    clear xq_3
    go_wp2_with fail
    refine (awake2 _).mono ?_; rintro e wz3 ⟨rfl, dz⟩
    have hr4 := Lib.hid (hr3.out.below dz)
    have hs4 := Lib.hid (hs3.out.below dz)
    have bb4 := Lib.hid (below_trans2 bb3.out dz)
    clear dz hr3 hs3 bb3
    go_wp2_with fail
    refine (row_Has _ _ _ _ _ _ hr4.out (by omega) h1 h2).mono ?_; rintro e w' ⟨rfl, rfl⟩
    go_wp2_with fail
    refine (ref2_Has _ _ _ _ _ _ hr4.out (by omega) h1 h2).mono ?_; rintro e w' ⟨rfl, rfl⟩
    go_wp2_with fail
    refine (row_Set _ _ _ _ _ _ hr4.out (by omega) h1 h2).mono ?_; rintro e wp ⟨Ap, np, cp, rfl, hp, dp⟩
    have hnp : np ≤ 1073741824 := by have := hp.len; have := (lset).out; omega
    have hr5 := Lib.hid (hr4.out.below dp)
    have hs5 := Lib.hid (hs4.out.below dp)
    have bb5 := Lib.hid (below_trans2 bb4.out dp)
    clear dp hr4 hs4 bb4
    replace hp := Lib.hid hp
    have xp_5 := hp
    clear hp
    go_wp2_with fail
    refine (ref2_Set _ _ _ _ _ _ hr5.out (by omega) h1 h2).mono ?_; rintro e wq ⟨Aq, nq, cq, rfl, hq, dq⟩
    have hnq : nq ≤ 1073741824 := by have := hq.len; have := (lset).out; omega
    have hr6 := Lib.hid (hr5.out.below dq)
    have hs6 := Lib.hid (hs5.out.below dq)
    have bb6 := Lib.hid (below_trans2 bb5.out dq)
    have xp_6 := Lib.hid (xp_5.out.below dq)
    clear dq hr5 hs5 bb5 xp_5
    replace hq := Lib.hid hq
    have xq_6 := hq
    clear hq
    go_wp2_with fail
    refine (ref2_Same _ _ _ _ _ _ _ _ _ xp_6.out xq_6.out (by omega) (by omega)).mono ?_; rintro e wq6 ⟨rfl, hq⟩
    have dq := RetQ.below (e := .returned (.bool true)) (v := .bool true) (⟨rfl, hq⟩ : RetQ _ _ _ wq6)
    clear hq
    rw [sset.out]
    have hr7 := Lib.hid (hr6.out.below dq)
    have hs7 := Lib.hid (hs6.out.below dq)
    have bb7 := Lib.hid (below_trans2 bb6.out dq)
    have xp_7 := Lib.hid (xp_6.out.below dq)
    have xq_7 := Lib.hid (xq_6.out.below dq)
    clear dq hr6 hs6 bb6 xp_6 xq_6
    clear xp_7
    clear xq_7
    go_wp2_with fail
    refine (row_Or _ _ _ _ _ _ _ _ _ hr7.out hs7.out (by omega) (by omega)).mono ?_; rintro e wr ⟨Ar, nr, cr, rfl, hr, dr⟩
    have hnr : nr ≤ 1073741824 := by have := hr.len; have := (lor).out; omega
    have hr8 := Lib.hid (hr7.out.below dr)
    have hs8 := Lib.hid (hs7.out.below dr)
    have bb8 := Lib.hid (below_trans2 bb7.out dr)
    clear dr hr7 hs7 bb7
    replace hr := Lib.hid hr
    have xr_8 := hr
    clear hr
    go_wp2_with fail
    refine (ref2_Or _ _ _ _ _ _ _ _ _ hr8.out hs8.out (by omega) (by omega)).mono ?_; rintro e ws ⟨As, ns, cs, rfl, hs, ds⟩
    have hns : ns ≤ 1073741824 := by have := hs.len; have := (lor).out; omega
    have hr9 := Lib.hid (hr8.out.below ds)
    have hs9 := Lib.hid (hs8.out.below ds)
    have bb9 := Lib.hid (below_trans2 bb8.out ds)
    have xr_9 := Lib.hid (xr_8.out.below ds)
    clear ds hr8 hs8 bb8 xr_8
    replace hs := Lib.hid hs
    have xs_9 := hs
    clear hs
    go_wp2_with fail
    refine (ref2_Same _ _ _ _ _ _ _ _ _ xr_9.out xs_9.out (by omega) (by omega)).mono ?_; rintro e wq9 ⟨rfl, hq⟩
    have dq := RetQ.below (e := .returned (.bool true)) (v := .bool true) (⟨rfl, hq⟩ : RetQ _ _ _ wq9)
    clear hq
    rw [sor.out]
    have hr10 := Lib.hid (hr9.out.below dq)
    have hs10 := Lib.hid (hs9.out.below dq)
    have bb10 := Lib.hid (below_trans2 bb9.out dq)
    have xr_10 := Lib.hid (xr_9.out.below dq)
    have xs_10 := Lib.hid (xs_9.out.below dq)
    clear dq hr9 hs9 bb9 xr_9 xs_9
    clear xr_10
    clear xs_10
    go_wp2_with fail
    refine (row_Sub _ _ _ _ _ _ _ _ _ hr10.out hs10.out (by omega) (by omega)).mono ?_; rintro e w' ⟨rfl, rfl⟩
    go_wp2_with fail
    refine (ref2_Sub _ _ _ _ _ _ _ _ _ hr10.out hs10.out (by omega) (by omega)).mono ?_; rintro e wz10 ⟨rfl, dz⟩
    have hr11 := Lib.hid (hr10.out.below dz)
    have hs11 := Lib.hid (hs10.out.below dz)
    have bb11 := Lib.hid (below_trans2 bb10.out dz)
    clear dz hr10 hs10 bb10
    go_wp2_with fail
    refine (row_Count _ _ _ _ _ hr11.out (by omega)).mono ?_; rintro e w' ⟨rfl, rfl⟩
    go_wp2_with fail
    refine (ref2_Count _ _ _ _ _ hr11.out (by omega)).mono ?_; rintro e wz11 ⟨rfl, dz⟩
    have hr12 := Lib.hid (hr11.out.below dz)
    have hs12 := Lib.hid (hs11.out.below dz)
    have bb12 := Lib.hid (below_trans2 bb11.out dz)
    clear dz hr11 hs11 bb11
    go_wp2_with fail
    refine (row_List _ _ _ _ _ hr12.out (by omega)).mono ?_; rintro e wt ⟨At, nt, ct, rfl, ht, dt⟩
    have hnt : nt ≤ 1073741824 := by have := ht.len; have := (llist).out; omega
    have hr13 := Lib.hid (hr12.out.below dt)
    have hs13 := Lib.hid (hs12.out.below dt)
    have bb13 := Lib.hid (below_trans2 bb12.out dt)
    clear dt hr12 hs12 bb12
    replace ht := Lib.hid ht
    have xt_13 := ht
    clear ht
    go_wp2_with fail
    refine (ref2_List _ _ _ _ _ hr13.out (by omega)).mono ?_; rintro e wu ⟨Au, nu, cu, rfl, hu, du⟩
    have hnu : nu ≤ 1073741824 := by have := hu.len; have := (llist).out; omega
    have hr14 := Lib.hid (hr13.out.below du)
    have hs14 := Lib.hid (hs13.out.below du)
    have bb14 := Lib.hid (below_trans2 bb13.out du)
    have xt_14 := Lib.hid (xt_13.out.below du)
    clear du hr13 hs13 bb13 xt_13
    replace hu := Lib.hid hu
    have xu_14 := hu
    clear hu
    go_wp2_with fail
    refine (ref2_Ints _ _ _ _ _ _ _ _ _ xt_14.out xu_14.out (by omega) (by omega)).mono ?_; rintro e wq14 ⟨rfl, hq⟩
    have dq := RetQ.below (e := .returned (.bool true)) (v := .bool true) (⟨rfl, hq⟩ : RetQ _ _ _ wq14)
    clear hq
    rw [slist.out]
    have hr15 := Lib.hid (hr14.out.below dq)
    have hs15 := Lib.hid (hs14.out.below dq)
    have bb15 := Lib.hid (below_trans2 bb14.out dq)
    have xt_15 := Lib.hid (xt_14.out.below dq)
    have xu_15 := Lib.hid (xu_14.out.below dq)
    clear dq hr14 hs14 bb14 xt_14 xu_14
    clear xt_15
    clear xu_15
    go_wp2_with fail
    refine (row_Same _ _ _ _ _ _ _ _ _ hr15.out hs15.out (by omega) (by omega)).mono ?_; rintro e w' ⟨rfl, rfl⟩
    go_wp2_with fail
    refine (ref2_Same _ _ _ _ _ _ _ _ _ hr15.out hs15.out (by omega) (by omega)).mono ?_; rintro e wq15 ⟨rfl, hq⟩
    have dq := RetQ.below (e := .returned (.bool true)) (v := .bool true) (⟨rfl, hq⟩ : RetQ _ _ _ wq15)
    clear hq
    have hr16 := Lib.hid (hr15.out.below dq)
    have hs16 := Lib.hid (hs15.out.below dq)
    have bb16 := Lib.hid (below_trans2 bb15.out dq)
    clear dq hr15 hs15 bb15
    go_wp2
    go_ret
    exact ⟨ret_bool (by simp), bb16.out⟩
  · go_enter Try.func3, Try.ntmps3
    go_wp2_with fail
    refine (row_Words _ h1 h2 _).mono ?_; rintro e w' ⟨rfl, rfl⟩
    go_wp2_with fail
    refine (ref2_Words _ h1 s2 _).mono ?_; rintro e w' ⟨rfl, rfl⟩
    go_wp2_with fail
    refine (awake2 _).mono ?_; rintro e wz0 ⟨rfl, dz⟩
    have hr1 := Lib.hid (hr0.out.below dz)
    have hs1 := Lib.hid (hs0.out.below dz)
    have bb1 := Lib.hid (below_trans2 bb0.out dz)
    clear dz hr0 hs0 bb0
    go_wp2_with fail
    refine (row_Has _ _ _ _ _ _ hr1.out (by omega) h1 h2).mono ?_; rintro e w' ⟨rfl, rfl⟩
    go_wp2_with fail
    refine (ref2_Has _ _ _ _ _ _ hr1.out (by omega) h1 h2).mono ?_; rintro e w' ⟨rfl, rfl⟩
    go_wp2_with fail
    refine (row_Set _ _ _ _ _ _ hr1.out (by omega) h1 h2).mono ?_; rintro e wp ⟨Ap, np, cp, rfl, hp, dp⟩
    have hnp : np ≤ 1073741824 := by have := hp.len; have := (lset).out; omega
    have hr2 := Lib.hid (hr1.out.below dp)
    have hs2 := Lib.hid (hs1.out.below dp)
    have bb2 := Lib.hid (below_trans2 bb1.out dp)
    clear dp hr1 hs1 bb1
    replace hp := Lib.hid hp
    have xp_2 := hp
    clear hp
    go_wp2_with fail
    refine (ref2_Set _ _ _ _ _ _ hr2.out (by omega) h1 h2).mono ?_; rintro e wq ⟨Aq, nq, cq, rfl, hq, dq⟩
    have hnq : nq ≤ 1073741824 := by have := hq.len; have := (lset).out; omega
    have hr3 := Lib.hid (hr2.out.below dq)
    have hs3 := Lib.hid (hs2.out.below dq)
    have bb3 := Lib.hid (below_trans2 bb2.out dq)
    have xp_3 := Lib.hid (xp_2.out.below dq)
    clear dq hr2 hs2 bb2 xp_2
    replace hq := Lib.hid hq
    have xq_3 := hq
    clear hq
    go_wp2_with fail
    refine (ref2_Same _ _ _ _ _ _ _ _ _ xp_3.out xq_3.out (by omega) (by omega)).mono ?_; rintro e wq3 ⟨rfl, hq⟩
    have dq := RetQ.below (e := .returned (.bool true)) (v := .bool true) (⟨rfl, hq⟩ : RetQ _ _ _ wq3)
    clear hq
    rw [sset.out]
    have hr4 := Lib.hid (hr3.out.below dq)
    have hs4 := Lib.hid (hs3.out.below dq)
    have bb4 := Lib.hid (below_trans2 bb3.out dq)
    have xp_4 := Lib.hid (xp_3.out.below dq)
    have xq_4 := Lib.hid (xq_3.out.below dq)
    clear dq hr3 hs3 bb3 xp_3 xq_3
    clear xp_4
    clear xq_4
    go_wp2_with fail
    refine (row_Or _ _ _ _ _ _ _ _ _ hr4.out hs4.out (by omega) (by omega)).mono ?_; rintro e wr ⟨Ar, nr, cr, rfl, hr, dr⟩
    have hnr : nr ≤ 1073741824 := by have := hr.len; have := (lor).out; omega
    have hr5 := Lib.hid (hr4.out.below dr)
    have hs5 := Lib.hid (hs4.out.below dr)
    have bb5 := Lib.hid (below_trans2 bb4.out dr)
    clear dr hr4 hs4 bb4
    replace hr := Lib.hid hr
    have xr_5 := hr
    clear hr
    go_wp2_with fail
    refine (ref2_Or _ _ _ _ _ _ _ _ _ hr5.out hs5.out (by omega) (by omega)).mono ?_; rintro e ws ⟨As, ns, cs, rfl, hs, ds⟩
    have hns : ns ≤ 1073741824 := by have := hs.len; have := (lor).out; omega
    have hr6 := Lib.hid (hr5.out.below ds)
    have hs6 := Lib.hid (hs5.out.below ds)
    have bb6 := Lib.hid (below_trans2 bb5.out ds)
    have xr_6 := Lib.hid (xr_5.out.below ds)
    clear ds hr5 hs5 bb5 xr_5
    replace hs := Lib.hid hs
    have xs_6 := hs
    clear hs
    go_wp2_with fail
    refine (ref2_Same _ _ _ _ _ _ _ _ _ xr_6.out xs_6.out (by omega) (by omega)).mono ?_; rintro e wq6 ⟨rfl, hq⟩
    have dq := RetQ.below (e := .returned (.bool true)) (v := .bool true) (⟨rfl, hq⟩ : RetQ _ _ _ wq6)
    clear hq
    rw [sor.out]
    have hr7 := Lib.hid (hr6.out.below dq)
    have hs7 := Lib.hid (hs6.out.below dq)
    have bb7 := Lib.hid (below_trans2 bb6.out dq)
    have xr_7 := Lib.hid (xr_6.out.below dq)
    have xs_7 := Lib.hid (xs_6.out.below dq)
    clear dq hr6 hs6 bb6 xr_6 xs_6
    clear xr_7
    clear xs_7
    go_wp2_with fail
    refine (row_Sub _ _ _ _ _ _ _ _ _ hr7.out hs7.out (by omega) (by omega)).mono ?_; rintro e w' ⟨rfl, rfl⟩
    go_wp2_with fail
    refine (ref2_Sub _ _ _ _ _ _ _ _ _ hr7.out hs7.out (by omega) (by omega)).mono ?_; rintro e wz7 ⟨rfl, dz⟩
    have hr8 := Lib.hid (hr7.out.below dz)
    have hs8 := Lib.hid (hs7.out.below dz)
    have bb8 := Lib.hid (below_trans2 bb7.out dz)
    clear dz hr7 hs7 bb7
    go_wp2_with fail
    refine (row_Count _ _ _ _ _ hr8.out (by omega)).mono ?_; rintro e w' ⟨rfl, rfl⟩
    go_wp2_with fail
    refine (ref2_Count _ _ _ _ _ hr8.out (by omega)).mono ?_; rintro e wz8 ⟨rfl, dz⟩
    have hr9 := Lib.hid (hr8.out.below dz)
    have hs9 := Lib.hid (hs8.out.below dz)
    have bb9 := Lib.hid (below_trans2 bb8.out dz)
    clear dz hr8 hs8 bb8
    go_wp2_with fail
    refine (row_List _ _ _ _ _ hr9.out (by omega)).mono ?_; rintro e wt ⟨At, nt, ct, rfl, ht, dt⟩
    have hnt : nt ≤ 1073741824 := by have := ht.len; have := (llist).out; omega
    have hr10 := Lib.hid (hr9.out.below dt)
    have hs10 := Lib.hid (hs9.out.below dt)
    have bb10 := Lib.hid (below_trans2 bb9.out dt)
    clear dt hr9 hs9 bb9
    replace ht := Lib.hid ht
    have xt_10 := ht
    clear ht
    go_wp2_with fail
    refine (ref2_List _ _ _ _ _ hr10.out (by omega)).mono ?_; rintro e wu ⟨Au, nu, cu, rfl, hu, du⟩
    have hnu : nu ≤ 1073741824 := by have := hu.len; have := (llist).out; omega
    have hr11 := Lib.hid (hr10.out.below du)
    have hs11 := Lib.hid (hs10.out.below du)
    have bb11 := Lib.hid (below_trans2 bb10.out du)
    have xt_11 := Lib.hid (xt_10.out.below du)
    clear du hr10 hs10 bb10 xt_10
    replace hu := Lib.hid hu
    have xu_11 := hu
    clear hu
    go_wp2_with fail
    refine (ref2_Ints _ _ _ _ _ _ _ _ _ xt_11.out xu_11.out (by omega) (by omega)).mono ?_; rintro e wq11 ⟨rfl, hq⟩
    have dq := RetQ.below (e := .returned (.bool true)) (v := .bool true) (⟨rfl, hq⟩ : RetQ _ _ _ wq11)
    clear hq
    rw [slist.out]
    have hr12 := Lib.hid (hr11.out.below dq)
    have hs12 := Lib.hid (hs11.out.below dq)
    have bb12 := Lib.hid (below_trans2 bb11.out dq)
    have xt_12 := Lib.hid (xt_11.out.below dq)
    have xu_12 := Lib.hid (xu_11.out.below dq)
    clear dq hr11 hs11 bb11 xt_11 xu_11
    clear xt_12
    clear xu_12
    go_wp2_with fail
    refine (row_Same _ _ _ _ _ _ _ _ _ hr12.out hs12.out (by omega) (by omega)).mono ?_; rintro e w' ⟨rfl, rfl⟩
    go_wp2_with fail
    refine (ref2_Same _ _ _ _ _ _ _ _ _ hr12.out hs12.out (by omega) (by omega)).mono ?_; rintro e wq12 ⟨rfl, hq⟩
    have dq := RetQ.below (e := .returned (.bool true)) (v := .bool true) (⟨rfl, hq⟩ : RetQ _ _ _ wq12)
    clear hq
    have hr13 := Lib.hid (hr12.out.below dq)
    have hs13 := Lib.hid (hs12.out.below dq)
    have bb13 := Lib.hid (below_trans2 bb12.out dq)
    clear dq hr12 hs12 bb12
    go_wp2
    go_ret
    exact ⟨ret_bool (by simp), bb13.out⟩
  · go_enter Try.func3, Try.ntmps3
    go_wp2_with fail
    refine (awake2 _).mono ?_; rintro e wz0 ⟨rfl, dz⟩
    have hr1 := Lib.hid (hr0.out.below dz)
    have hs1 := Lib.hid (hs0.out.below dz)
    have bb1 := Lib.hid (below_trans2 bb0.out dz)
    clear dz hr0 hs0 bb0
    go_wp2_with fail
    refine (row_Has _ _ _ _ _ _ hr1.out (by omega) h1 h2).mono ?_; rintro e w' ⟨rfl, rfl⟩
    go_wp2_with fail
    refine (ref2_Has _ _ _ _ _ _ hr1.out (by omega) h1 h2).mono ?_; rintro e w' ⟨rfl, rfl⟩
    go_wp2_with fail
    refine (row_Set _ _ _ _ _ _ hr1.out (by omega) h1 h2).mono ?_; rintro e wp ⟨Ap, np, cp, rfl, hp, dp⟩
    have hnp : np ≤ 1073741824 := by have := hp.len; have := (lset).out; omega
    have hr2 := Lib.hid (hr1.out.below dp)
    have hs2 := Lib.hid (hs1.out.below dp)
    have bb2 := Lib.hid (below_trans2 bb1.out dp)
    clear dp hr1 hs1 bb1
    replace hp := Lib.hid hp
    have xp_2 := hp
    clear hp
    go_wp2_with fail
    refine (ref2_Set _ _ _ _ _ _ hr2.out (by omega) h1 h2).mono ?_; rintro e wq ⟨Aq, nq, cq, rfl, hq, dq⟩
    have hnq : nq ≤ 1073741824 := by have := hq.len; have := (lset).out; omega
    have hr3 := Lib.hid (hr2.out.below dq)
    have hs3 := Lib.hid (hs2.out.below dq)
    have bb3 := Lib.hid (below_trans2 bb2.out dq)
    have xp_3 := Lib.hid (xp_2.out.below dq)
    clear dq hr2 hs2 bb2 xp_2
    replace hq := Lib.hid hq
    have xq_3 := hq
    clear hq
    go_wp2_with fail
    refine (ref2_Same _ _ _ _ _ _ _ _ _ xp_3.out xq_3.out (by omega) (by omega)).mono ?_; rintro e wq3 ⟨rfl, hq⟩
    have dq := RetQ.below (e := .returned (.bool true)) (v := .bool true) (⟨rfl, hq⟩ : RetQ _ _ _ wq3)
    clear hq
    rw [sset.out]
    have hr4 := Lib.hid (hr3.out.below dq)
    have hs4 := Lib.hid (hs3.out.below dq)
    have bb4 := Lib.hid (below_trans2 bb3.out dq)
    have xp_4 := Lib.hid (xp_3.out.below dq)
    have xq_4 := Lib.hid (xq_3.out.below dq)
    clear dq hr3 hs3 bb3 xp_3 xq_3
    clear xp_4
    clear xq_4
    go_wp2_with fail
    refine (row_Or _ _ _ _ _ _ _ _ _ hr4.out hs4.out (by omega) (by omega)).mono ?_; rintro e wr ⟨Ar, nr, cr, rfl, hr, dr⟩
    have hnr : nr ≤ 1073741824 := by have := hr.len; have := (lor).out; omega
    have hr5 := Lib.hid (hr4.out.below dr)
    have hs5 := Lib.hid (hs4.out.below dr)
    have bb5 := Lib.hid (below_trans2 bb4.out dr)
    clear dr hr4 hs4 bb4
    replace hr := Lib.hid hr
    have xr_5 := hr
    clear hr
    go_wp2_with fail
    refine (ref2_Or _ _ _ _ _ _ _ _ _ hr5.out hs5.out (by omega) (by omega)).mono ?_; rintro e ws ⟨As, ns, cs, rfl, hs, ds⟩
    have hns : ns ≤ 1073741824 := by have := hs.len; have := (lor).out; omega
    have hr6 := Lib.hid (hr5.out.below ds)
    have hs6 := Lib.hid (hs5.out.below ds)
    have bb6 := Lib.hid (below_trans2 bb5.out ds)
    have xr_6 := Lib.hid (xr_5.out.below ds)
    clear ds hr5 hs5 bb5 xr_5
    replace hs := Lib.hid hs
    have xs_6 := hs
    clear hs
    go_wp2_with fail
    refine (ref2_Same _ _ _ _ _ _ _ _ _ xr_6.out xs_6.out (by omega) (by omega)).mono ?_; rintro e wq6 ⟨rfl, hq⟩
    have dq := RetQ.below (e := .returned (.bool true)) (v := .bool true) (⟨rfl, hq⟩ : RetQ _ _ _ wq6)
    clear hq
    rw [sor.out]
    have hr7 := Lib.hid (hr6.out.below dq)
    have hs7 := Lib.hid (hs6.out.below dq)
    have bb7 := Lib.hid (below_trans2 bb6.out dq)
    have xr_7 := Lib.hid (xr_6.out.below dq)
    have xs_7 := Lib.hid (xs_6.out.below dq)
    clear dq hr6 hs6 bb6 xr_6 xs_6
    clear xr_7
    clear xs_7
    go_wp2_with fail
    refine (row_Sub _ _ _ _ _ _ _ _ _ hr7.out hs7.out (by omega) (by omega)).mono ?_; rintro e w' ⟨rfl, rfl⟩
    go_wp2_with fail
    refine (ref2_Sub _ _ _ _ _ _ _ _ _ hr7.out hs7.out (by omega) (by omega)).mono ?_; rintro e wz7 ⟨rfl, dz⟩
    have hr8 := Lib.hid (hr7.out.below dz)
    have hs8 := Lib.hid (hs7.out.below dz)
    have bb8 := Lib.hid (below_trans2 bb7.out dz)
    clear dz hr7 hs7 bb7
    go_wp2_with fail
    refine (row_Count _ _ _ _ _ hr8.out (by omega)).mono ?_; rintro e w' ⟨rfl, rfl⟩
    go_wp2_with fail
    refine (ref2_Count _ _ _ _ _ hr8.out (by omega)).mono ?_; rintro e wz8 ⟨rfl, dz⟩
    have hr9 := Lib.hid (hr8.out.below dz)
    have hs9 := Lib.hid (hs8.out.below dz)
    have bb9 := Lib.hid (below_trans2 bb8.out dz)
    clear dz hr8 hs8 bb8
    go_wp2_with fail
    refine (row_List _ _ _ _ _ hr9.out (by omega)).mono ?_; rintro e wt ⟨At, nt, ct, rfl, ht, dt⟩
    have hnt : nt ≤ 1073741824 := by have := ht.len; have := (llist).out; omega
    have hr10 := Lib.hid (hr9.out.below dt)
    have hs10 := Lib.hid (hs9.out.below dt)
    have bb10 := Lib.hid (below_trans2 bb9.out dt)
    clear dt hr9 hs9 bb9
    replace ht := Lib.hid ht
    have xt_10 := ht
    clear ht
    go_wp2_with fail
    refine (ref2_List _ _ _ _ _ hr10.out (by omega)).mono ?_; rintro e wu ⟨Au, nu, cu, rfl, hu, du⟩
    have hnu : nu ≤ 1073741824 := by have := hu.len; have := (llist).out; omega
    have hr11 := Lib.hid (hr10.out.below du)
    have hs11 := Lib.hid (hs10.out.below du)
    have bb11 := Lib.hid (below_trans2 bb10.out du)
    have xt_11 := Lib.hid (xt_10.out.below du)
    clear du hr10 hs10 bb10 xt_10
    replace hu := Lib.hid hu
    have xu_11 := hu
    clear hu
    go_wp2_with fail
    refine (ref2_Ints _ _ _ _ _ _ _ _ _ xt_11.out xu_11.out (by omega) (by omega)).mono ?_; rintro e wq11 ⟨rfl, hq⟩
    have dq := RetQ.below (e := .returned (.bool true)) (v := .bool true) (⟨rfl, hq⟩ : RetQ _ _ _ wq11)
    clear hq
    rw [slist.out]
    have hr12 := Lib.hid (hr11.out.below dq)
    have hs12 := Lib.hid (hs11.out.below dq)
    have bb12 := Lib.hid (below_trans2 bb11.out dq)
    have xt_12 := Lib.hid (xt_11.out.below dq)
    have xu_12 := Lib.hid (xu_11.out.below dq)
    clear dq hr11 hs11 bb11 xt_11 xu_11
    clear xt_12
    clear xu_12
    go_wp2_with fail
    refine (row_Same _ _ _ _ _ _ _ _ _ hr12.out hs12.out (by omega) (by omega)).mono ?_; rintro e w' ⟨rfl, rfl⟩
    go_wp2_with fail
    refine (ref2_Same _ _ _ _ _ _ _ _ _ hr12.out hs12.out (by omega) (by omega)).mono ?_; rintro e wq12 ⟨rfl, hq⟩
    have dq := RetQ.below (e := .returned (.bool true)) (v := .bool true) (⟨rfl, hq⟩ : RetQ _ _ _ wq12)
    clear hq
    have hr13 := Lib.hid (hr12.out.below dq)
    have hs13 := Lib.hid (hs12.out.below dq)
    have bb13 := Lib.hid (below_trans2 bb12.out dq)
    clear dq hr12 hs12 bb12
    go_wp2
    go_ret
    exact ⟨ret_bool (by simp), bb13.out⟩

end Go.Proofs.Ytjiinfhfeajooaa
