/- Layer 8's law ShowTells, walked (where what comes in is of no more than 2^40 operations). -/
import Derived.Test.YtkccefgmiaoinaaLaw8A
namespace Go.Proofs.Ytkccefgmiaoinaa
open Go.RowKit
set_option linter.unusedVariables false

/-- what ShowTells keeps: the history, the operation, and what was there -/
structure ShowI (w : World) (A : Option Addr) (n : Nat) (hs : List (List OpT)) (g : Nat) (o : OpT) (wr : World) : Prop where
  x : HistAt wr A n hs
  o : Blk wr g 24 [.bool o.1, .string o.2.1, .int .i64 o.2.2]
  b : Below w.heap.size w wr
theorem ShowI.later {w : World} {A : Option Addr} {n : Nat} {hs : List (List OpT)} {g : Nat} {o : OpT} {wr w' : World} (h : ShowI w A n hs g o wr) (hb : Below wr.heap.size wr w') : ShowI w A n hs g o w' := ⟨h.x.below hb, h.o.below hb h.o.lt, below_trans2 h.b hb⟩
set_option maxRecDepth 100000 in
set_option maxHeartbeats 2000000 in
theorem law8_ShowTells (A : Option Addr) (n c : Nat) (hs : List (List OpT)) (x : Bool) (y : ByteArray) (z : Int) (w : World) (hX : HistAt w A n hs) (hnc : n ≤ c) (hc : c ≤ 1099511627776) (hF : (allO hs).length ≤ 1099511627776)
    (z0 : -9223372036854775808 ≤ z) (z1 : z < 9223372036854775808) (hy : y.size ≤ 9223372036854775807) :
    Calls Try.prog 3 #[.slice A n c, .agg #[.bool x, .string y, .int .i64 z]] w (RetBool true w) := by
  have hXl := hX.len
  obtain ⟨g, hg⟩ : ∃ g, g = w.heap.size := ⟨_, rfl⟩
  obtain ⟨W, hW⟩ : ∃ W, W = w.alloc (.cells #[.bool x, .string y, .int .i64 z] 24) := ⟨_, rfl⟩
  have bb := show Below w.heap.size w W from by rw [hW]; exact (Below.refl _ w).alloc (Nat.le_refl _) _
  have hI := Lib.hid (⟨hX.below bb, by rw [hW, hg]; exact Blk.new w _ _, bb⟩ : ShowI w A n hs g (x, y, z) W)
  clear hX bb
  replace hXl := Lib.hid hXl
  have cSa := Lib.hid (ref6_Small A n c 60 hs W hI.out.x (by omega) (by omega))
  cases hsa : smallL hs 60 with
  | false =>
    rw [hsa] at cSa
    clear hsa
    go_enter Try.func3, Try.ntmps3
    go_wp2_with (rw [← hW, ← hg]; clear hW; replace hg := Lib.hid hg)
    refine cSa.out.mono ?_; rintro e w1 ⟨rfl, b4⟩
    replace hI := Lib.hid (hI.out.later b4)
    go_wp2_with fail
    refine (law8_awake w1).mono ?_; rintro e w9 ⟨rfl, b9⟩
    go_wp2_with fail
    go_ret
    exact ⟨rfl, below_trans2 hI.out.b b9⟩
  | true =>
    rw [hsa] at cSa
    obtain ⟨hnx, hFx60, -⟩ := smallL_says hsa
    rw [hXl.out] at hnx
    clear hsa
    by_cases hy20 : y.size ≤ 20
    · have k1 : ¬ (20 : Int) < (y.size : Int) := by omega
      go_enter Try.func3, Try.ntmps3
      go_wp2_with (rw [← hW, ← hg]; clear hW; replace hg := Lib.hid hg)
      refine cSa.out.mono ?_; rintro e w1 ⟨rfl, b4⟩
      replace hI := Lib.hid (hI.out.later b4)
      clear b4 cSa
      have q1 := hI.out.o.cell 1
      obtain ⟨S, hS⟩ : ∃ S, S = shownS hs := ⟨_, rfl⟩
      obtain ⟨E, hE⟩ : ∃ E, E = shownE hs := ⟨_, rfl⟩
      have c1 := show_Text A n c hs w1 hI.out.x hnc (by omega) (by omega) hF
      unfold RetShow at c1
      rw [← hS, ← hE] at c1
      replace c1 := Lib.hid c1
      go_wp2_with fail
      refine c1.out.mono ?_; rintro e w2 ⟨rfl, b4⟩
      replace hI := Lib.hid (hI.out.later b4)
      clear b4 c1 q1
      have c2 := ref8_Text A n c hs w2 hI.out.x (by omega) (by omega)
      unfold RetShow at c2
      rw [← hS, ← hE] at c2
      replace c2 := Lib.hid c2
      replace hS := Lib.hid hS
      replace hE := Lib.hid hE
      go_wp2_with fail
      refine c2.out.mono ?_; rintro e w3 ⟨rfl, b4⟩
      replace hI := Lib.hid (hI.out.later b4)
      clear b4 c2
      go_wp2_with fail
      refine wp_region_plan 19 [(false, 0), (true, 1), (true, 2), (true, 3), (true, 4), (true, 5), (true, 6), (true, 7), (true, 8), (true, 9), (true, 10), (true, 11), (true, 12), (true, 14), (false, 13), (false, 15), (true, 16), (true, 17), (true, 18)] (by kernel_rfl) (by kernel_rfl) (fun X hX => ?_)
      replace hI := Lib.hid (show ShowI w A n hs g (x, y, z) X from by rw [hX.out]; exact ⟨hI.out.x, hI.out.o.drew, hI.out.b.drew⟩)
      clear hX
      simp only [List.drop_succ_cons, List.drop_nil]
      refine wpPlan_only rfl (by rfl) (fun K hK => ?_)
      go_simp
      refine (law8_awake X).mono ?_
      rintro e w4 ⟨rfl, b4⟩
      refine hK _ _ b4 ?_
      clear hK K
      replace hI := Lib.hid (hI.out.later b4)
      clear b4
      have eS : (S.toList == S.toList) = true := by simp
      have eE : (E == E) = true := by simp
      have q0 := hI.out.o.cell 0
      have q1 := hI.out.o.cell 1
      have q2 := hI.out.o.cell 2
      iterate 13
        refine wpPlan_float (v := ?_) rfl (by rfl) (fun w' hw' => ?_) (fun K hK => ?_)
        rotate_left
        · (go_simp; try with_reducible rfl)
        go_simp
        refine hK _ ?_
        clear hK K
      have cO := Lib.hid (show_Op (x, y, z) w4 z0 z1 (by show y.size ≤ 1000; omega))
      refine wpPlan_only rfl (by rfl) (fun K hK => ?_)
      go_simp
      refine cO.out.mono ?_
      rintro e w5 ⟨rfl, b4⟩
      refine hK _ _ b4 ?_
      clear hK K
      replace hI := Lib.hid (hI.out.later b4)
      clear b4 cO
      have cO := Lib.hid (ref8_Op (x, y, z) w5 z0 z1 (by show y.size ≤ 1000; omega))
      refine wpPlan_only rfl (by rfl) (fun K hK => ?_)
      go_simp
      refine cO.out.mono ?_
      rintro e w6 ⟨rfl, b4⟩
      refine hK _ _ b4 ?_
      clear hK K
      replace hI := Lib.hid (hI.out.later b4)
      clear b4 cO
      have eO : ((bytesL (showO (x, y, z))).toList == (bytesL (showO (x, y, z))).toList) = true := by simp
      iterate 3
        refine wpPlan_float (v := ?_) rfl (by rfl) (fun w' hw' => ?_) (fun K hK => ?_)
        rotate_left
        · (go_simp; try with_reducible rfl)
        go_simp
        refine hK _ ?_
        clear hK K
      refine wpPlan_nil (NoPanic.normal ?_)
      go_wp2_with fail
      go_ret
      exact ⟨rfl, hI.out.b⟩
    · have k1 : (20 : Int) < (y.size : Int) := by omega
      go_enter Try.func3, Try.ntmps3
      go_wp2_with (rw [← hW, ← hg]; clear hW; replace hg := Lib.hid hg)
      refine cSa.out.mono ?_; rintro e w1 ⟨rfl, b4⟩
      replace hI := Lib.hid (hI.out.later b4)
      have q1 := hI.out.o.cell 1
      go_wp2_with fail
      refine (law8_awake w1).mono ?_; rintro e w9 ⟨rfl, b9⟩
      go_wp2_with fail
      go_ret
      exact ⟨rfl, below_trans2 hI.out.b b9⟩

end Go.Proofs.Ytkccefgmiaoinaa
