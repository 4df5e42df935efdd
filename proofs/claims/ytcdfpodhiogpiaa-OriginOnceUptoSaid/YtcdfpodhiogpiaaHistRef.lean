/- The contracts of the document's own answers of layer 6: Name, Flat, Count, Right, Spot, Small. -/
import Derived.Test.YtcdfpodhiogpiaaProg
import Derived.Test.YtcdfpodhiogpiaaHistMemB
import Derived.BigQuiet
namespace Go.Proofs.Ytcdfpodhiogpiaa
open Go.RowKit
set_option linter.unusedVariables false

theorem info_op : (Try.prog.info? 47).map (fun i => (i.zero, i.size, i.bytes)) = some (some (.agg #[.bool false, .string .empty, .int .i64 0]), 3, 32) := by kernel_rfl
set_option maxRecDepth 100000 in
set_option maxHeartbeats 2000000 in
theorem ref6_Flat (A : Option Addr) (n c : Nat) (hs : List (List OpT)) (w : World) (hH : HistAt w A n hs) (hn : n ≤ 9223372036854775807) (hF : (allO hs).length ≤ 4398046511104) :
    Calls Try.prog 28 #[.slice A n c] w (RetOps 47 (allO hs) w) := by
  obtain ⟨i0, hi, hz0, hz1, hz2⟩ := info_parts info_op
  replace hH := Lib.hid hH
  go_enter Try.func28, Try.ntmps28
  go_wp2_with fail
  go_loopw [3, 4] (fun v i wr => ∃ k : Nat, k ≤ n ∧ i = .int .i64 k ∧ Hid (wr.ownsRow w.heap.size 47 3 v (allO (hs.take k)).length (cellsO (allO (hs.take k))) ∧ OkO (allO (hs.take k)) ∧ Below w.heap.size w wr)) (fun _ i _ => n - (intOf i).toNat)
  case atStart => exact ⟨0, Nat.zero_le _, rfl, Lib.hid ⟨World.ownsRow_nil _ _ _ _, fun o h => by simp [allO] at h, Below.refl _ _⟩⟩
  case round =>
    obtain ⟨k, hk, rfl, hI⟩ := hrel
    by_cases hlt : k < n
    · obtain ⟨b, off, B, m, cc, os, rfl, hb, hos, hcell, hmc, hm63, hO⟩ := (hH.out.below hI.out.2.2).at_ hlt
      have hlen := allO_take_succ hos
      have hle := allO_take_le hs (k + 1)
      rw [hlen, List.length_append, hO.len] at hle
      have hlt' : (k : Int) < (n : Int) := by omega
      replace hO := Lib.hid hO
      replace hlen := Lib.hid hlen
      replace hos := Lib.hid hos
      replace hmc := Lib.hid hmc
      clear hlt
      go_wp2_with (at_builtin; refine wpList_append_ops rfl (.tmp 11) (.tmp 15) _ rfl w.heap.size 47 i0 _ Try.underlying48 hi hz0 hz1 hz2 rfl _ _ _ (by rfl) hI.out.1 _ _ _ _ rfl hO.out (by omega) hI.out.2.2.size ?_; intro v' w' hown' hb')
      refine ⟨⟨k + 1, by omega, by go_num, Lib.hid ⟨by rw [hlen.out, List.length_append, hO.out.len]; exact hown', by rw [hlen.out]; exact okO_append hI.out.2.1 hO.out.2.1, hI.out.2.2.trans hb'⟩⟩, by simp [intOf]; omega⟩
    · have hkn : k = n := by omega
      have hall : hs.take k = hs := by rw [hkn, ← hH.out.len]; exact List.take_length
      rw [hall] at hI
      have hkn' : ¬ (k : Int) < (n : Int) := by omega
      clear hlt hkn hall
      obtain ⟨A', cap, hv, hO⟩ := OpsAt.of_own hI.out.1 hI.out.2.1 rfl
      subst hv
      go_wp2_with fail
      go_ret
      exact ⟨A', _, cap, rfl, hI.out.1, rfl, hI.out.2.1, hO, OwnsRow.cap_le hI.out.1, hI.out.2.2⟩

theorem ref6_Count (A : Option Addr) (n c : Nat) (hs : List (List OpT)) (w : World) (hH : HistAt w A n hs) (hn : n ≤ 9223372036854775807) (hF : (allO hs).length ≤ 4398046511104) :
    Calls Try.prog 27 #[.slice A n c] w fun e w' => e = .returned (.int .i64 ((allO hs).length : Nat)) ∧ Below w.heap.size w w' := by
  have cF := Lib.hid (ref6_Flat A n c hs w hH hn hF)
  clear hH
  go_enter Try.func27, Try.ntmps27
  go_wp2_with fail
  refine cF.out.mono ?_; rintro e w1 ⟨A1, n1, c1, rfl, -, h1, -, -, -, b⟩
  go_wp2_with fail
  go_ret
  exact ⟨by rw [← h1]; rfl, b⟩
theorem name_size (s : ByteArray) : s.data.toList.length = s.size := by cases s; rfl
theorem name_byte (s : ByteArray) (k : Nat) (h : k < s.size) : s.data.toList[k]? = some (s[k]'h) := by
  obtain ⟨⟨l⟩⟩ := s
  exact List.getElem?_eq_getElem h
theorem nameL_no {l : List UInt8} {k : Nat} {c : UInt8} (h : l[k]? = some c) (hc : ¬ (97 ≤ c.toNat ∧ c.toNat ≤ 122)) : nameL l = false := by
  unfold nameL
  have : l.all (fun c => decide (97 ≤ c.toNat) && decide (c.toNat ≤ 122)) = false := by
    rw [List.all_eq_false]
    exact ⟨c, List.mem_of_getElem? h, by simpa using fun h1 => by omega⟩
  rw [this]; rfl
theorem nameL_len {l : List UInt8} (h : ∀ j, j < l.length → ∃ c, l[j]? = some c ∧ 97 ≤ c.toNat ∧ c.toNat ≤ 122) : nameL l = (decide (1 ≤ l.length) && decide (l.length ≤ 8)) := by
  unfold nameL
  have : l.all (fun c => decide (97 ≤ c.toNat) && decide (c.toNat ≤ 122)) = true := by
    rw [List.all_eq_true]
    intro c hc
    obtain ⟨j, hj⟩ := List.getElem?_of_mem hc
    obtain ⟨d, hd, h1, h2⟩ := h j (List.getElem?_eq_some_iff.1 hj).1
    rw [hj] at hd; injection hd with hd; subst hd
    simp [h1, h2]
  rw [this, Bool.true_and]
set_option maxRecDepth 100000 in
set_option maxHeartbeats 2000000 in
theorem ref6_Name (s : ByteArray) (w : World) (hs : s.size ≤ 9223372036854775807) :
    Calls Try.prog 29 #[.string s] w fun e w' => e = .returned (.bool (nameL s.data.toList)) ∧ w' = w := by
  go_enter Try.func29, Try.ntmps29
  go_wp2_with fail
  go_loop [3] (fun t => ∃ q : Nat, t = .int .i64 q ∧ q ≤ s.size ∧ Hid (∀ j, j < q → ∃ c, s.data.toList[j]? = some c ∧ 97 ≤ c.toNat ∧ c.toNat ≤ 122)) (fun t => s.size - (intOf t).toNat)
  case atStart => exact ⟨0, rfl, by omega, Lib.hid (fun j hj => absurd hj (by omega))⟩
  case round =>
    obtain ⟨q, rfl, hq, hall⟩ := hrel
    by_cases hlt : (q : Int) < (s.size : Int)
    · have h : 0 ≤ (q : Int) ∧ (q : Int) < (s.size : Int) := ⟨by omega, hlt⟩
      have hlt' : q < s.size := by omega
      obtain ⟨c, hc⟩ : ∃ c : UInt8, s[q]'hlt' = c := ⟨_, rfl⟩
      have hcl : Hid (s.data.toList[q]? = some c) := Lib.hid (by rw [name_byte s q hlt', hc])
      by_cases h97 : 97 ≤ c.toNat
      · by_cases h122 : c.toNat ≤ 122
        · have e1 : ¬ (c.toNat : Int) < 97 := by omega
          have e2 : ¬ (122 : Int) < (c.toNat : Int) := by omega
          have hall' : Hid (∀ j, j < q + 1 → ∃ c, s.data.toList[j]? = some c ∧ 97 ≤ c.toNat ∧ c.toNat ≤ 122) := Lib.hid (fun j hj => by
            rcases Nat.lt_succ_iff_lt_or_eq.1 hj with h1 | h1
            · exact hall.out j h1
            · subst h1
              exact ⟨c, hcl.out, h97, h122⟩)
          clear hall h97 h122
          go_wp2_with fail
          go_round
          case rel => exact ⟨q + 1, by go_num, by omega, hall'⟩
          case measure => simp [intOf]; omega
        · have e1 : ¬ (c.toNat : Int) < 97 := by omega
          have e2 : (122 : Int) < (c.toNat : Int) := by omega
          have hres := Lib.hid (nameL_no hcl.out (by omega))
          clear hall h97 h122
          go_wp2_with fail
          go_ret
          exact ⟨by rw [hres.out]; rfl, rfl⟩
      · have e1 : (c.toNat : Int) < 97 := by omega
        have hres := Lib.hid (nameL_no hcl.out (by omega))
        clear hall h97
        go_wp2_with fail
        go_ret
        exact ⟨by rw [hres.out]; rfl, rfl⟩
    · have hqs : q = s.data.toList.length := by rw [name_size]; omega
      have hres := Lib.hid (nameL_len (l := s.data.toList) (by rw [← hqs]; exact hall.out))
      rw [name_size] at hres
      clear hall hqs
      by_cases h1 : 1 ≤ s.size
      · have h1' : (1 : Int) ≤ (s.size : Int) := by omega
        by_cases h8 : s.size ≤ 8
        · have h8' : (s.size : Int) ≤ 8 := by omega
          rw [decide_eq_true h1, decide_eq_true h8] at hres
          clear h1 h8
          go_wp2_with fail
          go_ret
          exact ⟨by rw [hres.out]; rfl, rfl⟩
        · have h8' : ¬ (s.size : Int) ≤ 8 := by omega
          rw [decide_eq_true h1, decide_eq_false h8] at hres
          clear h1 h8
          go_wp2_with fail
          go_ret
          exact ⟨by rw [hres.out]; rfl, rfl⟩
      · have h1' : ¬ (1 : Int) ≤ (s.size : Int) := by omega
        rw [decide_eq_false h1] at hres
        clear h1
        go_wp2_with fail
        go_ret
        exact ⟨by rw [hres.out]; rfl, rfl⟩

theorem rightL_no {hs : List (List OpT)} {k : Nat} {o : OpT} (h : (allO hs)[k]? = some o) (hc : nameL o.2.1.data.toList = false) : rightL hs = false := by
  unfold rightL
  have : (allO hs).all (fun o => nameL o.2.1.data.toList) = false := by
    rw [List.all_eq_false]
    exact ⟨o, List.mem_of_getElem? h, by rw [hc]; simp⟩
  rw [this]; rfl
theorem rightL_len {hs : List (List OpT)} (h : ∀ j, j < (allO hs).length → ∃ o, (allO hs)[j]? = some o ∧ nameL o.2.1.data.toList = true) : rightL hs = decide ((allO hs).length ≤ 4096) := by
  unfold rightL
  have : (allO hs).all (fun o => nameL o.2.1.data.toList) = true := by
    rw [List.all_eq_true]
    intro o ho
    obtain ⟨j, hj⟩ := List.getElem?_of_mem ho
    obtain ⟨d, hd, h1⟩ := h j (List.getElem?_eq_some_iff.1 hj).1
    rw [hj] at hd; injection hd with hd; subst hd
    exact h1
  rw [this, Bool.true_and]
set_option maxRecDepth 100000 in
set_option maxHeartbeats 2000000 in
theorem ref6_Right (A : Option Addr) (n c : Nat) (hs : List (List OpT)) (w : World) (hH : HistAt w A n hs) (hn : n ≤ 9223372036854775807) (hF : (allO hs).length ≤ 4398046511104) :
    Calls Try.prog 17 #[.slice A n c] w fun e w' => e = .returned (.bool (rightL hs)) ∧ Below w.heap.size w w' := by
  have cF := Lib.hid (ref6_Flat A n c hs w hH hn hF)
  clear hH
  go_enter Try.func17, Try.ntmps17
  go_wp2_with fail
  refine cF.out.mono ?_; rintro e w1 ⟨A1, n1, c1, rfl, -, h1, -, hO, hmc, b⟩
  replace hO := Lib.hid hO
  replace h1 := Lib.hid h1
  replace hmc := Lib.hid hmc
  replace b := Lib.hid b
  have hF' : n1 ≤ 4398046511104 := by rw [h1.out]; exact hF
  clear hF
  go_wp2_with fail
  go_loop [4] (fun t => ∃ q : Nat, t = .int .i64 q ∧ q ≤ n1 ∧ Hid (∀ j, j < q → ∃ o, (allO hs)[j]? = some o ∧ nameL o.2.1.data.toList = true)) (fun t => n1 - (intOf t).toNat)
  case atStart => exact ⟨0, rfl, by omega, Lib.hid (fun j hj => absurd hj (by omega))⟩
  case round =>
    obtain ⟨q, rfl, hq, hall⟩ := hrel
    by_cases hlt : q < n1
    · obtain ⟨bb, off, o, rfl, hb, ho, hok, c0, c1', c2⟩ := hO.out.at_ hlt
      have hlt' : (q : Int) < (n1 : Int) := by omega
      have cN := Lib.hid (ref6_Name o.2.1 w1 hok.2)
      cases hnm : nameL o.2.1.data.toList with
      | true =>
        rw [hnm] at cN
        have hall' : Hid (∀ j, j < q + 1 → ∃ o, (allO hs)[j]? = some o ∧ nameL o.2.1.data.toList = true) := Lib.hid (fun j hj => by
          rcases Nat.lt_succ_iff_lt_or_eq.1 hj with h1 | h1
          · exact hall.out j h1
          · subst h1; exact ⟨o, ho, hnm⟩)
        replace ho := Lib.hid ho
        clear hall hlt hnm hok
        go_wp2_with fail
        refine cN.out.mono ?_; rintro e w' ⟨rfl, rfl⟩
        go_wp2_with fail
        go_round
        case rel => exact ⟨q + 1, by go_num, by omega, hall'⟩
        case measure => simp [intOf]; omega
      | false =>
        rw [hnm] at cN
        have hres := Lib.hid (rightL_no ho hnm)
        replace ho := Lib.hid ho
        clear hall hlt hnm hok
        go_wp2_with fail
        refine cN.out.mono ?_; rintro e w' ⟨rfl, rfl⟩
        go_wp2_with fail
        go_ret
        exact ⟨by rw [hres.out]; rfl, b.out⟩
    · have hqn : q = n1 := by omega
      have hres := Lib.hid (rightL_len (hs := hs) (by rw [← h1.out, ← hqn]; exact hall.out))
      rw [← h1.out] at hres
      have hlt' : ¬ (q : Int) < (n1 : Int) := by omega
      clear hall hqn hlt
      by_cases h8 : n1 ≤ 4096
      · have h8' : (n1 : Int) ≤ 4096 := by omega
        rw [decide_eq_true h8] at hres
        clear h8
        go_wp2_with fail
        go_ret
        exact ⟨by rw [hres.out]; rfl, b.out⟩
      · have h8' : ¬ (n1 : Int) ≤ 4096 := by omega
        rw [decide_eq_false h8] at hres
        clear h8
        go_wp2_with fail
        go_ret
        exact ⟨by rw [hres.out]; rfl, b.out⟩
theorem smallL_no1 {hs : List (List OpT)} {most : Int} (h : most < (hs.length : Int)) : smallL hs most = false := by
  unfold smallL; rw [decide_eq_false (by omega : ¬ (hs.length : Int) ≤ most)]; rfl
theorem smallL_no2 {hs : List (List OpT)} {most : Int} (h : most < ((allO hs).length : Int)) : smallL hs most = false := by
  unfold smallL; rw [decide_eq_false (by omega : ¬ ((allO hs).length : Int) ≤ most), Bool.and_false]; rfl
theorem smallL_no3 {hs : List (List OpT)} {most : Int} {k : Nat} {o : OpT} (h : (allO hs)[k]? = some o) (hc : ¬ o.2.1.size ≤ 20) : smallL hs most = false := by
  unfold smallL
  have : (allO hs).all (fun o => decide (o.2.1.size ≤ 20)) = false := by
    rw [List.all_eq_false]
    exact ⟨o, List.mem_of_getElem? h, by rw [decide_eq_false hc]; simp⟩
  rw [this, Bool.and_false]
theorem smallL_yes {hs : List (List OpT)} {most : Int} (h1 : (hs.length : Int) ≤ most) (h2 : ((allO hs).length : Int) ≤ most) (h : ∀ j, j < (allO hs).length → ∃ o, (allO hs)[j]? = some o ∧ o.2.1.size ≤ 20) : smallL hs most = true := by
  unfold smallL
  have : (allO hs).all (fun o => decide (o.2.1.size ≤ 20)) = true := by
    rw [List.all_eq_true]
    intro o ho
    obtain ⟨j, hj⟩ := List.getElem?_of_mem ho
    obtain ⟨d, hd, h1⟩ := h j (List.getElem?_eq_some_iff.1 hj).1
    rw [hj] at hd; injection hd with hd; subst hd
    exact decide_eq_true h1
  rw [this, decide_eq_true h1, decide_eq_true h2]; rfl
set_option maxRecDepth 100000 in
set_option maxHeartbeats 2000000 in
theorem ref6_Small (A : Option Addr) (n c : Nat) (most : Int) (hs : List (List OpT)) (w : World) (hH : HistAt w A n hs) (hn : n ≤ 9223372036854775807) (hF : (allO hs).length ≤ 4398046511104) :
    Calls Try.prog 16 #[.slice A n c, .int .i64 most] w fun e w' => e = .returned (.bool (smallL hs most)) ∧ Below w.heap.size w w' := by
  have hlen := hH.len
  by_cases h1 : (n : Int) ≤ most
  · have cC := Lib.hid (ref6_Count A n c hs w hH hn hF)
    obtain ⟨N, hN⟩ : ∃ N, N = (allO hs).length := ⟨_, rfl⟩
    rw [← hN] at cC
    by_cases h2 : (N : Int) ≤ most
    · have hyes := Lib.hid (fun h => smallL_yes (hs := hs) (most := most) (by rw [hlen]; exact h1) (by rw [← hN]; exact h2) h)
      replace hlen := Lib.hid hlen
      replace hH := Lib.hid hH
      replace hN := Lib.hid hN
      go_enter Try.func16, Try.ntmps16
      go_wp2_with fail
      refine cC.out.mono ?_; rintro e w1 ⟨rfl, b1⟩
      have cF := Lib.hid (ref6_Flat A n c hs w1 (hH.out.below b1) hn hF)
      replace b1 := Lib.hid b1
      replace hF := Lib.hid hF
      go_wp2_with fail
      refine cF.out.mono ?_; rintro e w2 ⟨A1, n1, c1, rfl, -, h1', -, hO, hmc, b⟩
      replace b := Lib.hid (below_trans2 b1.out b)
      replace hO := Lib.hid hO
      replace hmc := Lib.hid hmc
      have hF' : n1 ≤ 4398046511104 := by rw [h1']; exact hF.out
      rw [← h1'] at hyes
      replace h1' := Lib.hid h1'
      go_wp2_with fail
      go_loop [6] (fun t => ∃ q : Nat, t = .int .i64 q ∧ q ≤ n1 ∧ Hid (∀ j, j < q → ∃ o, (allO hs)[j]? = some o ∧ o.2.1.size ≤ 20)) (fun t => n1 - (intOf t).toNat)
      case atStart => exact ⟨0, rfl, by omega, Lib.hid (fun j hj => absurd hj (by omega))⟩
      case round =>
        obtain ⟨q, rfl, hq, hall⟩ := hrel
        by_cases hlt : q < n1
        · obtain ⟨bb, off, o, rfl, hb, ho, hok, c0, c1', c2⟩ := hO.out.at_ hlt
          have hlt' : (q : Int) < (n1 : Int) := by omega
          by_cases h20 : o.2.1.size ≤ 20
          · have hall' : Hid (∀ j, j < q + 1 → ∃ o, (allO hs)[j]? = some o ∧ o.2.1.size ≤ 20) := Lib.hid (fun j hj => by
              rcases Nat.lt_succ_iff_lt_or_eq.1 hj with h1 | h1
              · exact hall.out j h1
              · subst h1; exact ⟨o, ho, h20⟩)
            have h20' : (o.2.1.size : Int) ≤ 20 := by omega
            replace ho := Lib.hid ho
            replace hyes := Lib.hid hyes
            clear hall hlt hok h20
            go_wp2_with fail
            go_round
            case rel => exact ⟨q + 1, by go_num, by omega, hall'⟩
            case measure => simp [intOf]; omega
          · have hres := Lib.hid (smallL_no3 (most := most) ho h20)
            have h20' : (20 : Int) < (o.2.1.size : Int) := by omega
            replace ho := Lib.hid ho
            clear hall hlt hok h20
            go_wp2_with fail
            go_ret
            exact ⟨by rw [hres.out]; rfl, b.out⟩
        · have hqn : q = n1 := by omega
          have hres := Lib.hid (hyes.out (by rw [← hqn]; exact hall.out))
          have hlt' : ¬ (q : Int) < (n1 : Int) := by omega
          clear hall hqn hlt
          go_wp2_with fail
          go_ret
          exact ⟨by rw [hres.out]; rfl, b.out⟩
    · have hres := Lib.hid (smallL_no2 (hs := hs) (most := most) (by omega))
      have h2' : most < (N : Int) := by omega
      clear hH h2
      replace hN := Lib.hid hN
      replace hlen := Lib.hid hlen
      go_enter Try.func16, Try.ntmps16
      go_wp2_with fail
      refine cC.out.mono ?_; rintro e w1 ⟨rfl, b1⟩
      go_wp2_with fail
      go_ret
      exact ⟨by rw [hres.out]; rfl, b1⟩
  · have hres := Lib.hid (smallL_no1 (hs := hs) (most := most) (by omega))
    have h1' : most < (n : Int) := by omega
    clear hH h1
    replace hlen := Lib.hid hlen
    go_enter Try.func16, Try.ntmps16
    go_wp2_with fail
    go_ret
    exact ⟨by rw [hres.out]; rfl, Below.refl _ _⟩

end Go.Proofs.Ytcdfpodhiogpiaa
