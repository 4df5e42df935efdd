/- The contracts of the document's own answers of layer 6: Name, Flat, Count, Right, Spot, Small. The contracts of the document's own answers of layer 6: Spot, Number, Same. The contracts of the document's own answers of layer 9, first half: find, texts, items, Ints, Same, Small. The contract of the document's own answer of layer 9: Of. The contracts of the document's own answers of layer 9: Same, Small. The contracts of the document's own answers of layer 11: From, Fill, Whole, Readers. The contracts of the document's own answers of layer 12: Ahead, Past, Po. The contracts of the document's own answers of layer 16: Of, With, Writes, Kept. The contracts of the document's own answers of layer 17: Edges. A region that draws its order, walked by a tree of orders: what only reads (in every world that meets S) is taken as soon as it may come up; what changes memory, and stays in S, comes up alone, or as one of two: then both ways are walked. S is the prover's: as a rule 'the blocks that were there at the region's start are as they were': so an alloc beside calls, and stores into what the region made, are steps too. No function of the program is named here. The contracts of the document's own answers of layer 13: Rf, Edges, Co. The contracts of the document's own answers of layer 13: Edges, Co. The contracts of the document's own answers of layer 17: Same, Cf. The contracts of the document's own answers of layer 19: None, thin, round. A region that draws its order, by a plan (XPlan), in which some blocks of the caller's may change (those of a predicate): what reads must not read it. No function of the program is named here. -/
import Derived.Test.YtjhjojklfdjmdaaGreatProg
import Derived.Test.YtjhjojklfdjmdaaGreatBadFieldsPk1
import Derived.BigQuiet
import Derived.Test.YtjhjojklfdjmdaaGreatBadFieldsPk3
import Derived.Test.YtjhjojklfdjmdaaGreatBadFieldsPk4
import Derived.Test.YtjhjojklfdjmdaaGreatBadFieldsPk2
namespace Go.Proofs.YtjhjojklfdjmdaaGreat
open Go.RowKit
set_option linter.unusedVariables false

theorem info_op : (Tryz.prog.info? 49).map (fun i => (i.zero, i.size, i.bytes)) = some (some (.agg #[.bool false, .string .empty, .int .i64 0]), 3, 32) := by kernel_rfl
set_option maxRecDepth 100000 in
set_option maxHeartbeats 2000000 in
theorem ref6_Flat (A : Option Addr) (n c : Nat) (hs : List (List OpT)) (w : World) (hH : HistAt w A n hs) (hn : n ≤ 9223372036854775807) (hF : (allO hs).length ≤ 4398046511104) :
    Calls Tryz.prog 16 #[.slice A n c] w (RetOps 49 (allO hs) w) := by
  obtain ⟨i0, hi, hz0, hz1, hz2⟩ := info_parts info_op
  replace hH := Lib.hid hH
  go_enter Tryz.func16, Tryz.ntmps16
  go_wp2_with fail
  go_loopw [3, 4] (fun v i wr => ∃ k : Nat, k ≤ n ∧ i = .int .i64 k ∧ Hid (wr.ownsRow w.heap.size 49 3 v (allO (hs.take k)).length (cellsO (allO (hs.take k))) ∧ OkO (allO (hs.take k)) ∧ Below w.heap.size w wr)) (fun _ i _ => n - (intOf i).toNat)
  case atStart => exact ⟨0, Nat.zero_le _, rfl, Lib.hid ⟨World.ownsRow_nil _ _ _ _, fun o h => by simp [allO] at h, Below.refl _ _⟩⟩
  case round =>
    obtain ⟨k, hk, rfl, hI⟩ := hrel
    by_cases hlt : k < n
    · obtain ⟨b, off, B, m, cc, os, rfl, hb, hos, hcell, hmc, hm63, hO⟩ := (hH.out.below hI.out.2.2).at_ hlt
      have hlen := allO_take_succ hos
      have hle := allO_take_le hs (k + 1)
      rw [hlen, List.length_append, hO.len] at hle
      have hlt' : (k : Int) < (n : Int) := by omega
      replace hO := Lib.hid hO
      replace hlen := Lib.hid hlen
      replace hos := Lib.hid hos
      replace hmc := Lib.hid hmc
      clear hlt
      go_wp2_with (at_builtin; refine wpList_append_ops rfl (.tmp 11) (.tmp 15) _ rfl w.heap.size 49 i0 _ Tryz.underlying46 hi hz0 hz1 hz2 rfl _ _ _ (by rfl) hI.out.1 _ _ _ _ rfl hO.out (by omega) hI.out.2.2.size ?_; intro v' w' hown' hb')
      refine ⟨⟨k + 1, by omega, by go_num, Lib.hid ⟨by rw [hlen.out, List.length_append, hO.out.len]; exact hown', by rw [hlen.out]; exact okO_append hI.out.2.1 hO.out.2.1, hI.out.2.2.trans hb'⟩⟩, by simp [intOf]; omega⟩
    · have hkn : k = n := by omega
      have hall : hs.take k = hs := by rw [hkn, ← hH.out.len]; exact List.take_length
      rw [hall] at hI
      have hkn' : ¬ (k : Int) < (n : Int) := by omega
      clear hlt hkn hall
      obtain ⟨A', cap, hv, hO⟩ := OpsAt.of_own hI.out.1 hI.out.2.1 rfl
      subst hv
      go_wp2_with fail
      go_ret
      exact ⟨A', _, cap, rfl, hI.out.1, rfl, hI.out.2.1, hO, OwnsRow.cap_le hI.out.1, hI.out.2.2⟩

theorem ref6_Count (A : Option Addr) (n c : Nat) (hs : List (List OpT)) (w : World) (hH : HistAt w A n hs) (hn : n ≤ 9223372036854775807) (hF : (allO hs).length ≤ 4398046511104) :
    Calls Tryz.prog 15 #[.slice A n c] w fun e w' => e = .returned (.int .i64 ((allO hs).length : Nat)) ∧ Below w.heap.size w w' := by
  have cF := Lib.hid (ref6_Flat A n c hs w hH hn hF)
  clear hH
  go_enter Tryz.func15, Tryz.ntmps15
  go_wp2_with fail
  refine cF.out.mono ?_; rintro e w1 ⟨A1, n1, c1, rfl, -, h1, -, -, -, b⟩
  go_wp2_with fail
  go_ret
  exact ⟨by rw [← h1]; rfl, b⟩
theorem name_size (s : ByteArray) : s.data.toList.length = s.size := by cases s; rfl
theorem name_byte (s : ByteArray) (k : Nat) (h : k < s.size) : s.data.toList[k]? = some (s[k]'h) := by
  obtain ⟨⟨l⟩⟩ := s
  exact List.getElem?_eq_getElem h
theorem nameL_no {l : List UInt8} {k : Nat} {c : UInt8} (h : l[k]? = some c) (hc : ¬ (97 ≤ c.toNat ∧ c.toNat ≤ 122)) : nameL l = false := by
  unfold nameL
  have : l.all (fun c => decide (97 ≤ c.toNat) && decide (c.toNat ≤ 122)) = false := by
    rw [List.all_eq_false]
    exact ⟨c, List.mem_of_getElem? h, by simpa using fun h1 => by omega⟩
  rw [this]; rfl
theorem nameL_len {l : List UInt8} (h : ∀ j, j < l.length → ∃ c, l[j]? = some c ∧ 97 ≤ c.toNat ∧ c.toNat ≤ 122) : nameL l = (decide (1 ≤ l.length) && decide (l.length ≤ 8)) := by
  unfold nameL
  have : l.all (fun c => decide (97 ≤ c.toNat) && decide (c.toNat ≤ 122)) = true := by
    rw [List.all_eq_true]
    intro c hc
    obtain ⟨j, hj⟩ := List.getElem?_of_mem hc
    obtain ⟨d, hd, h1, h2⟩ := h j (List.getElem?_eq_some_iff.1 hj).1
    rw [hj] at hd; injection hd with hd; subst hd
    simp [h1, h2]
  rw [this, Bool.true_and]
set_option maxRecDepth 100000 in
set_option maxHeartbeats 2000000 in
theorem ref6_Name (s : ByteArray) (w : World) (hs : s.size ≤ 9223372036854775807) :
    Calls Tryz.prog 46 #[.string s] w fun e w' => e = .returned (.bool (nameL s.data.toList)) ∧ w' = w := by
  go_enter Tryz.func46, Tryz.ntmps46
  go_wp2_with fail
  go_loop [3] (fun t => ∃ q : Nat, t = .int .i64 q ∧ q ≤ s.size ∧ Hid (∀ j, j < q → ∃ c, s.data.toList[j]? = some c ∧ 97 ≤ c.toNat ∧ c.toNat ≤ 122)) (fun t => s.size - (intOf t).toNat)
  case atStart => exact ⟨0, rfl, by omega, Lib.hid (fun j hj => absurd hj (by omega))⟩
  case round =>
    obtain ⟨q, rfl, hq, hall⟩ := hrel
    by_cases hlt : (q : Int) < (s.size : Int)
    · have h : 0 ≤ (q : Int) ∧ (q : Int) < (s.size : Int) := ⟨by omega, hlt⟩
      have hlt' : q < s.size := by omega
      obtain ⟨c, hc⟩ : ∃ c : UInt8, s[q]'hlt' = c := ⟨_, rfl⟩
      have hcl : Hid (s.data.toList[q]? = some c) := Lib.hid (by rw [name_byte s q hlt', hc])
      by_cases h97 : 97 ≤ c.toNat
      · by_cases h122 : c.toNat ≤ 122
        · have e1 : ¬ (c.toNat : Int) < 97 := by omega
          have e2 : ¬ (122 : Int) < (c.toNat : Int) := by omega
          have hall' : Hid (∀ j, j < q + 1 → ∃ c, s.data.toList[j]? = some c ∧ 97 ≤ c.toNat ∧ c.toNat ≤ 122) := Lib.hid (fun j hj => by
            rcases Nat.lt_succ_iff_lt_or_eq.1 hj with h1 | h1
            · exact hall.out j h1
            · subst h1
              exact ⟨c, hcl.out, h97, h122⟩)
          clear hall h97 h122
          go_wp2_with fail
          go_round
          case rel => exact ⟨q + 1, by go_num, by omega, hall'⟩
          case measure => simp [intOf]; omega
        · have e1 : ¬ (c.toNat : Int) < 97 := by omega
          have e2 : (122 : Int) < (c.toNat : Int) := by omega
          have hres := Lib.hid (nameL_no hcl.out (by omega))
          clear hall h97 h122
          go_wp2_with fail
          go_ret
          exact ⟨by rw [hres.out]; rfl, rfl⟩
      · have e1 : (c.toNat : Int) < 97 := by omega
        have hres := Lib.hid (nameL_no hcl.out (by omega))
        clear hall h97
        go_wp2_with fail
        go_ret
        exact ⟨by rw [hres.out]; rfl, rfl⟩
    · have hqs : q = s.data.toList.length := by rw [name_size]; omega
      have hres := Lib.hid (nameL_len (l := s.data.toList) (by rw [← hqs]; exact hall.out))
      rw [name_size] at hres
      clear hall hqs
      by_cases h1 : 1 ≤ s.size
      · have h1' : (1 : Int) ≤ (s.size : Int) := by omega
        by_cases h8 : s.size ≤ 8
        · have h8' : (s.size : Int) ≤ 8 := by omega
          rw [decide_eq_true h1, decide_eq_true h8] at hres
          clear h1 h8
          go_wp2_with fail
          go_ret
          exact ⟨by rw [hres.out]; rfl, rfl⟩
        · have h8' : ¬ (s.size : Int) ≤ 8 := by omega
          rw [decide_eq_true h1, decide_eq_false h8] at hres
          clear h1 h8
          go_wp2_with fail
          go_ret
          exact ⟨by rw [hres.out]; rfl, rfl⟩
      · have h1' : ¬ (1 : Int) ≤ (s.size : Int) := by omega
        rw [decide_eq_false h1] at hres
        clear h1
        go_wp2_with fail
        go_ret
        exact ⟨by rw [hres.out]; rfl, rfl⟩

theorem rightL_no {hs : List (List OpT)} {k : Nat} {o : OpT} (h : (allO hs)[k]? = some o) (hc : nameL o.2.1.data.toList = false) : rightL hs = false := by
  unfold rightL
  have : (allO hs).all (fun o => nameL o.2.1.data.toList) = false := by
    rw [List.all_eq_false]
    exact ⟨o, List.mem_of_getElem? h, by rw [hc]; simp⟩
  rw [this]; rfl
theorem rightL_len {hs : List (List OpT)} (h : ∀ j, j < (allO hs).length → ∃ o, (allO hs)[j]? = some o ∧ nameL o.2.1.data.toList = true) : rightL hs = decide ((allO hs).length ≤ 4096) := by
  unfold rightL
  have : (allO hs).all (fun o => nameL o.2.1.data.toList) = true := by
    rw [List.all_eq_true]
    intro o ho
    obtain ⟨j, hj⟩ := List.getElem?_of_mem ho
    obtain ⟨d, hd, h1⟩ := h j (List.getElem?_eq_some_iff.1 hj).1
    rw [hj] at hd; injection hd with hd; subst hd
    exact h1
  rw [this, Bool.true_and]
set_option maxRecDepth 100000 in
set_option maxHeartbeats 2000000 in
theorem ref6_Right (A : Option Addr) (n c : Nat) (hs : List (List OpT)) (w : World) (hH : HistAt w A n hs) (hn : n ≤ 9223372036854775807) (hF : (allO hs).length ≤ 4398046511104) :
    Calls Tryz.prog 24 #[.slice A n c] w fun e w' => e = .returned (.bool (rightL hs)) ∧ Below w.heap.size w w' := by
  have cF := Lib.hid (ref6_Flat A n c hs w hH hn hF)
  clear hH
  go_enter Tryz.func24, Tryz.ntmps24
  go_wp2_with fail
  refine cF.out.mono ?_; rintro e w1 ⟨A1, n1, c1, rfl, -, h1, -, hO, hmc, b⟩
  replace hO := Lib.hid hO
  replace h1 := Lib.hid h1
  replace hmc := Lib.hid hmc
  replace b := Lib.hid b
  have hF' : n1 ≤ 4398046511104 := by rw [h1.out]; exact hF
  clear hF
  go_wp2_with fail
  go_loop [4] (fun t => ∃ q : Nat, t = .int .i64 q ∧ q ≤ n1 ∧ Hid (∀ j, j < q → ∃ o, (allO hs)[j]? = some o ∧ nameL o.2.1.data.toList = true)) (fun t => n1 - (intOf t).toNat)
  case atStart => exact ⟨0, rfl, by omega, Lib.hid (fun j hj => absurd hj (by omega))⟩
  case round =>
    obtain ⟨q, rfl, hq, hall⟩ := hrel
    by_cases hlt : q < n1
    · obtain ⟨bb, off, o, rfl, hb, ho, hok, c0, c1', c2⟩ := hO.out.at_ hlt
      have hlt' : (q : Int) < (n1 : Int) := by omega
      have cN := Lib.hid (ref6_Name o.2.1 w1 hok.2)
      cases hnm : nameL o.2.1.data.toList with
      | true =>
        rw [hnm] at cN
        have hall' : Hid (∀ j, j < q + 1 → ∃ o, (allO hs)[j]? = some o ∧ nameL o.2.1.data.toList = true) := Lib.hid (fun j hj => by
          rcases Nat.lt_succ_iff_lt_or_eq.1 hj with h1 | h1
          · exact hall.out j h1
          · subst h1; exact ⟨o, ho, hnm⟩)
        replace ho := Lib.hid ho
        clear hall hlt hnm hok
        go_wp2_with fail
        refine cN.out.mono ?_; rintro e w' ⟨rfl, rfl⟩
        go_wp2_with fail
        go_round
        case rel => exact ⟨q + 1, by go_num, by omega, hall'⟩
        case measure => simp [intOf]; omega
      | false =>
        rw [hnm] at cN
        have hres := Lib.hid (rightL_no ho hnm)
        replace ho := Lib.hid ho
        clear hall hlt hnm hok
        go_wp2_with fail
        refine cN.out.mono ?_; rintro e w' ⟨rfl, rfl⟩
        go_wp2_with fail
        go_ret
        exact ⟨by rw [hres.out]; rfl, b.out⟩
    · have hqn : q = n1 := by omega
      have hres := Lib.hid (rightL_len (hs := hs) (by rw [← h1.out, ← hqn]; exact hall.out))
      rw [← h1.out] at hres
      have hlt' : ¬ (q : Int) < (n1 : Int) := by omega
      clear hall hqn hlt
      by_cases h8 : n1 ≤ 4096
      · have h8' : (n1 : Int) ≤ 4096 := by omega
        rw [decide_eq_true h8] at hres
        clear h8
        go_wp2_with fail
        go_ret
        exact ⟨by rw [hres.out]; rfl, b.out⟩
      · have h8' : ¬ (n1 : Int) ≤ 4096 := by omega
        rw [decide_eq_false h8] at hres
        clear h8
        go_wp2_with fail
        go_ret
        exact ⟨by rw [hres.out]; rfl, b.out⟩
theorem smallL_no1 {hs : List (List OpT)} {most : Int} (h : most < (hs.length : Int)) : smallL hs most = false := by
  unfold smallL; rw [decide_eq_false (by omega : ¬ (hs.length : Int) ≤ most)]; rfl
theorem smallL_no2 {hs : List (List OpT)} {most : Int} (h : most < ((allO hs).length : Int)) : smallL hs most = false := by
  unfold smallL; rw [decide_eq_false (by omega : ¬ ((allO hs).length : Int) ≤ most), Bool.and_false]; rfl
theorem smallL_no3 {hs : List (List OpT)} {most : Int} {k : Nat} {o : OpT} (h : (allO hs)[k]? = some o) (hc : ¬ o.2.1.size ≤ 20) : smallL hs most = false := by
  unfold smallL
  have : (allO hs).all (fun o => decide (o.2.1.size ≤ 20)) = false := by
    rw [List.all_eq_false]
    exact ⟨o, List.mem_of_getElem? h, by rw [decide_eq_false hc]; simp⟩
  rw [this, Bool.and_false]
theorem smallL_yes {hs : List (List OpT)} {most : Int} (h1 : (hs.length : Int) ≤ most) (h2 : ((allO hs).length : Int) ≤ most) (h : ∀ j, j < (allO hs).length → ∃ o, (allO hs)[j]? = some o ∧ o.2.1.size ≤ 20) : smallL hs most = true := by
  unfold smallL
  have : (allO hs).all (fun o => decide (o.2.1.size ≤ 20)) = true := by
    rw [List.all_eq_true]
    intro o ho
    obtain ⟨j, hj⟩ := List.getElem?_of_mem ho
    obtain ⟨d, hd, h1⟩ := h j (List.getElem?_eq_some_iff.1 hj).1
    rw [hj] at hd; injection hd with hd; subst hd
    exact decide_eq_true h1
  rw [this, decide_eq_true h1, decide_eq_true h2]; rfl
set_option maxRecDepth 100000 in
set_option maxHeartbeats 2000000 in
theorem ref6_Small (A : Option Addr) (n c : Nat) (most : Int) (hs : List (List OpT)) (w : World) (hH : HistAt w A n hs) (hn : n ≤ 9223372036854775807) (hF : (allO hs).length ≤ 4398046511104) :
    Calls Tryz.prog 6 #[.slice A n c, .int .i64 most] w fun e w' => e = .returned (.bool (smallL hs most)) ∧ Below w.heap.size w w' := by
  have hlen := hH.len
  by_cases h1 : (n : Int) ≤ most
  · have cC := Lib.hid (ref6_Count A n c hs w hH hn hF)
    obtain ⟨N, hN⟩ : ∃ N, N = (allO hs).length := ⟨_, rfl⟩
    rw [← hN] at cC
    by_cases h2 : (N : Int) ≤ most
    · have hyes := Lib.hid (fun h => smallL_yes (hs := hs) (most := most) (by rw [hlen]; exact h1) (by rw [← hN]; exact h2) h)
      replace hlen := Lib.hid hlen
      replace hH := Lib.hid hH
      replace hN := Lib.hid hN
      go_enter Tryz.func6, Tryz.ntmps6
      go_wp2_with fail
      refine cC.out.mono ?_; rintro e w1 ⟨rfl, b1⟩
      have cF := Lib.hid (ref6_Flat A n c hs w1 (hH.out.below b1) hn hF)
      replace b1 := Lib.hid b1
      replace hF := Lib.hid hF
      go_wp2_with fail
      refine cF.out.mono ?_; rintro e w2 ⟨A1, n1, c1, rfl, -, h1', -, hO, hmc, b⟩
      replace b := Lib.hid (below_trans2 b1.out b)
      replace hO := Lib.hid hO
      replace hmc := Lib.hid hmc
      have hF' : n1 ≤ 4398046511104 := by rw [h1']; exact hF.out
      rw [← h1'] at hyes
      replace h1' := Lib.hid h1'
      go_wp2_with fail
      go_loop [6] (fun t => ∃ q : Nat, t = .int .i64 q ∧ q ≤ n1 ∧ Hid (∀ j, j < q → ∃ o, (allO hs)[j]? = some o ∧ o.2.1.size ≤ 20)) (fun t => n1 - (intOf t).toNat)
      case atStart => exact ⟨0, rfl, by omega, Lib.hid (fun j hj => absurd hj (by omega))⟩
      case round =>
        obtain ⟨q, rfl, hq, hall⟩ := hrel
        by_cases hlt : q < n1
        · obtain ⟨bb, off, o, rfl, hb, ho, hok, c0, c1', c2⟩ := hO.out.at_ hlt
          have hlt' : (q : Int) < (n1 : Int) := by omega
          by_cases h20 : o.2.1.size ≤ 20
          · have hall' : Hid (∀ j, j < q + 1 → ∃ o, (allO hs)[j]? = some o ∧ o.2.1.size ≤ 20) := Lib.hid (fun j hj => by
              rcases Nat.lt_succ_iff_lt_or_eq.1 hj with h1 | h1
              · exact hall.out j h1
              · subst h1; exact ⟨o, ho, h20⟩)
            have h20' : (o.2.1.size : Int) ≤ 20 := by omega
            replace ho := Lib.hid ho
            replace hyes := Lib.hid hyes
            clear hall hlt hok h20
            go_wp2_with fail
            go_round
            case rel => exact ⟨q + 1, by go_num, by omega, hall'⟩
            case measure => simp [intOf]; omega
          · have hres := Lib.hid (smallL_no3 (most := most) ho h20)
            have h20' : (20 : Int) < (o.2.1.size : Int) := by omega
            replace ho := Lib.hid ho
            clear hall hlt hok h20
            go_wp2_with fail
            go_ret
            exact ⟨by rw [hres.out]; rfl, b.out⟩
        · have hqn : q = n1 := by omega
          have hres := Lib.hid (hyes.out (by rw [← hqn]; exact hall.out))
          have hlt' : ¬ (q : Int) < (n1 : Int) := by omega
          clear hall hqn hlt
          go_wp2_with fail
          go_ret
          exact ⟨by rw [hres.out]; rfl, b.out⟩
    · have hres := Lib.hid (smallL_no2 (hs := hs) (most := most) (by omega))
      have h2' : most < (N : Int) := by omega
      clear hH h2
      replace hN := Lib.hid hN
      replace hlen := Lib.hid hlen
      go_enter Tryz.func6, Tryz.ntmps6
      go_wp2_with fail
      refine cC.out.mono ?_; rintro e w1 ⟨rfl, b1⟩
      go_wp2_with fail
      go_ret
      exact ⟨by rw [hres.out]; rfl, b1⟩
  · have hres := Lib.hid (smallL_no1 (hs := hs) (most := most) (by omega))
    have h1' : most < (n : Int) := by omega
    clear hH h1
    replace hlen := Lib.hid hlen
    go_enter Tryz.func6, Tryz.ntmps6
    go_wp2_with fail
    go_ret
    exact ⟨by rw [hres.out]; rfl, Below.refl _ _⟩

end Go.Proofs.YtjhjojklfdjmdaaGreat

namespace Go.Proofs.YtjhjojklfdjmdaaGreat
open Go.RowKit
set_option linter.unusedVariables false

section
variable {w w' : World} {g : Nat} {t : TypeId} {x y : Int}
end

theorem toList_inj {a b : ByteArray} (h : a.toList = b.toList) : a = b := by
  rw [ByteArray.toList_eq, ByteArray.toList_eq] at h
  obtain ⟨⟨x⟩⟩ := a
  obtain ⟨⟨y⟩⟩ := b
  have h' : x = y := h
  rw [h']

end Go.Proofs.YtjhjojklfdjmdaaGreat

namespace Go.Proofs.YtjhjojklfdjmdaaGreat
open Go.RowKit
set_option linter.unusedVariables false

set_option maxRecDepth 100000 in
set_option maxHeartbeats 1000000 in
theorem ref9_find (A : Option Addr) (n c : Nat) (l : List ByteArray) (s : ByteArray) (w : World) (hL : LAt encS w A n l) (hn : n ≤ 9223372036854775807) :
    Calls Tryz.prog 25 #[.slice A n c, .string s] w fun e w' => e = .returned (.int .i64 (findZ l s)) ∧ w' = w := by
  have hl := Lib.hid hL.len
  replace hL := Lib.hid hL
  go_enter Tryz.func25, Tryz.ntmps25
  go_wp2_with fail
  go_loop [5] (fun t => ∃ q : Nat, t = .int .i64 q ∧ q ≤ n ∧ Hid (∀ i, i < q → l[i]? ≠ some s)) (fun t => n - (intOf t).toNat)
  case atStart => exact ⟨0, rfl, by omega, Lib.hid (fun j hj => absurd hj (by omega))⟩
  case round =>
    obtain ⟨q, rfl, hq, hall⟩ := hrel
    by_cases hlt : q < n
    · obtain ⟨b, off, x, rfl, hb, hx, hok, hc⟩ := hL.out.str hlt
      have hlt' : (q : Int) < (n : Int) := by omega
      by_cases hxs : x = s
      · subst hxs
        have e1 : (x.toList == x.toList) = true := by simp
        have hres := Lib.hid (findZ_at hx hall.out)
        replace hx := Lib.hid hx
        clear hlt
        go_wp2_with fail
        go_ret
        exact ⟨by rw [hres.out]; rfl, rfl⟩
      · have e1 : (x.toList == s.toList) = false := by
          rw [beq_eq_false_iff_ne]
          exact fun h => hxs (toList_inj h)
        have hall' : Hid (∀ i, i < q + 1 → l[i]? ≠ some s) := Lib.hid (fun i hi => by
          rcases Nat.lt_succ_iff_lt_or_eq.1 hi with h1 | h1
          · exact hall.out i h1
          · subst h1; rw [hx]; exact fun e => hxs (by injection e))
        replace hx := Lib.hid hx
        clear hlt hxs hall
        go_wp2_with fail
        go_round
        case rel => exact ⟨q + 1, by go_num, by omega, hall'⟩
        case measure => simp [intOf]; omega
    · have hlt' : ¬ (q : Int) < (n : Int) := by omega
      have hres : Hid (findZ l s = -1) := Lib.hid (findZ_none (fun i hi => hall.out i (by rw [hl.out] at hi; omega)))
      clear hlt hall
      go_wp2_with fail
      go_ret
      exact ⟨by rw [hres.out]; rfl, rfl⟩

end Go.Proofs.YtjhjojklfdjmdaaGreat

namespace Go.Proofs.YtjhjojklfdjmdaaGreat
open Go.RowKit
set_option linter.unusedVariables false

theorem Blk.not_row {w : World} {g : Nat} {t e : TypeId} {cs : List Value} {base size n : Nat} {v : Value} {xs : List Value} (h : Blk w g t cs) (hte : t ≠ e) (hr : w.ownsRow base e size v n xs) : v.ownBlock ≠ some g := by
  rcases hr.2 with ⟨rfl, _⟩ | ⟨k, cap, cur, rfl, _, hk, _⟩
  · intro h; cases h
  · intro he
    have : k = g := by simpa [Value.ownBlock] using he
    subst this
    rw [show w.heap[k]? = _ from h] at hk
    injection hk with hk
    injection hk with _ h2 _
    exact hte h2
theorem Blk.kept {w w' : World} {g : Nat} {t : TypeId} {cs : List Value} {row : Option Nat} (h : Blk w g t cs) (hg : w.grownBy w' row) (hne : row ≠ some g) : Blk w' g t cs :=
  (hg.block g h.lt (fun e => hne e.symm)).trans h
theorem own_farT {w : World} {g i : Nat} {t e : TypeId} {cs : List Value} {base size n : Nat} {v : Value} {xs : List Value} (hr : w.ownsRow base e size v n xs) (h : Blk w g t cs) (hte : t ≠ e) (u : Value) : (w.setCell ⟨g, i, none⟩ u).ownsRow base e size v n xs := by
  have hne := h.not_row hte hr
  refine ⟨hr.1, ?_⟩
  rcases hr.2 with h1 | ⟨k, cap, cur, rfl, hb, hk, r⟩
  · exact .inl h1
  · refine .inr ⟨k, cap, cur, rfl, hb, ?_, r⟩
    rw [Below.heap_setCell w ⟨g, i, none⟩ u k (fun e => hne (by rw [e]; rfl))]
    exact hk
/-- what is built may be told -/
structure StOk (st : StF) : Prop where
  s : ∀ x ∈ st.1, x.size ≤ 9223372036854775807
  i : ∀ x ∈ st.2, It.Ok x
  l : st.1.length ≤ st.2.length
  n : st.2.length ≤ 4398046511104
theorem StOk.nil : StOk ([], []) := ⟨fun x h => by simp at h, fun x h => by simp at h, Nat.le_refl _, by simp⟩
theorem StOk.one {st : StF} (h : StOk st) {se pl : Nat} {o : OpT} (hn : st.2.length < 4398046511104) (hse : se ≤ 4398046511104) (hpl : pl ≤ 4398046511104) (ho : (-9223372036854775808 ≤ o.2.2 ∧ o.2.2 < 9223372036854775808) ∧ o.2.1.size ≤ 9223372036854775807) : StOk (oneF se st (o, pl)) := by
  have hl := addV_len st.1 o.2.1
  have hf := findZ_range (addV st.1 o.2.1) o.2.1
  have h1 := h.l
  refine ⟨fun x hx => ?_, fun x hx => ?_, ?_, ?_⟩
  · simp only [oneF] at hx
    by_cases hfz : findZ st.1 o.2.1 < 0
    · rw [addV_new hfz] at hx
      rcases List.mem_append.1 hx with hx | hx
      · exact h.s x hx
      · rw [List.mem_singleton.1 hx]; exact ho.2
    · rw [addV_old hfz] at hx; exact h.s x hx
  · simp only [oneF] at hx
    rcases List.mem_append.1 hx with hx | hx
    · exact h.i x hx
    · rw [List.mem_singleton.1 hx]
      have := h.n
      exact ⟨by simp only; omega, by simp only; omega, by simp only; omega, by simp only; omega, by simp only; omega, by simp only; omega, ho.1.1, ho.1.2⟩
  · simp only [oneF, List.length_append, List.length_cons, List.length_nil]; omega
  · simp only [oneF, List.length_append, List.length_cons, List.length_nil]; omega
/-- while facts are built: in the variable g1, of which the answer's is g0 -/
structure FI (w wr : World) (g0 g1 : Nat) (v u : Value) (st : StF) : Prop where
  r : Blk wr g0 29 [.slice none 0 0, .slice none 0 0, .slice none 0 0]
  f : Blk wr g1 29 [v, u, .slice none 0 0]
  ov : wr.ownsRow w.heap.size 9 1 v st.1.length (encS.all st.1)
  ou : wr.ownsRow w.heap.size 43 5 u st.2.length (encT.all st.2)
  b : Below w.heap.size w wr
  ok : StOk st
  l0 : w.heap.size ≤ g0
  l1 : g0 < g1
theorem FI.later {w wr w' : World} {g0 g1 : Nat} {v u : Value} {st : StF} (h : FI w wr g0 g1 v u st) (hb : Below wr.heap.size wr w') : FI w w' g0 g1 v u st :=
  ⟨h.r.below hb h.r.lt, h.f.below hb h.f.lt, own_below h.ov hb, own_below h.ou hb, below_trans2 h.b hb, h.ok, h.l0, h.l1⟩
theorem info_str : (Tryz.prog.info? 9).map (fun i => (i.zero, i.size, i.bytes)) = some (some (.string .empty), 1, 16) := by kernel_rfl
theorem info_item : (Tryz.prog.info? 43).map (fun i => (i.zero, i.size, i.bytes)) = some (some (.agg #[.int .i64 0, .int .i64 0, .bool false, .int .i64 0, .int .i64 0]), 5, 40) := by kernel_rfl
set_option maxRecDepth 100000 in
set_option maxHeartbeats 4000000 in
theorem ref9_Of (A : Option Addr) (n c : Nat) (hs : List (List OpT)) (w : World) (hH : HistAt w A n hs) (hn : n ≤ 1099511627776) (hF : (allO hs).length ≤ 1099511627776) :
    Calls Tryz.prog 17 #[.slice A n c] w fun e w' => ∃ v : FV, e = .returned (.tuple #[.agg #[.slice v.A v.n v.c, .slice v.B v.m v.d, .slice v.C v.k v.e], .int .i64 (if rightL hs = true then 0 else 1)]) ∧
      FactsAt w' v (if rightL hs = true then facO hs else ⟨[], [], []⟩) ∧ Below w.heap.size w w' := by
  obtain ⟨i0, hi, hz0, hz1, hz2⟩ := info_parts info_str
  obtain ⟨j0, ji, jz0, jz1, jz2⟩ := info_parts info_item
  replace hi := Lib.hid hi
  replace hz0 := Lib.hid hz0
  replace hz1 := Lib.hid hz1
  replace hz2 := Lib.hid hz2
  replace ji := Lib.hid ji
  replace jz0 := Lib.hid jz0
  replace jz1 := Lib.hid jz1
  replace jz2 := Lib.hid jz2
  have hlen := Lib.hid hH.len
  have hH0 := Lib.hid hH
  obtain ⟨W0, hW0⟩ : ∃ W, W = w.alloc (.cells #[.slice none 0 0, .slice none 0 0, .slice none 0 0] 29) := ⟨_, rfl⟩
  obtain ⟨g0, hg0⟩ : ∃ g, g = w.heap.size := ⟨_, rfl⟩
  have k0 : Blk W0 g0 29 [.slice none 0 0, .slice none 0 0, .slice none 0 0] := by rw [hW0, hg0]; exact Blk.new w _ _
  have bb := Lib.hid (show Below w.heap.size w W0 from by rw [hW0]; exact (Below.refl _ w).alloc (Nat.le_refl _) _)
  have cR := Lib.hid (ref6_Right A n c hs W0 (hH.below bb.out) (by omega) (by omega))
  replace hF := Lib.hid hF
  cases hr : rightL hs with
  | false =>
    rw [hr] at cR
    replace hr := Lib.hid hr
    clear hH
    go_enter Tryz.func17, Tryz.ntmps17
    go_wp2_with (rw [← hW0, ← hg0]; clear hW0; replace hg0 := Lib.hid hg0)
    refine cR.out.mono ?_; rintro e w1 ⟨rfl, b⟩
    replace bb := Lib.hid (below_trans2 bb.out b)
    replace k0 := k0.below b k0.lt
    clear b
    have c0 := k0.cell 0
    have c1 := k0.cell 1
    have c2 := k0.cell 2
    have f0 := k0.frozen 0
    have f1 := k0.frozen 1
    have f2 := k0.frozen 2
    go_wp2_with fail
    have k3 := ((k0.set_ 0 (.slice none 0 0)).set_ 1 (.slice none 0 0)).set_ 2 (.slice none 0 0)
    have e0 := k3.cell 0
    have e1 := k3.cell 1
    have e2 := k3.cell 2
    refine bodyPost_ret (v := .tuple #[.agg #[.slice none 0 0, .slice none 0 0, .slice none 0 0], .int .i64 1]) (by simp [results, Tryz.results17, go_sem, e0, e1, e2]) rfl ⟨⟨none, 0, 0, none, 0, 0, none, 0, 0⟩, rfl, ⟨LAt.nil _ _ _, Nat.le_refl _, by simp, LAt.nil _ _ _, Nat.le_refl _, by simp, LAt.nil _ _ _, Nat.le_refl _, by simp⟩, ?_⟩
    exact ((bb.out.setCell (by rw [hg0.out]; exact Nat.le_refl _) _).setCell (by rw [hg0.out]; exact Nat.le_refl _) _).setCell (by rw [hg0.out]; exact Nat.le_refl _) _
  | true =>
    rw [hr] at cR
    replace hr := Lib.hid hr
    replace hH := Lib.hid (hH.below bb.out)
    go_enter Tryz.func17, Tryz.ntmps17
    go_wp2_with (rw [← hW0, ← hg0]; clear hW0; replace hg0 := Lib.hid hg0)
    refine cR.out.mono ?_; rintro e w1 ⟨rfl, b⟩
    replace bb := Lib.hid (below_trans2 bb.out b)
    replace hH := Lib.hid (hH.out.below b)
    replace k0 := k0.below b k0.lt
    obtain ⟨W1, hW1⟩ : ∃ W, W = w1.alloc (.cells #[.slice none 0 0, .slice none 0 0, .slice none 0 0] 29) := ⟨_, rfl⟩
    obtain ⟨g1, hg1⟩ : ∃ g, g = w1.heap.size := ⟨_, rfl⟩
    have hFI : FI w W1 g0 g1 (.slice none 0 0) (.slice none 0 0) ([], []) := by
      have b1 : Below w1.heap.size w1 W1 := by rw [hW1]; exact (Below.refl _ w1).alloc (Nat.le_refl _) _
      exact ⟨k0.below b1 k0.lt, by rw [hW1, hg1]; exact Blk.new w1 _ _, World.ownsRow_nil _ _ _ _, World.ownsRow_nil _ _ _ _, below_trans2 bb.out b1, StOk.nil, by rw [hg0.out]; exact Nat.le_refl _, by rw [hg1]; exact k0.lt⟩
    replace hH := Lib.hid (hH.out.below (show Below w1.heap.size w1 W1 from by rw [hW1]; exact (Below.refl _ w1).alloc (Nat.le_refl _) _))
    replace hFI := Lib.hid hFI
    clear b k0 bb cR
    go_wp2_with (rw [← hW1, ← hg1]; clear hW1; replace hg1 := Lib.hid hg1)
    go_loopw [5] (fun i wr => ∃ (k : Nat) (v u : Value), k ≤ n ∧ i = .int .i64 k ∧ Hid (FI w wr g0 g1 v u (hisF (hs.take k))) ∧ Hid (HistAt wr A n hs)) (fun i _ => n - (intOf i).toNat)
    case atStart => exact ⟨0, _, _, Nat.zero_le _, rfl, hFI, hH⟩
    case round =>
      obtain ⟨k, v, u, hk, rfl, hI, hHr⟩ := hrel
      by_cases hlt : k < n
      · obtain ⟨b1, off, B, m, cc, os, rfl, hbl, hos, hcell, hmc, hm63, hO⟩ := hHr.out.at_ hlt
        have hlt' : (k : Int) < (n : Int) := by omega
        have hol := Lib.hid hO.len
        have htk := Lib.hid (List.take_succ_eq_append_getElem (List.getElem?_eq_some_iff.1 hos).1)
        rw [(List.getElem?_eq_some_iff.1 hos).2] at htk
        replace hos := Lib.hid hos
        replace hO := Lib.hid hO
        go_wp2_with fail
        go_loopw [6] (fun i wr => ∃ (j : Nat) (v u : Value), j ≤ m ∧ i = .int .i64 j ∧ Hid (FI w wr g0 g1 v u (sesF k (os.take j) (hisF (hs.take k)))) ∧ Hid (HistAt wr (some ⟨b1, off, none⟩) n hs)) (fun i _ => m - (intOf i).toNat)
        case atStart => exact ⟨0, v, u, Nat.zero_le _, rfl, hI, hHr⟩
        case round =>
          clear hI hHr hcell hO
          obtain ⟨j, v, u, hj, rfl, hI, hHr⟩ := hrel
          obtain ⟨b1', off', B, m', cc, os', e1, hbl, hos', hcell, hmc, hm63, hO⟩ := hHr.out.at_ hlt
          injection e1 with e1
          injection e1 with e1 e2
          subst e1; subst e2
          obtain rfl : os' = os := by rw [hos.out] at hos'; injection hos' with h; exact h.symm
          obtain rfl : m' = m := by rw [← hO.len]; exact hol.out
          clear hos'
          by_cases hjm : j < m'
          · obtain ⟨b2, off2, o, rfl, hb2, ho, hok, x0, x1, x2⟩ := hO.at_ hjm
            have hjm' : (j : Int) < (m' : Int) := by omega
            have htj := Lib.hid (List.take_succ_eq_append_getElem (List.getElem?_eq_some_iff.1 ho).1)
            rw [(List.getElem?_eq_some_iff.1 ho).2] at htj
            obtain ⟨st, hst⟩ : ∃ st, st = sesF k (os'.take j) (hisF (hs.take k)) := ⟨_, rfl⟩
            rw [← hst] at hI
            have hone : Hid (sesF k (os'.take (j + 1)) (hisF (hs.take k)) = oneF k st (o, j)) := Lib.hid (by
              rw [htj.out, sesF_snoc, ← hst, List.length_take, hol.out, Nat.min_eq_left (by omega)])
            have hstl : st.2.length < 1099511627776 := by
              have h1 := (sesF_len k (os'.take j) (hisF (hs.take k))).1
              have h2 := hisF_len (hs.take k)
              have h3 := allO_take_le hs (k + 1)
              rw [allO_take_succ hos.out, List.length_append, hol.out] at h3
              rw [← hst, h2, List.length_take] at h1
              have := hF.out
              omega
            have hjb : j ≤ 4398046511104 := by
              have h3 := allO_take_le hs (k + 1)
              rw [allO_take_succ hos.out, List.length_append, hol.out] at h3
              have := hF.out
              omega
            have hok4 := hI.out.ok.one (se := k) (pl := j) (o := o) (by omega) (by omega) (by omega) hok
            have hitok : It.Ok ⟨k, j, o.1, findZ (addV st.1 o.2.1) o.2.1, o.2.2⟩ := hok4.i _ (by simp [oneF])
            replace hst := Lib.hid hst
            replace ho := Lib.hid ho
            replace htj := Lib.hid htj
            have hhI := hI
            obtain ⟨A1, c1, rfl, h11, h12, hLv⟩ := LAt.of_own hI.out.ov hI.out.ok.s rfl
            obtain ⟨Wo, hWo⟩ : ∃ W, W = wr.alloc (.cells #[.bool o.1, .string o.2.1, .int .i64 o.2.2] 49) := ⟨_, rfl⟩
            obtain ⟨g2, hg2⟩ : ∃ g, g = wr.heap.size := ⟨_, rfl⟩
            have bo : Below wr.heap.size wr Wo := by rw [hWo]; exact (Below.refl _ _).alloc (Nat.le_refl _) _
            have ko : Blk Wo g2 49 [.bool o.1, .string o.2.1, .int .i64 o.2.2] := by rw [hWo, hg2]; exact Blk.new wr _ _
            have I3 := hI.out.later bo
            have hne : g1 ≠ g2 := by have := hI.out.f.lt; omega
            have hne' : g2 ≠ g1 := fun e => hne e.symm
            have cf := Lib.hid (ref9_find A1 st.1.length c1 st.1 o.2.1 Wo (hLv.below bo) (by omega))
            replace hHr := Lib.hid (hHr.out.below bo)
            have q0 := I3.f.cell 0
            have q1 := I3.f.cell 1
            have p0 := ko.cell 0
            have p1 := ko.cell 1
            have p2 := ko.cell 2
            clear hjm hI hLv hO
            replace I3 := Lib.hid I3
            replace hitok := Lib.hid hitok
            replace hok4 := Lib.hid hok4
            obtain ⟨V, hV⟩ : ∃ V, V = findZ st.1 o.2.1 := ⟨_, rfl⟩
            rw [← hV] at cf
            have hVr := findZ_range st.1 o.2.1
            rw [← hV] at hVr
            replace hone := Lib.hid hone.out
            go_wp2_with (rw [← hWo, ← hg2]; clear hWo; replace hg2 := Lib.hid hg2)
            refine cf.out.mono ?_; rintro e wx ⟨rfl, hwx⟩
            rw [hwx]
            clear hwx cf
            by_cases hV0 : V < 0
            · have hadd : Hid (addV st.1 o.2.1 = st.1 ++ [o.2.1]) := Lib.hid (addV_new (by rw [← hV]; exact hV0))
              have hVis : Hid (findZ (addV st.1 o.2.1) o.2.1 = (st.1.length : Int)) := Lib.hid (by rw [addV_find, if_pos (by rw [← hV]; exact hV0)])
              rw [hVis.out] at hitok
              have hsl := hok4.out.s o.2.1 (addV_mem _ _)
              obtain ⟨W3, hW3⟩ : ∃ W, W = Wo.alloc (.cells #[.string o.2.1] 9) := ⟨_, rfl⟩
              have b3 : Below Wo.heap.size Wo W3 := by rw [hW3]; exact (Below.refl _ _).alloc (Nat.le_refl _) _
              have hlit : LAt encS W3 (some ⟨Wo.heap.size, 0, none⟩) 1 [o.2.1] := by rw [hW3]; exact LAt.lit1 (E := encS) Wo _ o.2.1 hsl
              have I4 := I3.out.later b3
              have ko3 := ko.below b3 ko.lt
              have hstn := I4.ok.l
              replace hV := Lib.hid hV
              go_wp2_with (first
                | (rw [← hW3]
                   clear hW3
                   at_builtin
                   refine wpList_append_L (E := encS) rfl (.tmp 46) (.tmp 49) _ rfl w.heap.size 9 i0 _ 16 Tryz.underlying25 hi.out hz0.out hz1.out hz2.out rfl _ st.1.length st.1 (by rfl) I4.ov _ 1 1 [o.2.1] rfl hlit (by unfold maxLen; omega) (by omega) I4.b.size ?_
                   intro v' w4 hown' hbb hg hob
                   obtain ⟨A3, c3, rfl, h31, h32, hL3⟩ := LAt.of_own hown' (fun x hx => (List.mem_append.1 hx).elim (I4.ok.s x) (fun h => by rw [List.mem_singleton.1 h]; exact hsl)) (by simp)
                   have kf4 := I4.f.kept hg (I4.f.not_row (by decide) I4.ov)
                   have kr4 := I4.r.kept hg (I4.r.not_row (by decide) I4.ov)
                   have ko4 := ko3.kept hg (ko3.not_row (by decide) I4.ov)
                   have ou4 := own_grown I4.ou I4.ov (by decide) hg
                   have b4 := I4.b.trans hbb
                   clear q0 q1 p0 p1 p2
                   have q0 := kf4.cell 0
                   have q1 := kf4.cell 1
                   have s0 := kf4.frozen 0
                   have p0 := ko4.cell 0
                   have p1 := ko4.cell 1
                   have p2 := ko4.cell 2
                   obtain ⟨W5, hW5⟩ : ∃ W, W = w4.setCell ⟨g1, 0, none⟩ (.slice A3 (st.1.length + 1) c3) := ⟨_, rfl⟩
                   have kf5 : Blk W5 g1 29 [.slice A3 (st.1.length + 1) c3, u, .slice none 0 0] := by rw [hW5]; exact kf4.set_ 0 _
                   have kr5 : Blk W5 g0 29 [.slice none 0 0, .slice none 0 0, .slice none 0 0] := by rw [hW5]; exact kr4.far (p := ⟨g1, 0, none⟩) (by have := I3.out.l1; show g0 ≠ g1; omega) _
                   have ov5 : W5.ownsRow w.heap.size 9 1 (.slice A3 (st.1.length + 1) c3) (st.1.length + 1) (encS.all (st.1 ++ [o.2.1])) := by rw [hW5]; exact own_farT (i := 0) hown' kf4 (by decide) _
                   have ou5 : W5.ownsRow w.heap.size 43 5 u st.2.length (encT.all st.2) := by rw [hW5]; exact own_farT (i := 0) ou4 kf4 (by decide) _
                   have b5 : Below w.heap.size w W5 := by rw [hW5]; exact b4.setCell (p := ⟨g1, 0, none⟩) (by have := I3.out.l0; have := I3.out.l1; show w.heap.size ≤ g1; omega) _
                   clear hbb hg hob hlit ko3 I4 b3 hL3 h31 h32 kf4 kr4 ko4 ou4 b4 hown'
                   -- an item more, its number is (st.1.length : Int); the world is W5: ov5, ou5, kf5, kr5, b5 : what stands there
                   obtain ⟨W6, hW6⟩ : ∃ W, W = W5.alloc (.cells #[.int .i64 (k : Int), .int .i64 (j : Int), .bool o.1, .int .i64 (st.1.length : Int), .int .i64 o.2.2] 43) := ⟨_, rfl⟩
                   have b6 : Below W5.heap.size W5 W6 := by rw [hW6]; exact (Below.refl _ _).alloc (Nat.le_refl _) _
                   have hlit6 : LAt encT W6 (some ⟨W5.heap.size, 0, none⟩) 1 [⟨k, j, o.1, (st.1.length : Int), o.2.2⟩] := by rw [hW6]; exact LAt.lit1 (E := encT) W5 _ ⟨k, j, o.1, (st.1.length : Int), o.2.2⟩ hitok.out
                   have ov6 := Lib.hid (own_below ov5 b6)
                   have ou6 := Lib.hid (own_below ou5 b6)
                   have kf6 := Lib.hid (kf5.below b6 kf5.lt)
                   have kr6 := Lib.hid (kr5.below b6 kr5.lt)
                   have hw6 : w.heap.size ≤ W6.heap.size := Nat.le_trans b5.size b6.size
                   have bw6 := Lib.hid (below_trans2 b5 b6)
                   replace hlit6 := Lib.hid hlit6
                   clear ov5 ou5 kf5 kr5 b5 b6
                   rw [show W5.heap.size = w4.heap.size from by rw [hW5]; simp] at hlit6
                   )
                | (rw [← hW5, ← hW6]
                   clear hW5 hW6
                   at_builtin
                   refine wpList_append_L (E := encT) rfl (.tmp 53) (.tmp 62) _ rfl w.heap.size 43 j0 _ 40 Tryz.underlying26 ji.out jz0.out jz1.out jz2.out rfl _ st.2.length st.2 (by rfl) ou6.out _ 1 1 _ rfl hlit6.out (by unfold maxLen; omega) (by omega) hw6 ?_
                   intro v7 w7 hown7 hbb7 hg7 hob7
                   obtain ⟨A7, c7, rfl, h71, h72, hL7⟩ := LAt.of_own hown7 (fun x hx => (List.mem_append.1 hx).elim (I3.out.ok.i x) (fun h => by rw [List.mem_singleton.1 h]; exact hitok.out)) (by simp)
                   have kf7 := kf6.out.kept hg7 (kf6.out.not_row (by decide) ou6.out)
                   have kr7 := kr6.out.kept hg7 (kr6.out.not_row (by decide) ou6.out)
                   have ov7 := own_grown ov6.out ou6.out (by decide) hg7
                   have b7 : Below w.heap.size w w7 := bw6.out.trans hbb7
                   have r0 := kf7.cell 0
                   have r1 := kf7.cell 1
                   have r2 := kf7.cell 2
                   have s1 := kf7.frozen 1
                   have kf8 := Lib.hid (kf7.set_ 1 (.slice A7 (st.2.length + 1) c7))
                   have kr8 := Lib.hid (kr7.far (p := ⟨g1, 1, none⟩) (by have := I3.out.l1; show g0 ≠ g1; omega) (.slice A7 (st.2.length + 1) c7))
                   have ov8 := Lib.hid (own_farT (i := 1) ov7 kf7 (by decide) (.slice A7 (st.2.length + 1) c7))
                   have ou8 := Lib.hid (own_farT (i := 1) hown7 kf7 (by decide) (.slice A7 (st.2.length + 1) c7))
                   have b8 := Lib.hid (b7.setCell (p := ⟨g1, 1, none⟩) (by have := I3.out.l0; have := I3.out.l1; show w.heap.size ≤ g1; omega) (.slice A7 (st.2.length + 1) c7))
                   clear ov6 ou6 kf6 kr6 hlit6 hown7 hbb7 hg7 hob7 kf7 kr7 ov7 b7 hL7 h71 h72 hw6 bw6
                   ))
              exact ⟨⟨j + 1, _, _, by omega, by go_num, Lib.hid (by
                rw [hone.out]
                unfold oneF
                rw [hVis.out]
                refine ⟨kr8.out, kf8.out, ?_, by rw [List.length_append]; exact ou8.out, b8.out, by have := hok4.out; unfold oneF at this; rw [hVis.out] at this; exact this, I3.out.l0, I3.out.l1⟩
                show World.ownsRow _ _ _ _ _ (addV st.1 o.2.1).length (encS.all (addV st.1 o.2.1))
                rw [hadd.out]
                have h := ov8.out
                first | exact h | (rw [List.length_append]; exact h)), Lib.hid (hH0.out.below b8.out)⟩, by simp [intOf]; omega⟩
            · have hadd : Hid (addV st.1 o.2.1 = st.1) := Lib.hid (addV_old (by rw [← hV]; exact hV0))
              have hVis : Hid (findZ (addV st.1 o.2.1) o.2.1 = V) := Lib.hid (by rw [addV_find, if_neg (by rw [← hV]; exact hV0), hV])
              rw [hVis.out] at hitok
              replace hV := Lib.hid hV
              have ov5 := I3.out.ov
              have ou5 := I3.out.ou
              have kf5 := I3.out.f
              have kr5 := I3.out.r
              have b5 := I3.out.b
              -- an item more, its number is V; the world is Wo: ov5, ou5, kf5, kr5, b5 : what stands there
              obtain ⟨W6, hW6⟩ : ∃ W, W = Wo.alloc (.cells #[.int .i64 (k : Int), .int .i64 (j : Int), .bool o.1, .int .i64 V, .int .i64 o.2.2] 43) := ⟨_, rfl⟩
              have b6 : Below Wo.heap.size Wo W6 := by rw [hW6]; exact (Below.refl _ _).alloc (Nat.le_refl _) _
              have hlit6 : LAt encT W6 (some ⟨Wo.heap.size, 0, none⟩) 1 [⟨k, j, o.1, V, o.2.2⟩] := by rw [hW6]; exact LAt.lit1 (E := encT) Wo _ ⟨k, j, o.1, V, o.2.2⟩ hitok.out
              have ov6 := Lib.hid (own_below ov5 b6)
              have ou6 := Lib.hid (own_below ou5 b6)
              have kf6 := Lib.hid (kf5.below b6 kf5.lt)
              have kr6 := Lib.hid (kr5.below b6 kr5.lt)
              have hw6 : w.heap.size ≤ W6.heap.size := Nat.le_trans b5.size b6.size
              have bw6 := Lib.hid (below_trans2 b5 b6)
              replace hlit6 := Lib.hid hlit6
              clear ov5 ou5 kf5 kr5 b5 b6
              go_wp2_with (
                rw [← hW6]
                clear hW6
                at_builtin
                refine wpList_append_L (E := encT) rfl (.tmp 53) (.tmp 62) _ rfl w.heap.size 43 j0 _ 40 Tryz.underlying26 ji.out jz0.out jz1.out jz2.out rfl _ st.2.length st.2 (by rfl) ou6.out _ 1 1 _ rfl hlit6.out (by unfold maxLen; omega) (by omega) hw6 ?_
                intro v7 w7 hown7 hbb7 hg7 hob7
                obtain ⟨A7, c7, rfl, h71, h72, hL7⟩ := LAt.of_own hown7 (fun x hx => (List.mem_append.1 hx).elim (I3.out.ok.i x) (fun h => by rw [List.mem_singleton.1 h]; exact hitok.out)) (by simp)
                have kf7 := kf6.out.kept hg7 (kf6.out.not_row (by decide) ou6.out)
                have kr7 := kr6.out.kept hg7 (kr6.out.not_row (by decide) ou6.out)
                have ov7 := own_grown ov6.out ou6.out (by decide) hg7
                have b7 : Below w.heap.size w w7 := bw6.out.trans hbb7
                have r0 := kf7.cell 0
                have r1 := kf7.cell 1
                have r2 := kf7.cell 2
                have s1 := kf7.frozen 1
                have kf8 := Lib.hid (kf7.set_ 1 (.slice A7 (st.2.length + 1) c7))
                have kr8 := Lib.hid (kr7.far (p := ⟨g1, 1, none⟩) (by have := I3.out.l1; show g0 ≠ g1; omega) (.slice A7 (st.2.length + 1) c7))
                have ov8 := Lib.hid (own_farT (i := 1) ov7 kf7 (by decide) (.slice A7 (st.2.length + 1) c7))
                have ou8 := Lib.hid (own_farT (i := 1) hown7 kf7 (by decide) (.slice A7 (st.2.length + 1) c7))
                have b8 := Lib.hid (b7.setCell (p := ⟨g1, 1, none⟩) (by have := I3.out.l0; have := I3.out.l1; show w.heap.size ≤ g1; omega) (.slice A7 (st.2.length + 1) c7))
                clear ov6 ou6 kf6 kr6 hlit6 hown7 hbb7 hg7 hob7 kf7 kr7 ov7 b7 hL7 h71 h72 hw6 bw6
                )
              exact ⟨⟨j + 1, _, _, by omega, by go_num, Lib.hid (by
                rw [hone.out]
                unfold oneF
                rw [hVis.out]
                refine ⟨kr8.out, kf8.out, ?_, by rw [List.length_append]; exact ou8.out, b8.out, by have := hok4.out; unfold oneF at this; rw [hVis.out] at this; exact this, I3.out.l0, I3.out.l1⟩
                show World.ownsRow _ _ _ _ _ (addV st.1 o.2.1).length (encS.all (addV st.1 o.2.1))
                rw [hadd.out]
                have h := ov8.out
                first | exact h | (rw [List.length_append]; exact h)), Lib.hid (hH0.out.below b8.out)⟩, by simp [intOf]; omega⟩
          · have hjm' : ¬ (j : Int) < (m' : Int) := by omega
            have htk2 : os'.take j = os' := List.take_of_length_le (by rw [hol.out]; omega)
            rw [htk2] at hI
            have hnx : Hid (hisF (hs.take (k + 1)) = sesF k os' (hisF (hs.take k))) := Lib.hid (by
              rw [htk.out, hisF_snoc, List.length_take, hlen.out, Nat.min_eq_left (by omega)])
            rw [← hnx.out] at hI
            clear hjm htk2 hO
            go_wp2_with fail
            exact ⟨⟨k + 1, _, _, by omega, by go_num, hI, hHr⟩, by simp [intOf]; omega⟩
      · have hkn' : ¬ (k : Int) < (n : Int) := by omega
        rw [show hs.take k = hs from List.take_of_length_le (by rw [hlen.out]; omega)] at hI
        obtain ⟨A1, c1, rfl, h11, h12, hLv⟩ := LAt.of_own hI.out.ov hI.out.ok.s rfl
        obtain ⟨A2, c2, rfl, h21, h22, hLu⟩ := LAt.of_own hI.out.ou hI.out.ok.i rfl
        obtain ⟨N, hN⟩ : ∃ N, N = (hisF hs).1.length := ⟨_, rfl⟩
        obtain ⟨M, hM⟩ : ∃ M, M = (hisF hs).2.length := ⟨_, rfl⟩
        have kf := hI.out.f
        have kr := hI.out.r
        rw [← hN] at kf hLv h11
        rw [← hM] at kf hLu h21
        have q0 := kf.cell 0
        have q1 := kf.cell 1
        have q2 := kf.cell 2
        have s0 := kr.frozen 0
        have s1 := kr.frozen 1
        have s2 := kr.frozen 2
        have p0 := kr.cell 0
        have p1 := kr.cell 1
        have p2 := kr.cell 2
        have k3 := ((kr.set_ 0 (.slice A1 N c1)).set_ 1 (.slice A2 M c2)).set_ 2 (.slice none 0 0)
        have e0 := k3.cell 0
        have e1 := k3.cell 1
        have e2 := k3.cell 2
        have bl := hI.out.l0
        have bS : ∀ i (u : Value) (X : World), Below w.heap.size w X → Below w.heap.size w (X.setCell ⟨g0, i, none⟩ u) := fun i u X h => h.setCell (p := ⟨g0, i, none⟩) bl u
        have bE := bS 2 (.slice none 0 0) _ (bS 1 (.slice A2 M c2) _ (bS 0 (.slice A1 N c1) _ hI.out.b))
        have ovX := own_farT (i := 2) (own_farT (i := 1) (own_farT (i := 0) hI.out.ov kr (by decide) (.slice A1 N c1)) (kr.set_ 0 _) (by decide) (.slice A2 M c2)) ((kr.set_ 0 _).set_ 1 _) (by decide) (.slice none 0 0)
        have ouX := own_farT (i := 2) (own_farT (i := 1) (own_farT (i := 0) hI.out.ou kr (by decide) (.slice A1 N c1)) (kr.set_ 0 _) (by decide) (.slice A2 M c2)) ((kr.set_ 0 _).set_ 1 _) (by decide) (.slice none 0 0)
        have hLX := LAt.of_own' ovX hI.out.ok.s rfl
        have hUX := LAt.of_own' ouX hI.out.ok.i rfl
        rw [← hN] at hLX
        rw [← hM] at hUX
        replace hLX := Lib.hid hLX
        replace hUX := Lib.hid hUX
        replace bE := Lib.hid bE
        clear ovX ouX bS hLv hLu kf kr k3 hlt hn
        replace hI := Lib.hid True.intro
        replace hN := Lib.hid hN
        replace hM := Lib.hid hM
        go_wp2_with fail
        refine bodyPost_ret (v := .tuple #[.agg #[.slice A1 N c1, .slice A2 M c2, .slice none 0 0], .int .i64 0]) (by simp [results, Tryz.results17, go_sem, e0, e1, e2]) rfl ⟨⟨A1, N, c1, A2, M, c2, none, 0, 0⟩, rfl, ?_, bE.out⟩
        exact ⟨hLX.out, h11, h12, hUX.out, h21, h22, LAt.nil _ _ _, Nat.le_refl _, by simp⟩

end Go.Proofs.YtjhjojklfdjmdaaGreat

namespace Go.Proofs.YtjhjojklfdjmdaaGreat
open Go.RowKit
set_option linter.unusedVariables false

end Go.Proofs.YtjhjojklfdjmdaaGreat

namespace Go.Proofs.YtjhjojklfdjmdaaGreat
open Go.RowKit
set_option linter.unusedVariables false
/-- a call's answer: numbers -/
def RetIL (xs : List Int) (w : World) (e : Ending) (w' : World) : Prop := ∃ A n c, e = .returned (.slice A n c) ∧ LAt encI w' A n xs ∧ n ≤ c ∧ c ≤ 9223372036854775807 ∧ Below w.heap.size w w'
theorem info_int1 : (Tryz.prog.info? 3).map (fun i => (i.zero, i.size, i.bytes)) = some (some (.int .i64 0), 1, 8) := by kernel_rfl
set_option maxRecDepth 100000 in
set_option maxHeartbeats 1000000 in
theorem ref11_From (v : FV) (f : Fac) (w : World) (hF : FactsAt w v f) (hm : v.m ≤ 1048576) :
    Calls Tryz.prog 27 #[.agg #[.slice v.A v.n v.c, .slice v.B v.m v.d, .slice v.C v.k v.e]] w (RetIL (fromF f.items) w) := by
  have hil := hF.is.len
  obtain ⟨i0, hi, hz0, hz1, hz2⟩ := info_parts info_int1
  replace hi := Lib.hid hi
  replace hz0 := Lib.hid hz0
  replace hz1 := Lib.hid hz1
  replace hz2 := Lib.hid hz2
  -- a call with facts v: they are boxed at g, the world is W0 then
  have hB0 := Lib.hid (FBox.new hF)
  obtain ⟨g, hg⟩ : ∃ g, g = w.heap.size := ⟨_, rfl⟩
  obtain ⟨W0, hW0⟩ : ∃ W, W = w.alloc (.cells #[.slice v.A v.n v.c, .slice v.B v.m v.d, .slice v.C v.k v.e] 29) := ⟨_, rfl⟩
  rw [← hW0, ← hg] at hB0
  clear hF
  have hgW : g < W0.heap.size := hB0.out.k.lt
  have p0 := hB0.out.c0
  have p1 := hB0.out.c1
  have p2 := hB0.out.c2
  go_enter Tryz.func27, Tryz.ntmps27
  go_wp2_with (rw [← hW0, ← hg]; clear hW0 hg)
  clear p0 p1 p2
  go_loopw [3, 4] (fun u t wr => ∃ k : Nat, k ≤ v.m ∧ t = .int .i64 k ∧ Hid (Below W0.heap.size W0 wr) ∧ Hid (wr.ownsRow W0.heap.size 3 1 u k (encI.all ((fromF f.items).take k)))) (fun _ t _ => v.m - (intOf t).toNat)
  case atStart => exact ⟨0, Nat.zero_le _, rfl, Lib.hid (Below.refl _ _), Lib.hid (World.ownsRow_nil _ _ _ _)⟩
  case round =>
    obtain ⟨k, hk, rfl, hb, hown⟩ := hrel
    have hB := Lib.hid (hB0.out.later hb.out)
    have p0 := hB.out.c0
    have p1 := hB.out.c1
    have p2 := hB.out.c2
    by_cases hlt : k < v.m
    · have hlt' : (k : Int) < (v.m : Int) := by omega
      obtain ⟨ib, io, x, hxB, hib, hx, hxo, i0', i1, i2, i3, i4⟩ := hB.out.f.is.item hlt
      rw [hxB] at p1
      have htk := Lib.hid (fromF_take hx)
      have hone : fromOne f.items x = if x.wr = true then -3 else if x.vl = 0 then -1 else match writeF f.items x.va x.vl with | some w => (w : Int) | none => -2 := rfl
      have hrg := fromOne_range f.items x
      obtain ⟨z, hz⟩ : ∃ z, z = fromOne f.items x := ⟨_, rfl⟩
      rw [← hz] at htk hone hrg
      obtain ⟨xs, xp, xw, xa, xl⟩ := x
      simp only at i0' i1 i2 i3 i4 hone
      obtain ⟨V, hV⟩ : ∃ W, W = wr.alloc (.cells #[.int .i64 xs, .int .i64 xp, .bool xw, .int .i64 xa, .int .i64 xl] 43) := ⟨_, rfl⟩
      obtain ⟨gx, hgx⟩ : ∃ g, g = wr.heap.size := ⟨_, rfl⟩
      have bV : Below wr.heap.size wr V := by rw [hV]; exact (Below.refl _ _).alloc (Nat.le_refl _) _
      have kIt : Blk V gx 43 [.int .i64 xs, .int .i64 xp, .bool xw, .int .i64 xa, .int .i64 xl] := by rw [hV, hgx]; exact Blk.new wr _ _
      have hBV := Lib.hid (hB.out.later bV)
      have j3 := kIt.cell 3
      have j4 := kIt.cell 4
      simp only [List.getElem?_cons_zero, List.getElem?_cons_succ] at j3 j4
      have w0 := hBV.out.c0
      have w1 := hBV.out.c1
      have w2 := hBV.out.c2
      have cW := ref10_Write v f xa xl V hBV.out.f
      unfold RetWrite at cW
      obtain ⟨o, ho⟩ : ∃ o, o = writeF f.items xa xl := ⟨_, rfl⟩
      rw [← ho] at cW hone
      obtain ⟨r1, hr1⟩ : ∃ r : Int, r = ((o.getD 0 : Nat) : Int) := ⟨_, rfl⟩
      obtain ⟨r2, hr2⟩ : ∃ r, r = o.isSome := ⟨_, rfl⟩
      rw [← hr1, ← hr2] at cW
      have hzz : z = if xw = true then -3 else if xl = 0 then -1 else if r2 = true then r1 else -2 := by
        rw [hone, hr1, hr2]
        cases o <;> rfl
      replace cW := Lib.hid cW
      replace ho := Lib.hid ho
      replace hr1 := Lib.hid hr1
      replace hr2 := Lib.hid hr2
      replace kIt := Lib.hid kIt
      have bW := Lib.hid (below_trans2 hb.out bV)
      have hownV := Lib.hid (own_below hown.out bV)
      clear hone hx hxo hxB hlt hz bV hb hown hB
      go_wp2_with (rw [← hV, ← hgx]; clear hV; replace hgx := Lib.hid hgx)
      refine cW.out.mono ?_; rintro e w3 ⟨rfl, b3⟩
      replace kIt := Lib.hid (kIt.out.below b3 kIt.out.lt)
      replace bW := Lib.hid (below_trans2 bW.out b3)
      replace hownV := Lib.hid (own_below hownV.out b3)
      clear w0 w1 w2 p0 p1 p2 j3 j4 i0' i1 i2 i3 i4 b3 cW hBV
      have j2 := kIt.out.cell 2
      have j4 := kIt.out.cell 4
      simp only [List.getElem?_cons_zero, List.getElem?_cons_succ] at j2 j4
      obtain ⟨gl, hgl⟩ : ∃ g, g = w3.heap.size := ⟨_, rfl⟩
      cases xw with
      | true =>
        -- what item k reads from is -3: it is appended
        have hzv : z = -3 := by rw [hzz]; rfl
        rw [hzv] at htk hrg
        obtain ⟨VL, hVL⟩ : ∃ W, W = w3.alloc (.cells #[.int .i64 (-3)] 3) := ⟨_, rfl⟩
        have bL : Below w3.heap.size w3 VL := by rw [hVL]; exact (Below.refl _ _).alloc (Nat.le_refl _) _
        have hlit := Lib.hid (show LAt encI VL (some ⟨gl, 0, none⟩) 1 [(-3 : Int)] from by rw [hVL, hgl]; exact LAt.lit1 (E := encI) w3 3 (-3) ⟨by omega, by omega⟩)
        have hownL := Lib.hid (own_below hownV.out bL)
        have bWL := Lib.hid (below_trans2 bW.out bL)
        have hbase := Lib.hid bWL.out.size
        clear hzv hzz bL hownV bW
        go_wp2_with (first
          | (rw [← hVL, ← hgl]; clear hVL hgl)
          | (at_builtin; refine wpList_append_L (E := encI) rfl (.tmp 37) (.tmp 39) _ rfl W0.heap.size 3 i0 _ 8 Tryz.underlying27 hi.out hz0.out hz1.out hz2.out rfl _ k ((fromF f.items).take k) (by rfl) hownL.out _ 1 1 _ rfl hlit.out (by unfold maxLen; omega) (by omega) hbase.out ?_; intro v' w7 hown' hb7 _ _))
        refine ⟨⟨k + 1, by omega, by go_num, Lib.hid (bWL.out.trans hb7), Lib.hid (by rw [htk.out]; exact hown')⟩, by simp [intOf]; omega⟩
      | false =>
        by_cases h0 : xl = 0
        · have e0 : (xl == 0) = true := by simp [h0]
          replace h0 := Lib.hid h0
          -- what item k reads from is -1: it is appended
          have hzv : z = -1 := by rw [hzz]; (rw [if_neg (by simp), if_pos h0.out])
          rw [hzv] at htk hrg
          obtain ⟨VL, hVL⟩ : ∃ W, W = w3.alloc (.cells #[.int .i64 (-1)] 3) := ⟨_, rfl⟩
          have bL : Below w3.heap.size w3 VL := by rw [hVL]; exact (Below.refl _ _).alloc (Nat.le_refl _) _
          have hlit := Lib.hid (show LAt encI VL (some ⟨gl, 0, none⟩) 1 [(-1 : Int)] from by rw [hVL, hgl]; exact LAt.lit1 (E := encI) w3 3 (-1) ⟨by omega, by omega⟩)
          have hownL := Lib.hid (own_below hownV.out bL)
          have bWL := Lib.hid (below_trans2 bW.out bL)
          have hbase := Lib.hid bWL.out.size
          clear hzv hzz bL hownV bW
          go_wp2_with (first
            | (rw [← hVL, ← hgl]; clear hVL hgl)
            | (at_builtin; refine wpList_append_L (E := encI) rfl (.tmp 37) (.tmp 39) _ rfl W0.heap.size 3 i0 _ 8 Tryz.underlying27 hi.out hz0.out hz1.out hz2.out rfl _ k ((fromF f.items).take k) (by rfl) hownL.out _ 1 1 _ rfl hlit.out (by unfold maxLen; omega) (by omega) hbase.out ?_; intro v' w7 hown' hb7 _ _))
          refine ⟨⟨k + 1, by omega, by go_num, Lib.hid (bWL.out.trans hb7), Lib.hid (by rw [htk.out]; exact hown')⟩, by simp [intOf]; omega⟩
        · have e0 : (xl == 0) = false := by simp [h0]
          replace h0 := Lib.hid h0
          cases r2 with
          | true =>
            -- what item k reads from is r1: it is appended
            have hzv : z = r1 := by rw [hzz]; (rw [if_neg (by simp), if_neg h0.out]; rfl)
            rw [hzv] at htk hrg
            obtain ⟨VL, hVL⟩ : ∃ W, W = w3.alloc (.cells #[.int .i64 (r1)] 3) := ⟨_, rfl⟩
            have bL : Below w3.heap.size w3 VL := by rw [hVL]; exact (Below.refl _ _).alloc (Nat.le_refl _) _
            have hlit := Lib.hid (show LAt encI VL (some ⟨gl, 0, none⟩) 1 [(r1 : Int)] from by rw [hVL, hgl]; exact LAt.lit1 (E := encI) w3 3 (r1) ⟨by omega, by omega⟩)
            have hownL := Lib.hid (own_below hownV.out bL)
            have bWL := Lib.hid (below_trans2 bW.out bL)
            have hbase := Lib.hid bWL.out.size
            clear hzv hzz bL hownV bW
            go_wp2_with (first
              | (rw [← hVL, ← hgl]; clear hVL hgl)
              | (at_builtin; refine wpList_append_L (E := encI) rfl (.tmp 37) (.tmp 39) _ rfl W0.heap.size 3 i0 _ 8 Tryz.underlying27 hi.out hz0.out hz1.out hz2.out rfl _ k ((fromF f.items).take k) (by rfl) hownL.out _ 1 1 _ rfl hlit.out (by unfold maxLen; omega) (by omega) hbase.out ?_; intro v' w7 hown' hb7 _ _))
            refine ⟨⟨k + 1, by omega, by go_num, Lib.hid (bWL.out.trans hb7), Lib.hid (by rw [htk.out]; exact hown')⟩, by simp [intOf]; omega⟩
          | false =>
            -- what item k reads from is -2: it is appended
            have hzv : z = -2 := by rw [hzz]; (rw [if_neg (by simp), if_neg h0.out]; rfl)
            rw [hzv] at htk hrg
            obtain ⟨VL, hVL⟩ : ∃ W, W = w3.alloc (.cells #[.int .i64 (-2)] 3) := ⟨_, rfl⟩
            have bL : Below w3.heap.size w3 VL := by rw [hVL]; exact (Below.refl _ _).alloc (Nat.le_refl _) _
            have hlit := Lib.hid (show LAt encI VL (some ⟨gl, 0, none⟩) 1 [(-2 : Int)] from by rw [hVL, hgl]; exact LAt.lit1 (E := encI) w3 3 (-2) ⟨by omega, by omega⟩)
            have hownL := Lib.hid (own_below hownV.out bL)
            have bWL := Lib.hid (below_trans2 bW.out bL)
            have hbase := Lib.hid bWL.out.size
            clear hzv hzz bL hownV bW
            go_wp2_with (first
              | (rw [← hVL, ← hgl]; clear hVL hgl)
              | (at_builtin; refine wpList_append_L (E := encI) rfl (.tmp 37) (.tmp 39) _ rfl W0.heap.size 3 i0 _ 8 Tryz.underlying27 hi.out hz0.out hz1.out hz2.out rfl _ k ((fromF f.items).take k) (by rfl) hownL.out _ 1 1 _ rfl hlit.out (by unfold maxLen; omega) (by omega) hbase.out ?_; intro v' w7 hown' hb7 _ _))
            refine ⟨⟨k + 1, by omega, by go_num, Lib.hid (bWL.out.trans hb7), Lib.hid (by rw [htk.out]; exact hown')⟩, by simp [intOf]; omega⟩
    · have hlt' : ¬ (k : Int) < (v.m : Int) := by omega
      have hkm : k = v.m := by omega
      subst hkm
      rw [List.take_of_length_le (by rw [fromF_len, hil]; exact Nat.le_refl _)] at hown
      obtain ⟨A, c, rfl, hnc, hcm, hL⟩ := LAt.of_own hown.out (fun z hz => by
        obtain ⟨x, _, rfl⟩ := List.mem_map.1 hz
        have := fromOne_range f.items x
        exact ⟨by omega, by omega⟩) (by rw [fromF_len, hil])
      clear hlt
      go_wp2_with fail
      go_ret
      exact ⟨A, _, c, rfl, hL, hnc, hcm, hB.out.o⟩
set_option maxRecDepth 100000 in
set_option maxHeartbeats 1000000 in
theorem ref11_Fill (v : FV) (f : Fac) (w : World) (hF : FactsAt w v f) (hm : v.m ≤ 1048576) :
    Calls Tryz.prog 19 #[.agg #[.slice v.A v.n v.c, .slice v.B v.m v.d, .slice v.C v.k v.e]] w (RetFacts (fillF f) w) := by
  -- a call with facts v: they are boxed at g, the world is W0 then
  have hB0 := Lib.hid (FBox.new hF)
  obtain ⟨g, hg⟩ : ∃ g, g = w.heap.size := ⟨_, rfl⟩
  obtain ⟨W0, hW0⟩ : ∃ W, W = w.alloc (.cells #[.slice v.A v.n v.c, .slice v.B v.m v.d, .slice v.C v.k v.e] 29) := ⟨_, rfl⟩
  rw [← hW0, ← hg] at hB0
  clear hF
  obtain ⟨gr, hgr⟩ : ∃ g, g = W0.heap.size := ⟨_, rfl⟩
  obtain ⟨W1, hW1⟩ : ∃ W, W = W0.alloc (.cells #[.slice none 0 0, .slice none 0 0, .slice none 0 0] 29) := ⟨_, rfl⟩
  have b1 : Below W0.heap.size W0 W1 := by rw [hW1]; exact (Below.refl _ _).alloc (Nat.le_refl _) _
  have kR : Blk W1 gr 29 [.slice none 0 0, .slice none 0 0, .slice none 0 0] := by rw [hW1, hgr]; exact Blk.new W0 _ _
  have hB1 := Lib.hid (hB0.out.later b1)
  have hgw : w.heap.size ≤ gr := by rw [hgr]; exact hB0.out.o.size
  clear hB0 b1
  go_enter Tryz.func19, Tryz.ntmps19
  go_wp2_with (first | (rw [← hW0, ← hg]; clear hW0 hg) | (rw [← hW1, ← hgr]; clear hW1; replace hgr := Lib.hid hgr))
  refine wp_region_plan 7 [(true, 0), (true, 1), (true, 2), (true, 3), (true, 4), (false, 5), (true, 6)] (by kernel_rfl) (by kernel_rfl) (fun V hV => ?_)
  have hB := Lib.hid (show FBox w g v f V from by rw [hV.out]; exact hB1.out.later (Below.refl _ _).drew)
  replace kR := Lib.hid (show Blk V gr 29 [.slice none 0 0, .slice none 0 0, .slice none 0 0] from by rw [hV.out]; exact kR)
  clear hV hB1
  have p0 := hB.out.c0
  have p1 := hB.out.c1
  have p2 := hB.out.c2
  have cF := Lib.hid (ref11_From v f V hB.out.f hm)
  simp only [List.drop_succ_cons, List.drop_zero]
  iterate 5
    refine wpPlan_float (v := ?_) rfl (by rfl) (fun w' hw' => ?_) (fun K hK => ?_)
    rotate_left
    · (go_simp; try with_reducible rfl)
    go_simp
    refine hK _ ?_
    clear hK K
  refine wpPlan_only rfl (by rfl) (fun K hK => ?_)
  go_simp
  refine cF.out.mono ?_
  rintro e w3 ⟨C, k, ce, rfl, hL, hke, hem, b3⟩
  refine hK _ _ b3 ?_
  clear hK K
  replace hB := Lib.hid (hB.out.later b3)
  replace kR := kR.out.below b3 kR.out.lt
  iterate 1
    refine wpPlan_float (v := ?_) rfl (by rfl) (fun w' hw' => ?_) (fun K hK => ?_)
    rotate_left
    · (go_simp; try with_reducible rfl)
    go_simp
    refine hK _ ?_
    clear hK K
  refine wpPlan_nil ?_
  have hY := (⟨hB.out.f.vs, hB.out.f.vc, hB.out.f.vm, hB.out.f.is, hB.out.f.ic, hB.out.f.im, hL, hke, hem⟩ : FactsAt w3 ⟨v.A, v.n, v.c, v.B, v.m, v.d, C, k, ce⟩ (fillF f))
  have hY3 := Lib.hid (hY.put kR (fun u hu => by simp only [List.mem_cons, List.not_mem_nil, or_false] at hu; rcases hu with rfl | rfl | rfl <;> exact ⟨_, _, _, rfl⟩))
  have k4 := ((kR.set_ 0 (.slice v.A v.n v.c)).set_ 1 (.slice v.B v.m v.d)).set_ 2 (.slice C k ce)
  have e0 := k4.cell 0
  have e1 := k4.cell 1
  have e2 := k4.cell 2
  have c0 := kR.cell 0
  have c1 := kR.cell 1
  have c2 := kR.cell 2
  have f0 := kR.frozen 0
  have f1 := kR.frozen 1
  have f2 := kR.frozen 2
  have hb3 := Lib.hid (((hB.out.o.setCell (p := ⟨gr, 0, none⟩) hgw (.slice v.A v.n v.c)).setCell (p := ⟨gr, 1, none⟩) hgw (.slice v.B v.m v.d)).setCell (p := ⟨gr, 2, none⟩) hgw (.slice C k ce))
  clear k4 kR hY hL b3 p0 p1 p2
  go_wp2_with fail
  refine NoPanic.normal ?_
  go_wp2_with fail
  exact bodyPost_ret (v := .agg #[.slice v.A v.n v.c, .slice v.B v.m v.d, .slice C k ce]) (by simp [results, Tryz.results19, go_sem, e0, e1, e2]) rfl ⟨⟨v.A, v.n, v.c, v.B, v.m, v.d, C, k, ce⟩, rfl, hY3.out, hb3.out⟩
theorem info_int2 : (Tryz.prog.info? 3).map (fun i => (i.zero, i.size, i.bytes)) = some (some (.int .i64 0), 1, 8) := by kernel_rfl
end Go.Proofs.YtjhjojklfdjmdaaGreat

namespace Go.Proofs.YtjhjojklfdjmdaaGreat
open Go.RowKit
set_option linter.unusedVariables false
/-- a variable at M that holds a matrix of n rows; its rows lie apart from it -/
structure MV (wr : World) (M n : Nat) (A : Option Addr) (c : Nat) (xss : List (List Nat)) : Prop where
  loc : MatB wr M 57 (n : Int) A n c
  rows : RowsAt wr A n xss
  cap : n ≤ c
  far : 0 < n → ∀ ad, A = some ad → ad.block ≠ M
theorem MV.later {wr w' : World} {M n c : Nat} {A : Option Addr} {xss : List (List Nat)} (h : MV wr M n A c xss) (hb : Below wr.heap.size wr w') : MV w' M n A c xss := ⟨h.loc.below_ hb, h.rows.below hb, h.cap, h.far⟩
/-- another matrix, of a call's own, is laid into it -/
theorem MV.put {wr w' : World} {M n c : Nat} {A : Option Addr} {xss : List (List Nat)} (h : MV wr M n A c xss) (hb : Below wr.heap.size wr w') {C : Option Addr} {d : Nat} {yss : List (List Nat)} (hr : RowsAt w' C n yss) (hd : n ≤ d) (hf : ∀ ad, C = some ad → wr.heap.size ≤ ad.block) :
    MV ((w'.setCell ⟨M, 0, none⟩ (.int .i64 (n : Int))).setCell ⟨M, 1, none⟩ (.slice C n d)) M n C d yss := by
  have hM := h.loc.lt
  refine ⟨(h.loc.below_ hb).put _ _ _ _, hr.putB (h.loc.below_ hb) (fun _ ad e => by have := hf ad e; omega) _ _, hd, fun _ ad e => by have := hf ad e; omega⟩
/-- a call's answer: a matrix, whose outer cells are new -/
def RetMat1F (N : Int) (xss : List (List Nat)) (w : World) (e : Ending) (w' : World) : Prop :=
  ∃ A n c, e = .returned (.agg #[.int .i64 N, .slice A n c]) ∧ RowsAt w' A n xss ∧ n ≤ c ∧ Below w.heap.size w w' ∧ ∀ ad, A = some ad → w.heap.size ≤ ad.block
end Go.Proofs.YtjhjojklfdjmdaaGreat

namespace Go.Proofs.YtjhjojklfdjmdaaGreat
open Go.RowKit
set_option linter.unusedVariables false
theorem info_int16 : (Tryz.prog.info? 3).map (fun i => (i.zero, i.size, i.bytes)) = some (some (.int .i64 0), 1, 8) := by kernel_rfl
/-- a list in a block of the call's own -/
def RetILF (xs : List Int) (w : World) (e : Ending) (w' : World) : Prop := ∃ A n c, e = .returned (.slice A n c) ∧ LAt encI w' A n xs ∧ n ≤ c ∧ c ≤ 9223372036854775807 ∧ Below w.heap.size w w' ∧ ∀ ad, A = some ad → w.heap.size ≤ ad.block
end Go.Proofs.YtjhjojklfdjmdaaGreat

namespace Go.Proofs.YtjhjojklfdjmdaaGreat
open Go.RowKit
set_option linter.unusedVariables false
theorem info_edge : (Tryz.prog.info? 84).map (fun i => (i.zero, i.size, i.bytes)) = some (some (.agg #[.int .i64 0, .int .i64 0, .int .i64 0]), 3, 24) := by kernel_rfl
end Go.Proofs.YtjhjojklfdjmdaaGreat

namespace Go.Proofs.YtjhjojklfdjmdaaGreat
open Go.RowKit
set_option linter.unusedVariables false

section
variable {P : Program} {ops : Array Oper} {md : Region.Mode} {Q : Exit → Act → World → Prop} {S : World → Prop}

def wpAnyS (S : World → Prop) (P : Program) (md : Region.Mode) (ops : Array Oper) (Q : Exit → Act → World → Prop) : Nat → Array Bool → Act → World → Prop
  | 0, listed, a, w => Region.ready md ops listed = [] ∧ Q .normal a w
  | f + 1, listed, a, w => Region.ready md ops listed ≠ [] ∧ ∀ i ∈ Region.ready md ops listed, wpOp P ops Q i (fun a' w' => S w' ∧ wpAnyS S P md ops Q f (listed.setIfInBounds i true) a' w') a w
theorem wpAny_of_S : ∀ (f : Nat) (listed : Array Bool) (a : Act) (w : World), wpAnyS S P md ops Q f listed a w → wpAny P md ops Q f listed a w
  | 0, _, _, _, h => h
  | f + 1, listed, a, w, h => ⟨fun h0 => absurd h0 h.1, fun i hi => wpOp_mono (fun a' w' h' => wpAny_of_S f _ a' w' h'.2) (h.2 i hi)⟩

theorem wpAnyS_first {i : Nat} {oi : Oper} {v : Value} (hi : ops[i]? = some oi) (hsel : ∀ (j : Nat) (o : Oper) cs b, ops[j]? = some o → o.op ≠ .select cs b)
    (hQ : ∀ c a w, Q (.panic c) (a.put oi.dst v) w → Q (.panic c) a w) :
    ∀ (f : Nat) (listed : Array Bool) (a : Act) (w : World), S w →
      (∀ j oj, ops[j]? = some oj → j ≠ i → listed.getD j true = false → (∀ e ∈ oj.after, Region.binds md e = true → e.on ≠ i) → oi.apart ops oj = true) →
      i ∈ Region.ready md ops listed → YieldsIf P ops S oi v a →
      wpAnyS S P md ops Q f (listed.setIfInBounds i true) (a.put oi.dst v) w → wpAnyS S P md ops Q (f + 1) listed a w := by
  intro f
  induction f with
  | zero =>
    intro listed a w hS _ hr hy H
    refine ⟨fun h => (by rw [h] at hr; cases hr), fun j hj => ?_⟩
    by_cases hji : j = i
    · subst hji; exact hy.wpOp hi hS ⟨hS, H⟩
    · have h1 := ready_mono hj hji
      rw [H.1] at h1
      cases h1
  | succ f ih =>
    intro listed a w hS hfree hr hy H
    have hun := (mem_ready.1 hr).1
    refine ⟨fun h => (by rw [h] at hr; cases hr), fun j hj => ?_⟩
    by_cases hji : j = i
    · subst hji; exact hy.wpOp hi hS ⟨hS, H⟩
    · have h1 := H.2 j (ready_mono hj hji)
      obtain ⟨hjun, oj, hoj, hall⟩ := mem_ready.1 hj
      have hnot : ∀ e ∈ oj.after, Region.binds md e = true → e.on ≠ i := fun e he hb heq => by
        have h1 := hall e he hb
        rw [heq, getD_both hun] at h1
        cases h1
      have h2 := wpOp_putIf hoj (hfree j oj hoj hji hjun hnot) (fun cs b => hsel i oi cs b hi) (fun cs b => hsel j oj cs b hoj) hQ hy h1
      have hfree' : ∀ k ok, ops[k]? = some ok → k ≠ i → (listed.setIfInBounds j true).getD k true = false →
          (∀ e ∈ ok.after, Region.binds md e = true → e.on ≠ i) → oi.apart ops ok = true := fun k ok hk hki hun hno => by
        refine hfree k ok hk hki ?_ hno
        by_cases hjk : j = k
        · subst hjk; exact hjun
        · rw [getD_set_ne true hjk] at hun; exact hun
      refine wpOp_mono (fun a' w' h3 => ⟨h3.2.1, ih (listed.setIfInBounds j true) a' w' h3.2.1 hfree' (ready_mono hr (Ne.symm hji)) h3.1 ?_⟩) h2
      rw [Array.setIfInBounds_comm _ _ hji]
      exact h3.2.2

/-- a tree of orders -/
inductive PT where
  | done
  | flt (i : Nat) (t : PT)
  | one (i : Nat) (t : PT)
  | two (i j : Nat) (ti tj : PT)
  | three (i j k : Nat) (ti tj tk : PT)
def PT.depth : PT → Nat
  | .done => 0
  | .flt _ t => t.depth + 1
  | .one _ t => t.depth + 1
  | .two _ _ t _ => t.depth + 1
  | .three _ _ _ t _ _ => t.depth + 1
def PT.ok (md : Region.Mode) (ops : Array Oper) : PT → Array Bool → Bool
  | .done, listed => (Region.ready md ops listed).isEmpty
  | .flt i t, listed => (Region.ready md ops listed).contains i && Region.free md ops listed i && t.ok md ops (listed.setIfInBounds i true)
  | .one i t, listed => decide (Region.ready md ops listed = [i]) && t.ok md ops (listed.setIfInBounds i true)
  | .two i j t u, listed => decide (Region.ready md ops listed = [i, j]) && decide (t.depth = u.depth) && t.ok md ops (listed.setIfInBounds i true) && u.ok md ops (listed.setIfInBounds j true)
  | .three i j k t u v, listed => decide (Region.ready md ops listed = [i, j, k]) && (decide (t.depth = u.depth) && decide (t.depth = v.depth)) && t.ok md ops (listed.setIfInBounds i true) && u.ok md ops (listed.setIfInBounds j true) && v.ok md ops (listed.setIfInBounds k true)
def wpPT (S : World → Prop) (P : Program) (ops : Array Oper) (Q : Exit → Act → World → Prop) : PT → Act → World → Prop
  | .done, a, w => Q .normal a w
  | .flt i t, a, w => ∃ o v, ops[i]? = some o ∧ YieldsIf P ops S o v a ∧ wpPT S P ops Q t (a.put o.dst v) w
  | .one i t, a, w => wpOp P ops Q i (fun a' w' => S w' ∧ wpPT S P ops Q t a' w') a w
  | .two i j t u, a, w => wpOp P ops Q i (fun a' w' => S w' ∧ wpPT S P ops Q t a' w') a w ∧ wpOp P ops Q j (fun a' w' => S w' ∧ wpPT S P ops Q u a' w') a w
  | .three i j k t u v, a, w => wpOp P ops Q i (fun a' w' => S w' ∧ wpPT S P ops Q t a' w') a w ∧ wpOp P ops Q j (fun a' w' => S w' ∧ wpPT S P ops Q u a' w') a w ∧ wpOp P ops Q k (fun a' w' => S w' ∧ wpPT S P ops Q v a' w') a w

theorem wpAnyS_tree (hsel : Region.noSelect ops = true) (hQ : ∀ c a d v w, Q (.panic c) (a.put d v) w → Q (.panic c) a w) :
    ∀ (t : PT) (listed : Array Bool) (a : Act) (w : World), S w → t.ok md ops listed = true → wpPT S P ops Q t a w → wpAnyS S P md ops Q t.depth listed a w
  | .done, listed, a, w, _, hB, h => ⟨by simpa [PT.ok] using hB, h⟩
  | .flt i t, listed, a, w, hS, hB, h => by
    simp only [PT.ok, Bool.and_eq_true] at hB
    obtain ⟨⟨hr, hf⟩, hB'⟩ := hB
    obtain ⟨o, v, ho, hy, h'⟩ := h
    exact wpAnyS_first ho (Region.noSelect_spec hsel) (fun c a w => hQ c a o.dst v w) t.depth listed a w hS (Region.free_spec ho hf) (by simpa using hr) hy (wpAnyS_tree hsel hQ t _ _ _ hS hB' h')
  | .one i t, listed, a, w, hS, hB, h => by
    simp only [PT.ok, Bool.and_eq_true, decide_eq_true_eq] at hB
    refine ⟨by rw [hB.1]; simp, fun j hj => ?_⟩
    rw [hB.1] at hj
    have hji : j = i := by simpa using hj
    subst hji
    exact wpOp_mono (fun a' w' h3 => ⟨h3.1, wpAnyS_tree hsel hQ t _ a' w' h3.1 hB.2 h3.2⟩) h
  | .two i k t u, listed, a, w, hS, hB, h => by
    simp only [PT.ok, Bool.and_eq_true, decide_eq_true_eq] at hB
    obtain ⟨⟨⟨hr, hd⟩, h1⟩, h2⟩ := hB
    refine ⟨by rw [hr]; simp, fun j hj => ?_⟩
    rw [hr] at hj
    have hjik : j = i ∨ j = k := by simpa using hj
    rcases hjik with rfl | rfl
    · exact wpOp_mono (fun a' w' h3 => ⟨h3.1, wpAnyS_tree hsel hQ t _ a' w' h3.1 h1 h3.2⟩) h.1
    · refine wpOp_mono (fun a' w' h3 => ⟨h3.1, ?_⟩) h.2
      rw [hd]
      exact wpAnyS_tree hsel hQ u _ a' w' h3.1 h2 h3.2
  | .three i j k t u v, listed, a, w, hS, hB, h => by
    simp only [PT.ok, Bool.and_eq_true, decide_eq_true_eq] at hB
    obtain ⟨⟨⟨⟨hr, hd, hd2⟩, h1⟩, h2⟩, h3⟩ := hB
    refine ⟨by rw [hr]; simp, fun q hq => ?_⟩
    rw [hr] at hq
    have hqs : q = i ∨ q = j ∨ q = k := by simpa using hq
    rcases hqs with rfl | rfl | rfl
    · exact wpOp_mono (fun a' w' h3' => ⟨h3'.1, wpAnyS_tree hsel hQ t _ a' w' h3'.1 h1 h3'.2⟩) h.1
    · refine wpOp_mono (fun a' w' h3' => ⟨h3'.1, ?_⟩) h.2.1
      rw [hd]
      exact wpAnyS_tree hsel hQ u _ a' w' h3'.1 h2 h3'.2
    · refine wpOp_mono (fun a' w' h3' => ⟨h3'.1, ?_⟩) h.2.2
      rw [hd2]
      exact wpAnyS_tree hsel hQ v _ a' w' h3'.1 h3 h3'.2

theorem wp_region_tree {id : Nat} {a : Act} {w : World} {l : List Oper} (t : PT) (hm : P.follows .mixedOrders = true) (hB : (Region.noSelect l.toArray && decide (t.depth = l.toArray.size) && t.ok .any l.toArray (Array.replicate l.toArray.size false)) = true)
    (h : ∀ W : World, Hid (W = w.drew) → wpPT (fun x => Below W.heap.size W x) P l.toArray (NoPanic Q) t a W) : (Code.region id l.toArray true).wp P Q a w := by
  refine wp_region_noPanic ?_
  have hQ : ∀ c a d v w, NoPanic Q (.panic c) (a.put d v) w → NoPanic Q (.panic c) a w := fun _ _ _ _ _ h => h
  simp only [Bool.and_eq_true, decide_eq_true_eq] at hB
  obtain ⟨⟨hsel, hd⟩, hok⟩ := hB
  refine wp_region_any hm ?_
  have H := wpAny_of_S _ _ _ _ (wpAnyS_tree (md := .any) hsel hQ t _ a w.drew (Below.refl _ _) hok (h w.drew (Lib.hid rfl)))
  rw [hd] at H
  exact H

/-! ### the steps -/
section
variable {W : World} {t u : PT} {a : Act} {w : World} {i j : Nat} {o : Oper}
theorem wpPT_float {v : Value} (hi : ops[i]? = some o) (hw : Region.wanted o (yielded ops a.tmps) = true)
    (hy : ∀ w' : World, (∀ p, (W.cell? p).isSome = true → w'.cell? p = W.cell? p) → (execOp a.eval o).run P w' = .ok (.value v) w') (h : ∀ K : Act → Prop, (∀ a', wpPT (fun x => Below W.heap.size W x) P ops Q t a' w → K a') → K (a.put o.dst v)) : wpPT (fun x => Below W.heap.size W x) P ops Q (.flt i t) a w :=
  ⟨o, v, hi, .inl ⟨hw, fun w' hb => hy w' (fun p hp => by
    have hlt : p.block < W.heap.size := by
      cases hc : W.cell? p with
      | none => rw [hc] at hp; cases hp
      | some u => exact block_lt_of_cell hc
    exact hb.cell hlt)⟩, h _ (fun _ h => h)⟩
theorem wpOp_step {K0 : Act → World → Prop} (hi : ops[i]? = some o) (hw : Region.wanted o (yielded ops a.tmps) = true)
    (h : ∀ K : Act → World → Prop, (∀ a' w', S w' → K0 a' w' → K a' w') → o.wp P a w K Q) : wpOp P ops Q i (fun a' w' => S w' ∧ K0 a' w') a w := by
  unfold wpOp
  simp only [hi, hw, if_true]
  exact .inl (h _ (fun a' w' hb hp => ⟨hb, hp⟩))
theorem wpPT_one (hi : ops[i]? = some o) (hw : Region.wanted o (yielded ops a.tmps) = true)
    (h : ∀ K : Act → World → Prop, (∀ a' w', S w' → wpPT S P ops Q t a' w' → K a' w') → o.wp P a w K Q) : wpPT S P ops Q (.one i t) a w := wpOp_step hi hw h
theorem wpPT_two {o' : Oper} (hi : ops[i]? = some o) (hw : Region.wanted o (yielded ops a.tmps) = true) (hj : ops[j]? = some o') (hw' : Region.wanted o' (yielded ops a.tmps) = true)
    (h : ∀ K : Act → World → Prop, (∀ a' w', S w' → wpPT S P ops Q t a' w' → K a' w') → o.wp P a w K Q)
    (h' : ∀ K : Act → World → Prop, (∀ a' w', S w' → wpPT S P ops Q u a' w' → K a' w') → o'.wp P a w K Q) : wpPT S P ops Q (.two i j t u) a w := ⟨wpOp_step hi hw h, wpOp_step hj hw' h'⟩
theorem wpPT_done (h : Q .normal a w) : wpPT S P ops Q .done a w := h
end
end
end Go.Proofs.YtjhjojklfdjmdaaGreat

namespace Go.Proofs.YtjhjojklfdjmdaaGreat
open Go.RowKit
set_option linter.unusedVariables false
end Go.Proofs.YtjhjojklfdjmdaaGreat

namespace Go.Proofs.YtjhjojklfdjmdaaGreat
open Go.RowKit
set_option linter.unusedVariables false
theorem rows_len_pos {n : Nat} {xss : List (List Nat)} (h : Good n xss) (hn : 0 < n) : ∀ xs ∈ xss, 0 < xs.length := fun xs hx => by
  have := (h.row xs hx).2.1; omega
theorem RowsAt.farZ {w : World} {C : Option Addr} {p g : Nat} {t : TypeId} {xss : List (List Nat)} {N : Int} (h : RowsAt w C p xss) (hM : MatB w g t N none 0 0) (hl : ∀ xs ∈ xss, 0 < xs.length) : 0 < p → ∀ ad, C = some ad → ad.block ≠ g := by
  intro h0 ad e
  obtain ⟨b, off, B, m, d, xs, e2, _, hx, hc, hr⟩ := h.at_ h0
  rw [e] at e2
  cases e2
  intro hb
  have hb' : b = g := hb
  subst hb'
  rw [Blk.cell hM] at hc
  match off + 0, hc with
  | 0, hc => simp at hc
  | 1, hc =>
    simp at hc
    obtain ⟨rfl, rfl, rfl⟩ := hc
    have h1 := hr.len
    have := hl xs (List.mem_of_getElem? hx)
    omega
  | k + 2, hc => simp at hc
end Go.Proofs.YtjhjojklfdjmdaaGreat

namespace Go.Proofs.YtjhjojklfdjmdaaGreat
open Go.RowKit
set_option linter.unusedVariables false
theorem LoopIs.b {n : Nat} {a : List (List Nat)} {r : Int} {b : Bool} (h : LoopIs n a r b) : b = loopB n a := by
  rcases h with ⟨rfl, i, -, hi, hr, -⟩ | ⟨rfl, -, hno⟩
  · exact (loopB_iff.2 ⟨i, hi, hr⟩).symm
  · cases h : loopB n a with
    | false => rfl
    | true => obtain ⟨i, hi, hr⟩ := loopB_iff.1 h; exact absurd hr (hno i hi)
end Go.Proofs.YtjhjojklfdjmdaaGreat

namespace Go.Proofs.YtjhjojklfdjmdaaGreat
open Go.RowKit
set_option linter.unusedVariables false
def RetW1 (x : Wit) (w : World) (e : Ending) (w' : World) : Prop := e = .returned (.agg #[.int .i64 x.ki, .int .i64 x.r, .int .i64 x.w1, .int .i64 x.w2, .int .i64 x.o, .slice none 0 0, .int .i64 x.fi, .int .i64 x.se]) ∧ Below w.heap.size w w'
theorem Blk.put8 {w : World} {g : Nat} {t : TypeId} {c0 c1 c2 c3 c4 c5 c6 c7 : Value} (h : Blk w g t [c0, c1, c2, c3, c4, c5, c6, c7]) (a0 a1 a2 a3 a4 a5 a6 a7 : Value) :
    Blk ((((((((w.setCell ⟨g, 0, none⟩ a0).setCell ⟨g, 1, none⟩ a1).setCell ⟨g, 2, none⟩ a2).setCell ⟨g, 3, none⟩ a3).setCell ⟨g, 4, none⟩ a4).setCell ⟨g, 5, none⟩ a5).setCell ⟨g, 6, none⟩ a6).setCell ⟨g, 7, none⟩ a7) g t [a0, a1, a2, a3, a4, a5, a6, a7] :=
  (((((((h.set_ 0 a0).set_ 1 a1).set_ 2 a2).set_ 3 a3).set_ 4 a4).set_ 5 a5).set_ 6 a6).set_ 7 a7
theorem below_put8 {w w' : World} {B g : Nat} (h : Below B w w') (hg : B ≤ g) (a0 a1 a2 a3 a4 a5 a6 a7 : Value) :
    Below B w ((((((((w'.setCell ⟨g, 0, none⟩ a0).setCell ⟨g, 1, none⟩ a1).setCell ⟨g, 2, none⟩ a2).setCell ⟨g, 3, none⟩ a3).setCell ⟨g, 4, none⟩ a4).setCell ⟨g, 5, none⟩ a5).setCell ⟨g, 6, none⟩ a6).setCell ⟨g, 7, none⟩ a7) :=
  (((((((h.setCell (p := ⟨g, 0, none⟩) hg _).setCell (p := ⟨g, 1, none⟩) hg _).setCell (p := ⟨g, 2, none⟩) hg _).setCell (p := ⟨g, 3, none⟩) hg _).setCell (p := ⟨g, 4, none⟩) hg _).setCell (p := ⟨g, 5, none⟩) hg _).setCell (p := ⟨g, 6, none⟩) hg _).setCell (p := ⟨g, 7, none⟩) hg _
theorem LoopIs.find {n : Nat} {a : List (List Nat)} {r : Int} {b : Bool} (h : LoopIs n a r b) (k : Int) : roundF k n a = if b = true then some ⟨k, -1, -1, -1, r, -1, -1⟩ else none := by
  unfold roundF
  rcases h with ⟨rfl, i, rfl, hi, h1, h2⟩ | ⟨rfl, -, h1⟩
  · have hfd : (List.range n).find? (fun (q : Nat) => hasM a (q : Int) (q : Int)) = some i := List.find?_eq_some_iff_getElem.2 ⟨h1, i, by rw [List.length_range]; exact hi, List.getElem_range _, fun j hj => by
      have := h2 j hj
      unfold Rel at this
      rw [List.getElem_range]
      simpa using this⟩
    rw [hfd]
    rfl
  · rw [List.find?_eq_none.2 (fun j hj => by
      have := h1 j (List.mem_range.1 hj)
      unfold Rel at this
      exact this)]
    rfl
end Go.Proofs.YtjhjojklfdjmdaaGreat

namespace Go.Proofs.YtjhjojklfdjmdaaGreat
open Go.RowKit

section
variable {gb : Nat → Prop} {P : Program} {ops : Array Oper} {md : Region.Mode} {Q : Exit → Act → World → Prop}

/-! ### the steps -/
section
variable {tail : List Oper} {rest : List (Bool × Nat)} {a : Act} {w : World} {i : Nat} {o : Oper}
end
end
end Go.Proofs.YtjhjojklfdjmdaaGreat
