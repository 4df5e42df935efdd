/- The code's own contracts of layer 6, first half: names, slices.Grow, slices.Concat, slices.Equal, slices.EqualFunc at operations; Flat, Same. -/
import Derived.Test.YtkocknlhlljlcaaHistRefB
import Derived.Lib.AppendZeros
import Derived.RangeFuncRecord
namespace Go.Proofs.Ytkocknlhlljlcaa
open Go.RowKit
set_option linter.unusedVariables false
set_option linter.unusedSectionVars false

/-- a call's answer: operations, whoever's -/
def RetOpsW (os : List OpT) (w : World) (e : Ending) (w' : World) : Prop := ∃ A n c, e = .returned (.slice A n c) ∧ n = os.length ∧ OpsAt w' A n os ∧ n ≤ c ∧ Below w.heap.size w w'
def RetInt (z : Int) (w : World) (e : Ending) (w' : World) : Prop := e = .returned (.int .i64 z) ∧ Below w.heap.size w w'
def RetBool (b : Bool) (w : World) (e : Ending) (w' : World) : Prop := e = .returned (.bool b) ∧ Below w.heap.size w w'

set_option maxRecDepth 100000 in
set_option maxHeartbeats 2000000 in
theorem hist_named (s : ByteArray) (w : World) (hs : s.size ≤ 9223372036854775807) :
    Calls Try.prog 23 #[.string s] w fun e w' => e = .returned (.bool (nameL s.data.toList)) ∧ w' = w := by
  by_cases h1 : (s.size : Int) < 1
  · have hres : Hid (nameL s.data.toList = false) := Lib.hid (by
      unfold nameL
      rw [name_size, decide_eq_false (by omega : ¬ 1 ≤ s.size), Bool.and_false, Bool.false_and])
    go_enter Try.func23, Try.ntmps23
    go_wp2_with fail
    go_ret
    exact ⟨by rw [hres.out]; rfl, rfl⟩
  · by_cases h8 : (8 : Int) < (s.size : Int)
    · have hres : Hid (nameL s.data.toList = false) := Lib.hid (by
        unfold nameL
        rw [name_size, decide_eq_false (by omega : ¬ s.size ≤ 8), Bool.and_false])
      go_enter Try.func23, Try.ntmps23
      go_wp2_with fail
      go_ret
      exact ⟨by rw [hres.out]; rfl, rfl⟩
    · go_enter Try.func23, Try.ntmps23
      go_wp2_with fail
      go_loop [14] (fun t => ∃ q : Nat, t = .int .i64 q ∧ q ≤ s.size ∧ Hid (∀ j, j < q → ∃ c, s.data.toList[j]? = some c ∧ 97 ≤ c.toNat ∧ c.toNat ≤ 122)) (fun t => s.size - (intOf t).toNat)
      case atStart => exact ⟨0, rfl, by omega, Lib.hid (fun j hj => absurd hj (by omega))⟩
      case round =>
        obtain ⟨q, rfl, hq, hall⟩ := hrel
        by_cases hlt : (q : Int) < (s.size : Int)
        · have h : 0 ≤ (q : Int) ∧ (q : Int) < (s.size : Int) := ⟨by omega, hlt⟩
          have hlt' : q < s.size := by omega
          obtain ⟨c, hc⟩ : ∃ c : UInt8, s[q]'hlt' = c := ⟨_, rfl⟩
          have hcl : Hid (s.data.toList[q]? = some c) := Lib.hid (by rw [name_byte s q hlt', hc])
          by_cases h97 : 97 ≤ c.toNat
          · by_cases h122 : c.toNat ≤ 122
            · have e1 : ¬ (c.toNat : Int) < 97 := by omega
              have e2 : ¬ (122 : Int) < (c.toNat : Int) := by omega
              have hall' : Hid (∀ j, j < q + 1 → ∃ c, s.data.toList[j]? = some c ∧ 97 ≤ c.toNat ∧ c.toNat ≤ 122) := Lib.hid (fun j hj => by
                rcases Nat.lt_succ_iff_lt_or_eq.1 hj with h1 | h1
                · exact hall.out j h1
                · subst h1
                  exact ⟨c, hcl.out, h97, h122⟩)
              clear hall h97 h122
              go_wp2_with fail
              go_round
              case rel => exact ⟨q + 1, by go_num, by omega, hall'⟩
              case measure => simp [intOf]; omega
            · have e1 : ¬ (c.toNat : Int) < 97 := by omega
              have e2 : (122 : Int) < (c.toNat : Int) := by omega
              have hres := Lib.hid (nameL_no hcl.out (by omega))
              clear hall h97 h122
              go_wp2_with fail
              go_ret
              exact ⟨by rw [hres.out]; rfl, rfl⟩
          · have e1 : (c.toNat : Int) < 97 := by omega
            have hres := Lib.hid (nameL_no hcl.out (by omega))
            clear hall h97
            go_wp2_with fail
            go_ret
            exact ⟨by rw [hres.out]; rfl, rfl⟩
        · have hqs : q = s.data.toList.length := by rw [name_size]; omega
          have hres := Lib.hid (nameL_len (l := s.data.toList) (by rw [← hqs]; exact hall.out))
          rw [name_size] at hres
          clear hall hqs
          rw [decide_eq_true (by omega : 1 ≤ s.size), decide_eq_true (by omega : s.size ≤ 8)] at hres
          go_wp2_with fail
          go_ret
          exact ⟨by rw [hres.out]; rfl, rfl⟩
set_option maxRecDepth 100000 in
theorem hist_below (i n : Int) (w : World) : Calls Try.prog 22 #[.int .i64 i, .int .i64 n] w fun e w' => e = .returned (.bool (decide (0 ≤ i) && decide (i < n))) ∧ w' = w := by
  by_cases h0 : 0 ≤ i
  · by_cases h1 : i < n
    · go_enter Try.func22, Try.ntmps22
      go_wp2_with fail
      go_ret
      exact ⟨by rw [show decide (0 ≤ i) = true from decide_eq_true (by omega), show decide (i < n) = true from decide_eq_true (by omega)]; rfl, rfl⟩
    · go_enter Try.func22, Try.ntmps22
      go_wp2_with fail
      go_ret
      exact ⟨by simp [decide_eq_false (by omega : ¬ i < n)], rfl⟩
  · go_enter Try.func22, Try.ntmps22
    go_wp2_with fail
    go_ret
    exact ⟨by rw [show decide (0 ≤ i) = false from decide_eq_false (by omega)]; rfl, rfl⟩
set_option maxRecDepth 100000 in
set_option maxHeartbeats 2000000 in
/-- slices.Grow(nil, n): no elements, room for n -/
theorem grow_ops (n : Nat) (hn : n ≤ 4398046511104) (w : World) :
    Calls Try.prog 29 #[.slice none 0 0, .int .i64 n] w fun e w' => ∃ v, e = .returned v ∧ w'.ownsRow w.heap.size 41 3 v 0 [] ∧ Below w.heap.size w w' := by
  obtain ⟨i0, hi, hz0, hz1, hz2⟩ := info_parts info_op
  have h1 : ¬ ((n : Int) < 0) := by omega
  by_cases h0 : n = 0
  · subst h0
    go_enter Try.func29, Try.ntmps29
    go_wp2_with fail
    go_ret
    exact ⟨_, rfl, World.ownsRow_nil _ _ _ _, Below.refl _ _⟩
  · have h4 : (0 : Int) < (n : Int) := by omega
    have hrz : ∀ ty, (Builtin.append_ #[36, 3] ty #[.slice none 0 0, .int .i64 (n : Int)]).run Try.prog w =
        .ok (.slice (some ⟨w.heap.size, 0, none⟩) n (grownCap w n 0 41)) (w.drew.alloc (.cells (Builtin.zeroCells (Value.agg #[.bool false, .string .empty, .int .i64 0]).cells n ++ Builtin.zeroCells (Value.agg #[.bool false, .string .empty, .int .i64 0]).cells (grownCap w n 0 41 - n)) 41)) := fun ty =>
      Lib.run_append_nil_zeros w 36 3 ty 41 i0 _ .i64 .i64 Try.underlying36 Try.underlying3 hi hz0 n (by omega) (by rw [hz1]; decide) (by omega) (by rw [hz2]; omega)
    have hge : n ≤ grownCap w n 0 41 := grownCap_ge w _ _ _
    have hle : grownCap w n 0 41 ≤ maxLen := grownCap_le_maxLen w n 0 _ (by unfold maxLen; omega)
    obtain ⟨G, hG⟩ : ∃ G, G = grownCap w n 0 41 := ⟨_, rfl⟩
    rw [← hG] at hrz hge hle
    clear hG
    have hG63 : G ≤ 9223372036854775807 := by unfold maxLen at hle; omega
    obtain ⟨Z, hZ⟩ : ∃ Z, Z = Builtin.zeroCells (Value.agg #[.bool false, .string .empty, .int .i64 0]).cells n ++ Builtin.zeroCells (Value.agg #[.bool false, .string .empty, .int .i64 0]).cells (G - n) := ⟨_, rfl⟩
    have hZs : Z.size = G * 3 := by rw [hZ]; simp [size_zeroCells, Value.cells]; omega
    rw [← hZ] at hrz
    clear hZ
    go_enter Try.func29, Try.ntmps29
    go_wp2_with (at_builtin; refine Lib.wpList_append_run _ rfl _ _ _ _ rfl _ _ rfl rfl _ _ (hrz _) ?_)
    go_ret
    refine ⟨_, rfl, ?_, (((Below.refl _ w).drew).alloc (Nat.le_refl _) _)⟩
    exact ⟨rfl, .inr ⟨_, G, Z, rfl, Nat.le_refl _, World.alloc_heap_new _ _, Nat.zero_le _, hle, hZs, rfl⟩⟩
set_option maxRecDepth 100000 in
set_option maxHeartbeats 4000000 in
theorem concat_ops (A : Option Addr) (n c : Nat) (hs : List (List OpT)) (w : World) (hH : HistAt w A n hs) (hn : n ≤ 9223372036854775807) (hF : (allO hs).length ≤ 4398046511104) :
    Calls Try.prog 25 #[.slice A n c] w (RetOps 41 (allO hs) w) := by
  obtain ⟨i0, hi, hz0, hz1, hz2⟩ := info_parts info_op
  have cG := fun (k : Nat) (hk : k ≤ 4398046511104) (W : World) => grow_ops k hk W
  replace cG := Lib.hid cG
  replace hH := Lib.hid hH
  go_enter Try.func25, Try.ntmps25
  go_wp2_with fail
  go_loop [3, 11] (fun s i => ∃ k N : Nat, k ≤ n ∧ i = .int .i64 k ∧ s = .int .i64 N ∧ Hid (N = (allO (hs.take k)).length)) (fun _ i => n - (intOf i).toNat)
  case atStart => exact ⟨0, 0, Nat.zero_le _, rfl, rfl, Lib.hid rfl⟩
  case round =>
    obtain ⟨k, N, hk, rfl, rfl, hN⟩ := hrel
    by_cases hlt : k < n
    · obtain ⟨b, off, B, m, cc, os, rfl, hb, hos, hcell, hmc, hm63, hO⟩ := hH.out.at_ hlt
      have hlen := allO_take_succ hos
      have hle := allO_take_le hs (k + 1)
      rw [hlen, List.length_append, hO.len, ← hN.out] at hle
      have hlt' : (k : Int) < (n : Int) := by omega
      have hnn : ¬ ((N : Int) + (m : Int) < 0) := by omega
      have hNm : Hid (N + m = (allO (hs.take (k + 1))).length) := Lib.hid (by rw [hlen, List.length_append, hO.len, ← hN.out])
      replace hO := Lib.hid hO
      clear hlen
      replace hos := Lib.hid hos
      replace hmc := Lib.hid hmc
      clear hlt
      go_wp2_with fail
      go_round
      case rel => exact ⟨k + 1, N + m, by omega, by go_num, by go_num, hNm⟩
      case measure => simp [intOf]; omega
    · have hkn : k = n := by omega
      have hall : hs.take k = hs := by rw [hkn, ← hH.out.len]; exact List.take_length
      rw [hall] at hN
      have hkn' : ¬ (k : Int) < (n : Int) := by omega
      have hN' : N ≤ 4398046511104 := by rw [hN.out]; exact hF
      clear hlt hkn hall
      have cG1 := Lib.hid (cG.out N hN' w)
      go_wp2_with fail
      refine cG1.out.mono ?_; rintro e w1 ⟨v, rfl, hown1, b1⟩
      replace hown1 := Lib.hid hown1
      replace b1 := Lib.hid b1
      clear hkn'
      go_wp2_with fail
      go_loopw [6, 27] (fun v i wr => ∃ k : Nat, k ≤ n ∧ i = .int .i64 k ∧ Hid (wr.ownsRow w.heap.size 41 3 v (allO (hs.take k)).length (cellsO (allO (hs.take k))) ∧ OkO (allO (hs.take k)) ∧ Below w.heap.size w wr)) (fun _ i _ => n - (intOf i).toNat)
      case atStart => exact ⟨0, Nat.zero_le _, rfl, Lib.hid ⟨hown1.out, fun o h => by simp [allO] at h, b1.out⟩⟩
      case round =>
        obtain ⟨k, hk, rfl, hI⟩ := hrel
        by_cases hlt : k < n
        · obtain ⟨b, off, B, m, cc, os, rfl, hb, hos, hcell, hmc, hm63, hO⟩ := (hH.out.below hI.out.2.2).at_ hlt
          have hlen := allO_take_succ hos
          have hle := allO_take_le hs (k + 1)
          rw [hlen, List.length_append, hO.len] at hle
          have hlt' : (k : Int) < (n : Int) := by omega
          replace hO := Lib.hid hO
          replace hlen := Lib.hid hlen
          replace hos := Lib.hid hos
          replace hmc := Lib.hid hmc
          clear hlt
          go_wp2_with (at_builtin; refine wpList_append_ops rfl (.tmp 31) (.tmp 32) _ rfl w.heap.size 41 i0 _ Try.underlying36 hi hz0 hz1 hz2 rfl _ _ _ (by rfl) hI.out.1 _ _ _ _ rfl hO.out (by omega) hI.out.2.2.size ?_; intro v' w' hown' hb')
          refine ⟨⟨k + 1, by omega, by go_num, Lib.hid ⟨by rw [hlen.out, List.length_append, hO.out.len]; exact hown', by rw [hlen.out]; exact okO_append hI.out.2.1 hO.out.2.1, hI.out.2.2.trans hb'⟩⟩, by simp [intOf]; omega⟩
        · have hkn : k = n := by omega
          have hall : hs.take k = hs := by rw [hkn, ← hH.out.len]; exact List.take_length
          rw [hall] at hI
          have hkn' : ¬ (k : Int) < (n : Int) := by omega
          clear hlt hkn hall
          obtain ⟨A', cap, hv, hO⟩ := OpsAt.of_own hI.out.1 hI.out.2.1 rfl
          subst hv
          go_wp2_with fail
          go_ret
          exact ⟨A', _, cap, rfl, hI.out.1, rfl, hI.out.2.1, hO, OwnsRow.cap_le hI.out.1, hI.out.2.2⟩
theorem hist_Flat (A : Option Addr) (n c : Nat) (hs : List (List OpT)) (w : World) (hH : HistAt w A n hs) (hnc : n ≤ c) (hn : n ≤ 1099511627776) (hc : c ≤ 9223372036854775807) (hF : (allO hs).length ≤ 1099511627776) :
    Calls Try.prog 17 #[.slice A n c] w (RetOpsW (allO hs) w) := by
  have cP := Lib.hid (concat_ops A n c hs w hH (by omega) (by omega))
  go_enter Try.func17, Try.ntmps17
  go_wp2_with fail
  refine cP.out.mono ?_; rintro e w1 ⟨A1, n1, c1, rfl, -, h1, -, hO, hm, b⟩
  replace h1 := Lib.hid h1
  go_wp2_with fail
  go_ret
  exact ⟨A1, n1, c1, rfl, h1.out, hO, hm, b⟩
set_option maxRecDepth 100000 in
set_option maxHeartbeats 2000000 in
theorem equal_ops (A B : Option Addr) (n c m d : Nat) (s t : List OpT) (w : World) (hX : OpsAt w A n s) (hY : OpsAt w B m t) (hn : n ≤ 9223372036854775807) (hm : m ≤ 9223372036854775807) :
    Calls Try.prog 27 #[.slice A n c, .slice B m d] w fun e w' => e = .returned (.bool (decide (s = t))) ∧ ∃ q, w' = w.drewN q := by
  have hXl := hX.len
  have hYl := hY.len
  by_cases hnm : n = m
  · subst hnm
    have hee : ((n : Int) != (n : Int)) = false := by simp
    replace hX := Lib.hid hX
    replace hY := Lib.hid hY
    replace hXl := Lib.hid hXl
    replace hYl := Lib.hid hYl
    go_enter Try.func27, Try.ntmps27
    go_wp2_with fail
    go_loopw [13] (fun t' wr => ∃ j q : Nat, j ≤ n ∧ t' = .int .i64 j ∧ Hid (∀ i, i < j → s[i]? = t[i]?) ∧ wr = w.drewN q) (fun t' _ => n - (intOf t').toNat)
    case atStart => exact ⟨0, 0, Nat.zero_le _, rfl, Lib.hid (fun i hi => absurd hi (by omega)), rfl⟩
    case round =>
      obtain ⟨j, q2, hj, rfl, hin, rfl⟩ := hrel
      by_cases hjl : j < n
      · have hjl' : (j : Int) < (n : Int) := by omega
        obtain ⟨b3, off3, x, rfl, hb3, hx, hok3, x0, x1, x2⟩ := hX.out.at_ hjl
        obtain ⟨b4, off4, y, rfl, hb4, hy, hok4, y0, y1, y2⟩ := hY.out.at_ hjl
        obtain ⟨xw, xn, xv⟩ := x
        obtain ⟨yw, yn, yv⟩ := y
        simp only at hok3 hok4 x0 x1 x2 y0 y1 y2
        by_cases hxy : (xw, xn, xv) = (yw, yn, yv)
        · have e0 : (xw == yw) = true := by injection hxy with h1 h2; rw [h1]; simp
          have e1 : (xn.toList == yn.toList) = true := by injection hxy with h1 h2; injection h2 with h2 h3; rw [h2]; simp
          have e2 : (xv == yv) = true := by injection hxy with h1 h2; injection h2 with h2 h3; rw [h3]; simp
          have hin' : Hid (∀ i, i < j + 1 → s[i]? = t[i]?) := Lib.hid (fun i hi => by
            rcases Nat.lt_succ_iff_lt_or_eq.1 hi with h1 | h1
            · exact hin.out i h1
            · subst h1; rw [hx, hy, hxy])
          clear hx hy hjl hxy
          go_wp2_with fail
          go_quiet (fail)
          go_wp2_with fail
          exact ⟨⟨j + 1, _, by omega, by go_num, hin', rfl⟩, by simp [intOf]; omega⟩
        · have hno : Hid (decide (s = t) = false) := Lib.hid (decide_eq_false (fun e => by subst e; rw [hx] at hy; injection hy with hy; exact hxy hy))
          have hcs : (xw == yw) = false ∨ ((xw == yw) = true ∧ (xn.toList == yn.toList) = false) ∨ ((xw == yw) = true ∧ (xn.toList == yn.toList) = true ∧ (xv == yv) = false) := by
            cases e0 : (xw == yw) with
            | false => exact Or.inl rfl
            | true =>
              cases e1 : (xn.toList == yn.toList) with
              | false => exact Or.inr (Or.inl ⟨rfl, rfl⟩)
              | true =>
                cases e2 : (xv == yv) with
                | false => exact Or.inr (Or.inr ⟨rfl, rfl, rfl⟩)
                | true =>
                  rw [beq_iff_eq] at e0 e1 e2
                  exact absurd (by rw [e0, toList_inj e1, e2]) hxy
          clear hx hy hjl hxy
          rcases hcs with e0 | ⟨e0, e1⟩ | ⟨e0, e1, e2⟩
          all_goals (
            go_wp2_with fail
            go_quiet (fail)
            go_wp2_with fail
            go_ret
            exact ⟨by rw [hno.out]; rfl, _, World.drewN_drewN _ _ _⟩)
      · have hjn : j = n := by omega
        have hres := Lib.hid (decide_eq_true (sess_eq (s := s) (t := t) (by rw [hXl.out, hYl.out]) (by rw [hXl.out, ← hjn]; exact hin.out)))
        have hlt' : ¬ (j : Int) < (n : Int) := by omega
        clear hin hjl hjn
        go_wp2_with fail
        go_ret
        exact ⟨by rw [hres.out]; rfl, _, rfl⟩
  · have hee : ((n : Int) != (m : Int)) = true := by simp; omega
    have hres : Hid (decide (s = t) = false) := Lib.hid (decide_eq_false (fun e => by subst e; omega))
    clear hnm hX hY
    replace hXl := Lib.hid hXl
    replace hYl := Lib.hid hYl
    go_enter Try.func27, Try.ntmps27
    go_wp2_with fail
    go_ret
    exact ⟨by rw [hres.out]; rfl, 0, rfl⟩
set_option maxRecDepth 100000 in
set_option maxHeartbeats 2000000 in
theorem equalfunc_ops (A B : Option Addr) (n c m d : Nat) (xs ys : List (List OpT)) (w : World) (hX : HistAt w A n xs) (hY : HistAt w B m ys) (hn : n ≤ 9223372036854775807) (hm : m ≤ 9223372036854775807) :
    Calls Try.prog 26 #[.slice A n c, .slice B m d, .func (.func 27) #[] #[]] w fun e w' => e = .returned (.bool (decide (xs = ys))) ∧ ∃ q, w' = w.drewN q := by
  have hXl := hX.len
  have hYl := hY.len
  by_cases hnm : n = m
  · subst hnm
    have hee : ((n : Int) != (n : Int)) = false := by simp
    replace hX := Lib.hid hX
    replace hY := Lib.hid hY
    replace hXl := Lib.hid hXl
    replace hYl := Lib.hid hYl
    go_enter Try.func26, Try.ntmps26
    go_wp2_with fail
    go_loopw [17] (fun t wr => ∃ k q : Nat, k ≤ n ∧ t = .int .i64 k ∧ Hid (∀ i, i < k → xs[i]? = ys[i]?) ∧ wr = w.drewN q) (fun t _ => n - (intOf t).toNat)
    case atStart => exact ⟨0, 0, Nat.zero_le _, rfl, Lib.hid (fun i hi => absurd hi (by omega)), rfl⟩
    case round =>
      obtain ⟨k, q, hk, rfl, hall, rfl⟩ := hrel
      by_cases hlt : k < n
      · have hlt' : (k : Int) < (n : Int) := by omega
        obtain ⟨b1, off1, B1, m1, c1, s, rfl, hb1, hs, hcell1, hmc1, hm1, hO1⟩ := hX.out.at_ hlt
        obtain ⟨b2, off2, B2, m2, c2, t, rfl, hb2, ht, hcell2, hmc2, hm2, hO2⟩ := hY.out.at_ hlt
        have cE := Lib.hid (equal_ops B1 B2 m1 c1 m2 c2 s t (w.drewN q) hO1 hO2 hm1 hm2)
        by_cases hst : s = t
        · have hall' : Hid (∀ i, i < k + 1 → xs[i]? = ys[i]?) := Lib.hid (fun i hi => by
            rcases Nat.lt_succ_iff_lt_or_eq.1 hi with h1 | h1
            · exact hall.out i h1
            · subst h1; rw [hs, ht, hst])
          rw [decide_eq_true hst] at cE
          replace hs := Lib.hid hs
          replace ht := Lib.hid ht
          clear hlt hst hO1 hO2 hall
          go_wp2_with fail
          refine cE.out.mono ?_; rintro e w' ⟨rfl, q', rfl⟩
          go_wp2_with fail
          exact ⟨⟨k + 1, _, by omega, by go_num, hall', rfl⟩, by simp [intOf]; omega⟩
        · have hno : Hid (decide (xs = ys) = false) := Lib.hid (decide_eq_false (fun e => by subst e; rw [hs] at ht; injection ht with ht; exact hst ht))
          rw [decide_eq_false hst] at cE
          replace hs := Lib.hid hs
          replace ht := Lib.hid ht
          clear hlt hst hO1 hO2 hall
          go_wp2_with fail
          refine cE.out.mono ?_; rintro e w' ⟨rfl, q', rfl⟩
          go_wp2_with fail
          go_ret
          exact ⟨by rw [hno.out]; rfl, _, rfl⟩
      · have hkn : k = n := by omega
        have hres := Lib.hid (sameH_yes (a := xs) (b := ys) (by rw [hXl.out, hYl.out]) (by rw [hXl.out, ← hkn]; exact hall.out))
        have hlt' : ¬ (k : Int) < (n : Int) := by omega
        clear hall hkn hlt
        go_wp2_with fail
        go_ret
        exact ⟨by rw [hres.out]; rfl, _, rfl⟩
  · have hee : ((n : Int) != (m : Int)) = true := by simp; omega
    have hres := Lib.hid (sameH_no_len (a := xs) (b := ys) (by omega))
    clear hnm hX hY
    replace hXl := Lib.hid hXl
    replace hYl := Lib.hid hYl
    go_enter Try.func26, Try.ntmps26
    go_wp2_with fail
    go_ret
    exact ⟨by rw [hres.out]; rfl, 0, rfl⟩
theorem hist_Same (A B : Option Addr) (n c m d : Nat) (xs ys : List (List OpT)) (w : World) (hX : HistAt w A n xs) (hY : HistAt w B m ys) (hn : n ≤ c) (hm : m ≤ d) (hc : c ≤ 9223372036854775807) (hd : d ≤ 9223372036854775807) :
    Calls Try.prog 19 #[.slice A n c, .slice B m d] w (RetBool (decide (xs = ys)) w) := by
  have cP := Lib.hid (equalfunc_ops A B n c m d xs ys w hX hY (by omega) (by omega))
  go_enter Try.func19, Try.ntmps19
  go_wp2_with fail
  refine cP.out.mono ?_; rintro e w1 ⟨rfl, q, rfl⟩
  go_wp2_with fail
  go_ret
  exact ⟨rfl, below_drewN (Below.refl _ _) q⟩

end Go.Proofs.Ytkocknlhlljlcaa
