/- Contracts of package hull: place, below, Closed, Loop. -/
import Derived.Test.YtkikoniihmieiaaHullMath
import Derived.Test.YtkikoniihmieiaaMatSub
import Derived.Test.YtkikoniihmieiaaMat
namespace Go.Proofs.Ytkikoniihmieiaa
open Go.RowKit
set_option linter.unusedVariables false

set_option maxHeartbeats 400000 in
theorem hull_place (m : Nat) (hm : m ≤ 1073741824) (w : World) :
    Calls Try.prog 68 #[.int .i64 (m : Int)] w fun e w' => e = .returned (.tuple #[.int .i64 ((m / 64 : Nat) : Int), .int .u64 ((p2 (m % 64) : Nat) : Int)]) ∧ w = w' := by
  have hA := Lib.hid (i64_and_63 m (by omega))
  have hB := Lib.hid (word_BitN (m % 64) (by omega) w)
  go_enter Try.func68, Try.ntmps68
  go_wp2_with fail
  rw [hA.out]
  refine hB.out.mono ?_; rintro e w' ⟨rfl, rfl⟩
  go_wp2_with fail
  exact bodyPost_ret (v := .tuple #[.int .i64 ((m / 64 : Nat) : Int), .int .u64 ((p2 (m % 64) : Nat) : Int)]) (by simp [results, Try.results68, go_sem]) rfl ⟨rfl, rfl⟩
theorem below_u64 (i n : Int) (h1 : -9223372036854775808 ≤ i) (h2 : i < 9223372036854775808) (h0 : 0 ≤ n) (hn : n ≤ 4611686018427387904) : decide (IntKind.u64.wrap i < n) = belowZ i n := by
  by_cases h : 0 ≤ i
  · have e1 : IntKind.u64.wrap i = i := by rw [IntKind.wrap_u64]; omega
    rw [e1]
    unfold belowZ
    rw [decide_eq_true h, Bool.true_and]
  · rw [belowZ_no (.inl (by omega))]
    refine decide_eq_false ?_
    rw [IntKind.wrap_u64]; omega
set_option maxHeartbeats 400000 in
theorem hull_below (i n : Int) (h1 : -9223372036854775808 ≤ i) (h2 : i < 9223372036854775808) (h0 : 0 ≤ n) (hn : n ≤ 4611686018427387904) (w : World) :
    Calls Try.prog 71 #[.int .i64 i, .int .i64 n] w fun e w' => e = .returned (.bool (belowZ i n)) ∧ w = w' := by
  have H := Lib.hid (below_u64 i n h1 h2 h0 hn)
  go_enter Try.func71, Try.ntmps71
  go_wp2
  go_ret
  rw [← H.out]; exact ⟨rfl, rfl⟩

set_option maxRecDepth 100000 in
set_option maxHeartbeats 2000000 in
theorem hull_Closed (A : Option Addr) (n c : Nat) (a : List (List Nat)) (w : World) (hr : RowsAt w A n a) (hG : Good n a) :
    Calls Try.prog 36 #[.agg #[.int .i64 (n : Int), .slice A n c]] w (RetB (closedB a) w) := by
  obtain ⟨W0, hW0⟩ : ∃ W0, W0 = w.alloc (.cells #[.int .i64 n, .slice A n c] 24) := ⟨_, rfl⟩
  have ha : Below w.heap.size w W0 := by rw [hW0]; exact below_alloc _ _
  have hB : MatB W0 w.heap.size 24 n A n c := by rw [hW0]; exact MatB.new w _
  have l0 := hB.c0
  have l1 := hB.c1
  have hnn : n ≤ 4096 := hG.le
  have hr' := Lib.hid (hr.below ha)
  replace ha := Lib.hid ha
  replace hB := Lib.hid hB
  replace hG := Lib.hid hG
  clear hr
  go_enter Try.func36, Try.ntmps36
  go_wp2_with fail
  rw [← hW0]
  clear hW0
  go_wp2_with fail
  clear l0 l1
  go_loopw [10] (fun i wr => ∃ k : Nat, k ≤ n ∧ i = .int .i64 k ∧ Hid (∀ (i : Nat) (r : List Nat), i < k → a[i]? = some r → ∀ j, j ∈ listN r → ∀ s, a[j]? = some s → subR s r = true) ∧ Hid (Below W0.heap.size W0 wr)) (fun i _ => n - (intOf i).toNat)
  case atStart => exact ⟨0, Nat.zero_le _, rfl, Lib.hid (fun i r hi => absurd hi (by omega)), Lib.hid (Below.refl _ _)⟩
  case round =>
    obtain ⟨k, hk, rfl, hall, hbr⟩ := hrel
    by_cases hlt : k < n
    · obtain ⟨b, off, B, m, d, xs, rfl, hbl, hx, hc, hxr⟩ := (hr'.out.below hbr.out).at_ hlt
      have hm : m ≤ 1024 := by have := hxr.len; have := hG.out.small xs (List.mem_of_getElem? hx); omega
      have hL := Lib.hid (row_List B m d xs wr hxr (by omega))
      have hk0 : (0 : Int) ≤ (k : Int) := by omega
      have hkn : (k : Int) < (n : Int) := by omega
      have hin : Hid (∀ j, j ∈ listN xs → j < n) := Lib.hid (fun j hj => (hG.out.has_lt (i := k) (j := j) (by rw [hasM_in hx]; exact ((listN_mem _ _).1 hj).2)).2)
      have hxn : Hid (∀ j, j ∈ listN xs → ∀ s, a[j]? = some s → subR s xs = false → closedB a = false) := Lib.hid (fun j hj s hs h => closedB_no hx hs hj h)
      have hall' : Hid ((∀ j, j ∈ listN xs → ∀ s, a[j]? = some s → subR s xs = true) → ∀ (i : Nat) (r : List Nat), i < k + 1 → a[i]? = some r → ∀ j, j ∈ listN r → ∀ s, a[j]? = some s → subR s r = true) := Lib.hid (fun h i r hi hr j hj s hs => by
        rcases Nat.lt_succ_iff_lt_or_eq.1 hi with h1 | h1
        · exact hall.out i r h1 hr j hj s hs
        · subst h1
          rw [hx] at hr
          injection hr with hr
          subst hr
          exact h j hj s hs)
      replace hxr := Lib.hid hxr
      clear hx hall
      go_wp2_with fail
      refine hL.out.mono ?_; rintro e w1 ⟨C, y, z, rfl, hI, hb1⟩
      have hy : y = (listN xs).length := by have := hI.len; unfold listR at this; rw [List.length_map] at this; exact this.symm
      have hb01 := Lib.hid (below_trans2 hbr.out hb1)
      have hx1 := Lib.hid (hxr.out.below hb1)
      have hbb := Lib.hid (below_trans2 ha.out hb01.out)
      have l1 := (hB.out.below_ hb01.out).c1
      have hr1 := Lib.hid (hr'.out.below hb01.out)
      have hy64 : y ≤ 65536 := by rw [hy]; have := countR_le xs; have := hxr.out.len; have h2 := listR_len xs; unfold listR at h2; rw [List.length_map] at h2; omega
      replace hI := Lib.hid hI
      replace hy := Lib.hid hy
      clear hb1 hc hL hxr hbr
      go_wp2_with fail
      go_loop [17] (fun t => ∃ q : Nat, q ≤ y ∧ t = .int .i64 q ∧ Hid (∀ (p j : Nat), p < q → (listN xs)[p]? = some j → ∀ s, a[j]? = some s → subR s xs = true)) (fun t => y - (intOf t).toNat)
      case atStart => exact ⟨0, Nat.zero_le _, rfl, Lib.hid (fun p j hp => absurd hp (by omega))⟩
      case round =>
        obtain ⟨q, hq, rfl, hin2⟩ := hrel
        by_cases hlq : q < y
        · obtain ⟨b2, o2, x, rfl, hbl2, hx2, hx64, hc2⟩ := hI.out.at_ hlq
          obtain ⟨j, hj, rfl⟩ : ∃ j : Nat, (listN xs)[q]? = some j ∧ (j : Int) = x := by
            unfold listR at hx2
            rw [List.getElem?_map] at hx2
            cases hh : (listN xs)[q]? with
            | none => rw [hh] at hx2; cases hx2
            | some j => rw [hh] at hx2; exact ⟨j, rfl, by simpa using hx2⟩
          have hjm := List.mem_of_getElem? hj
          have hjn := hin.out j hjm
          obtain ⟨b3, o3, B3, m3, d3, s, e3, hbl3, hs, hc3, hsr⟩ := hr1.out.at_ hjn
          cases e3
          have hm3 : m3 ≤ 1024 := by have := hsr.len; have := hG.out.small s (List.mem_of_getElem? hs); omega
          have hS := Lib.hid (row_Sub B3 B m3 m d3 d s xs w1 hsr hx1.out (by omega) (by omega))
          have hj0 : (0 : Int) ≤ (j : Int) := by omega
          have hjn' : (j : Int) < (n : Int) := by omega
          have hq0 : (0 : Int) ≤ (q : Int) := by omega
          have hqy : (q : Int) < (y : Int) := by omega
          rcases Bool.eq_false_or_eq_true (subR s xs) with ht | ht
          · have hin3 : Hid (∀ (p j : Nat), p < q + 1 → (listN xs)[p]? = some j → ∀ s, a[j]? = some s → subR s xs = true) := Lib.hid (fun p j' hp hj' s' hs' => by
              rcases Nat.lt_succ_iff_lt_or_eq.1 hp with h1 | h1
              · exact hin2.out p j' h1 hj' s' hs'
              · subst h1
                rw [hj] at hj'
                injection hj' with hj'
                subst hj'
                rw [hs] at hs'
                injection hs' with hs'
                subst hs'
                exact ht)
            replace ht := Lib.hid ht
            clear hx2 hj hjm hs hsr hx64
            go_wp2_with fail
            refine hS.out.mono ?_; rintro e w' ⟨rfl, rfl⟩
            rw [ht.out]
            go_wp2_with fail
            go_round
            case rel => exact ⟨q + 1, by omega, by go_num, hin3⟩
            case measure => simp [intOf]; omega
          · have H := Lib.hid (hxn.out j hjm s hs ht)
            replace ht := Lib.hid ht
            clear hx2 hj hjm hs hsr hx64
            go_wp2_with fail
            refine hS.out.mono ?_; rintro e w' ⟨rfl, rfl⟩
            rw [ht.out]
            go_wp2_with fail
            go_ret
            rw [H.out]; exact ⟨rfl, hbb.out⟩
        · have hf := Lib.hid (hall'.out (fun j hj s hs => by
            obtain ⟨p, hp⟩ := List.getElem?_of_mem hj
            have hpl := (List.getElem?_eq_some_iff.1 hp).1
            exact hin2.out p j (by have := hy.out; omega) hp s hs))
          clear hin2
          go_wp2_with fail
          go_roundw
          case rel => exact ⟨k + 1, by omega, by go_num, hf, hb01⟩
          case measure => simp [intOf]; omega
    · have H : Hid (closedB a = true) := Lib.hid (closedB_yes (fun i r hi => hall.out i r (by have := (List.getElem?_eq_some_iff.1 hi).1; have := hG.out.len; omega) hi) (fun i r hi j hj => by
        rw [hG.out.len]
        exact (hG.out.has_lt (i := i) (j := j) (by rw [hasM_in hi]; exact ((listN_mem _ _).1 hj).2)).2))
      go_wp2_with fail
      go_ret
      rw [H.out]; exact ⟨rfl, below_trans2 ha.out hbr.out⟩

/-- the least number that goes round -/
def LoopIs (n : Nat) (a : List (List Nat)) (r : Int) (b : Bool) : Prop := (b = true ∧ ∃ i : Nat, r = (i : Int) ∧ i < n ∧ Rel a i i ∧ ∀ j, j < i → ¬ Rel a j j) ∨ (b = false ∧ r = 0 ∧ ∀ i, i < n → ¬ Rel a i i)
theorem LoopIs.unique {n : Nat} {a : List (List Nat)} {r s : Int} {b c : Bool} (h : LoopIs n a r b) (k : LoopIs n a s c) : r = s ∧ b = c := by
  rcases h with ⟨rfl, i, rfl, hi, h1, h2⟩ | ⟨rfl, rfl, h1⟩ <;> rcases k with ⟨rfl, j, rfl, hj, k1, k2⟩ | ⟨rfl, rfl, k1⟩
  · refine ⟨?_, rfl⟩
    rcases Nat.lt_trichotomy i j with h3 | h3 | h3
    · exact absurd h1 (k2 i h3)
    · rw [h3]
    · exact absurd k1 (h2 j h3)
  · exact absurd h1 (k1 i hi)
  · exact absurd k1 (h1 j hj)
  · exact ⟨rfl, rfl⟩
def RetLoop (n : Nat) (a : List (List Nat)) (w : World) (e : Ending) (w' : World) : Prop := ∃ r b, e = .returned (.tuple #[.int .i64 r, .bool b]) ∧ LoopIs n a r b ∧ Below w.heap.size w w'
set_option maxHeartbeats 1000000 in
theorem hull_Loop (A : Option Addr) (n c : Nat) (a : List (List Nat)) (w : World) (hr : RowsAt w A n a) (hn : n ≤ 4096) (hl : ∀ xs ∈ a, xs.length ≤ 1024) :
    Calls Try.prog 32 #[.agg #[.int .i64 (n : Int), .slice A n c]] w (RetLoop n a w) := by
  obtain ⟨W0, hW0⟩ : ∃ W0, W0 = w.alloc (.cells #[.int .i64 n, .slice A n c] 24) := ⟨_, rfl⟩
  have ha : Below w.heap.size w W0 := by rw [hW0]; exact below_alloc _ _
  have hB : MatB W0 w.heap.size 24 n A n c := by rw [hW0]; exact MatB.new w _
  have l0 := hB.c0
  have l1 := hB.c1
  have hr' := Lib.hid (hr.below ha)
  have hC := Lib.hid (fun (k : Nat) (hk : k < n) W (hW : RowsAt W A n a) => mat_Has (n: Int) A n c a (k: Int) (k: Int) W hW (by omega) (fun xs hx => by have := hl xs hx; omega) (by omega) (by omega) (by omega) (by omega))
  replace ha := Lib.hid ha
  replace hB := Lib.hid hB
  clear hr hl
  go_enter Try.func32, Try.ntmps32
  go_wp2_with fail
  rw [← hW0]
  clear hW0
  go_wp2_with fail
  clear l0 l1
  go_loopw [7] (fun i wr => ∃ k : Nat, k ≤ n ∧ i = .int .i64 k ∧ Hid (∀ j, j < k → ¬ Rel a j j) ∧ Hid (Below W0.heap.size W0 wr)) (fun i _ => n - (intOf i).toNat)
  case atStart => exact ⟨0, Nat.zero_le _, rfl, Lib.hid (fun j hj => absurd hj (by omega)), Lib.hid (Below.refl _ _)⟩
  case round =>
    obtain ⟨k, hk, rfl, hall, hbr⟩ := hrel
    have l0 := (hB.out.below_ hbr.out).c0
    have l1 := (hB.out.below_ hbr.out).c1
    by_cases hlt : k < n
    · have hCk := Lib.hid (hC.out k hlt wr (hr'.out.below hbr.out))
      go_wp2_with fail
      refine hCk.out.mono ?_; rintro e w1 ⟨rfl, hb1⟩
      have hb01 := Lib.hid (below_trans2 hbr.out hb1)
      clear hb1 l0 l1 hCk
      cases hh : hasM a (k : Int) (k : Int) with
      | true =>
        have hres : Hid (LoopIs n a (k : Int) true) := Lib.hid (.inl ⟨rfl, k, rfl, hlt, hh, hall.out⟩)
        go_wp2_with fail
        exact bodyPost_ret (v := .tuple #[.int .i64 (k : Int), .bool true]) (by simp [results, Try.results32, go_sem]) rfl ⟨_, _, rfl, hres.out, below_trans2 ha.out hb01.out⟩
      | false =>
        have hall' : Hid (∀ j, j < k + 1 → ¬ Rel a j j) := Lib.hid (fun j hj => by
          rcases Nat.lt_succ_iff_lt_or_eq.1 hj with h1 | h1
          · exact hall.out j h1
          · subst h1
            unfold Rel
            rw [hh]; simp)
        clear hall
        go_wp2_with fail
        go_roundw
        case rel => exact ⟨k + 1, by omega, by go_num, hall', hb01⟩
        case measure => simp [intOf]; omega
    · have hres : Hid (LoopIs n a 0 false) := Lib.hid (.inr ⟨rfl, rfl, fun i hi => hall.out i (by omega)⟩)
      go_wp2_with fail
      exact bodyPost_ret (v := .tuple #[.int .i64 0, .bool false]) (by simp [results, Try.results32, go_sem]) rfl ⟨_, _, rfl, hres.out, below_trans2 ha.out hbr.out⟩

set_option maxHeartbeats 1000000 in
theorem hull_Add_no (A : Option Addr) (n c : Nat) (i j : Int) (w : World) (hn : n ≤ 4096) (h : belowZ i n = false ∨ belowZ j n = false) (i0 : -9223372036854775808 ≤ i) (i1 : i < 9223372036854775808) (j0 : -9223372036854775808 ≤ j) (j1 : j < 9223372036854775808) :
    Calls Try.prog 34 #[.agg #[.int .i64 (n : Int), .slice A n c], .int .i64 i, .int .i64 j] w (RetMat 0 [] 1 w) := by
  obtain ⟨W0, hW0⟩ : ∃ W0, W0 = (w.alloc (.cells #[.int .i64 n, .slice A n c] 24)).alloc (.cells #[.int .i64 0, .slice none 0 0] 24) := ⟨_, rfl⟩
  have ha : Below w.heap.size w W0 := by rw [hW0]; exact ((Below.refl _ _).alloc (Nat.le_refl _) _).alloc (by simp) _
  have hB1 : MatB W0 w.heap.size 24 n A n c := by rw [hW0]; exact (MatB.new w _).below_ (below_alloc _ _)
  have hB2 : MatB W0 (w.heap.size + 1) 24 0 none 0 0 := by rw [hW0]; exact MatB.new1 w _ _
  have l0 := hB1.c0
  have f0 := hB2.c0
  have f1 := hB2.c1
  have g0 := hB2.frozen 0
  have g1 := hB2.frozen 1
  have hbi := Lib.hid (fun W => hull_below i n i0 i1 (by omega) (by omega) W)
  have hbj := Lib.hid (fun W => hull_below j n j0 j1 (by omega) (by omega) W)
  replace ha := Lib.hid ha
  replace hB1 := Lib.hid hB1
  replace hB2 := Lib.hid hB2
  have hfin : Hid (RetMat 0 [] 1 w (.returned (.tuple #[.agg #[.int .i64 0, .slice none 0 0], .int .i64 1])) ((W0.setCell ⟨w.heap.size + 1, 0, none⟩ (.int .i64 0)).setCell ⟨w.heap.size + 1, 1, none⟩ (.slice none 0 0))) :=
    Lib.hid ⟨none, 0, 0, rfl, RowsAt.nil _ _, Nat.le_refl _, (ha.out.setCell (by simp) _).setCell (by simp) _⟩
  have hcc := hB2.out.two (.int .i64 0) (.slice none 0 0)
  have hc1 := hcc.1
  have hc2 := hcc.2
  clear hcc
  go_enter Try.func34, Try.ntmps34
  go_wp2_with fail
  rw [← hW0]
  clear hW0
  go_wp2_with fail
  refine (hbi.out W0).mono ?_; rintro e w' ⟨rfl, rfl⟩
  cases hh : belowZ i n with
  | false =>
    go_wp2_with fail
    exact bodyPost_ret (v := .tuple #[.agg #[.int .i64 0, .slice none 0 0], .int .i64 1]) (by simp [results, Try.results34, go_sem, hc1, hc2]) rfl hfin.out
  | true =>
    have h2 : belowZ j n = false := by
      rcases h with h | h
      · rw [hh] at h; cases h
      · exact h
    go_wp2_with fail
    refine (hbj.out W0).mono ?_; rintro e w' ⟨rfl, rfl⟩
    rw [h2]
    go_wp2_with fail
    exact bodyPost_ret (v := .tuple #[.agg #[.int .i64 0, .slice none 0 0], .int .i64 1]) (by simp [results, Try.results34, go_sem, hc1, hc2]) rfl hfin.out

end Go.Proofs.Ytkikoniihmieiaa
