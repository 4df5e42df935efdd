/- Contract of the document's own answer: Reach (a search with a queue). -/
import Derived.Test.YtkikoniihmieiaaQueue
import Derived.Test.YtkikoniihmieiaaHullRef
namespace Go.Proofs.Ytkikoniihmieiaa
open Go.RowKit
set_option linter.unusedVariables false

theorem cut1 {T1 : Type} {Goal F : T1 → Prop} {R : Prop} (h1 : (∀ a, F a → Goal a) → R) (h2 : ∀ a, F a → Goal a) : R := h1 h2
theorem info_bool : (Try.prog.info? 4).map (fun i => (i.zero, i.size, i.bytes)) = some (some (.bool false), 1, 1) := by kernel_rfl
theorem mk_bool (kl kc : IntKind) (n c : Nat) (hnc : n ≤ c) (hc : c ≤ 35184372088832) (W : World) :
    (Instr.makeSlice 87 (.int kl (n : Int)) (.int kc (c : Int))).run Try.prog W = .ok (.slice (some ⟨W.heap.size, 0, none⟩) n c) (W.alloc (.cells (zeros c (.bool false)) 4)) := by
  obtain ⟨i, hi, hz0, hz1, hz2⟩ := info_parts info_bool
  exact run_make_one _ _ i _ Try.underlying87 hi hz0 hz1 rfl kl kc n c hnc (by rw [hz2]; omega) (by omega) W
/-- what is known in the search: the queue, who was seen, the matrix -/
structure StR (w : World) (n : Nat) (A : Option Addr) (c : Nat) (v : Value) (bs : List Bool) (zs : List Nat) (wr : World) : Prop where
  q : QN wr (w.heap.size + 2) 3 v zs
  b : Blk wr (w.heap.size + 1) 4 (bs.map .bool)
  m : MatB wr w.heap.size 24 n A n c
  bel : Below w.heap.size w wr
  big : w.heap.size + 2 ≤ wr.heap.size
theorem StR.later {w : World} {n : Nat} {A : Option Addr} {c : Nat} {v : Value} {bs : List Bool} {zs : List Nat} {wr w' : World} (h : StR w n A c v bs zs wr) (hb : Below wr.heap.size wr w') : StR w n A c v bs zs w' :=
  ⟨h.q.below hb, h.b.below hb h.b.lt, h.m.below_ hb, below_trans2 h.bel hb, Nat.le_trans h.big hb.size⟩
def reachL (bs : List Bool) (k : Nat) : List Nat := (List.range k).filter fun x => bs[x]? == some true
theorem reachL_yes {bs : List Bool} {k : Nat} (h : bs[k]? = some true) : reachL bs (k + 1) = reachL bs k ++ [k] := by
  unfold reachL; rw [List.range_succ, List.filter_append]; simp [h]
theorem reachL_no {bs : List Bool} {k : Nat} (h : bs[k]? = some false) : reachL bs (k + 1) = reachL bs k := by
  unfold reachL; rw [List.range_succ, List.filter_append]; simp [h]
theorem reachL_len (bs : List Bool) (k : Nat) : (reachL bs k).length ≤ k := by
  have := List.length_filter_le (fun x => bs[x]? == some true) (List.range k)
  simpa [reachL] using this
theorem reachL_mem (bs : List Bool) (k x : Nat) : x ∈ reachL bs k ↔ x < k ∧ bs[x]? = some true := by
  unfold reachL; rw [List.mem_filter, List.mem_range, beq_iff_eq]
/-- a call that answers what is reached from i -/
def RetReach (n : Nat) (a : List (List Nat)) (i : Nat) (w : World) (e : Ending) (w' : World) : Prop :=
  ∃ (B : Option Addr) (m d : Nat) (l : List Nat), e = .returned (.slice B m d) ∧ Ints w' B m (l.map Int.ofNat) ∧ (∀ x : Nat, x ∈ l ↔ x < n ∧ Conn (Rel a) i x) ∧ l.length ≤ n ∧ (∀ ad, B = some ad → w.heap.size ≤ ad.block) ∧ Below w.heap.size w w'
set_option maxRecDepth 100000 in
set_option maxHeartbeats 4000000 in
theorem ref4_Reach (A : Option Addr) (n c : Nat) (a : List (List Nat)) (i : Nat) (w : World) (hr : RowsAt w A n a) (hG : Good n a) (hin : i < n) :
    Calls Try.prog 70 #[.agg #[.int .i64 (n : Int), .slice A n c], .int .i64 (i : Int)] w (RetReach n a i w) := by
  have hnn : n ≤ 4096 := hG.le
  obtain ⟨i0, hi, hz0, hz1, hz2⟩ := info_parts info_int
  replace hi := Lib.hid hi
  replace hz0 := Lib.hid hz0
  replace hz1 := Lib.hid hz1
  replace hz2 := Lib.hid hz2
  have hmk := mk_bool .i64 .i64 n n (Nat.le_refl _) (by omega)
  obtain ⟨W0, hW0⟩ : ∃ W0, W0 = w.alloc (.cells #[.int .i64 n, .slice A n c] 24) := ⟨_, rfl⟩
  obtain ⟨W1, hW1⟩ : ∃ W1, W1 = W0.alloc (.cells (zeros n (.bool false)) 4) := ⟨_, rfl⟩
  obtain ⟨W2, hW2⟩ : ∃ W2, W2 = W1.alloc (.cells #[.int .i64 (i : Int)] 3) := ⟨_, rfl⟩
  have b0 : Below w.heap.size w W0 := by rw [hW0]; exact below_alloc _ _
  have b1 : Below W0.heap.size W0 W1 := by rw [hW1]; exact below_alloc _ _
  have b2 : Below W1.heap.size W1 W2 := by rw [hW2]; exact below_alloc _ _
  have hs0 : W0.heap.size = w.heap.size + 1 := by rw [hW0]; simp
  have hs1 : W1.heap.size = w.heap.size + 2 := by rw [hW1]; simp [hs0]
  have hs2 : W2.heap.size = w.heap.size + 3 := by rw [hW2]; simp [hs1]
  have hB0 : MatB W0 w.heap.size 24 n A n c := by rw [hW0]; exact MatB.new w _
  have l0 := hB0.c0
  have hSt : Hid (StR w n A c (.slice (some ⟨w.heap.size + 2, 0, none⟩) 1 1) (List.replicate n false) [i] W2) := Lib.hid
    { q := ⟨w.heap.size + 2, 0, 1, #[.int .i64 (i : Int)], rfl, Nat.le_refl _, by rw [hW2, ← hs1]; exact heap_alloc_new _ _, Nat.le_refl _, by unfold maxLen; omega, by simp, fun j z hj => by
        match j, hj with
        | 0, hj => simp at hj; subst hj; rfl
        | j + 1, hj => simp at hj⟩
      b := by
        have h : Blk W1 (w.heap.size + 1) 4 ((List.replicate n false).map .bool) := by
          rw [hW1, ← hs0, List.map_replicate]
          exact Blk.new W0 _ _
        exact h.below b2 h.lt
      m := (hB0.below_ b1).below_ b2
      bel := below_trans2 (below_trans2 b0 b1) b2
      big := by omega }
  have hR : Hid (ReachI n a i (fun _ _ => False) (List.replicate n false) [i]) := Lib.hid (ReachI.start hin)
  have hU : Hid (unseen (List.replicate n false) + [i].length ≤ n + 1) := Lib.hid (by rw [unseen_all]; simp)
  have hH := Lib.hid (fun (x y : Nat) W (hW : RowsAt W A n a) => ref3_HasG A n c a hG (x : Int) (y : Int) W hW)
  have hn1 := Lib.hid (fun z bs zs => ReachI.next (n := n) (a := a) (i := i) (bs := bs) (zs := zs) (z := z) hG)
  replace hs0 := Lib.hid hs0
  replace hs1 := Lib.hid hs1
  replace hr := Lib.hid hr
  replace hG := Lib.hid hG
  clear b0 b1 b2 hB0 hs2
  have p1 : W0.heap.size = w.heap.size + 1 := hs0.out
  have p2 : W1.heap.size = w.heap.size + 2 := hs1.out
  go_enter Try.func70, Try.ntmps70
  go_wp2_with fail
  rw [← hW0]
  clear hW0
  go_wp2_with fail
  rw [← hW1, ← hW2]
  clear hW1 hW2 hmk l0 p1 p2
  go_loopw [7] (fun v wr => ∃ (bs : List Bool) (zs : List Nat), Hid (ReachI n a i (fun _ _ => False) bs zs) ∧ Hid (unseen bs + zs.length ≤ n + 1) ∧ Hid (StR w n A c v bs zs wr)) (fun v wr => unseenW wr (w.heap.size + 1) + qlen v)
  case atStart => exact ⟨_, _, hR, hU, hSt⟩
  case round =>
    clear hR hU hSt
    obtain ⟨bs, zs, hR, hU, hSt⟩ := hrel
    cases zs with
    | nil =>
      obtain ⟨g, off, cap, rfl⟩ := hSt.out.q.nil
      have hall := Lib.hid hR.out.all
      have hbl := Lib.hid hR.out.len
      have hB := Lib.hid hSt.out.b
      have hMm := Lib.hid hSt.out.m
      have hbel := Lib.hid hSt.out.bel
      have hbig := Lib.hid hSt.out.big
      clear hR hU hSt
      go_wp2_with fail
      go_loopw [5, 10] (fun l t wi => ∃ j : Nat, j ≤ n ∧ t = .int .i64 j ∧ Hid (wi.ownsRow (w.heap.size + 2) 3 1 l (reachL bs j).length ((reachL bs j).map natv)) ∧ Hid (Blk wi (w.heap.size + 1) 4 (bs.map .bool)) ∧ Hid (MatB wi w.heap.size 24 n A n c) ∧ Hid (Below w.heap.size w wi) ∧ Hid (w.heap.size + 2 ≤ wi.heap.size)) (fun _ t _ => n - (intOf t).toNat)
      case atStart => exact ⟨0, Nat.zero_le _, rfl, Lib.hid (World.ownsRow_nil _ _ _ _), hB, hMm, hbel, hbig⟩
      case round =>
        clear hB hMm hbel hbig
        obtain ⟨j, hj, rfl, hown, hB, hMm, hbel, hbig⟩ := hrel
        have l0 := hMm.out.c0
        by_cases hlt : j < n
        · obtain ⟨bj, hbj⟩ : ∃ b, bs[j]? = some b := ⟨_, List.getElem?_eq_getElem (by rw [hbl.out]; exact hlt)⟩
          have cb := Blk.cell hB.out j
          rw [List.getElem?_map, hbj, Option.map_some] at cb
          have hj0 : (0 : Int) ≤ (j : Int) := by omega
          have hjn : (j : Int) < (n : Int) := by omega
          have hrl := reachL_len bs j
          cases bj with
          | true =>
            have hy := Lib.hid (reachL_yes hbj)
            replace hbj := Lib.hid hbj
            go_wp2_with (at_builtin; refine wpList_append_lies _ rfl (.tmp 58) (.tmp 60) _ rfl (w.heap.size + 2) 3 i0 _ 1 8 Try.underlying41 hi.out hz0.out hz1.out hz2.out rfl (by omega) _ _ _ (by rfl) (hown.out.alloc _) ⟨wr.heap.size, 0, none⟩ 1 1 [.int .i64 (j : Int)] rfl rfl (cell_one_new _ _ _) (by simp [Value.oneCell']) (by omega) (by unfold maxLen; omega) (by omega) (by have := hbig.out; simp; omega) _ rfl ?_; intro g2 cap2 w1 hown1 hgrow hat hlt1)
            have hB1 := Lib.hid (Blk.grown (hB.out.alloc _) hgrow (fun e => by have := own_lt_block hown.out _ e.symm; omega))
            have hM1 := Lib.hid (Blk.grown (Blk.alloc hMm.out _) hgrow (fun e => by have := own_lt_block hown.out _ e.symm; omega))
            have hb1 := Lib.hid ((hbel.out.alloc hbel.out.size _).grown hgrow (by have := hbel.out.size; simp; omega) (fun k hk => by have := own_lt_block hown.out k hk; omega))
            have hg1 : Hid (w.heap.size + 2 ≤ w1.heap.size) := Lib.hid (by have := hgrow.size; have := hbig.out; simp at *; omega)
            clear hgrow hat hlt1 cb l0
            go_roundw
            case rel =>
              refine ⟨j + 1, by omega, by go_num, Lib.hid ?_, hB1, hM1, hb1, hg1⟩
              rw [hy.out, List.length_append, List.map_append]
              exact hown1
            case measure => simp [intOf]; omega
          | false =>
            have hy := Lib.hid (reachL_no hbj)
            replace hbj := Lib.hid hbj
            go_wp2_with fail
            go_roundw
            case rel => exact ⟨j + 1, by omega, by go_num, Lib.hid (by rw [hy.out]; exact hown.out), hB, hMm, hbel, hbig⟩
            case measure => simp [intOf]; omega
        · obtain rfl : j = n := by omega
          have hfr := Lib.hid (fun k hk => own_lt_block hown.out k hk)
          obtain ⟨A', c', rfl, hI⟩ := own_ints hown.out (fun x hx => by have := ((reachL_mem _ _ _).1 hx).1; omega)
          replace hI := Lib.hid hI
          clear hown
          go_wp2_with fail
          go_ret
          exact ⟨_, _, _, reachL bs j, rfl, hI.out, fun x => by
            rw [reachL_mem, hall.out], reachL_len _ _, fun ad e => by subst e; have := hfr.out ad.block rfl; omega, hbel.out⟩
    | cons z zs =>
      obtain ⟨g, off, cap, rfl, hcz, hcap, hq1, hq2⟩ := hSt.out.q.pop
      have hM : Hid (unseenW wr (w.heap.size + 1) = unseen bs) := Lib.hid (unseenW_blk hSt.out.b)
      have hz := Lib.hid (hR.out.todo z (List.mem_cons_self ..))
      have hRp := Lib.hid hR.out.pop
      have hzl : 0 < zs.length + 1 := by omega
      replace hq1 := Lib.hid hq1
      replace hq2 := Lib.hid hq2
      have hc1 : 1 ≤ cap := by omega
      clear hR
      go_wp2_with fail
      · have hS : Hid (StR w n A c (.slice (some ⟨g, off, none⟩) zs.length 0) bs zs wr) := Lib.hid { q := hq1.out (by first | rfl | assumption), b := hSt.out.b, m := hSt.out.m, bel := hSt.out.bel, big := hSt.out.big }
        clear hcz hSt hq1 hq2
        go_loopw [7, 9] (fun v t wi => ∃ (j : Nat) (bs' : List Bool) (zs' : List Nat), j ≤ n ∧ t = .int .i64 j ∧ Hid (ReachI n a i (fun x y => x = z ∧ j ≤ y) bs' zs') ∧ Hid (unseen bs' + zs'.length + 1 ≤ unseen bs + (zs.length + 1)) ∧ Hid (StR w n A c v bs' zs' wi)) (fun _ t _ => n - (intOf t).toNat)
        case atStart => exact ⟨0, bs, zs, Nat.zero_le _, rfl, hRp, Lib.hid (by omega), hS⟩
        case round =>
          obtain ⟨j, bs', zs', hj, rfl, hR', hU', hS'⟩ := hrel
          clear hS
          have l0 := hS'.out.m.c0
          have l1 := hS'.out.m.c1
          by_cases hlt : j < n
          · have hC := Lib.hid (hH.out z j wr (hr.out.below hS'.out.bel))
            go_wp2_with fail
            refine hC.out.mono ?_; rintro e w1 ⟨rfl, hb1⟩
            replace hS' := Lib.hid (hS'.out.later hb1)
            clear hb1 hC l0 l1
            cases hh : hasM a (z : Int) (j : Int) with
            | false =>
              have hR2 := Lib.hid (hR'.out.skip (.inl (by unfold Rel; rw [hh]; simp)))
              go_wp2_with fail
              go_roundw
              case rel => exact ⟨j + 1, bs', zs', by omega, by go_num, hR2, hU', hS'⟩
              case measure => simp [intOf]; omega
            | true =>
              have hbl : bs'.length = n := hR'.out.len
              obtain ⟨bj, hbj⟩ : ∃ b, bs'[j]? = some b := ⟨_, List.getElem?_eq_getElem (by omega)⟩
              have cb := Blk.cell hS'.out.b j
              rw [List.getElem?_map, hbj, Option.map_some] at cb
              have hj0 : (0 : Int) ≤ (j : Int) := by omega
              have hjn : (j : Int) < (n : Int) := by omega
              replace hbl := Lib.hid hbl
              cases bj with
              | true =>
                have hR2 := Lib.hid (hR'.out.skip (.inr hbj))
                replace hbj := Lib.hid hbj
                go_wp2_with fail
                go_roundw
                case rel => exact ⟨j + 1, bs', zs', by omega, by go_num, hR2, hU', hS'⟩
                case measure => simp [intOf]; omega
              | false =>
                have hR2 := Lib.hid (hR'.out.push hz.out.2 (by unfold Rel; exact hh) hlt)
                have hun := Lib.hid (unseen_set hbj)
                have fz := Blk.frozen hS'.out.b j
                have hzs : zs'.length ≤ 1073741824 := by have := hU'.out; have := hU.out; simp at this; omega
                have hqw := Lib.hid (hS'.out.q.far (p := ⟨w.heap.size + 1, j, none⟩) (fun e => by have := (hS'.out.q.lt _ e).1; simp at this) (.bool true))
                replace hbj := Lib.hid hbj
                go_wp2_with (at_builtin; refine wpList_append_q _ rfl (.tmp 44) (.tmp 46) _ rfl (w.heap.size + 2) 3 i0 _ Try.underlying41 hi.out hz0.out hz1.out hz2.out rfl (by rfl) (hqw.out.below (below_alloc _ _)) ⟨w1.heap.size, 0, none⟩ 1 j rfl (by have h := Blk.cell (Blk.new (w1.setCell ⟨w.heap.size + 1, j, none⟩ (.bool true)) 3 [.int .i64 (j : Int)]) 0; simpa using h) hzs (by have := hS'.out.big; simp; omega) ?_; intro v' w2 hq' hgrow)
                have hS2 : Hid (StR w n A c v' (bs'.set j true) (zs' ++ [j]) w2) := Lib.hid
                  { q := hq'
                    b := by
                      rw [List.map_set]
                      exact Blk.grown (((hS'.out.b.set_ j (.bool true))).alloc _) hgrow (fun e => by have := (hqw.out.lt _ e.symm).1; omega)
                    m := Blk.grown (((Blk.far hS'.out.m (p := ⟨w.heap.size + 1, j, none⟩) (by simp) (.bool true))).alloc _) hgrow (fun e => by have := (hqw.out.lt _ e.symm).1; omega)
                    bel := ((hS'.out.bel.setCell (p := ⟨w.heap.size + 1, j, none⟩) (by simp) (.bool true)).alloc (by have := hS'.out.big; simp; omega) _).grown hgrow (by have := hS'.out.big; simp; omega) (fun k hk => by have := (hqw.out.lt k hk).1; omega)
                    big := by have := hgrow.size; have := hS'.out.big; simp at *; omega }
                clear hq' hgrow hqw cb fz
                go_roundw
                case rel => exact ⟨j + 1, bs'.set j true, zs' ++ [j], by omega, by go_num, hR2, Lib.hid (by have := hun.out; have := hU'.out; simp; omega), hS2⟩
                case measure => simp [intOf]; omega
          · obtain rfl : j = n := by omega
            have hR2 := Lib.hid (hn1.out z bs' zs' hR'.out)
            have hU2 : Hid (unseen bs' + zs'.length ≤ j + 1) := Lib.hid (by have := hU'.out; have := hU.out; simp at this; omega)
            go_wp2_with fail
            go_roundw
            case rel => exact ⟨bs', zs', hR2, hU2, hS'⟩
            case measure =>
              have h1 := unseenW_blk hS'.out.b
              have h2 := hS'.out.q.qlen_
              have h3 := hU'.out
              rw [h1, h2, hM.out]
              simp only [qlen]
              omega
      · have hS : Hid (StR w n A c (.slice (some ⟨g, off + 1, none⟩) zs.length (cap - 1)) bs zs wr) := Lib.hid { q := hq2.out (by assumption), b := hSt.out.b, m := hSt.out.m, bel := hSt.out.bel, big := hSt.out.big }
        clear hcz hSt hq1 hq2
        go_loopw [7, 9] (fun v t wi => ∃ (j : Nat) (bs' : List Bool) (zs' : List Nat), j ≤ n ∧ t = .int .i64 j ∧ Hid (ReachI n a i (fun x y => x = z ∧ j ≤ y) bs' zs') ∧ Hid (unseen bs' + zs'.length + 1 ≤ unseen bs + (zs.length + 1)) ∧ Hid (StR w n A c v bs' zs' wi)) (fun _ t _ => n - (intOf t).toNat)
        case atStart => exact ⟨0, bs, zs, Nat.zero_le _, rfl, hRp, Lib.hid (by omega), hS⟩
        case round =>
          obtain ⟨j, bs', zs', hj, rfl, hR', hU', hS'⟩ := hrel
          clear hS
          have l0 := hS'.out.m.c0
          have l1 := hS'.out.m.c1
          by_cases hlt : j < n
          · have hC := Lib.hid (hH.out z j wr (hr.out.below hS'.out.bel))
            go_wp2_with fail
            refine hC.out.mono ?_; rintro e w1 ⟨rfl, hb1⟩
            replace hS' := Lib.hid (hS'.out.later hb1)
            clear hb1 hC l0 l1
            cases hh : hasM a (z : Int) (j : Int) with
            | false =>
              have hR2 := Lib.hid (hR'.out.skip (.inl (by unfold Rel; rw [hh]; simp)))
              go_wp2_with fail
              go_roundw
              case rel => exact ⟨j + 1, bs', zs', by omega, by go_num, hR2, hU', hS'⟩
              case measure => simp [intOf]; omega
            | true =>
              have hbl : bs'.length = n := hR'.out.len
              obtain ⟨bj, hbj⟩ : ∃ b, bs'[j]? = some b := ⟨_, List.getElem?_eq_getElem (by omega)⟩
              have cb := Blk.cell hS'.out.b j
              rw [List.getElem?_map, hbj, Option.map_some] at cb
              have hj0 : (0 : Int) ≤ (j : Int) := by omega
              have hjn : (j : Int) < (n : Int) := by omega
              replace hbl := Lib.hid hbl
              cases bj with
              | true =>
                have hR2 := Lib.hid (hR'.out.skip (.inr hbj))
                replace hbj := Lib.hid hbj
                go_wp2_with fail
                go_roundw
                case rel => exact ⟨j + 1, bs', zs', by omega, by go_num, hR2, hU', hS'⟩
                case measure => simp [intOf]; omega
              | false =>
                have hR2 := Lib.hid (hR'.out.push hz.out.2 (by unfold Rel; exact hh) hlt)
                have hun := Lib.hid (unseen_set hbj)
                have fz := Blk.frozen hS'.out.b j
                have hzs : zs'.length ≤ 1073741824 := by have := hU'.out; have := hU.out; simp at this; omega
                have hqw := Lib.hid (hS'.out.q.far (p := ⟨w.heap.size + 1, j, none⟩) (fun e => by have := (hS'.out.q.lt _ e).1; simp at this) (.bool true))
                replace hbj := Lib.hid hbj
                go_wp2_with (at_builtin; refine wpList_append_q _ rfl (.tmp 44) (.tmp 46) _ rfl (w.heap.size + 2) 3 i0 _ Try.underlying41 hi.out hz0.out hz1.out hz2.out rfl (by rfl) (hqw.out.below (below_alloc _ _)) ⟨w1.heap.size, 0, none⟩ 1 j rfl (by have h := Blk.cell (Blk.new (w1.setCell ⟨w.heap.size + 1, j, none⟩ (.bool true)) 3 [.int .i64 (j : Int)]) 0; simpa using h) hzs (by have := hS'.out.big; simp; omega) ?_; intro v' w2 hq' hgrow)
                have hS2 : Hid (StR w n A c v' (bs'.set j true) (zs' ++ [j]) w2) := Lib.hid
                  { q := hq'
                    b := by
                      rw [List.map_set]
                      exact Blk.grown (((hS'.out.b.set_ j (.bool true))).alloc _) hgrow (fun e => by have := (hqw.out.lt _ e.symm).1; omega)
                    m := Blk.grown (((Blk.far hS'.out.m (p := ⟨w.heap.size + 1, j, none⟩) (by simp) (.bool true))).alloc _) hgrow (fun e => by have := (hqw.out.lt _ e.symm).1; omega)
                    bel := ((hS'.out.bel.setCell (p := ⟨w.heap.size + 1, j, none⟩) (by simp) (.bool true)).alloc (by have := hS'.out.big; simp; omega) _).grown hgrow (by have := hS'.out.big; simp; omega) (fun k hk => by have := (hqw.out.lt k hk).1; omega)
                    big := by have := hgrow.size; have := hS'.out.big; simp at *; omega }
                clear hq' hgrow hqw cb fz
                go_roundw
                case rel => exact ⟨j + 1, bs'.set j true, zs' ++ [j], by omega, by go_num, hR2, Lib.hid (by have := hun.out; have := hU'.out; simp; omega), hS2⟩
                case measure => simp [intOf]; omega
          · obtain rfl : j = n := by omega
            have hR2 := Lib.hid (hn1.out z bs' zs' hR'.out)
            have hU2 : Hid (unseen bs' + zs'.length ≤ j + 1) := Lib.hid (by have := hU'.out; have := hU.out; simp at this; omega)
            go_wp2_with fail
            go_roundw
            case rel => exact ⟨bs', zs', hR2, hU2, hS'⟩
            case measure =>
              have h1 := unseenW_blk hS'.out.b
              have h2 := hS'.out.q.qlen_
              have h3 := hU'.out
              rw [h1, h2, hM.out]
              simp only [qlen]
              omega

end Go.Proofs.Ytkikoniihmieiaa
