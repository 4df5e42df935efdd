/- Contracts of package mat: Pairs. -/
import Derived.Test.YtkikoniihmieiaaMatSub
namespace Go.Proofs.Ytkikoniihmieiaa
open Go.RowKit
set_option linter.unusedVariables false

def cellsP (ps : List (Int × Int)) : List Value := ps.flatMap fun p => [.int .i64 p.1, .int .i64 p.2]
theorem cellsP_len (ps : List (Int × Int)) : (cellsP ps).length = ps.length * 2 := by
  induction ps with
  | nil => rfl
  | cons p ps ih =>
    unfold cellsP at ih ⊢
    rw [List.flatMap_cons, List.length_append, ih]
    simp; omega
theorem cellsP_snoc (ps : List (Int × Int)) (p : Int × Int) : cellsP (ps ++ [p]) = cellsP ps ++ [.int .i64 p.1, .int .i64 p.2] := by
  unfold cellsP; rw [List.flatMap_append]; simp
theorem cellsP_get : ∀ (ps : List (Int × Int)) (j : Nat) (p : Int × Int), ps[j]? = some p → (cellsP ps)[j * 2]? = some (.int .i64 p.1) ∧ (cellsP ps)[j * 2 + 1]? = some (.int .i64 p.2)
  | [], j, p, h => by simp at h
  | q :: ps, 0, p, h => by
    simp at h
    subst h
    unfold cellsP
    simp
  | q :: ps, j + 1, p, h => by
    have ih := cellsP_get ps j p (by simpa using h)
    unfold cellsP at ih ⊢
    rw [List.flatMap_cons]
    rw [show (j + 1) * 2 = j * 2 + 2 from by omega]
    exact ⟨by simpa using ih.1, by simpa using ih.2⟩
def OkI (ps : List (Int × Int)) : Prop := ∀ p ∈ ps, (-9223372036854775808 ≤ p.1 ∧ p.1 < 9223372036854775808) ∧ (-9223372036854775808 ≤ p.2 ∧ p.2 < 9223372036854775808)
theorem PairsAt.of_own {w : World} {base n : Nat} {e : TypeId} {v : Value} {ps : List (Int × Int)} (h : w.ownsRow base e 2 v n (cellsP ps)) (hp : OkI ps) : ∃ A c, v = .slice A n c ∧ PairsAt w A n ps := by
  have hlen : ps.length = n := by have := h.1; rw [cellsP_len] at this; omega
  rcases h.2 with ⟨rfl, h0⟩ | ⟨g, cap, cur, rfl, hbg, hg, hnc, hcm, hcs, htake⟩
  · obtain rfl : n = 0 := h0
    exact ⟨none, 0, rfl, hlen, hp, fun hh => by omega⟩
  · refine ⟨_, _, rfl, hlen, hp, fun hn => ⟨g, 0, rfl, (Array.getElem?_eq_some_iff.1 hg).1, fun j p hj => ?_⟩⟩
    have hjl : j < ps.length := (List.getElem?_eq_some_iff.1 hj).1
    obtain ⟨h1, h2⟩ := cellsP_get ps j p hj
    have key : ∀ q u, q < n * 2 → (cellsP ps)[q]? = some u → w.cell? ⟨g, 0 + q, none⟩ = some u := fun q u hq hu => by
      rw [Nat.zero_add, cell_of_row w g q cur e (0, 0) hg]
      rw [← htake, List.getElem?_take_of_lt hq] at hu
      simpa using hu
    refine ⟨key _ _ (by omega) h1, ?_⟩
    have := key (j * 2 + 1) _ (by omega) h2
    rwa [show 0 + (j * 2 + 1) = 0 + j * 2 + 1 from by omega] at this

/-! ### the pairs of a matrix -/
def pairsK (xss : List (List Nat)) (k : Nat) : List (Int × Int) := (List.range k).flatMap fun i => (listR (xss.getD i [])).map fun j => ((i : Int), j)
def pairsM (xss : List (List Nat)) : List (Int × Int) := pairsK xss xss.length
theorem pairsK_succ {xss : List (List Nat)} {k : Nat} {xs : List Nat} (h : xss[k]? = some xs) : pairsK xss (k + 1) = pairsK xss k ++ (listR xs).map fun j => ((k : Int), j) := by
  unfold pairsK
  rw [List.range_succ, List.flatMap_append, List.flatMap_singleton, getD_at h]
def sumK (xss : List (List Nat)) (k : Nat) : Nat := ((List.range k).map fun i => countR (xss.getD i [])).sum
theorem sumK_succ {xss : List (List Nat)} {k : Nat} {xs : List Nat} (h : xss[k]? = some xs) : sumK xss (k + 1) = sumK xss k + countR xs := by
  unfold sumK
  rw [List.range_succ, List.map_append, List.sum_append, List.map_singleton, List.sum_singleton, getD_at h]
theorem sumK_le {xss : List (List Nat)} (B : Nat) (hl : ∀ (i : Nat) (xs : List Nat), xss[i]? = some xs → xs.length ≤ B) : ∀ k, sumK xss k ≤ k * (64 * B)
  | 0 => by simp [sumK]
  | k + 1 => by
    have ih := sumK_le B hl k
    unfold sumK at ih ⊢
    rw [List.range_succ, List.map_append, List.sum_append, List.map_singleton, List.sum_singleton]
    have : countR (xss.getD k []) ≤ 64 * B := by
      rcases Nat.lt_or_ge k xss.length with hk | hk
      · have hx := List.getElem?_eq_getElem hk
        rw [getD_at hx]
        exact Nat.le_trans (countR_le _) (Nat.mul_le_mul_left _ (hl k _ hx))
      · rw [List.getD_eq_getElem?_getD, List.getElem?_eq_none hk]; simp [countR]
    rw [Nat.succ_mul]
    omega
theorem pairsK_len (xss : List (List Nat)) (k : Nat) : (pairsK xss k).length = sumK xss k := by
  unfold pairsK sumK
  rw [List.length_flatMap]
  congr 1
  apply List.map_congr_left
  intro i _
  rw [List.length_map, listR_len]
theorem pairsM_ok (xss : List (List Nat)) (h1 : xss.length ≤ 1073741824) (h : ∀ (i : Nat) (xs : List Nat), xss[i]? = some xs → xs.length ≤ 1073741824) : OkI (pairsM xss) := by
  intro p hp
  unfold pairsM pairsK at hp
  rw [List.mem_flatMap] at hp
  obtain ⟨i, hi, hp⟩ := hp
  have hil := List.mem_range.1 hi
  have hx := List.getElem?_eq_getElem hil
  rw [getD_at hx, List.mem_map] at hp
  obtain ⟨j, hj, rfl⟩ := hp
  unfold listR at hj
  obtain ⟨q, hq, rfl⟩ := List.mem_map.1 hj
  have := ((listN_mem _ q).1 hq).1
  have := h i _ hx
  show (-9223372036854775808 ≤ (i : Int) ∧ (i : Int) < 9223372036854775808) ∧ (-9223372036854775808 ≤ (q : Int) ∧ (q : Int) < 9223372036854775808)
  omega

theorem info_pair : (Try.prog.info? 55).map (fun i => (i.zero, i.size, i.bytes)) = some (some (.agg #[.int .i64 0, .int .i64 0]), 2, 16) := by kernel_rfl
theorem mk_pairs (kl kc : IntKind) (c : Nat) (hc : c ≤ 1099511627776) (W : World) :
    (Instr.makeSlice 37 (.int kl 0) (.int kc (c : Int))).run Try.prog W = .ok (.slice (some ⟨W.heap.size, 0, none⟩) 0 c) (W.alloc (.cells (madeCells #[.int .i64 0, .int .i64 0] (c * 2)) 55)) := by
  obtain ⟨i, hi, hz0, hz1, hz2⟩ := info_parts info_pair
  have hr := run_make (P := Try.prog) W _ _ i _ Try.underlying37 hi hz0 kl kc 0 c (by omega) (by omega) (by rw [hz2]; omega) (by omega)
  rw [hr, hz1]
  rfl
theorem cell_two_new (w : World) (t : TypeId) (x y : Value) : ∀ (j : Nat) (u : Value), [x, y][j]? = some u → (w.alloc (.cells #[x, y] t)).cell? ((⟨w.heap.size, 0, none⟩ : Addr).add j) = some u := by
  intro j u hu
  have hB := Blk.new w t [x, y]
  have h := hB.cell j
  have e : (⟨w.heap.size, 0, none⟩ : Addr).add j = ⟨w.heap.size, j, none⟩ := by unfold Addr.add; split <;> simp_all
  rw [e]
  exact h.trans hu

/-- what a call that answers pairs ends in -/
def RetPairs (ps : List (Int × Int)) (w : World) (e : Ending) (w' : World) : Prop := ∃ A n c, e = .returned (.slice A n c) ∧ PairsAt w' A n ps ∧ Below w.heap.size w w'
set_option maxRecDepth 100000 in
set_option maxHeartbeats 2000000 in
theorem mat_Pairs (N : Int) (A : Option Addr) (n c : Nat) (xss : List (List Nat)) (w : World) (hr : RowsAt w A n xss) (hn : n ≤ 4096) (hl : ∀ (i : Nat) (xs : List Nat), xss[i]? = some xs → xs.length ≤ 1024) :
    Calls Try.prog 20 #[.agg #[.int .i64 N, .slice A n c]] w (RetPairs (pairsM xss) w) := by
  have hlen := hr.len
  obtain ⟨i0, hi, hz0, hz1, hz2⟩ := info_parts info_pair
  replace hi := Lib.hid hi
  replace hz0 := Lib.hid hz0
  replace hz1 := Lib.hid hz1
  replace hz2 := Lib.hid hz2
  obtain ⟨W0, hW0⟩ : ∃ W0, W0 = w.alloc (.cells #[.int .i64 N, .slice A n c] 24) := ⟨_, rfl⟩
  have ha : Below w.heap.size w W0 := by rw [hW0]; exact (Below.refl _ _).alloc (Nat.le_refl _) _
  have hB : MatB W0 w.heap.size 24 N A n c := by rw [hW0]; exact MatB.new w _
  have l1 := hB.c1
  have hsl : ∀ k, k ≤ n → sumK xss k ≤ 268435456 := fun k hk => by
    have := sumK_le 1024 hl k
    have : k * (64 * 1024) ≤ 4096 * 65536 := Nat.mul_le_mul (by omega) (by omega)
    omega
  have hok := Lib.hid (pairsM_ok xss (by omega) (fun i xs hx => Nat.le_trans (hl i xs hx) (by omega)))
  have hs0 : W0.heap.size = w.heap.size + 1 := by rw [hW0]; simp
  have hmk := mk_pairs .i64 .i64 (sumK xss n) (by have := hsl n (Nat.le_refl _); omega) W0
  obtain ⟨W1, hW1⟩ : ∃ W1, W1 = W0.alloc (.cells (madeCells #[.int .i64 0, .int .i64 0] (sumK xss n * 2)) 55) := ⟨_, rfl⟩
  have hown0 : W1.ownsRow w.heap.size 55 2 (.slice (some ⟨W0.heap.size, 0, none⟩) 0 (sumK xss n)) 0 [] := by
    rw [hW1]
    exact World.ownsRow_made W0 _ _ (by omega) (by have := hsl n (Nat.le_refl _); unfold maxLen; omega) (by rw [size_madeCells])
  have hb01 : Below W0.heap.size W0 W1 := by rw [hW1]; exact (Below.refl _ _).alloc (Nat.le_refl _) _
  have ha1 := Lib.hid (below_trans2 ha hb01)
  have hrr0 := Lib.hid (hr.below ha)
  have hrr := Lib.hid ((hr.below ha).below hb01)
  have hB1 := Lib.hid (hB.below_ hb01)
  replace hr := Lib.hid hr
  replace hown0 := Lib.hid hown0
  replace hl := Lib.hid hl
  replace hlen := Lib.hid hlen
  replace hsl := Lib.hid hsl
  rw [← hW1] at hmk
  replace hmk := Lib.hid hmk
  replace hs0 := Lib.hid hs0
  clear ha hB hb01 hW1
  go_enter Try.func20, Try.ntmps20
  go_wp2_with fail
  rw [← hW0]
  clear hW0
  go_loop [3, 14] (fun s i => ∃ k : Nat, k ≤ n ∧ i = .int .i64 k ∧ s = .int .i64 (sumK xss k : Nat)) (fun _ i => n - (intOf i).toNat)
  case atStart => exact ⟨0, Nat.zero_le _, rfl, rfl⟩
  case round =>
    obtain ⟨k, hk, rfl, rfl⟩ := hrel
    by_cases hlt : k < n
    · obtain ⟨b, off, B, m, d, xs, rfl, hbl, hx, hc, hxr⟩ := hrr0.out.at_ hlt
      have hm : m ≤ 1024 := by have := hxr.len; have := hl.out k xs hx; omega
      have hC := Lib.hid (row_Count B m d xs W0 hxr (by omega))
      have hst := Lib.hid (sumK_succ hx)
      have h1 := hsl.out k hk
      have h2 := countR_le xs
      have h3 : xs.length = m := hxr.len
      have h4 : countR xs ≤ 65536 := by omega
      clear hx hxr h2 h3
      go_wp2_with fail
      refine hC.out.mono ?_; rintro e w' ⟨rfl, rfl⟩
      go_wp2
      go_round
      case rel => exact ⟨k + 1, by omega, by go_num, by rw [hst.out]; go_num⟩
      case measure => simp [intOf]; omega
    · obtain rfl : k = n := by omega
      clear hlt
      replace hmk := hmk.out
      have l1' := hB1.out.c1
      have hs1 := hsl.out k (Nat.le_refl _)
      go_wp2_with fail
      clear hmk hs1 l1
      go_loopw [6, 28] (fun l i wr => ∃ q : Nat, q ≤ k ∧ i = .int .i64 q ∧ Hid (wr.ownsRow w.heap.size 55 2 l (pairsK xss q).length (cellsP (pairsK xss q))) ∧ Hid (Below w.heap.size w wr)) (fun _ i _ => k - (intOf i).toNat)
      case atStart => exact ⟨0, Nat.zero_le _, rfl, hown0, ha1⟩
      case round =>
        obtain ⟨q, hq, rfl, hown, hbr⟩ := hrel
        clear hown0
        by_cases hlt : q < k
        · obtain ⟨b, off, B, m, d, xs, rfl, hbl, hx, hc, hxr⟩ := (hr.out.below hbr.out).at_ hlt
          have hm : m ≤ 1024 := by have := hxr.len; have := hl.out q xs hx; omega
          have hL := Lib.hid (row_ListO B m d xs wr hxr (by omega))
          have hst := Lib.hid (pairsK_succ hx)
          have hcl := Lib.hid (listR_len xs)
          have hcount : countR xs ≤ 65536 := by have := countR_le xs; have := hxr.len; omega
          have hpl : (pairsK xss q).length ≤ 268435456 := by rw [pairsK_len]; exact hsl.out q hq
          clear hx hxr
          go_wp2_with fail
          refine hL.out.mono ?_; rintro e w1 ⟨C, y, z, rfl, hIo, hI64, hb1⟩
          have hI := Ints.of_own hIo hI64
          have hy : y ≤ 65536 := by have := hI.len; rw [hcl.out] at this; omega
          have hlist := Lib.hid hI.len
          have hown1 := own_below hown.out hb1
          have hbr1 := Lib.hid (below_trans2 hbr.out hb1)
          have hib : wr.heap.size ≤ w1.heap.size := hb1.size
          replace hI64 := Lib.hid hI64
          clear hI hb1 hL
          go_wp2_with fail
          go_loopw [6, 36] (fun l i wi => ∃ (u : Nat) (D : List (Int × Int)), u ≤ y ∧ i = .int .i64 u ∧ Hid (D = pairsK xss q ++ ((listR xs).take u).map fun j => ((q : Int), j)) ∧ wi.ownsRow w.heap.size 55 2 l D.length (cellsP D) ∧ wi.ownsRow w.heap.size 3 1 (.slice C y z) y ((listR xs).map i64v) ∧ Below w.heap.size w wi) (fun _ i _ => y - (intOf i).toNat)
          case atStart => exact ⟨0, _, Nat.zero_le _, rfl, Lib.hid (by simp), hown1, own_base hIo hbr.out.size, hbr1.out⟩
          case round =>
            obtain ⟨u, D, hu, rfl, hD, hownD, hIo', hbD⟩ := hrel
            clear hown1 hIo
            have hDl : D.length ≤ 268500992 := by
              rw [hD.out, List.length_append, List.length_map, List.length_take]; omega
            by_cases hlu : u < y
            · obtain ⟨b2, o2, x, rfl, hbl2, hx2, hx64, hc2⟩ := (Ints.of_own hIo' hI64.out).at_ hlu
              have hD2 : Hid (D ++ [((q : Int), x)] = pairsK xss q ++ ((listR xs).take (u + 1)).map fun j => ((q : Int), j)) := Lib.hid (by
                rw [List.take_succ_eq_append_getElem (List.getElem?_eq_some_iff.1 hx2).1, (List.getElem?_eq_some_iff.1 hx2).2, hD.out]; simp)
              have hbase : w.heap.size ≤ wr.heap.size := hbD.size
              clear hx2 hx64 hD
              go_wp2_with (at_builtin; refine wpList_append_lies _ rfl (.tmp 40) (.tmp 44) _ rfl w.heap.size 55 i0 _ 2 16 Try.underlying37 hi.out hz0.out hz1.out hz2.out rfl (by omega) _ _ _ (by rfl) (hownD.alloc _) ⟨wr.heap.size, 0, none⟩ 1 1 [.int .i64 (q : Int), .int .i64 x] rfl rfl (cell_two_new _ _ _ _) (by simp [Value.oneCell']) (by omega) (by unfold maxLen; omega) (by omega) (by simp; omega) _ rfl ?_; intro g cap w2 hown2 hgrow hat hlt1; have hb2 := (hbD.alloc hbD.size _).grown hgrow (by have := hbD.size; simp; omega) (own_lt_block hownD); have hIo2 := own_grown (own_below hIo' ((Below.refl _ _).alloc (Nat.le_refl _) _)) (own_below hownD ((Below.refl _ _).alloc (Nat.le_refl _) _)) (by decide) hgrow; clear hgrow hat hlt1)
              go_roundw
              case rel =>
                refine ⟨u + 1, D ++ [((q : Int), x)], by omega, by go_num, hD2, ?_, hIo2, hb2⟩
                rw [List.length_append, cellsP_snoc]
                exact hown2
              case measure => simp [intOf]; omega
            · have hDe : D = pairsK xss (q + 1) := by
                rw [hD.out, hst.out, List.take_of_length_le (by rw [hlist.out]; omega)]
              have hbr2 := Lib.hid hbD
              rw [hDe] at hownD
              clear hDe hD hDl hbD hIo'
              go_wp2_with fail
              go_roundw
              case rel => exact ⟨q + 1, by omega, by go_num, Lib.hid hownD, hbr2⟩
              case measure => simp [intOf]; omega
        · obtain rfl : q = k := by omega
          have he : pairsK xss q = pairsM xss := by unfold pairsM; rw [hlen.out]
          have hown2 := hown.out
          rw [he] at hown2
          obtain ⟨A', c', rfl, hP⟩ := PairsAt.of_own hown2 hok.out
          have hbf := hbr
          clear he hown2 hown
          go_wp2_with fail
          go_ret
          exact ⟨_, _, _, rfl, hP, hbf.out⟩

end Go.Proofs.Ytkikoniihmieiaa
