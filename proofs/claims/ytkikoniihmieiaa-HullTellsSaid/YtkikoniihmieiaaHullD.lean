/- Contracts of package hull: chosen, keep, Within. -/
import Derived.Test.YtkikoniihmieiaaHullC
import Derived.Test.YtkikoniihmieiaaHullRefC
namespace Go.Proofs.Ytkikoniihmieiaa
open Go.RowKit
set_option linter.unusedVariables false

def andR (a b : List Nat) : List Nat := (List.range a.length).map fun j => a.getD j 0 &&& b.getD j 0
def andK (N : Nat) (a b : List Nat) (k : Nat) : List Nat := (List.range N).map fun j => if j < k then a.getD j 0 &&& b.getD j 0 else 0
theorem andR_len (a b : List Nat) : (andR a b).length = a.length := by simp [andR]
theorem andK_len (N : Nat) (a b : List Nat) (k : Nat) : (andK N a b k).length = N := by simp [andK]
theorem andK_zero (N : Nat) (a b : List Nat) : andK N a b 0 = List.replicate N 0 := by
  unfold andK; apply List.ext_getElem (by simp); intro i _ _; simp
theorem andK_get (N : Nat) (a b : List Nat) (k : Nat) (h : k < N) : (andK N a b k)[k]? = some 0 := by
  unfold andK; rw [List.getElem?_map, List.getElem?_range h]; simp
theorem andK_set (N : Nat) (a b : List Nat) (k : Nat) : (andK N a b k).set k (a.getD k 0 &&& b.getD k 0) = andK N a b (k + 1) := by
  apply List.ext_getElem?
  intro j
  rw [List.getElem?_set, andK_len]
  by_cases hj : j < N
  · unfold andK
    rw [List.getElem?_map, List.getElem?_map, List.getElem?_range hj, Option.map_some, Option.map_some]
    by_cases hk : k = j
    · subst hk
      rw [if_pos rfl, if_pos hj, if_pos (by omega)]
    · rw [if_neg hk]
      by_cases h1 : j < k
      · rw [if_pos h1, if_pos (by omega)]
      · rw [if_neg h1, if_neg (by omega)]
  · rw [List.getElem?_eq_none (l := andK N a b (k + 1)) (by rw [andK_len]; omega), List.getElem?_eq_none (l := andK N a b k) (by rw [andK_len]; omega)]
    split
    · rename_i h
      rw [if_neg (by omega)]
    · rfl
theorem andK_all (a b : List Nat) : andK a.length a b a.length = andR a b := by
  unfold andK andR
  apply List.map_congr_left
  intro j hj
  rw [if_pos (List.mem_range.1 hj)]
theorem andR_w64 {a b : List Nat} (ha : W64 a) : W64 (andR a b) := by
  intro x hx
  obtain ⟨j, _, rfl⟩ := List.mem_map.1 hx
  exact Nat.lt_of_le_of_lt Nat.and_le_left (getD_w64 ha j)
theorem hasR_andR {a b : List Nat} (j : Nat) : hasR (andR a b) (j : Int) = (hasR a (j : Int) && hasR b (j : Int)) := by
  rw [hasR_nat, hasR_nat, hasR_nat]
  by_cases hk : j / 64 < a.length
  · have h1 : (andR a b)[j / 64]? = some (a.getD (j / 64) 0 &&& b.getD (j / 64) 0) := by
      unfold andR; rw [List.getElem?_map, List.getElem?_range hk]; rfl
    rw [getD_at h1, Nat.testBit_and]
  · rw [getD_out a _ (by omega), getD_out (andR a b) _ (by rw [andR_len]; omega), Nat.zero_testBit, Bool.false_and]

/-- a row of n bits that has those of l -/
def ChosenR (n N : Nat) (l : List Int) (xs : List Nat) : Prop := xs.length = N ∧ W64 xs ∧ ∀ j : Nat, hasR xs (j : Int) = (decide (j < n) && decide ((j : Int) ∈ l))
theorem ChosenR.start (n N : Nat) : ChosenR n N [] (List.replicate N 0) := ⟨by simp, fun x hx => by rw [(List.mem_replicate.1 hx).2]; omega, fun j => by rw [hasR_zeros]; simp⟩
theorem ChosenR.skip {n N : Nat} {l : List Int} {xs : List Nat} (h : ChosenR n N l xs) {x : Int} (hx : belowZ x n = false) : ChosenR n N (l ++ [x]) xs := ⟨h.1, h.2.1, fun j => by
  rw [h.2.2 j]
  by_cases hj : j < n
  · have hne : ¬ (j : Int) = x := by
      intro e
      rw [← e, belowZ_yes (by omega) (by omega)] at hx; cases hx
    simp [hj, hne]
  · simp [hj]⟩
theorem ChosenR.put {n N : Nat} {l : List Int} {xs : List Nat} (h : ChosenR n N l xs) {p : Nat} (hp : p < n) (hn : n ≤ 64 * N) : ChosenR n N (l ++ [(p : Int)]) (setR xs (p : Int)) := ⟨by rw [setR_len]; exact h.1, setR_w64 h.2.1 p, fun j => by
  rw [hasR_setR xs p j (by rw [h.1]; omega), h.2.2 j]
  by_cases hj : j = p
  · subst hj
    simp [hp]
  · have : ¬ (j : Int) = (p : Int) := by omega
    simp [hj, this]⟩
def RetChosen (n N : Nat) (l : List Int) (w : World) (e : Ending) (w' : World) : Prop := ∃ g xs, e = .returned (.slice (some ⟨g, 0, none⟩) N N) ∧ Row w' (some ⟨g, 0, none⟩) N xs ∧ ChosenR n N l xs ∧ g < w'.heap.size ∧ Below w.heap.size w w'
set_option maxRecDepth 100000 in
set_option maxHeartbeats 2000000 in
theorem hull_chosen (L : Option Addr) (m d n : Nat) (zs : List Int) (w : World) (hz : Ints w L m zs) (hm : m ≤ 1073741824) (hn : n ≤ 4096) :
    Calls Try.prog 73 #[.slice L m d, .int .i64 (n : Int)] w (RetChosen n (wordsN (n : Int)) zs w) := by
  have hw := Lib.hid (wordsZ_N (n : Int))
  obtain ⟨N, hN⟩ : ∃ N, N = wordsN (n : Int) := ⟨_, rfl⟩
  have hN64 : N ≤ 64 := by rw [hN]; exact words_le hn
  have hnN : n ≤ 64 * N := by
    rcases Nat.eq_zero_or_pos n with h0 | h0
    · omega
    · rw [hN]; exact (words_pos h0).2
  rw [← hN] at hw ⊢
  have hmk := mk_u64 .i64 .i64 N N (Nat.le_refl _) (by omega)
  have hlen := Lib.hid hz.len
  obtain ⟨W1, hW1⟩ : ∃ W1, W1 = w.alloc (.cells (zeros N (.int .u64 0)) 56) := ⟨_, rfl⟩
  have hb1 := Lib.hid (show Below w.heap.size w W1 by rw [hW1]; exact below_alloc _ _)
  have hown := Lib.hid (show W1.ownsRow w.heap.size 56 1 (.slice (some ⟨w.heap.size, 0, none⟩) N N) N ((List.replicate N 0).map u64v) by
    rw [hW1]; simpa [u64v] using own_zeros w N (.int .u64 0) 56 (by unfold maxLen; omega))
  replace hz := Lib.hid hz
  replace hN := Lib.hid hN
  go_enter Try.func73, Try.ntmps73
  go_wp2_with fail
  refine (row_Words _ (by omega) (by omega) _).mono ?_; rintro e w' ⟨rfl, rfl⟩
  rw [hw.out]
  go_wp2_with fail
  rw [← hW1]
  clear hW1 hmk
  go_loopw [15] (fun t wr => ∃ (q : Nat) (xs : List Nat), q ≤ m ∧ t = .int .i64 q ∧ Hid (wr.ownsRow w.heap.size 56 1 (.slice (some ⟨w.heap.size, 0, none⟩) N N) N (xs.map u64v)) ∧ Hid (ChosenR n N (zs.take q) xs) ∧ Hid (Below w.heap.size w wr)) (fun t _ => m - (intOf t).toNat)
  case atStart => exact ⟨0, _, Nat.zero_le _, rfl, hown, Lib.hid (ChosenR.start n N), hb1⟩
  case round =>
    clear hown hb1
    obtain ⟨q, xs, hq, rfl, hown, hC, hbel⟩ := hrel
    by_cases hlt : q < m
    · obtain ⟨b, off, x, rfl, hbl, hx, hx64, hc⟩ := (hz.out.below hbel.out).at_ hlt
      have htake : zs.take (q + 1) = zs.take q ++ [x] := by
        rw [List.take_succ_eq_append_getElem (List.getElem?_eq_some_iff.1 hx).1, (List.getElem?_eq_some_iff.1 hx).2]
      have hB := Lib.hid (hull_below x (n : Int) hx64.1 hx64.2 (by omega) (by omega) wr)
      have hq0 : (0 : Int) ≤ (q : Int) := by omega
      have hqm : (q : Int) < (m : Int) := by omega
      clear hx
      cases hbz : belowZ x (n : Int) with
      | false =>
        have hC2 := Lib.hid (hC.out.skip hbz)
        rw [← htake] at hC2
        clear htake
        go_wp2_with fail
        refine hB.out.mono ?_; rintro e w' ⟨rfl, rfl⟩
        rw [hbz]
        clear hbz
        go_wp2_with fail
        go_roundw
        case rel => exact ⟨q + 1, xs, by omega, by go_num, hown, hC2, hbel⟩
        case measure => simp [intOf]; omega
      | true =>
        have hbz' := hbz
        unfold belowZ at hbz'
        simp only [Bool.and_eq_true, decide_eq_true_eq] at hbz'
        obtain ⟨p, rfl⟩ := Int.eq_ofNat_of_zero_le hbz'.1
        have hpn : p < n := by omega
        have hC2 := hC.out.put hpn hnN
        rw [← htake] at hC2
        have hxl : xs.length = N := hC.out.1
        obtain ⟨y, hy⟩ : ∃ y, xs[p / 64]? = some y := ⟨_, List.getElem?_eq_getElem (by omega)⟩
        have hy64 : y < 18446744073709551616 := hC.out.2.1 y (List.mem_of_getElem? hy)
        rw [setR_in (by omega) hy] at hC2
        have hP := Lib.hid (hull_place p (by omega) wr)
        have hE := Lib.hid (u64_or_nat y (p2 (p % 64)) hy64 (by have := p2_lt (p % 64) (by omega); omega))
        have hcy : wr.cell? ⟨w.heap.size, p / 64, none⟩ = some (.int .u64 (y : Int)) := by
          rw [hown.out.cellAt _ (by omega), List.getElem?_map, hy]; rfl
        have hfy := hown.out.frozenAt (p / 64)
        have hpp0 : (0 : Int) ≤ ((p / 64 : Nat) : Int) := by omega
        have hppm : ((p / 64 : Nat) : Int) < (N : Int) := by omega
        have hpp1 : (((p / 64 : Nat) : Int)).toNat = p / 64 := by omega
        replace hC2 := Lib.hid hC2
        clear htake hbz' hy hxl hy64
        go_wp2_with fail
        refine hB.out.mono ?_; rintro e w' ⟨rfl, rfl⟩
        rw [hbz]
        clear hbz
        go_wp2_with fail
        refine hP.out.mono ?_; rintro e w' ⟨rfl, rfl⟩
        go_wp2_with fail
        rw [hE.out]
        go_roundw
        case rel =>
          refine ⟨q + 1, _, by omega, by go_num, Lib.hid ?_, hC2, Lib.hid (hbel.out.setCell (by simp) _)⟩
          rw [List.map_set]
          exact (hown.out.stored _ _).1
        case measure => simp [intOf]; omega
    · obtain rfl : q = m := by omega
      rw [List.take_of_length_le (by rw [hlen.out]; exact Nat.le_refl _)] at hC
      go_wp2_with fail
      go_ret
      exact ⟨_, xs, rfl, Row.of_own hown.out hC.out.2.1, hC.out, (hown.out.lt _ rfl).2, hbel.out⟩
set_option maxRecDepth 100000 in
set_option maxHeartbeats 2000000 in
theorem hull_keep (g base n c d e' : Nat) (B M : Option Addr) (ys zs : List Nat) (w : World) (hown : w.ownsRow base 56 1 (.slice (some ⟨g, 0, none⟩) n c) n ((List.replicate n 0).map u64v)) (hs : Row w B n ys) (hz : Row w M n zs)
    (h1 : ∀ ad, B = some ad → ad.block ≠ g) (h2 : ∀ ad, M = some ad → ad.block ≠ g) (hn : n ≤ 1073741824) :
    Calls Try.prog 74 #[.slice (some ⟨g, 0, none⟩) n c, .slice B n d, .slice M n e'] w (RetJoinIn g base n c (andR ys zs) w) := by
  have hl := hs.len
  have hall : andK n ys zs n = andR ys zs := by rw [← hl]; exact andK_all ys zs
  replace hall := Lib.hid hall
  replace hl := Lib.hid hl
  have hrow := Lib.hid (fun W (ho : OnlyAt g w W) => hs.only ho h1)
  have hmask := Lib.hid (fun W (ho : OnlyAt g w W) => hz.only ho h2)
  replace hown := Lib.hid hown
  clear hs hz h1 h2
  go_enter Try.func74, Try.ntmps74
  go_wp2_with fail
  go_loopw [10] (fun i wr => ∃ k : Nat, k ≤ n ∧ i = .int .i64 k ∧ Hid (wr.ownsRow base 56 1 (.slice (some ⟨g, 0, none⟩) n c) n ((andK n ys zs k).map u64v)) ∧ Hid (OnlyAt g w wr)) (fun i _ => n - (intOf i).toNat)
  case atStart => exact ⟨0, Nat.zero_le _, rfl, Lib.hid (by rw [andK_zero]; exact hown.out), Lib.hid (OnlyAt.refl _ _)⟩
  case round =>
    obtain ⟨k, hk, rfl, hownr, hor⟩ := hrel
    clear hown
    by_cases hlt : k < n
    · obtain ⟨b, off, y, rfl, hbk, hy, hy64, hc⟩ := (hrow.out wr hor.out).at_ hlt
      obtain ⟨b2, off2, z, rfl, hbk2, hz, hz64, hc2⟩ := (hmask.out wr hor.out).at_ hlt
      have hcg : wr.cell? ⟨g, k, none⟩ = some (.int .u64 0) := by
        rw [hownr.out.cellAt _ (by omega), List.getElem?_map, andK_get n ys zs k hlt]; rfl
      have hand : y &&& z < 18446744073709551616 := Nat.lt_of_le_of_lt Nat.and_le_left hy64
      have hE := u64_and_nat y z hy64 hz64
      have hE2 := u64_or_nat 0 (y &&& z) (by omega) hand
      rw [Nat.zero_or] at hE2
      replace hE := Lib.hid hE
      replace hE2 := Lib.hid hE2
      have hst := andK_set n ys zs k
      rw [Row.get hy, Row.get hz] at hst
      replace hst := Lib.hid hst
      have hk0 : (0 : Int) ≤ (k : Int) := by omega
      have hkn : (k : Int) < (n : Int) := by omega
      clear hy hz hand
      go_wp2_with fail
      refine wp_region_plan 12 [(true, 0), (true, 1), (true, 2), (true, 3), (true, 4), (true, 5), (true, 6), (true, 7), (true, 8), (true, 9), (true, 10), (true, 11)] (by kernel_rfl) (by kernel_rfl) (fun W hW => ?_)
      have hownW := Lib.hid (show W.ownsRow base 56 1 (.slice (some ⟨g, 0, none⟩) n c) n ((andK n ys zs k).map u64v) by rw [hW.out]; exact hownr.out.drew)
      have hoW := Lib.hid (show OnlyAt g w W by rw [hW.out]; exact hor.out.drewN 1)
      replace hcg : W.cell? ⟨g, k, none⟩ = some (.int .u64 0) := by rw [hW.out]; exact hcg
      replace hc2 : W.cell? ⟨b2, off2 + k, none⟩ = some (.int .u64 (z : Int)) := by rw [hW.out]; exact hc2
      have hf := hownW.out.frozenAt k
      clear hW hownr hor hc
      simp only [List.drop_succ_cons, List.drop_zero]
      iterate 12
        refine wpPlan_float (v := ?_) rfl (by rfl) (fun w' hw' => ?_) (fun K hK => ?_)
        rotate_left
        · (go_simp; try with_reducible rfl)
        go_simp
        refine hK _ ?_
        clear hK K
      rw [hE.out]
      refine wpPlan_nil ?_
      go_wp2_with fail
      refine NoPanic.normal ?_
      go_wp2_with fail
      go_roundw
      case rel =>
        refine ⟨k + 1, by omega, by go_num, Lib.hid ?_, Lib.hid (hoW.out.set k _)⟩
        rw [← hst.out, List.map_set]
        have h := hE2.out
        rw [show ((0 : Nat) : Int) = 0 from rfl] at h
        rw [h]
        exact (hownW.out.stored _ _).1
      case measure => simp [intOf]; omega
    · obtain rfl : k = n := by omega
      go_wp2_with fail
      go_end0
      exact ⟨rfl, by rw [← hall.out]; exact hownr.out, hor.out⟩

def withRow (inn : List Nat) (i : Nat) (r : List Nat) : List Nat := if hasR inn (i : Int) = true then andR r inn else List.replicate r.length 0
def withPre (a : List (List Nat)) (inn : List Nat) (k : Nat) : List (List Nat) := (List.range k).map fun i => withRow inn i (a.getD i [])
theorem withPre_len (a : List (List Nat)) (inn : List Nat) (k : Nat) : (withPre a inn k).length = k := by simp [withPre]
theorem withPre_succ {a : List (List Nat)} {inn : List Nat} {k : Nat} {r : List Nat} (h : a[k]? = some r) : withPre a inn (k + 1) = withPre a inn k ++ [withRow inn k r] := by
  unfold withPre; rw [List.range_succ, List.map_append, List.map_singleton, getD_at h]
theorem withPre_get {a : List (List Nat)} {inn : List Nat} {k i : Nat} {r : List Nat} (h : a[i]? = some r) (hi : i < k) : (withPre a inn k)[i]? = some (withRow inn i r) := by
  unfold withPre; rw [List.getElem?_map, List.getElem?_range hi, Option.map_some, getD_at h]
theorem withRow_facts {n : Nat} {a : List (List Nat)} (hG : Good n a) {N : Nat} {l : List Int} {inn : List Nat} (hC : ChosenR n N l inn) {i : Nat} {r : List Nat} (hr : a[i]? = some r) :
    W64 (withRow inn i r) ∧ (withRow inn i r).length = r.length ∧ ∀ y : Nat, hasR (withRow inn i r) (y : Int) = (hasR r (y : Int) && (decide (i < n) && decide ((i : Int) ∈ l)) && (decide (y < n) && decide ((y : Int) ∈ l))) := by
  have h1 := hG.row r (List.mem_of_getElem? hr)
  unfold withRow
  rw [hC.2.2 i]
  cases h : decide (i < n) && decide ((i : Int) ∈ l) with
  | true =>
    rw [if_pos rfl]
    exact ⟨andR_w64 h1.1, andR_len _ _, fun y => by rw [hasR_andR, hC.2.2 y, Bool.and_true]⟩
  | false =>
    rw [if_neg (by simp)]
    exact ⟨fun x hx => by rw [(List.mem_replicate.1 hx).2]; omega, by simp, fun y => by rw [hasR_zeros]; simp⟩
theorem withPre_all {n : Nat} {a : List (List Nat)} (hG : Good n a) {N : Nat} {l : List Int} {inn : List Nat} (hC : ChosenR n N l inn) : withPre a inn n = withinM n a l := by
  have hw := within_facts hG l
  have hg : Good n (withPre a inn n) := by
    refine ⟨hG.le, withPre_len _ _ _, fun r hr => ?_⟩
    obtain ⟨i, hi⟩ := List.getElem?_of_mem hr
    have hin : i < n := by have := (List.getElem?_eq_some_iff.1 hi).1; rwa [withPre_len] at this
    obtain ⟨s, hs, _, _⟩ := hG.at_ hin
    rw [withPre_get hs hin] at hi
    injection hi with hi
    subst hi
    obtain ⟨h1, h2, h3⟩ := withRow_facts hG hC hs
    have h0 := hG.row s (List.mem_of_getElem? hs)
    exact ⟨h1, by rw [h2]; exact h0.2.1, by rw [h2]; exact h0.2.2.1, fun y hy => by rw [h3 y, h0.2.2.2 y hy]; simp⟩
  refine rel_ext hg hw.1 (fun x y => ?_)
  rw [hw.2]
  by_cases hx : x < n
  · obtain ⟨s, hs, _, _⟩ := hG.at_ hx
    obtain ⟨_, _, h3⟩ := withRow_facts hG hC hs
    unfold Rel
    rw [hasM_in (withPre_get hs hx), h3 y, hasM_in hs]
    simp only [Bool.and_eq_true, decide_eq_true_eq]
    constructor
    · rintro ⟨⟨h1, _, h2⟩, _, h4⟩
      exact ⟨h1, h2, h4⟩
    · rintro ⟨h1, h2, h4⟩
      have hr : Rel a x y := by unfold Rel; rw [hasM_in hs]; exact h1
      exact ⟨⟨h1, hx, h2⟩, (hG.has_lt hr).2, h4⟩
  · constructor
    · intro h; exact absurd (hg.has_lt h).1 hx
    · rintro ⟨h, _⟩; exact absurd (hG.has_lt h).1 hx
/-- what is known at each round of Within -/
structure WithI (w : World) (n : Nat) (A : Option Addr) (c G gi N : Nat) (inn : List Nat) (vs : List Value) (xss : List (List Nat)) (wr : World) : Prop where
  own : wr.ownsRow G 53 1 (.slice (some ⟨G, 0, none⟩) n n) n (filled vs n)
  rows : OwnRows 56 wr (G + 1) vs xss
  mat : MatB wr w.heap.size 24 n A n c
  res : MatB wr (w.heap.size + 1) 24 0 none 0 0
  inr : Row wr (some ⟨gi, 0, none⟩) N inn
  bel : Below w.heap.size w wr
  big : w.heap.size + 1 < G ∧ G + 1 ≤ wr.heap.size ∧ gi < G
set_option maxRecDepth 100000 in
set_option maxHeartbeats 4000000 in
theorem hull_Within (A L : Option Addr) (n c m d : Nat) (a : List (List Nat)) (zs : List Int) (w : World) (hr : RowsAt w A n a) (hG : Good n a) (hz : Ints w L m zs) (hm : m ≤ 1073741824) :
    Calls Try.prog 38 #[.agg #[.int .i64 (n : Int), .slice A n c], .slice L m d] w (RetMat1 (n : Int) (withinM n a zs) w) := by
  have hnn : n ≤ 4096 := hG.le
  have hal := Lib.hid hG.len
  have hmk := mk_rows .i64 .i64 n n (Nat.le_refl _) (by omega)
  obtain ⟨N, hN⟩ : ∃ N, N = wordsN (n : Int) := ⟨_, rfl⟩
  have hN64 : N ≤ 64 := by rw [hN]; exact words_le hnn
  have hrl : ∀ r ∈ a, r.length = N := fun r hr => by rw [(hG.row r hr).2.2.1, hN]; rfl
  have hNp : 0 < n → 0 < N := fun h0 => by rw [hN]; exact (words_pos h0).1
  obtain ⟨W0, hW0⟩ : ∃ W0, W0 = (w.alloc (.cells #[.int .i64 n, .slice A n c] 24)).alloc (.cells #[.int .i64 0, .slice none 0 0] 24) := ⟨_, rfl⟩
  have bb := show Below w.heap.size w W0 by rw [hW0]; exact ((Below.refl _ _).alloc (Nat.le_refl _) _).alloc (by simp) _
  have m1 := show MatB W0 w.heap.size 24 n A n c by rw [hW0]; exact (MatB.new w _).below_ (below_alloc _ _)
  have m2 := show MatB W0 (w.heap.size + 1) 24 0 none 0 0 by rw [hW0]; exact MatB.new1 w _ _
  have cC := hull_chosen L m d n zs W0 (hz.below bb) hm hnn
  rw [← hN] at cC
  have q0 := m1.c0
  have q1 := m1.c1
  replace cC := Lib.hid cC
  replace bb := Lib.hid bb
  replace m1 := Lib.hid m1
  replace m2 := Lib.hid m2
  replace hG := Lib.hid hG
  replace hr := Lib.hid hr
  replace hrl := Lib.hid hrl
  replace hNp := Lib.hid hNp
  replace hN := Lib.hid hN
  clear hz
  go_enter Try.func38, Try.ntmps38
  go_wp2_with fail
  rw [← hW0]
  clear hW0
  go_wp2_with fail
  refine cC.out.mono ?_; rintro e w1 ⟨gi, inn, rfl, hin, hCh, hgi, b⟩
  replace m1 := Lib.hid (m1.out.below b)
  replace m2 := Lib.hid (m2.out.below b)
  replace bb := Lib.hid (below_trans2 bb.out b)
  have hlt2 := m2.out.lt
  obtain ⟨W2, hW2⟩ : ∃ W, W = w1.alloc (.cells (zeros n (.slice none 0 0)) 53) := ⟨_, rfl⟩
  obtain ⟨G, hGG⟩ : ∃ G, G = w1.heap.size := ⟨_, rfl⟩
  have ba : Below w1.heap.size w1 W2 := by rw [hW2]; exact below_alloc _ _
  have hI : Hid (WithI w n A c G gi N inn [] [] W2) := Lib.hid
    { own := by
        have h := own_zeros w1 n (.slice none 0 0) 53 (by unfold maxLen; omega)
        rw [← hW2, ← hGG] at h
        rw [filled_nil]; exact h
      rows := OwnRows.nil _ _ _
      mat := m1.out.below ba
      res := m2.out.below ba
      inr := hin.below ba
      bel := below_trans2 bb.out ba
      big := ⟨by omega, by rw [hW2, hGG]; simp, by omega⟩ }
  have q0 := m1.out.c0
  have q1 := m1.out.c1
  have r1 := (m1.out.below ba).c1
  rw [hW2] at r1
  replace hCh := Lib.hid hCh
  clear hin b cC hgi hlt2 ba m1 m2 bb
  go_wp2_with fail
  rw [← hW2, ← hGG]
  clear hmk q0 q1 r1 hW2 hGG
  go_loopw [19] (fun t wr => ∃ vs : List Value, vs.length ≤ n ∧ t = .int .i64 vs.length ∧ Hid (WithI w n A c G gi N inn vs (withPre a inn vs.length) wr)) (fun t _ => n - (intOf t).toNat)
  case atStart => exact ⟨[], Nat.zero_le _, rfl, hI⟩
  case round =>
    clear hI
    obtain ⟨vs, hk, rfl, hI⟩ := hrel
    obtain ⟨k, hke⟩ : ∃ k, k = vs.length := ⟨_, rfl⟩
    rw [← hke] at hk
    rw [← hke]
    rw [← hke] at hI
    by_cases hlt : k < n
    · have hke' := Lib.hid hke
      clear hke
      obtain ⟨b, off, B', m', d', r, rfl, hbl, hx, hc, hrr⟩ := hr.out.at_ hlt
      have hm' : m' = N := by have := hrr.len; have := hrl.out r (List.mem_of_getElem? hx); omega
      subst hm'
      have hN0 := hNp.out (by omega)
      have hcc : wr.cell? ⟨b, off + k, none⟩ = some (.slice B' m' d') := (hI.out.bel.cell (p := ⟨b, off + k, none⟩) hbl).trans hc
      obtain ⟨b5, o5, _, rfl, hb5, _, _, _⟩ := hrr.at_ hN0
      have hmk := mk_u64 .i64 .i64 m' m' (Nat.le_refl _) (by omega) wr
      obtain ⟨W3, hW3⟩ : ∃ W, W = wr.alloc (.cells (zeros m' (.int .u64 0)) 56) := ⟨_, rfl⟩
      obtain ⟨g, hgg⟩ : ∃ g, g = wr.heap.size := ⟨_, rfl⟩
      have b3 : Below wr.heap.size wr W3 := by rw [hW3]; exact below_alloc _ _
      have hown0 : W3.ownsRow wr.heap.size 56 1 (.slice (some ⟨g, 0, none⟩) m' m') m' ((List.replicate m' 0).map u64v) := by
        rw [hW3, hgg]; simpa [u64v] using own_zeros wr m' (.int .u64 0) 56 (by unfold maxLen; omega)
      have hget := filled_get (vs := vs) (n := n) (by rw [← hke'.out]; exact hlt)
      have hown3 := own_below hI.out.own b3
      have hcg := hown3.cellAt k (by omega)
      rw [hke'.out, hget, ← hke'.out] at hcg
      have hfg := hown3.frozenAt k
      have hrows3 := hI.out.rows.snoc b3 hown0 (xs := List.replicate m' 0) (fun x hx => by rw [(List.mem_replicate.1 hx).2]; omega) hI.out.big.2.1
      have hgG : G < g := by have := hI.out.big.2.1; omega
      obtain ⟨W4, hW4⟩ : ∃ W, W = W3.setCell ⟨G, k, none⟩ (.slice (some ⟨g, 0, none⟩) m' m') := ⟨_, rfl⟩
      have hI4 : Hid (WithI w n (some ⟨b, off, none⟩) c G gi m' inn (vs ++ [.slice (some ⟨g, 0, none⟩) m' m']) (withPre a inn k ++ [List.replicate m' 0]) W4) := Lib.hid
        { own := by
            rw [hW4, ← filled_set (by rw [← hke'.out]; exact hlt), ← hke'.out]
            exact (hown3.stored k _).1
          rows := by rw [hW4]; exact hrows3.far (p := ⟨G, k, none⟩) (by simp) _
          mat := by rw [hW4]; exact Blk.far (hI.out.mat.below b3) (by have := hI.out.big; simp; omega) _
          res := by rw [hW4]; exact Blk.far (hI.out.res.below b3) (by have := hI.out.big; simp; omega) _
          inr := by rw [hW4]; exact (hI.out.inr.below b3).setCell (p := ⟨G, k, none⟩) (fun ad e => by
            injection e with e
            subst e
            have := hI.out.big
            simp; omega) _
          bel := by rw [hW4]; exact (below_trans2 hI.out.bel b3).setCell (by have := hI.out.big; simp; omega) _
          big := ⟨hI.out.big.1, by rw [hW4, hW3]; have := hI.out.big.2.1; simp; omega, hI.out.big.2.2⟩ }
      have hown4 : Hid (W4.ownsRow (G + 1) 56 1 (.slice (some ⟨g, 0, none⟩) m' m') m' ((List.replicate m' 0).map u64v)) := Lib.hid (by
        rw [hW4]
        exact own_base (own_far hown0 (p := ⟨G, k, none⟩) (by simp [Value.ownBlock]; omega) _) hI.out.big.2.1)
      have hrow4 : Hid (Row W4 (some ⟨b5, o5, none⟩) m' r) := Lib.hid (hrr.below hI4.out.bel)
      have hH := Lib.hid (row_Has (some ⟨gi, 0, none⟩) m' m' inn (k : Int) W4 hI4.out.inr (by omega) (by omega) (by omega))
      have hgb : w.heap.size < g := by have := hI.out.big; omega
      have hgi : gi < g := by have := hI.out.big; omega
      have hstep : Hid (withPre a inn (k + 1) = withPre a inn k ++ [withRow inn k r]) := Lib.hid (withPre_succ hx)
      have hrl' : r.length = m' := hrr.len
      have hr64 := Lib.hid (hrr.2)
      have hk0 : (0 : Int) ≤ (k : Int) := by omega
      have hkn : (k : Int) < (n : Int) := by omega
      have hw4c : Hid (W4.cell? ⟨G, k, none⟩ = some (.slice (some ⟨g, 0, none⟩) m' m')) := Lib.hid (by
        rw [hI4.out.own.cellAt k (by omega)]
        unfold filled
        rw [List.getElem?_append_left (by simp; have := hke'.out; omega), List.getElem?_append_right (by have := hke'.out; omega), show k - vs.length = 0 from by have := hke'.out; omega]; rfl)
      replace hrl' := Lib.hid hrl'
      rw [hW3] at hcg hfg
      replace hrr := Lib.hid hrr
      clear hI hget hown3 hrows3 hown0 b3 hx hc
      go_wp2_with fail
      rw [← hW3, ← hgg, ← hW4]
      clear hW3 hgg hW4 hcg hfg hmk hcc
      refine hH.out.mono ?_; rintro e w' ⟨rfl, rfl⟩
      cases hh : hasR inn (k : Int) with
      | false =>
        have hfin : Hid (WithI w n (some ⟨b, off, none⟩) c G gi m' inn (vs ++ [.slice (some ⟨g, 0, none⟩) m' m']) (withPre a inn (k + 1)) W4) := Lib.hid (by
          rw [hstep.out]
          unfold withRow
          rw [hh, hrl'.out]
          exact hI4.out)
        clear hI4 hown4 hw4c hh
        go_wp2_with fail
        go_roundw
        case rel => exact ⟨vs ++ [.slice (some ⟨g, 0, none⟩) m' m'], by have := hke'.out; simp; omega, by rw [List.length_append, ← hke'.out]; simp; try omega, by rw [List.length_append, List.length_singleton, ← hke'.out]; exact hfin⟩
        case measure => simp [intOf]; omega
      | true =>
        have hC := Lib.hid (hull_keep g (G + 1) m' m' d' m' (some ⟨b5, o5, none⟩) (some ⟨gi, 0, none⟩) r inn W4 hown4.out hrow4.out hI4.out.inr (fun ad e => by injection e with e; subst e; simp; omega) (fun ad e => by injection e with e; subst e; simp; omega) (by omega))
        have hc4 := hw4c.out
        have hand := Lib.hid (andR_w64 (b := inn) hr64.out)
        have hst2 : Hid ((withPre a inn k ++ [List.replicate m' 0]).set k (andR r inn) = withPre a inn (k + 1)) := Lib.hid (by
          rw [hstep.out, List.set_append_right _ _ (by rw [withPre_len]; exact Nat.le_refl _), withPre_len, Nat.sub_self]
          unfold withRow
          rw [hh]; rfl)
        clear hh
        go_wp2_with fail
        refine hC.out.mono ?_; rintro e w5 ⟨rfl, hy, ho⟩
        have hfin : Hid (WithI w n (some ⟨b, off, none⟩) c G gi m' inn (vs ++ [.slice (some ⟨g, 0, none⟩) m' m']) (withPre a inn (k + 1)) w5) := Lib.hid
          { own := own_only hI4.out.own ho (by simp [Value.ownBlock]; omega)
            rows := by
              rw [← hst2.out]
              exact hI4.out.rows.joined (by rw [List.getElem?_append_right (by have := hke'.out; omega), show k - vs.length = 0 from by have := hke'.out; omega]; rfl) ho hy hand.out
            mat := Blk.only hI4.out.mat ho (by omega)
            res := Blk.only hI4.out.res ho (by have := hI4.out.big; omega)
            inr := hI4.out.inr.only ho (fun ad e => by injection e with e; subst e; simp; omega)
            bel := below_only hI4.out.bel ho (by omega)
            big := ⟨hI4.out.big.1, by rw [ho.size]; exact hI4.out.big.2.1, hI4.out.big.2.2⟩ }
        clear hI4 hown4 hw4c hc4 hy ho hC
        go_wp2_with fail
        go_roundw
        case rel => exact ⟨vs ++ [.slice (some ⟨g, 0, none⟩) m' m'], by have := hke'.out; simp; omega, by rw [List.length_append, ← hke'.out]; simp; try omega, by rw [List.length_append, List.length_singleton, ← hke'.out]; exact hfin⟩
        case measure => simp [intOf]; omega
    · obtain rfl : n = k := by omega
      have hvn := Lib.hid hke.symm
      clear hlt hke
      have l0 := hI.out.mat.c0
      have f0 := hI.out.res.c0
      have f1 := hI.out.res.c1
      have g0 := hI.out.res.frozen 0
      have g1 := hI.out.res.frozen 1
      go_wp2_with fail
      have hcc := hI.out.res.two (.int .i64 n) (.slice (some ⟨G, 0, none⟩) n n)
      have hc1 := hcc.1
      have hc2 := hcc.2
      clear hcc f0 f1 g0 g1 l0
      refine bodyPost_ret (v := .agg #[.int .i64 n, .slice (some ⟨G, 0, none⟩) n n]) (by simp [results, Try.results38, go_sem, hc1, hc2]) rfl ⟨_, _, _, rfl, ⟨vs, ?_, ?_⟩, Nat.le_refl _, ?_⟩
      · have h := hI.out.own
        rw [filled_all hvn.out] at h
        exact Rd.of_own' (own_far (own_far h (p := ⟨w.heap.size + 1, 0, none⟩) (by have := hI.out.big; simp [Value.ownBlock]; omega) _) (p := ⟨w.heap.size + 1, 1, none⟩) (by have := hI.out.big; simp [Value.ownBlock]; omega) _)
      · rw [← withPre_all hG.out hCh.out]
        exact ((hI.out.rows.far (p := ⟨w.heap.size + 1, 0, none⟩) (by have := hI.out.big; simp; omega) _).far (p := ⟨w.heap.size + 1, 1, none⟩) (by have := hI.out.big; simp; omega) _).rows
      · exact (hI.out.bel.setCell (by simp) _).setCell (by simp) _

end Go.Proofs.Ytkikoniihmieiaa
