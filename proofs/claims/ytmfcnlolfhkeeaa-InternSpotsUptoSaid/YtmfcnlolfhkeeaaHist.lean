/- The code's own contracts of layer 6, second half: the iterator over sessions ('firsts'), and what goes through it: Right, Count, Spot, Number. -/
import Derived.Test.YtmfcnlolfhkeeaaHistA
import Derived.Test.YtmfcnlolfhkeeaaRound
namespace Go.Proofs.Ytmfcnlolfhkeeaa
open Go.RowKit Go.Shelf
set_option linter.unusedVariables false
set_option linter.unusedSectionVars false
attribute [local go_sem] Oper.semAt_some

/-- the first k of N numbers -/
def firstK (N k : Nat) : List (Fin N) := (List.finRange N).take k
theorem firstK_succ {N k : Nat} (h : k < N) : firstK N (k + 1) = firstK N k ++ [⟨k, h⟩] := by
  unfold firstK; rw [List.take_succ_eq_append_getElem (by simpa using h)]; simp
theorem firstK_len {N k : Nat} (h : k ≤ N) : (firstK N k).length = k := by simp [firstK]; omega
theorem firstK_all (N : Nat) : firstK N N = List.finRange N := by unfold firstK; rw [List.take_of_length_le (by simp)]
theorem mem_firstK {N k : Nat} {x : Fin N} : x ∈ firstK N k ↔ x.1 < k := by
  unfold firstK
  rw [List.mem_take_iff_getElem]
  simp only [List.length_finRange, List.getElem_finRange]
  constructor
  · rintro ⟨i, hi, rfl⟩; simp; omega
  · intro h; exact ⟨x.1, by have := x.2; omega, by simp⟩
/-- how many operations the first k sessions have -/
def lenK (hs : List (List OpT)) (k : Nat) : Nat := (allO (hs.take k)).length
theorem lenK_zero (hs : List (List OpT)) : lenK hs 0 = 0 := rfl
theorem lenK_succ {hs : List (List OpT)} {k : Nat} {os : List OpT} (h : hs[k]? = some os) : lenK hs (k + 1) = lenK hs k + os.length := by
  unfold lenK; rw [allO_take_succ h, List.length_append]
theorem lenK_le (hs : List (List OpT)) (k : Nat) : lenK hs k ≤ (allO hs).length := allO_take_le hs k
theorem lenK_all (hs : List (List OpT)) : lenK hs hs.length = (allO hs).length := by unfold lenK; rw [List.take_length]
/-- what the iterator hands to a round: a session's number, its first operation's -/
def encF (hs : List (List OpT)) (x : Fin hs.length) : Array Value := #[.int .i64 (x.1 : Int), .int .i64 (lenK hs x.1 : Int)]

section
variable (F : Fence) (n : Nat) (A : Option Addr) (m c : Nat) (hs : List (List OpT))
set_option maxRecDepth 100000 in
set_option maxHeartbeats 2000000 in
theorem firsts1_in (hf : F.fn 34) (hro : F.round = none) (hn : 1 ≤ n) (l Bs : Nat) (w0 : World) (hH : HistAt w0 A m hs) (hm : m ≤ 9223372036854775807) (hF : (allO hs).length ≤ 4398046511104) (J Jx : List (Fin hs.length) → World → Prop)
    (hY : ∀ pre x W, J pre W → pre.length < hs.length → YieldAt F (n - 1) Try.prog l (encF hs x) W fun e W' =>
      (e = .returned (.bool true) ∧ J (pre ++ [x]) W' ∧ Below w0.heap.size W W') ∨ (e = .returned (.bool false) ∧ Jx (pre ++ [x]) W'))
    (W : World) (hBs : W.cell? ⟨Bs, 0, none⟩ = some (.slice A m c)) (hW : Below w0.heap.size w0 W) (h0 : J [] W) :
    CallsIn F n Try.prog 34 #[.func (.yield l) #[] #[], .pointer (some ⟨Bs, 0, none⟩)] W fun e W' => (∃ v, e = .returned v) ∧
      ((∃ ys, ys = List.finRange hs.length ∧ J ys W') ∨ (∃ pre, (∃ k, k ≤ hs.length ∧ pre = firstK hs.length k) ∧ Jx pre W')) := by
  have hlen := hH.len
  replace hH := Lib.hid hH
  refine callsIn_of_wp Try.func34 rfl hf ?_ hro
  simp only [Try.ntmps34, List.size_toArray, List.length_cons, List.length_nil, Nat.reduceAdd, Nat.reduceSub, Array.replicate_succ, Array.replicate_zero, List.push_toArray, List.append_toArray, List.nil_append, List.cons_append]
  gi_wp2
  gi_loopw [3, 8] (fun f i wr => ∃ k N : Nat, k ≤ m ∧ i = .int .i64 k ∧ f = .int .i64 N ∧ Hid (N = lenK hs k) ∧ J (firstK hs.length k) wr ∧ Hid (Below w0.heap.size w0 wr))
    (fun _ i _ => m - (intOf i).toNat)
  case atStart => exact ⟨0, 0, Nat.zero_le _, rfl, rfl, Lib.hid rfl, h0, Lib.hid hW⟩
  case round =>
    obtain ⟨k, N, hk, rfl, rfl, hN, hJs, hb⟩ := hrel
    by_cases hlt : k < m
    · obtain ⟨b, off, B, m', cc, os, rfl, hbl, hos, hcell, hmc, hm63, hO⟩ := (hH.out.below hb.out).at_ hlt
      have hle := lenK_le hs (k + 1)
      rw [lenK_succ hos, hO.len, ← hN.out] at hle
      have hks : k < hs.length := by omega
      obtain ⟨fn, tmps, assign, body, hy, hR⟩ := hY _ ⟨k, hks⟩ wr hJs (by rw [firstK_len (by omega)]; exact hks)
      unfold encF at hy
      dsimp only at hy
      rw [← hN.out] at hy
      have hN' : Hid (N + m' = lenK hs (k + 1)) := Lib.hid (by rw [lenK_succ hos, hO.len, ← hN.out])
      have hlt' : (k : Int) < (m : Int) := by omega
      replace hos := Lib.hid hos
      replace hO := Lib.hid hO
      gi_wp2
      refine hR.mono ?_
      rintro e W3 (⟨rfl, hJ3, hk3⟩ | ⟨rfl, hJx3⟩)
      · gi_wp2
        go_roundw
        case rel => exact ⟨k + 1, N + m', by omega, by go_num, by go_num, hN', by rw [firstK_succ hks]; exact hJ3, Lib.hid (hb.out.trans hk3)⟩
        case measure => simp [intOf]; omega
      · gi_wp2
        refine bodyPost_ret (results_none rfl _ _ _) rfl ?_
        exact ⟨⟨_, rfl⟩, .inr ⟨_, ⟨k + 1, by omega, (firstK_succ hks).symm⟩, hJx3⟩⟩
    · have hkm : k = hs.length := by omega
      have hlt' : ¬ (k : Int) < (m : Int) := by omega
      gi_wp2
      go_end0
      exact ⟨⟨_, rfl⟩, .inl (by rw [hkm, firstK_all] at hJs; exact hJs)⟩

/-- the closure's contract: each session in order, or a first part -/
theorem firsts_stops (hf : F.fn 34) (hro : F.round = none) (hn : 1 ≤ n) (Bs : Nat) (w0 w : World) (hH : HistAt w0 A m hs) (hm : m ≤ 9223372036854775807) (hF : (allO hs).length ≤ 4398046511104) (hBs : Bs < w.heap.size) (hb : Below w0.heap.size w0 w)
    (hc : w.cell? ⟨Bs, 0, none⟩ = some (.slice A m c)) :
    SeqStopsK F n Try.prog 34 #[.pointer (some ⟨Bs, 0, none⟩)] (encF hs) (Below w0.heap.size) (fun ys => ys = List.finRange hs.length) (fun pre => ∃ k, k ≤ hs.length ∧ pre = firstK hs.length k) hs.length w :=
  fun l J Jx W hW _ _ hY h0 => firsts1_in F n A m c hs hf hro hn l Bs w0 hH hm hF J Jx hY W ((hW.cell (p := ⟨Bs, 0, none⟩) hBs).trans hc) (hb.trans (hW.mono hb.size)) h0
set_option maxHeartbeats 1000000 in
theorem firsts_in (hf : F.fn 32) (hro : F.round = none) (w : World) :
    CallsIn F n Try.prog 32 #[.slice A m c] w fun e w' => e = .returned (.func (.func 34) #[] #[.pointer (some ⟨w.heap.size, 0, none⟩)]) ∧ w' = w.alloc (.cells #[.slice A m c] 22) := by
  refine callsIn_of_wp Try.func32 rfl hf ?_ hro
  simp only [Try.ntmps32, List.size_toArray, List.length_cons, List.length_nil, Nat.reduceAdd, Nat.reduceSub, Array.replicate_succ, Array.replicate_zero, List.push_toArray, List.append_toArray, List.nil_append, List.cons_append]
  gi_wp2
  go_ret
  exact ⟨rfl, rfl⟩
end

/-- how many operations there are up to the last session that came -/
def cntK (hs : List (List OpT)) (pre : List (Fin hs.length)) : Nat := match pre.getLast? with | none => 0 | some x => lenK hs (x.1 + 1)
theorem cntK_snoc (hs : List (List OpT)) (pre : List (Fin hs.length)) (x : Fin hs.length) : cntK hs (pre ++ [x]) = lenK hs (x.1 + 1) := by simp [cntK]
theorem cntK_all (hs : List (List OpT)) : cntK hs (List.finRange hs.length) = (allO hs).length := by
  rcases Nat.eq_zero_or_pos hs.length with h | h
  · have : hs = [] := List.eq_nil_of_length_eq_zero h
    subst this; rfl
  · obtain ⟨k, hk⟩ : ∃ k, hs.length = k + 1 := ⟨hs.length - 1, by omega⟩
    have hks : k < hs.length := by omega
    rw [← firstK_all, show firstK hs.length hs.length = firstK hs.length (k + 1) from by rw [← hk], firstK_succ hks, cntK_snoc, ← hk, lenK_all]
theorem lenK_cons (x : List OpT) (r : List (List OpT)) (k : Nat) : lenK (x :: r) (k + 1) = x.length + lenK r k := by
  unfold lenK; rw [List.take_succ_cons, allO_cons, List.length_append]
theorem spotN_at : ∀ (hs : List (List OpT)) (k p : Nat) (os : List OpT), hs[k]? = some os → p < os.length → spotN hs (lenK hs k + p) = some (k, p)
  | [], k, p, os, h, _ => by simp at h
  | x :: r, 0, p, os, h, hp => by
    simp at h; subst h
    rw [lenK_zero, Nat.zero_add]; unfold spotN; rw [if_pos hp]
  | x :: r, k + 1, p, os, h, hp => by
    have h' : r[k]? = some os := by simpa using h
    rw [lenK_cons]; unfold spotN
    rw [if_neg (by omega), show x.length + lenK r k + p - x.length = lenK r k + p from by omega, spotN_at r k p os h' hp]; rfl
theorem spotZ_none {hs : List (List OpT)} {i : Int} (h : ∀ x : Fin hs.length, (lenK hs (x.1 + 1) : Int) ≤ i) : spotZ hs i = none := by
  unfold spotZ
  by_cases hi : i < 0
  · rw [if_pos hi]
  · rw [if_neg hi]
    refine spotN_none _ _ ?_
    rw [← lenK_all]
    rcases Nat.eq_zero_or_pos hs.length with h0 | h0
    · rw [h0]; exact Nat.zero_le _
    · have h1 := h ⟨hs.length - 1, by omega⟩
      rw [show hs.length - 1 + 1 = hs.length from by omega] at h1
      omega
/-- a session that may be, where it stands -/
def okK (hs : List (List OpT)) (k : Nat) : Prop := lenK hs (k + 1) ≤ 4096 ∧ ∀ o ∈ hs.getD k [], nameL o.2.1.data.toList = true
theorem rightL_yes {hs : List (List OpT)} (h : ∀ x : Fin hs.length, okK hs x.1) : rightL hs = true := by
  unfold rightL
  rw [Bool.and_eq_true]
  refine ⟨List.all_eq_true.2 fun o ho => ?_, decide_eq_true ?_⟩
  · obtain ⟨s, hs1, hs2⟩ := List.mem_flatten.1 ho
    obtain ⟨k, hk⟩ := List.getElem?_of_mem hs1
    exact (h ⟨k, (List.getElem?_eq_some_iff.1 hk).1⟩).2 o (by rw [List.getD_eq_getElem?_getD]; simp only [hk]; exact hs2)
  · rw [← lenK_all]
    rcases Nat.eq_zero_or_pos hs.length with h0 | h0
    · rw [h0]; exact Nat.zero_le _
    · have h1 := (h ⟨hs.length - 1, by omega⟩).1
      rwa [show hs.length - 1 + 1 = hs.length from by omega] at h1
theorem rightL_not {hs : List (List OpT)} {k : Nat} {os : List OpT} (hk : hs[k]? = some os) (h : ¬ okK hs k) : rightL hs = false := by
  cases hr : rightL hs with
  | false => rfl
  | true =>
    exfalso; apply h
    unfold rightL at hr
    rw [Bool.and_eq_true] at hr
    refine ⟨Nat.le_trans (lenK_le hs (k + 1)) (of_decide_eq_true hr.2), fun o ho => ?_⟩
    refine List.all_eq_true.1 hr.1 o (List.mem_flatten.2 ⟨os, List.mem_of_getElem? hk, ?_⟩)
    rw [List.getD_eq_getElem?_getD, hk] at ho; exact ho
theorem Blk.other {W : World} {B B' : Nat} {t : TypeId} {cs : List Value} (h : Blk W B t cs) (hne : B ≠ B') (o : Nat) (u : Value) : Blk (W.setCell ⟨B', o, none⟩ u) B t cs := h.far (p := ⟨B', o, none⟩) hne u
theorem Blk.owned {W W' : World} {row : Option Nat} {B : Nat} {t : TypeId} {cs : List Value} (h : Blk W B t cs) (hg : W.grownBy W' row) (hr : ∀ r, row = some r → ∃ o : Obj, W.heap[r]? = some o ∧ o.isCells = false) : Blk W' B t cs :=
  (hg.block B h.lt (fun e' => by obtain ⟨o, ho, hc⟩ := hr B e'.symm; rw [show W.heap[B]? = _ from h] at ho; cases ho; cases hc)).trans h
/-- the block of the rounds' deferred calls is put back -/
theorem Blk.back {W : World} {B D : Nat} {t : TypeId} {cs : List Value} {o o' : Obj} (h : Blk W B t cs) (hK : W.heap[D]? = some o) (ho : o.isCells = false) : Blk (W.putObj D o') B t cs :=
  h.owned (grownBy_putObj' W D o') (fun r e => by cases e; exact ⟨_, hK, ho⟩)
section
variable (A : Option Addr) (n c : Nat) (hs : List (List OpT)) (w : World) (hH : HistAt w A n hs) (hnc : n ≤ c) (hn : n ≤ 1099511627776) (hc : c ≤ 9223372036854775807) (hF : (allO hs).length ≤ 1099511627776)
include hH hnc hn hc hF
set_option maxRecDepth 100000 in
set_option maxHeartbeats 2000000 in
theorem hist_Count : Calls Try.prog 21 #[.slice A n c] w (RetInt ((allO hs).length : Nat) w) := by
  have hlen := hH.len
  replace hH := Lib.hid hH
  refine (callsIn_wide (n := 3)).1 ?_
  refine callsIn_of_wp_marks Try.func21 rfl trivial ?_ rfl
  simp only [Try.ntmps21, List.size_toArray, List.length_cons, List.length_nil, Nat.reduceAdd, Nat.reduceSub, Array.replicate_succ, Array.replicate_zero, List.push_toArray, List.append_toArray, List.nil_append, List.cons_append]
  gi_wp2_with (refine ⟨trivial, ?_⟩; gi_at_call 32; refine (firsts_in Fence.wide _ A n c trivial rfl _).mono ?_; rintro e w' ⟨rfl, rfl⟩)
  obtain ⟨W0, hW0⟩ : ∃ W, W = w.alloc (.cells #[.slice A n c] 22) := ⟨_, rfl⟩
  obtain ⟨W1, hW1⟩ : ∃ W, W = W0.alloc (.cells #[.int .i64 0] 3) := ⟨_, rfl⟩
  obtain ⟨W2, hW2⟩ : ∃ W, W = W1.alloc (.cells #[.slice A n c] 22) := ⟨_, rfl⟩
  rw [← hW0, ← hW1, ← hW2]
  have z0 : W0.heap.size = w.heap.size + 1 := by rw [hW0, World.size_alloc]
  have z1 : W1.heap.size = w.heap.size + 1 + 1 := by rw [hW1, World.size_alloc, z0]
  have z2 : W2.heap.size = w.heap.size + 1 + 1 + 1 := by rw [hW2, World.size_alloc, z1]
  have k0 : Blk W0 (w.heap.size) 22 [.slice A n c] := by rw [hW0]; exact Blk.new _ _ _
  replace k0 : Blk W1 (w.heap.size) 22 [.slice A n c] := by rw [hW1]; exact k0.alloc _
  replace k0 : Blk W2 (w.heap.size) 22 [.slice A n c] := by rw [hW2]; exact k0.alloc _
  have k1 : Blk W1 (w.heap.size + 1) 3 [.int .i64 0] := by rw [hW1, ← z0]; exact Blk.new _ _ _
  replace k1 : Blk W2 (w.heap.size + 1) 3 [.int .i64 0] := by rw [hW2]; exact k1.alloc _
  have k2 : Blk W2 (w.heap.size + 1 + 1) 22 [.slice A n c] := by rw [hW2, ← z1]; exact Blk.new _ _ _
  have hB0 : Below w.heap.size w W2 := by
    rw [hW2, hW1, hW0]
    exact (((Below.refl _ w).alloc (by first | exact Nat.le_refl _ | (simp only [World.size_alloc]; omega)) _).alloc (by first | exact Nat.le_refl _ | (simp only [World.size_alloc]; omega)) _).alloc (by first | exact Nat.le_refl _ | (simp only [World.size_alloc]; omega)) _
  clear hW2 hW1 hW0
  refine wpIn_rangeFunc_ownG (F := Fence.wide) rfl (by omega) (gf := 34) (lb := #[.pointer (some ⟨w.heap.size + 1 + 1, 0, none⟩)]) rfl trivial (enters_of Try.func34 (by kernel_rfl) rfl)
    (firsts_stops Fence.wide _ A n c hs trivial rfl (by omega) (w.heap.size + 1 + 1) w W2 hH.out (by omega) (by omega) (by rw [z2]; omega) hB0 (k2.cell 0)) belowK_t (belowK_b (by rw [z2]; omega)) (Below.refl _ _) (fun _ => rfl)
    (fun (pre : List (Fin hs.length)) W => (Blk W w.heap.size 22 [.slice A n c] ∧ Blk W (w.heap.size + 1) 3 [.int .i64 (cntK hs pre : Int)]) ∧ Below w.heap.size w W)
    (fun c (pre : List (Fin hs.length)) W => (False) ∧ Below w.heap.size w W)
    (OwnFrom.and (Own.from (fun s X Y row h hg hr => ⟨h.1.owned hg hr, h.2.owned hg hr⟩) _) (ownFrom_below (Nat.le_refl _) (by rw [z2]; omega)))
    (fun c => OwnFrom.and (Own.from (fun s X Y row h hg hr => h) _) (ownFrom_below (Nat.le_refl _) (by rw [z2]; omega)))
    ⟨⟨k0, k1⟩, hB0⟩
    (fun (x : Fin hs.length) => { tmps := #[.slice A n c, .pointer (some ⟨w.heap.size, 0, none⟩), .int .i64 0, .pointer (some ⟨w.heap.size + 1, 0, none⟩), .int .i64 (x.1 : Int), .int .i64 (lenK hs x.1 : Int), .slice A n c, .func (.func 34) #[] #[.pointer (some ⟨w.heap.size + 1 + 1, 0, none⟩)], .int .i64 (x.1 : Int), .int .i64 (lenK hs x.1 : Int), undef, undef, undef, undef, undef, undef, undef, undef], defers := [] }) ?assign ?body ?done ?stop
  case assign =>
    intro l x W K hK
    simp only [encF]
    gi_wp2
    exact hK
  case body =>
    rintro l pre x W ⟨⟨b0, b1⟩, hB⟩ _
    obtain ⟨b, off, B, m, cc, os, rfl, hbl, hos, hcell, hmc, hm63, hO⟩ := (hH.out.below hB).at_ (k := x.1) (by have := x.2; omega)
    have hle := lenK_le hs (x.1 + 1)
    rw [lenK_succ hos, hO.len] at hle
    have hx : (x.1 : Int) < (n : Int) := by have := x.2; omega
    have c0 := b0.cell 0
    have c1 := b1.cell 0
    have f1 := b1.frozen 0
    have hN : Hid (lenK hs x.1 + m = cntK hs (pre ++ [x])) := Lib.hid (by rw [cntK_snoc, lenK_succ hos, hO.len])
    replace hos := Lib.hid hos
    replace hO := Lib.hid hO
    gi_wp2
    refine ⟨(KeepsOthers.setCell _ _ _).from _, (Below.refl w.heap.size W).setCell (p := ⟨w.heap.size + 1, 0, none⟩) (by simp) _, ⟨b0.other (by omega) _ _, ?_⟩, hB.setCell (p := ⟨w.heap.size + 1, 0, none⟩) (by simp) _⟩
    rw [← hN.out, Int.natCast_add]
    exact b1.set_ 0 _
  case done =>
    rintro D ys W hD rfl ⟨⟨b0, b1⟩, hB⟩ hK
    rw [cntK_all] at b1
    have c1 := b1.cell 0
    gi_wp2
    refine ⟨by simp, .inl ⟨_, _, rfl, run_takeDeferred hK, ?_⟩⟩
    exact ⟨_, results_tmp rfl _ _ _, rfl, hB.trans (belowK_b (w := w) (Nat.le_refl _) W D _ _ (by rw [z2] at hD; omega) hK rfl rfl)⟩
  case stop =>
    rintro D c pre W _ _ h _
    exact h.1.elim
set_option maxRecDepth 100000 in
set_option maxHeartbeats 2000000 in
theorem hist_Right : Calls Try.prog 20 #[.slice A n c] w (RetBool (rightL hs) w) := by
  have hlen := hH.len
  replace hH := Lib.hid hH
  refine (callsIn_wide (n := 3)).1 ?_
  refine callsIn_of_wp_marks Try.func20 rfl trivial ?_ rfl
  simp only [Try.ntmps20, List.size_toArray, List.length_cons, List.length_nil, Nat.reduceAdd, Nat.reduceSub, Array.replicate_succ, Array.replicate_zero, List.push_toArray, List.append_toArray, List.nil_append, List.cons_append]
  gi_wp2_with (refine ⟨trivial, ?_⟩; gi_at_call 32; refine (firsts_in Fence.wide _ A n c trivial rfl _).mono ?_; rintro e w' ⟨rfl, rfl⟩)
  obtain ⟨W0, hW0⟩ : ∃ W, W = w.alloc (.cells #[.slice A n c] 22) := ⟨_, rfl⟩
  obtain ⟨W1, hW1⟩ : ∃ W, W = W0.alloc (.cells #[.bool false] 4) := ⟨_, rfl⟩
  obtain ⟨W2, hW2⟩ : ∃ W, W = W1.alloc (.cells #[.slice A n c] 22) := ⟨_, rfl⟩
  rw [← hW0, ← hW1, ← hW2]
  have z0 : W0.heap.size = w.heap.size + 1 := by rw [hW0, World.size_alloc]
  have z1 : W1.heap.size = w.heap.size + 1 + 1 := by rw [hW1, World.size_alloc, z0]
  have z2 : W2.heap.size = w.heap.size + 1 + 1 + 1 := by rw [hW2, World.size_alloc, z1]
  have k0 : Blk W0 (w.heap.size) 22 [.slice A n c] := by rw [hW0]; exact Blk.new _ _ _
  replace k0 : Blk W1 (w.heap.size) 22 [.slice A n c] := by rw [hW1]; exact k0.alloc _
  replace k0 : Blk W2 (w.heap.size) 22 [.slice A n c] := by rw [hW2]; exact k0.alloc _
  have k1 : Blk W1 (w.heap.size + 1) 4 [.bool false] := by rw [hW1, ← z0]; exact Blk.new _ _ _
  replace k1 : Blk W2 (w.heap.size + 1) 4 [.bool false] := by rw [hW2]; exact k1.alloc _
  have k2 : Blk W2 (w.heap.size + 1 + 1) 22 [.slice A n c] := by rw [hW2, ← z1]; exact Blk.new _ _ _
  have hB0 : Below w.heap.size w W2 := by
    rw [hW2, hW1, hW0]
    exact (((Below.refl _ w).alloc (by first | exact Nat.le_refl _ | (simp only [World.size_alloc]; omega)) _).alloc (by first | exact Nat.le_refl _ | (simp only [World.size_alloc]; omega)) _).alloc (by first | exact Nat.le_refl _ | (simp only [World.size_alloc]; omega)) _
  clear hW2 hW1 hW0
  refine wpIn_rangeFunc_ownG (F := Fence.wide) rfl (by omega) (gf := 34) (lb := #[.pointer (some ⟨w.heap.size + 1 + 1, 0, none⟩)]) rfl trivial (enters_of Try.func34 (by kernel_rfl) rfl)
    (firsts_stops Fence.wide _ A n c hs trivial rfl (by omega) (w.heap.size + 1 + 1) w W2 hH.out (by omega) (by omega) (by rw [z2]; omega) hB0 (k2.cell 0)) belowK_t (belowK_b (by rw [z2]; omega)) (Below.refl _ _) (fun _ => rfl)
    (fun (pre : List (Fin hs.length)) W => ((∀ y ∈ pre, okK hs y.1) ∧ Blk W w.heap.size 22 [.slice A n c] ∧ Blk W (w.heap.size + 1) 4 [.bool false]) ∧ Below w.heap.size w W)
    (fun c (pre : List (Fin hs.length)) W => (c = .ret ∧ rightL hs = false ∧ Blk W (w.heap.size + 1) 4 [.bool false]) ∧ Below w.heap.size w W)
    (OwnFrom.and (Own.from (fun s X Y row h hg hr => ⟨h.1, h.2.1.owned hg hr, h.2.2.owned hg hr⟩) _) (ownFrom_below (Nat.le_refl _) (by rw [z2]; omega)))
    (fun c => OwnFrom.and (Own.from (fun s X Y row h hg hr => ⟨h.1, h.2.1, h.2.2.owned hg hr⟩) _) (ownFrom_below (Nat.le_refl _) (by rw [z2]; omega)))
    ⟨⟨by simp, k0, k1⟩, hB0⟩
    (fun (x : Fin hs.length) => { tmps := #[.slice A n c, .pointer (some ⟨w.heap.size, 0, none⟩), .pointer (some ⟨w.heap.size + 1, 0, none⟩), .int .i64 (x.1 : Int), .int .i64 (lenK hs x.1 : Int), undef, undef, .slice A n c, .func (.func 34) #[] #[.pointer (some ⟨w.heap.size + 1 + 1, 0, none⟩)], .int .i64 (x.1 : Int), .int .i64 (lenK hs x.1 : Int), undef, undef, undef, undef, undef, undef, undef, undef, undef, undef, undef, undef, undef, undef, undef, undef, undef, undef, undef, undef, undef, undef], defers := [] }) ?assign ?body ?done ?stop
  case assign =>
    intro l x W K hK
    simp only [encF]
    gi_wp2
    exact hK
  case body =>
    rintro l pre x W ⟨⟨hp, b0, b1⟩, hB⟩ _
    obtain ⟨b, off, B, m, cc, os, rfl, hbl, hos, hcell, hmc, hm63, hO⟩ := (hH.out.below hB).at_ (k := x.1) (by have := x.2; omega)
    have hle := lenK_le hs (x.1 + 1)
    have hls := lenK_succ hos
    rw [hO.len] at hls
    rw [hls] at hle
    have hx : (x.1 : Int) < (n : Int) := by have := x.2; omega
    have c0 := b0.cell 0
    have c1 := b1.cell 0
    have f1 := b1.frozen 0
    have hwr : wrap64 (4096 - (lenK hs x.1 : Int)) = 4096 - (lenK hs x.1 : Int) := by unfold wrap64; omega
    by_cases hj : 4096 - (lenK hs x.1 : Int) < (m : Int)
    · have hno : Hid (rightL hs = false) := Lib.hid (rightL_not hos (fun h => by have := h.1; omega))
      replace hos := Lib.hid hos
      replace hO := Lib.hid hO
      replace hls := Lib.hid hls
      gi_wp2
      exact ⟨(KeepsOthers.setCell _ _ _).from _, ⟨rfl, hno.out, b1.set_ 0 _⟩, hB.setCell (p := ⟨w.heap.size + 1, 0, none⟩) (by simp) _⟩
    · have hgd : Hid (hs.getD x.1 [] = os) := Lib.hid (by rw [List.getD_eq_getElem?_getD, hos]; rfl)
      replace hos := Lib.hid hos
      replace hO := Lib.hid hO
      replace hls := Lib.hid hls
      gi_wp2
      gi_loopw [24] (fun i wr => ∃ k : Nat, k ≤ m ∧ i = .int .i64 k ∧ Hid (∀ j, j < k → ∃ o, os[j]? = some o ∧ nameL o.2.1.data.toList = true) ∧ Hid (Below W.heap.size W wr ∧ KeepsOthers W wr)) (fun i _ => m - (intOf i).toNat)
      case atStart => exact ⟨0, Nat.zero_le _, rfl, Lib.hid (fun j hj => absurd hj (by omega)), Lib.hid ⟨Below.refl _ _, KeepsOthers.refl _⟩⟩
      case round =>
        obtain ⟨k, hk, rfl, hall, hI⟩ := hrel
        by_cases hkm : k < m
        · obtain ⟨b', off', o, rfl, hb', ho, hok, x0, x1, x2⟩ := (hO.out.below hI.out.1).at_ hkm
          have hkm' : (k : Int) < (m : Int) := by omega
          have cN := fun (W : World) => Lib.hid (hist_named o.2.1 W hok.2)
          have d1 := (b1.below hI.out.1 b1.lt)
          have e1 := d1.cell 0
          have g1 := d1.frozen 0
          obtain ⟨W1, hW1⟩ : ∃ W1, W1 = wr.alloc (.cells #[.bool o.1, .string o.2.1, .int .i64 o.2.2] 50) := ⟨_, rfl⟩
          have bA : Below W.heap.size W W1 := by rw [hW1]; exact hI.out.1.alloc hI.out.1.size _
          have kA : KeepsOthers W W1 := by rw [hW1]; exact hI.out.2.trans (KeepsOthers.alloc _ _)
          cases hnm : nameL o.2.1.data.toList with
          | true =>
            rw [hnm] at cN
            have hall' : Hid (∀ j, j < k + 1 → ∃ o, os[j]? = some o ∧ nameL o.2.1.data.toList = true) := Lib.hid (fun j hj => by
              rcases Nat.lt_succ_iff_lt_or_eq.1 hj with h1 | h1
              · exact hall.out j h1
              · subst h1; exact ⟨o, ho, hnm⟩)
            replace ho := Lib.hid ho
            replace bA := Lib.hid bA
            replace kA := Lib.hid kA
            clear hnm hall
            gi_wp2_with (refine ⟨trivial, ?_⟩; gi_at_call 33; refine (CallsIn.inRound l (callsIn_wide.2 (cN _).out)).mono ?_; rintro e w' ⟨rfl, rfl⟩)
            rw [hW1] at bA kA
            exact ⟨⟨k + 1, by omega, by go_num, hall', Lib.hid ⟨bA.out, kA.out⟩⟩, by simp [intOf]; omega⟩
          | false =>
            rw [hnm] at cN
            have hno : Hid (rightL hs = false) := Lib.hid (rightL_not hos.out (fun h => by
              have := h.2 o (by rw [hgd.out]; exact List.mem_of_getElem? ho)
              rw [hnm] at this; cases this))
            replace ho := Lib.hid ho
            replace bA := Lib.hid bA
            replace kA := Lib.hid kA
            have b1' : Blk W1 (w.heap.size + 1) 4 [.bool false] := b1.below bA.out b1.lt
            rw [hW1] at b1'
            have e2 := b1'.cell 0
            have g2 := b1'.frozen 0
            clear hnm hall
            gi_wp2_with (refine ⟨trivial, ?_⟩; gi_at_call 33; refine (CallsIn.inRound l (callsIn_wide.2 (cN _).out)).mono ?_; rintro e w' ⟨rfl, rfl⟩)
            rw [hW1] at bA kA
            exact ⟨(kA.out.trans (KeepsOthers.setCell _ _ _)).from _, ⟨rfl, hno.out, b1'.set_ 0 _⟩, (hB.trans (bA.out.mono hB.size)).setCell (p := ⟨w.heap.size + 1, 0, none⟩) (by simp) _⟩
        · have hall' : Hid (okK hs x.1) := Lib.hid ⟨by rw [hls.out]; omega, fun o ho => by
            rw [hgd.out] at ho
            obtain ⟨j, hj⟩ := List.getElem?_of_mem ho
            obtain ⟨o', ho', hn'⟩ := hall.out j (by have := (List.getElem?_eq_some_iff.1 hj).1; rw [hO.out.len] at this; omega)
            rw [hj] at ho'; injection ho' with ho'; rw [ho']; exact hn'⟩
          have hkm' : ¬ (k : Int) < (m : Int) := by omega
          gi_wp2
          exact ⟨hI.out.2.from _, hI.out.1.mono hB.size, ⟨fun y hy => (List.mem_append.1 hy).elim (hp y) (fun e => by simp at e; subst e; exact hall'.out), b0.below hI.out.1 b0.lt, b1.below hI.out.1 b1.lt⟩, hB.trans (hI.out.1.mono hB.size)⟩
  case done =>
    rintro D ys W hD rfl ⟨⟨hp, b0, b1⟩, hB⟩ hK
    have hres : Hid (rightL hs = true) := Lib.hid (rightL_yes (fun x => hp x (List.mem_finRange x)))
    have c1 := b1.cell 0
    have f1 := b1.frozen 0
    gi_wp2
    have hK' := (KeepsOthers.setCell W ⟨w.heap.size + 1, 0, none⟩ (.bool true)).same D _ hK rfl
    refine ⟨by simp, .inl ⟨_, _, rfl, run_takeDeferred hK', ?_⟩⟩
    have e1 := ((b1.set_ 0 (.bool true)).back (o' := .deferred none) hK' rfl).cell 0
    refine ⟨.bool true, ?_, by rw [hres.out], (hB.setCell (p := ⟨w.heap.size + 1, 0, none⟩) (by simp) _).trans (belowK_b (w := w) (Nat.le_refl _) _ D _ _ (by rw [z2] at hD; omega) hK' rfl rfl)⟩
    simp [results, Try.f20, go_sem, e1]
  case stop =>
    rintro D c pre W hD _ ⟨⟨rfl, hres, b1⟩, hB⟩ hK
    gi_wp2
    refine ⟨by simp, .inl ⟨_, _, rfl, run_takeDeferred hK, ?_⟩⟩
    have e1 := (b1.back (o' := .deferred none) hK rfl).cell 0
    refine ⟨.bool false, ?_, by rw [hres], hB.trans (belowK_b (w := w) (Nat.le_refl _) _ D _ _ (by rw [z2] at hD; omega) hK rfl rfl)⟩
    simp [results, Try.f20, go_sem, e1]
end

end Go.Proofs.Ytmfcnlolfhkeeaa
