/- The code's own contracts of layer 18: the first writes of edges, by their second ones (firsts). The code's own contracts of layer 18: the hull of a closed matrix with more pairs (added). Words for memory: slices of operations of a call's own, each in a block of its own. No function of the program is named here. Words for memory: lists of anything, each in a block of its own, in a row of slices that is written in place; what lies apart from them stays. No function of the program is named. Plain mathematics of layer 12: items of a session are neighbours; what follows for their order and the rows of the matrix. Nothing of the program is named. The code's own contracts of layer 12: known, first, fill, Ahead, Past, Po. -/
import Derived.Test.YtbeigdbljepfkaaGreatSeenTellsPk10
import Derived.Test.YtbeigdbljepfkaaGreatSeenTellsPk3
import Derived.Test.YtbeigdbljepfkaaGreatSeenTellsPk4
import Derived.Test.YtbeigdbljepfkaaGreatSeenTellsPk5
import Derived.Test.YtbeigdbljepfkaaGreatSeenTellsPk1
import Derived.OneCell
import Derived.Test.YtbeigdbljepfkaaGreatSeenTellsPk7
import Derived.Test.YtbeigdbljepfkaaGreatSeenTellsPk2
import Derived.Test.YtbeigdbljepfkaaGreatSeenTellsPk8
namespace Go.Proofs.YtbeigdbljepfkaaGreat
open Go.RowKit
set_option linter.unusedVariables false

/-- a row of n rows, each nil or in a block of its own -/
structure FstM (H n : Nat) (w : World) (us : List Value) (xss : List (List Nat)) : Prop where
  o : w.ownsRow H 75 1 (.slice (some ⟨H, 0, none⟩) n n) n us
  rows : OwnRows 105 w (H + 1) us xss
  nil : ∀ k : Nat, xss[k]? = some [] → us[k]? = some (.slice none 0 0)
section
variable {H n : Nat} {w w' : World} {us : List Value} {xss : List (List Nat)}
theorem FstM.later (h : FstM H n w us xss) (hb : Below w.heap.size w w') : FstM H n w' us xss := ⟨own_below h.o hb, h.rows.below hb, h.nil⟩
theorem FstM.ulen (h : FstM H n w us xss) : us.length = n := by have := h.o.1; simpa using this
theorem FstM.lt (h : FstM H n w us xss) : H < w.heap.size := (h.o.lt H rfl).2
theorem FstM.get (h : FstM H n w us xss) {k : Nat} (hk : k < n) {xs : List Nat} (hx : xss[k]? = some xs) : ∃ A m c, us[k]? = some (.slice A m c) ∧ w.cell? ⟨H, k, none⟩ = some (.slice A m c) ∧ w.frozen? ⟨H, k, none⟩ = false ∧ Row w A m xs ∧ w.ownsRow (H + 1) 105 1 (.slice A m c) m (xs.map u64v) ∧ W64 xs ∧ (xs = [] → A = none ∧ m = 0 ∧ c = 0) ∧ (xs ≠ [] → ∃ g, A = some ⟨g, 0, none⟩) := by
  have hl : k < us.length := by rw [h.ulen]; exact hk
  have hu : us[k]? = some us[k] := List.getElem?_eq_getElem hl
  obtain ⟨A, m, c, e, ho, hw⟩ := h.rows.2.1 k _ xs hu hx
  rw [e] at hu
  refine ⟨A, m, c, hu, by rw [h.o.cellAt k (by omega)]; exact hu, h.o.frozenAt k, Row.of_own ho hw, ho, hw, fun h0 => ?_, fun h0 => ?_⟩
  · subst h0
    have h1 := h.nil k hx
    rw [hu] at h1
    injection h1 with h1
    injection h1 with h1 h2 h3
    exact ⟨h1, h2, h3⟩
  · rcases ho.2 with ⟨h1, h2⟩ | ⟨g, cap, cur, h1, -⟩
    · exfalso
      have := ho.1
      rw [h2, List.length_map] at this
      exact h0 (List.eq_nil_of_length_eq_zero (by simpa using this))
    · injection h1 with h1
      exact ⟨g, h1⟩
theorem FstM.start (w : World) (hn : n ≤ maxLen) : FstM w.heap.size n (w.alloc (.cells (zeros n (.slice none 0 0)) 75)) (List.replicate n (.slice none 0 0)) (List.replicate n []) := by
  refine ⟨own_zeros w n _ _ hn, ⟨by simp, fun i v xs h1 h2 => ?_, fun i j v v' g _ h1 h2 h3 => ?_⟩, fun k h => ?_⟩
  · have e1 := List.eq_of_mem_replicate (List.mem_of_getElem? h1)
    have e2 := List.eq_of_mem_replicate (List.mem_of_getElem? h2)
    subst e1; subst e2
    exact ⟨none, 0, 0, rfl, World.ownsRow_nil _ _ _ _, fun x hx => by cases hx⟩
  · rw [List.eq_of_mem_replicate (List.mem_of_getElem? h1)] at h3
    cases h3
  · have hk := (List.getElem?_eq_some_iff.1 h).1
    rw [List.length_replicate] at hk
    rw [List.getElem?_replicate, if_pos hk]
/-- a new row is laid in its place -/
theorem FstM.put (h : FstM H n w us xss) (hb : Below w.heap.size w w') {s m c : Nat} {A : Option Addr} {ys : List Nat} (ho : w'.ownsRow w.heap.size 105 1 (.slice A m c) m (ys.map u64v)) (hy : W64 ys) (h0 : ys ≠ []) (hs : s < n) :
    FstM H n (w'.setCell ⟨H, s, none⟩ (.slice A m c)) (us.set s (.slice A m c)) (xss.set s ys) := by
  have h' := h.later hb
  have hH := h.lt
  have hsl : s < us.length := by rw [h.ulen]; exact hs
  have hfar : ∀ g, (Value.slice A m c).ownBlock = some g → w.heap.size ≤ g := own_lt_block ho
  have hold : ∀ (i : Nat) (v : Value) (g : Nat), us[i]? = some v → v.ownBlock = some g → H + 1 ≤ g ∧ g < w.heap.size := fun i v g h1 h2 => h.rows.lt v (List.mem_of_getElem? h1) g h2
  refine ⟨(h'.o.stored s _).1, ⟨by simp [h.rows.1], fun i v xs h1 h2 => ?_, fun i j v v' g hij h1 h2 h3 h4 => ?_⟩, fun k hk => ?_⟩
  · rw [List.getElem?_set] at h1 h2
    by_cases hi : s = i
    · subst hi
      rw [if_pos rfl, if_pos hsl] at h1
      rw [if_pos rfl, if_pos (by rw [← h.rows.1]; exact hsl)] at h2
      injection h1 with h1
      injection h2 with h2
      subst h1; subst h2
      exact ⟨A, m, c, rfl, own_far (own_base ho (by omega)) (fun e => by have := hfar _ e; simp at this; omega) _, hy⟩
    · rw [if_neg hi] at h1 h2
      obtain ⟨A', m', c', e, h5, h6⟩ := h'.rows.2.1 i v xs h1 h2
      exact ⟨A', m', c', e, own_far h5 (fun e' => by have := own_lt_block h5 _ e'; simp at this; omega) _, h6⟩
  · rw [List.getElem?_set] at h1 h2
    by_cases hi : s = i
    · subst hi
      rw [if_pos rfl, if_pos hsl] at h1
      rw [if_neg hij] at h2
      injection h1 with h1
      subst h1
      have := hfar g h3
      have := hold j v' g h2 h4
      omega
    · rw [if_neg hi] at h1
      by_cases hj : s = j
      · subst hj
        rw [if_pos rfl, if_pos hsl] at h2
        injection h2 with h2
        subst h2
        have := hfar g h4
        have := hold i v g h1 h3
        omega
      · rw [if_neg hj] at h2
        exact h.rows.2.2 i j v v' g hij h1 h2 h3 h4
  · rw [List.getElem?_set] at hk ⊢
    by_cases hi : s = k
    · rw [if_pos hi] at hk
      split at hk
      · injection hk with hk
        exact absurd hk h0
      · cases hk
    · rw [if_neg hi] at hk ⊢
      exact h.nil k hk
/-- a word is written -/
theorem FstM.word (h : FstM H n w us xss) {s g m c : Nat} {xs : List Nat} (hv : us[s]? = some (.slice (some ⟨g, 0, none⟩) m c)) (hx : xss[s]? = some xs) (q y : Nat) (hy : y < 18446744073709551616) (h0 : xs ≠ []) : FstM H n (w.setCell ⟨g, q, none⟩ (u64v y)) us (xss.set s (xs.set q y)) := by
  have hg : H + 1 ≤ g := (h.rows.lt _ (List.mem_of_getElem? hv) g rfl).1
  refine ⟨own_far h.o (fun e => by injection e with e; simp at e; omega) _, h.rows.put hv hx q y hy, fun k hk => ?_⟩
  rw [List.getElem?_set] at hk
  by_cases hi : s = k
  · rw [if_pos hi] at hk
    split at hk
    · injection hk with hk
      have : (xs.set q y).length = 0 := by rw [hk]; rfl
      rw [List.length_set] at this
      exact absurd (List.eq_nil_of_length_eq_zero this) h0
    · cases hk
  · rw [if_neg hi] at hk
    exact h.nil k hk
end
/-- the rows of the first k edges -/
def fstX (n N : Nat) (es : List Ed) : List (List Nat) := (List.range n).map (fstR N es)
theorem fstX_nil (n N : Nat) : fstX n N [] = List.replicate n [] := by
  unfold fstX
  apply List.ext_getElem?
  intro k
  rw [List.getElem?_map, List.getElem?_replicate]
  by_cases hk : k < n
  · rw [List.getElem?_range hk, if_pos hk]; rfl
  · rw [List.getElem?_eq_none (by simpa using hk), if_neg hk]; rfl
theorem fstX_at {n N : Nat} (es : List Ed) {k : Nat} (hk : k < n) : (fstX n N es)[k]? = some (fstR N es k) := by
  unfold fstX; rw [List.getElem?_map, List.getElem?_range hk]; rfl
theorem fstX_step {n N q : Nat} {es : List Ed} {e : Ed} {b : Nat} (h : es[q]? = some e) (hb : e.w2 = (b : Int)) (hn : b < n) : fstX n N (es.take (q + 1)) = (fstX n N (es.take q)).set b (setR (if fstR N (es.take q) b = [] then List.replicate N 0 else fstR N (es.take q) b) e.w1) := by
  apply List.ext_getElem?
  intro k
  rw [List.getElem?_set]
  by_cases hk : k < n
  · rw [fstX_at _ hk, fstX_at _ hk, fstR_take h]
    by_cases hbk : b = k
    · subst hbk
      rw [if_pos rfl, if_pos (by unfold fstX; simpa using hk)]
      unfold fstO
      rw [if_pos hb]
    · rw [if_neg hbk, fstO_other (by rw [hb]; omega)]
  · have h1 : ∀ l, (fstX n N l)[k]? = none := fun l => List.getElem?_eq_none (by unfold fstX; simpa using hk)
    rw [h1, h1]
    split
    · rw [if_neg (by unfold fstX; simp; omega)]
    · rfl
theorem wrap_nat18 {q : Nat} (h : q ≤ 4096) : IntKind.i64.wrap (q : Int) = (q : Int) := by rw [IntKind.wrap_i64]; omega
/-- the first writes, by second ones -/
def RetFst (n N : Nat) (es : List Ed) (w : World) (e : Ending) (w' : World) : Prop := ∃ H us, e = .returned (.slice (some ⟨H, 0, none⟩) n n) ∧ w.heap.size ≤ H ∧ FstM H n w' us (fstX n N es) ∧ Below w.heap.size w w'
set_option maxRecDepth 100000 in
set_option maxHeartbeats 4000000 in
theorem seen_firsts (n N m c : Nat) (E : Option Addr) (es : List Ed) (w : World) (hL : LAt encE w E m es) (hn : n ≤ 4096) (hN : N = wordsN (n : Int)) (hm : m ≤ 16777216) (hes : ∀ e ∈ es, ∃ a b : Nat, e.w1 = (a : Int) ∧ e.w2 = (b : Int) ∧ a < n ∧ b < n) :
    Calls Tryz.prog 66 #[.int .i64 (n : Int), .slice E m c] w (RetFst n N es w) := by
  have hmk := mk_rows .i64 .i64 n n (Nat.le_refl _) (by omega)
  have hnN : n ≤ 64 * N := by rw [hN]; unfold wordsN wordsZ; split <;> omega
  have hN64 : N ≤ 64 := by rw [hN]; unfold wordsN wordsZ; split <;> omega
  have cN := Lib.hid (fun W => row_NewO (n : Int) (by omega) (by omega) W)
  rw [← hN] at cN
  obtain ⟨H, hH⟩ : ∃ g, g = w.heap.size := ⟨_, rfl⟩
  obtain ⟨W0, hW0⟩ : ∃ W, W = w.alloc (.cells (zeros n (.slice none 0 0)) 75) := ⟨_, rfl⟩
  have hb0 := Lib.hid (show Below w.heap.size w W0 from by rw [hW0]; exact below_alloc _ _)
  have hM0 := Lib.hid (show FstM H n W0 (List.replicate n (.slice none 0 0)) (fstX n N (es.take 0)) from by rw [hW0, hH, List.take_zero, fstX_nil]; exact FstM.start w (by unfold maxLen; omega))
  have hHw := Lib.hid (show w.heap.size ≤ H from by rw [hH]; exact Nat.le_refl _)
  have hnilT : ∀ W : World, (binOp .eql 75 (.slice none 0 0) (.slice none 0 0)).run Tryz.prog W = .ok (.bool true) W := fun W => by kernel_rfl
  have hnilF : ∀ (g m c : Nat) (W : World), (binOp .eql 75 (.slice (some ⟨g, 0, none⟩) m c) (.slice none 0 0)).run Tryz.prog W = .ok (.bool false) W := fun g m c W => by kernel_rfl
  replace hL := Lib.hid hL
  replace hes := Lib.hid hes
  replace hN := Lib.hid hN
  go_enter Tryz.func66, Tryz.ntmps66
  go_wp2_with (rw [← hW0, ← hH]; clear hW0; replace hH := Lib.hid hH)
  clear hmk
  go_loopw [12] (fun t wr => ∃ (q : Nat) (us : List Value), q ≤ m ∧ t = .int .i64 (q : Int) ∧ Hid (Below w.heap.size w wr) ∧ Hid (FstM H n wr us (fstX n N (es.take q)))) (fun t _ => m - (intOf t).toNat)
  case atStart => exact ⟨0, _, Nat.zero_le _, rfl, hb0, hM0⟩
  case round =>
    clear hb0 hM0
    obtain ⟨q, us, hq, rfl, hb, hM⟩ := hrel
    by_cases hlt : q < m
    · have hlt' : (q : Int) < (m : Int) := by omega
      have hq0 : 0 ≤ (q : Int) ∧ (q : Int) < (m : Int) := ⟨by omega, hlt'⟩
      obtain ⟨eb, eo, e, rfl, hebl, hex, heo, x0, x1, x2⟩ := (hL.out.below hb.out).edge hlt
      obtain ⟨a, b, ha, hbb, han, hbn⟩ := hes.out e (List.mem_of_getElem? hex)
      rw [ha] at x0
      rw [hbb] at x1
      have hstep := fstX_step (n := n) (N := N) hex hbb hbn
      rw [ha] at hstep
      obtain ⟨ge, hge⟩ : ∃ g, g = wr.heap.size := ⟨_, rfl⟩
      obtain ⟨W3, hW3⟩ : ∃ W, W = wr.alloc (.cells #[.int .i64 (a : Int), .int .i64 (b : Int), .int .i64 e.rd] 55) := ⟨_, rfl⟩
      have b3 : Below wr.heap.size wr W3 := by rw [hW3]; exact below_alloc _ _
      have hE := Lib.hid (show Blk W3 ge 55 [.int .i64 (a : Int), .int .i64 (b : Int), .int .i64 e.rd] from by rw [hW3, hge]; exact Blk.new wr _ _)
      have hgH := Lib.hid (show H < ge from by rw [hge]; exact hM.out.lt)
      replace hb := Lib.hid (below_trans2 hb.out b3)
      replace hM := Lib.hid (hM.out.later b3)
      have hbn' : (b : Int) < (n : Int) := by omega
      have hb0' : (0 : Int) ≤ (b : Int) := by omega
      have he0 := hE.out.cell 0
      have he1 := hE.out.cell 1
      simp only [List.getElem?_cons_zero, List.getElem?_cons_succ] at he0 he1
      have hx := fstX_at (n := n) (N := N) (es.take q) hbn
      obtain ⟨A', m', cc, k1, k2, k3, k4, k5, k6, k7, k8⟩ := hM.out.get hbn hx
      have hfac := (fstR_facts (N := N) (by omega) (es.take q) (fun e he => by obtain ⟨a, b, h1, h2, h3, h4⟩ := hes.out e (List.mem_of_mem_take he); exact ⟨a, h1, by omega⟩) b).2.1
      obtain ⟨xs, hxs⟩ : ∃ xs, xs = fstR N (es.take q) b := ⟨_, rfl⟩
      rw [← hxs] at hx hstep k4 k5 k6 k7 k8 hfac
      have hk4 := k4.len
      replace hxs := Lib.hid hxs
      replace hex := Lib.hid hex
      replace heo := Lib.hid heo
      clear hebl ha hbb
      by_cases hz : xs = []
      · obtain ⟨e1, e2, e3⟩ := k7 hz
        subst e1; subst e2; subst e3
        rw [if_pos hz] at hstep
        have hW3s := Lib.hid (show wr.heap.size ≤ W3.heap.size from b3.size)
        replace hstep := Lib.hid hstep
        clear b3 k4 k5 k6 k7 k8 hfac hk4 k1 k3 hx
        go_wp2_with (rw [← hW3, ← hge]; clear hW3; replace hge := Lib.hid hge; clear x0 x1 x2)
        refine wp_region_plan 6 [(true, 0), (true, 1), (true, 2), (true, 3), (false, 4), (true, 5)] (by kernel_rfl) (by kernel_rfl) (fun U hU => ?_)
        have hU' : Below W3.heap.size W3 U := by rw [hU.out]; exact (Below.refl _ _).drew
        have hMU := Lib.hid (hM.out.later hU')
        have hbU := Lib.hid (below_trans2 hb.out hU')
        have hEU := Lib.hid (hE.out.below hU' hE.out.lt)
        replace he1 : U.cell? ⟨ge, 1, none⟩ = some (.int .i64 (b : Int)) := by rw [hU.out]; exact he1
        clear hM hb hE hU hU' he0 k2
        simp only [List.drop_succ_cons, List.drop_zero]
        iterate 4
          refine wpPlan_float (v := ?_) rfl (by rfl) (fun w' hw' => ?_) (fun K hK => ?_)
          rotate_left
          · (go_simp; try with_reducible rfl)
          go_simp
          refine hK _ ?_
          clear hK K
        clear he1
        refine wpPlan_only rfl (by rfl) (fun K hK => ?_)
        go_simp
        refine (cN.out U).mono ?_
        rintro e' w4 ⟨A1, n1, c1, rfl, ho1, hx1, b4⟩
        refine hK _ _ b4 ?_
        clear hK K
        have hn1 : n1 = N := by have := ho1.1; simpa using this.symm
        subst hn1
        have hN0 : 0 < n1 := by omega
        obtain ⟨g, cap, hv1, -⟩ := ho1.form hN0
        injection hv1 with e1 e2 e3
        subst e1; subst e3
        have hE4 := hEU.out.below b4 hEU.out.lt
        have hb4 := below_trans2 hbU.out b4
        have hMl := hMU.out.lt
        have hF4 := (hMU.out.later b4).o.frozenAt b
        have hC4 := (hMU.out.later b4).o.cellAt b (by omega)
        obtain ⟨u4, hu4⟩ : ∃ u, us[b]? = some u := ⟨_, List.getElem?_eq_getElem (by rw [hMU.out.ulen]; omega)⟩
        rw [hu4] at hC4
        have hM := Lib.hid (hMU.out.put b4 ho1 hx1 (fun e => by have := congrArg List.length e; simp at this; omega) hbn)
        have hv := Lib.hid (show (us.set b (.slice (some ⟨g, 0, none⟩) n1 c1))[b]? = some (.slice (some ⟨g, 0, none⟩) n1 c1) from List.getElem?_set_self (by rw [hMU.out.ulen]; exact hbn))
        have hx := Lib.hid (show ((fstX n n1 (es.take q)).set b (List.replicate n1 0))[b]? = some (List.replicate n1 0) from List.getElem?_set_self (by unfold fstX; simpa using hbn))
        have hS : ((fstX n n1 (es.take q)).set b (List.replicate n1 0)).set b (setR (List.replicate n1 0) (a : Int)) = fstX n n1 (es.take (q + 1)) := by rw [List.set_set]; exact hstep.out.symm
        obtain ⟨W5, hW5⟩ : ∃ W, W = w4.setCell ⟨H, b, none⟩ (.slice (some ⟨g, 0, none⟩) n1 c1) := ⟨_, rfl⟩
        have hE := Lib.hid (show Blk W5 ge 55 [.int .i64 (a : Int), .int .i64 (b : Int), .int .i64 e.rd] from by rw [hW5]; exact hE4.far (by have := hgH.out; simp; omega) _)
        have hb := Lib.hid (show Below w.heap.size w W5 from by rw [hW5]; exact hb4.setCell (by exact hHw.out) _)
        rw [← hW5] at hM
        obtain ⟨xs, hxs'⟩ : ∃ xs, xs = List.replicate n1 0 := ⟨_, rfl⟩
        rw [← hxs'] at hx hS hM
        have hxl0 : xs.length = n1 := by rw [hxs']; simp
        obtain ⟨cc, hcc⟩ : ∃ c, c = c1 := ⟨_, rfl⟩
        rw [← hcc] at hv hM hW5 ⊢
        obtain ⟨N, hNN⟩ : ∃ N, N = n1 := ⟨_, rfl⟩
        obtain ⟨vv, hvv⟩ : ∃ v, v = us.set b (.slice (some ⟨g, 0, none⟩) n1 cc) := ⟨_, rfl⟩
        obtain ⟨YY, hYY⟩ : ∃ Y, Y = (fstX n n1 (es.take q)).set b xs := ⟨_, rfl⟩
        rw [← hvv] at hv hM
        rw [← hYY] at hx hS hM
        replace hxs' := Lib.hid hxs'
        replace hcc := Lib.hid hcc
        replace hvv := Lib.hid hvv
        replace hYY := Lib.hid hYY
        clear ho1 hx1 b4 hE4 hb4 hMU hbU hEU hu4 hMl hstep hz
        subst hNN
        iterate 1
          refine wpPlan_float (v := ?_) rfl (by rfl) (fun w' hw' => ?_) (fun K hK => ?_)
          rotate_left
          · (go_simp; try with_reducible rfl)
          go_simp
          refine hK _ ?_
          clear hK K
        refine wpPlan_nil ?_
        go_wp2
        rw [← hW5]
        replace hW5 := Lib.hid hW5
        refine NoPanic.normal ?_
        -- in the world W5: hM : FstM H n W5 vv YY, hv : vv[b]? = some (.slice (some ⟨g, 0, none⟩) N cc), hx : YY[b]? = some xs, hS : YY.set b (setR xs a) = .. ; the edge's box hE
        have hxl : xs.length = N := hxl0
        have hx64 : W64 xs := (hM.out.get hbn hx.out).elim (fun A h => by obtain ⟨m, c, -, -, -, -, -, h7, -⟩ := h; exact h7)
        obtain ⟨qq, hqq⟩ : ∃ q, q = a / 64 := ⟨_, rfl⟩
        obtain ⟨r, hre⟩ : ∃ r, r = a % 64 := ⟨_, rfl⟩
        have hql : qq < N := by omega
        have hr64 : r < 64 := by omega
        obtain ⟨x, hxq⟩ : ∃ x, xs[qq]? = some x := ⟨_, List.getElem?_eq_getElem (by omega)⟩
        have hxb : x < 18446744073709551616 := hx64 x (List.mem_of_getElem? hxq)
        have hSa := setR_in (m := a) (xs := xs) (by rw [hxl]; omega) (by rw [← hqq]; exact hxq)
        rw [← hqq, ← hre] at hSa
        have hEo := Lib.hid (u64_or_nat x (p2 r) hxb (by have := p2_lt r hr64; omega))
        have hO := Lib.hid (or_p2_lt hxb hr64)
        rw [hSa] at hS
        replace hS := Lib.hid hS
        obtain ⟨A', m', c', k1, k2, k3, k4, k5, -⟩ := hM.out.get hbn hx.out
        rw [hv.out] at k1
        injection k1 with k1
        injection k1 with k1 k1' k1''
        subst k1; subst k1'; subst k1''
        have hc : (W5).cell? ⟨g, qq, none⟩ = some (.int .u64 (x : Int)) := by
          rw [k5.cellAt _ (by omega), List.getElem?_map, hxq]; rfl
        have hf := k5.frozenAt qq
        have hgl := Lib.hid (k5.lt g rfl)
        have he0 := hE.out.cell 0
        have he1 := hE.out.cell 1
        simp only [List.getElem?_cons_zero, List.getElem?_cons_succ] at he0 he1
        replace hxq := Lib.hid hxq
        clear hx64 hSa k4 k5
        go_wp2_with fail
        have hq1 : (a : Int).tdiv 64 = (qq : Int) := by rw [Int.tdiv_eq_ediv_of_nonneg (by omega)]; omega
        have hr1 : (a : Int).tmod 64 = (r : Int) := by rw [Int.tmod_eq_emod_of_nonneg (by omega)]; omega
        have hwq : IntKind.i64.wrap (qq : Int) = (qq : Int) := wrap_nat18 (by omega)
        have hwr : IntKind.i64.wrap (r : Int) = (r : Int) := wrap_nat18 (by omega)
        have hA1 : (0 : Int) ≤ (qq : Int) := by omega
        have hA2 : (qq : Int) < (N : Int) := by omega
        refine still_tail 16 (by kernel_rfl) (by kernel_rfl) (fun Z hZ => ?_)
        replace hc : Z.cell? ⟨g, qq, none⟩ = some (.int .u64 (x : Int)) := by rw [hZ.out]; exact hc
        replace hf : Z.frozen? ⟨g, qq, none⟩ = false := by rw [hZ.out]; exact hf
        replace k2 : Z.cell? ⟨H, b, none⟩ = some (.slice (some ⟨g, 0, none⟩) N cc) := by rw [hZ.out]; exact k2
        replace he0 : Z.cell? ⟨ge, 0, none⟩ = some (.int .i64 (a : Int)) := by rw [hZ.out]; exact he0
        replace he1 : Z.cell? ⟨ge, 1, none⟩ = some (.int .i64 (b : Int)) := by rw [hZ.out]; exact he1
        have hM' := Lib.hid (show FstM H n Z _ _ from by rw [hZ.out]; exact hM.out.later (Below.refl _ _).drew)
        have hb' := Lib.hid (show Below w.heap.size w Z from by rw [hZ.out]; exact hb.out.drew)
        replace hqq := Lib.hid hqq
        replace hre := Lib.hid hre
        clear hZ k3
        simp only [List.take_succ_cons, List.take_zero, List.drop_succ_cons, List.drop_zero]
        repeat
          refine @wpStill_step _ _ _ _ _ _ _ ?_
          intro K hK
          go_simp
          refine hK _ ?_
          clear hK K
        refine @wpStill_step _ _ _ _ _ _ _ ?_
        intro K hK
        go_simp
        refine ⟨_, still_call (word_BitN _ hr64 _), hK _ ?_⟩
        clear hK K
        repeat
          refine @wpStill_step _ _ _ _ _ _ _ ?_
          intro K hK
          go_simp
          refine hK _ ?_
          clear hK K
        refine wpStill_nil ?_
        go_wp2
        go_roundw
        case rel =>
          refine ⟨q + 1, vv, by omega, by go_num, Lib.hid (hb'.out.setCell (by have := hgl.out; have := hHw.out; simp; omega) _), Lib.hid ?_⟩
          rw [hEo.out]
          have h1 := hM'.out.word hv.out hx.out qq _ hO.out (fun e => by rw [e] at hxl; simp at hxl; omega)
          rw [hS.out] at h1
          exact h1
        case measure => simp [intOf]; omega
      · obtain ⟨g, rfl⟩ := k8 hz
        rw [if_neg hz] at hstep
        have hxl0 : xs.length = N := by
          rcases hfac with ⟨h1, -⟩ | ⟨h1, -⟩
          · exact absurd h1 hz
          · exact h1
        have hmN : N = m' := by omega
        subst hmN
        have hv := Lib.hid k1
        replace hx := Lib.hid hx
        have hS := hstep.symm
        replace hz := Lib.hid hz
        clear hstep k4 k5 k6 k7 k8 hfac hk4 b3 k1 k3
        go_wp2_with (rw [← hW3, ← hge]; clear hW3; replace hge := Lib.hid hge; clear x0 x1 x2)
        -- in the world W3: hM : FstM H n W3 us fstX n N (es.take q), hv : us[b]? = some (.slice (some ⟨g, 0, none⟩) N cc), hx : fstX n N (es.take q)[b]? = some xs, hS : fstX n N (es.take q).set b (setR xs a) = .. ; the edge's box hE
        have hxl : xs.length = N := hxl0
        have hx64 : W64 xs := (hM.out.get hbn hx.out).elim (fun A h => by obtain ⟨m, c, -, -, -, -, -, h7, -⟩ := h; exact h7)
        obtain ⟨qq, hqq⟩ : ∃ q, q = a / 64 := ⟨_, rfl⟩
        obtain ⟨r, hre⟩ : ∃ r, r = a % 64 := ⟨_, rfl⟩
        have hql : qq < N := by omega
        have hr64 : r < 64 := by omega
        obtain ⟨x, hxq⟩ : ∃ x, xs[qq]? = some x := ⟨_, List.getElem?_eq_getElem (by omega)⟩
        have hxb : x < 18446744073709551616 := hx64 x (List.mem_of_getElem? hxq)
        have hSa := setR_in (m := a) (xs := xs) (by rw [hxl]; omega) (by rw [← hqq]; exact hxq)
        rw [← hqq, ← hre] at hSa
        have hEo := Lib.hid (u64_or_nat x (p2 r) hxb (by have := p2_lt r hr64; omega))
        have hO := Lib.hid (or_p2_lt hxb hr64)
        rw [hSa] at hS
        replace hS := Lib.hid hS
        obtain ⟨A', m', c', k1, k2, k3, k4, k5, -⟩ := hM.out.get hbn hx.out
        rw [hv.out] at k1
        injection k1 with k1
        injection k1 with k1 k1' k1''
        subst k1; subst k1'; subst k1''
        have hc : (W3).cell? ⟨g, qq, none⟩ = some (.int .u64 (x : Int)) := by
          rw [k5.cellAt _ (by omega), List.getElem?_map, hxq]; rfl
        have hf := k5.frozenAt qq
        have hgl := Lib.hid (k5.lt g rfl)
        have he0 := hE.out.cell 0
        have he1 := hE.out.cell 1
        simp only [List.getElem?_cons_zero, List.getElem?_cons_succ] at he0 he1
        replace hxq := Lib.hid hxq
        clear hx64 hSa k4 k5
        go_wp2_with fail
        have hq1 : (a : Int).tdiv 64 = (qq : Int) := by rw [Int.tdiv_eq_ediv_of_nonneg (by omega)]; omega
        have hr1 : (a : Int).tmod 64 = (r : Int) := by rw [Int.tmod_eq_emod_of_nonneg (by omega)]; omega
        have hwq : IntKind.i64.wrap (qq : Int) = (qq : Int) := wrap_nat18 (by omega)
        have hwr : IntKind.i64.wrap (r : Int) = (r : Int) := wrap_nat18 (by omega)
        have hA1 : (0 : Int) ≤ (qq : Int) := by omega
        have hA2 : (qq : Int) < (N : Int) := by omega
        refine still_tail 16 (by kernel_rfl) (by kernel_rfl) (fun Z hZ => ?_)
        replace hc : Z.cell? ⟨g, qq, none⟩ = some (.int .u64 (x : Int)) := by rw [hZ.out]; exact hc
        replace hf : Z.frozen? ⟨g, qq, none⟩ = false := by rw [hZ.out]; exact hf
        replace k2 : Z.cell? ⟨H, b, none⟩ = some (.slice (some ⟨g, 0, none⟩) N cc) := by rw [hZ.out]; exact k2
        replace he0 : Z.cell? ⟨ge, 0, none⟩ = some (.int .i64 (a : Int)) := by rw [hZ.out]; exact he0
        replace he1 : Z.cell? ⟨ge, 1, none⟩ = some (.int .i64 (b : Int)) := by rw [hZ.out]; exact he1
        have hM' := Lib.hid (show FstM H n Z _ _ from by rw [hZ.out]; exact hM.out.later (Below.refl _ _).drew)
        have hb' := Lib.hid (show Below w.heap.size w Z from by rw [hZ.out]; exact hb.out.drew)
        replace hqq := Lib.hid hqq
        replace hre := Lib.hid hre
        clear hZ k3
        simp only [List.take_succ_cons, List.take_zero, List.drop_succ_cons, List.drop_zero]
        repeat
          refine @wpStill_step _ _ _ _ _ _ _ ?_
          intro K hK
          go_simp
          refine hK _ ?_
          clear hK K
        refine @wpStill_step _ _ _ _ _ _ _ ?_
        intro K hK
        go_simp
        refine ⟨_, still_call (word_BitN _ hr64 _), hK _ ?_⟩
        clear hK K
        repeat
          refine @wpStill_step _ _ _ _ _ _ _ ?_
          intro K hK
          go_simp
          refine hK _ ?_
          clear hK K
        refine wpStill_nil ?_
        go_wp2
        go_roundw
        case rel =>
          refine ⟨q + 1, us, by omega, by go_num, Lib.hid (hb'.out.setCell (by have := hgl.out; have := hHw.out; simp; omega) _), Lib.hid ?_⟩
          rw [hEo.out]
          have h1 := hM'.out.word hv.out hx.out qq _ hO.out (fun e => by rw [e] at hxl; simp at hxl; omega)
          rw [hS.out] at h1
          exact h1
        case measure => simp [intOf]; omega
    · obtain rfl : q = m := by omega
      have hlt' : ¬ (q : Int) < (q : Int) := by omega
      have hall : es.take q = es := List.take_of_length_le (by rw [hL.out.len]; exact Nat.le_refl _)
      rw [hall] at hM
      clear hlt
      go_wp2_with fail
      go_ret
      exact ⟨H, us, rfl, hHw.out, hM.out, hb.out⟩
end Go.Proofs.YtbeigdbljepfkaaGreat

namespace Go.Proofs.YtbeigdbljepfkaaGreat
open Go.RowKit
set_option linter.unusedVariables false
section
variable {H n : Nat} {w w' : World} {us : List Value} {xss : List (List Nat)}
theorem own_keptB18 {w w' : World} {g base size n : Nat} {e : TypeId} {v : Value} {xs : List Value} (h : w.ownsRow base e size v n xs) (hb : BelowB g w w') (hg : g < base) : w'.ownsRow base e size v n xs :=
  h.kept (row := some g) ⟨hb.os, hb.tape, hb.output, hb.size, fun k hk hne => hb.block k hk (fun e => hne (by rw [e]))⟩ (by
    cases hv : v.ownBlock with
    | none => exact .inl rfl
    | some k => exact .inr (fun e => by injection e with e; have := own_lt_block h k hv; omega))
theorem FstM.keptB {G : Nat} (h : FstM H n w us xss) (hb : BelowB G w w') (hg : G < H) : FstM H n w' us xss :=
  ⟨own_keptB18 h.o hb hg, ⟨h.rows.1, fun i v xs h1 h2 => by
    obtain ⟨A, m, c, e, h3, h4⟩ := h.rows.2.1 i v xs h1 h2
    exact ⟨A, m, c, e, own_keptB18 h3 hb (by omega), h4⟩, h.rows.2.2⟩, h.nil⟩
end
/-- the hull of all, in rows whose blocks are told -/
def RetAdd (S : Nat → Prop) (n : Nat) (X : List (List Nat)) (w : World) (e : Ending) (w' : World) : Prop := ∃ A c, e = .returned (.agg #[.int .i64 (n : Int), .slice A n c]) ∧ RowsS (fun g => S g ∨ w.heap.size ≤ g) w' A n X ∧ n ≤ c ∧ Below w.heap.size w w' ∧ ∀ ad, A = some ad → w.heap.size ≤ ad.block
set_option maxRecDepth 100000 in
set_option maxHeartbeats 4000000 in
theorem seen_added (S : Nat → Prop) (A : Option Addr) (n c : Nat) (X : List (List Nat)) (E : Option Addr) (m d : Nat) (es : List Ed) (w : World) (hr : RowsS S w A n X) (hG : Good n X) (hc : ClosedM X) (hn : 0 < n) (hL : LAt encE w E m es) (hm : m ≤ 16777216) (hes : ∀ e ∈ es, ∃ a b : Nat, e.w1 = (a : Int) ∧ e.w2 = (b : Int) ∧ a < n ∧ b < n) :
    Calls Tryz.prog 34 #[.agg #[.int .i64 (n : Int), .slice A n c], .slice E m d] w (RetAdd S n (closeK ((edP es).foldl setP X) n) w) := by
  have hnn := hG.le
  obtain ⟨N, hN⟩ : ∃ N, N = wordsN (n : Int) := ⟨_, rfl⟩
  have hN0 : 0 < N := by rw [hN]; unfold wordsN wordsZ; split <;> omega
  have hnN : n ≤ 64 * N := by rw [hN]; unfold wordsN wordsZ; split <;> omega
  have hres := Lib.hid (adX_close hN0 hnN hG hc hes)
  have hgk := Lib.hid (fun k (hk : k ≤ n) => (adX_hull hN0 hnN hG hc hes k hk).1)
  have hfr := Lib.hid (fun k => (fstR_facts (N := N) hN0 es (fun e he => by obtain ⟨a, b, h1, h2, h3, h4⟩ := hes e he; exact ⟨a, h1, by omega⟩) k).2.1)
  obtain ⟨vs0, hrd, hrc, hA, hS⟩ := hr
  obtain ⟨W0, hW0⟩ : ∃ W0, W0 = (w.alloc (.cells #[.int .i64 n, .slice A n c] 34)).alloc (.cells #[.int .i64 0, .slice none 0 0] 34) := ⟨_, rfl⟩
  have ha : Below w.heap.size w W0 := by rw [hW0]; exact ((Below.refl _ _).alloc (Nat.le_refl _) _).alloc (by simp) _
  have hB1 := Lib.hid (show MatB W0 w.heap.size 34 n A n c from by rw [hW0]; exact (MatB.new w _).below_ (below_alloc _ _))
  have hB2 := Lib.hid (show MatB W0 (w.heap.size + 1) 34 0 none 0 0 from by rw [hW0]; exact MatB.new1 w _ _)
  have hs0 := Lib.hid (show W0.heap.size = w.heap.size + 2 from by rw [hW0]; simp)
  have l0 := hB1.out.c0
  have l1 := hB1.out.c1
  obtain ⟨b, off, rfl, hbl⟩ : ∃ b off, A = some ⟨b, off, none⟩ ∧ b < w.heap.size := by obtain ⟨b, off, e, h, -⟩ := hrd.2 hn; exact ⟨b, off, e, h⟩
  have cC := Lib.hid (clone_rows b off n c vs0 W0 (hrd.below ha) (one_rows (hrc.below ha)) hn (by omega))
  have hrc0 := Lib.hid (hrc.below ha)
  have hneT : ∀ (g m c : Nat) (W : World), (binOp .neq 75 (.slice (some ⟨g, 0, none⟩) m c) (.slice none 0 0)).run Tryz.prog W = .ok (.bool true) W := fun g m c W => by kernel_rfl
  have hneF : ∀ (W : World), (binOp .neq 75 (.slice none 0 0) (.slice none 0 0)).run Tryz.prog W = .ok (.bool false) W := fun W => by kernel_rfl
  have hL0 := Lib.hid (hL.below ha)
  have ha' := Lib.hid ha
  have cF := Lib.hid (fun W hW => seen_firsts n N m d E es W hW hnn hN hm hes)
  replace hN := Lib.hid hN
  replace hS := Lib.hid hS
  replace hes := Lib.hid hes
  replace hG := Lib.hid hG
  clear hrd hrc hL ha hA hbl
  go_enter Tryz.func34, Tryz.ntmps34
  go_wp2_with (rw [← hW0]; clear hW0)
  refine cC.out.mono ?_; rintro e w1 ⟨G, cap, rfl, hown, b1⟩
  have hGs := (hown.lt G rfl)
  have hI := Lib.hid (show LeadI S w W0.heap.size G n cap vs0 X w1 from ⟨hown, ⟨hrc0.out.1, fun i v xs h1 h2 => by
    obtain ⟨B, m', c', e, hrow⟩ := hrc0.out.2 i v xs h1 h2
    subst e
    exact RowF.old hrow b1 hGs.1⟩, fun v hv g e => .inl (hS.out v hv g e), by have := hs0.out; omega, hGs.2⟩)
  have hB1w := Lib.hid (hB1.out.below_ b1)
  have hB2w := Lib.hid (hB2.out.below_ b1)
  have hLw := Lib.hid (hL0.out.below b1)
  have hbw := Lib.hid (below_trans2 ha'.out b1)
  have hGb : Hid (W0.heap.size ≤ G) := Lib.hid hGs.1
  have l0 := hB1w.out.c0
  have l1 := hB1w.out.c1
  clear hown b1 hGs cC hrc0 hB1 hB2 hL0 ha'
  go_wp2_with fail
  refine (cF.out w1 hLw.out).mono ?_; rintro e w2 ⟨H, us, rfl, hHs, hM, b2⟩
  have hGH : Hid (G < H) := Lib.hid (Nat.lt_of_lt_of_le hI.out.big.2 hHs)
  replace hI := Lib.hid (hI.out.later b2)
  replace hB1w := Lib.hid (hB1w.out.below_ b2)
  replace hB2w := Lib.hid (hB2w.out.below_ b2)
  replace hbw := Lib.hid (below_trans2 hbw.out b2)
  replace hM := Lib.hid hM
  clear b2 l0 l1 cF hLw hHs
  go_wp2_with fail
  go_loopw [16] (fun t wr => ∃ (k : Nat) (vs : List Value), k ≤ n ∧ t = .int .i64 (k : Int) ∧ Hid (LeadI S w W0.heap.size G n cap vs (adX N X es k) wr) ∧ Hid (FstM H n wr us (fstX n N es)) ∧ Hid (MatB wr w.heap.size 34 n (some ⟨b, off, none⟩) n c) ∧ Hid (MatB wr (w.heap.size + 1) 34 0 none 0 0) ∧ Hid (Below w.heap.size w wr)) (fun t _ => n - (intOf t).toNat)
  case atStart => exact ⟨0, vs0, Nat.zero_le _, rfl, hI, hM, hB1w, hB2w, hbw⟩
  case round =>
    clear hI hM hB1w hB2w hbw
    obtain ⟨k, vs, hk, rfl, hI, hM, hB1w, hB2w, hbw⟩ := hrel
    by_cases hlt : k < n
    · have hlt' : (k : Int) < (n : Int) := by omega
      have hk0 : 0 ≤ (k : Int) ∧ (k : Int) < (n : Int) := ⟨by omega, hlt'⟩
      have hx := fstX_at (n := n) (N := N) es hlt
      obtain ⟨F, fm, fc, k1, k2, k3, k4, k5, k6, k7, k8⟩ := hM.out.get hlt hx
      have hf := hfr.out k
      obtain ⟨fs, hfs⟩ : ∃ l, l = fstR N es k := ⟨_, rfl⟩
      have hst : adX N X es (k + 1) = if fs = [] then adX N X es k else leadM (adX N X es k) fs k := by rw [hfs]; rfl
      rw [← hfs] at k4 k5 k6 k7 k8 hf
      have hk4 := k4.len
      by_cases hz : fs = []
      · obtain ⟨e1, e2, e3⟩ := k7 hz
        subst e1; subst e2; subst e3
        rw [if_pos hz] at hst
        replace hst := Lib.hid hst
        clear k4 k5 k6 k7 k8 hf hk4 hz hfs hx k1 k3 hlt
        go_wp2_with fail
        exact ⟨⟨k + 1, vs, by omega, by go_num, Lib.hid (by rw [hst.out]; exact hI.out), hM, hB1w, hB2w, hbw⟩, by simp [intOf]; omega⟩
      · obtain ⟨g, rfl⟩ := k8 hz
        rw [if_neg hz] at hst
        have hfm : fm = (wordsZ (n : Int)).toNat := by
          rcases hf with ⟨h1, -⟩ | ⟨h1, -⟩
          · exact absurd h1 hz
          · rw [← hk4, h1]; exact hN.out
        have hgH := own_lt_block k5 g rfl
        have cL := Lib.hid (seen_lead S w W0.heap.size G n cap fm fc (some ⟨g, 0, none⟩) vs (adX N X es k) fs k wr hI.out k4 hfm (fun _ ad e => by injection e with e; subst e; have := hGH.out; simp; omega) (hgk.out k (by omega)) hlt)
        rw [← hst] at cL
        have hMl := Lib.hid hI.out.big
        clear k4 k5 k6 k7 k8 hf hk4 hz hfs hx hst hfm hgH k1 k3 hlt
        go_wp2_with fail
        refine cL.out.mono ?_; rintro e w3 ⟨rfl, vs', hI', hbb⟩
        have hGw : w.heap.size + 2 ≤ G := by have := hs0.out; have := hGb.out; omega
        have hM' := Lib.hid (hM.out.keptB hbb hGH.out)
        have hB1' := Lib.hid (show MatB w3 w.heap.size 34 n (some ⟨b, off, none⟩) n c from hbb.blk hB1w.out (by omega))
        have hB2' := Lib.hid (show MatB w3 (w.heap.size + 1) 34 0 none 0 0 from hbb.blk hB2w.out (by omega))
        have hbw' := Lib.hid (hbw.out.trans (hbb.below hbw.out.size (by omega)))
        replace hI' := Lib.hid hI'
        clear hbb hM hB1w hB2w hbw hI cL
        go_wp2_with fail
        exact ⟨⟨k + 1, vs', by omega, by go_num, hI', hM', hB1', hB2', hbw'⟩, by simp [intOf]; omega⟩
    · obtain rfl : k = n := by omega
      have hlt' : ¬ (k : Int) < (k : Int) := by omega
      have l0 := hB1w.out.c0
      have f0 := hB2w.out.c0
      have f1 := hB2w.out.c1
      have g0 := hB2w.out.frozen 0
      have g1 := hB2w.out.frozen 1
      have hcc := hB2w.out.two (.int .i64 (k : Int)) (.slice (some ⟨G, 0, none⟩) k cap)
      have hc1 := Lib.hid hcc.1
      have hc2 := Lib.hid hcc.2
      have hGw := Lib.hid (show w.heap.size + 2 ≤ G from by have := hs0.out; have := hGb.out; omega)
      have hat := Lib.hid (hI.out.at.putB hB2w.out (fun _ ad e => by injection e with e; subst e; have := hGw.out; simp; omega) (.int .i64 (k : Int)) (.slice (some ⟨G, 0, none⟩) k cap))
      have hcap := Lib.hid (own_cap hI.out.own)
      have hbf := Lib.hid ((hbw.out.setCell (p := ⟨w.heap.size + 1, 0, none⟩) (by simp) (.int .i64 (k : Int))).setCell (p := ⟨w.heap.size + 1, 1, none⟩) (by simp) (.slice (some ⟨G, 0, none⟩) k cap))
      clear hlt hcc hI hM hB1w hB2w hbw
      go_wp2_with fail
      refine bodyPost_ret (v := .agg #[.int .i64 (k : Int), .slice (some ⟨G, 0, none⟩) k cap]) (by simp [results, Tryz.results34, go_sem, hc1.out, hc2.out]) rfl ⟨_, _, rfl, ?_, hcap.out, hbf.out, fun ad e => ?_⟩
      · rw [← hres.out]; exact hat.out
      · injection e with e; subst e; have := hGw.out; simp; omega
end Go.Proofs.YtbeigdbljepfkaaGreat

namespace Go.Proofs.YtbeigdbljepfkaaGreat
open Go.RowKit
set_option linter.unusedVariables false

theorem Blk.not_row' {w : World} {g : Nat} {t e : TypeId} {cs : List Value} {base size n : Nat} {v : Value} {xs : List Value} (h : Blk w g t cs) (hte : t ≠ e) (hr : w.ownsRow base e size v n xs) : v.ownBlock ≠ some g := by
  rcases hr.2 with ⟨rfl, _⟩ | ⟨k, cap, cur, rfl, _, hk, _⟩
  · intro h; cases h
  · intro he
    have : k = g := by simpa [Value.ownBlock] using he
    subst this
    rw [show w.heap[k]? = _ from h] at hk
    injection hk with hk
    injection hk with _ h2 _
    exact hte h2
theorem rows_apart {w : World} {b1 b2 s1 s2 n1 n2 : Nat} {e1 e2 : TypeId} {v1 v2 : Value} {xs1 xs2 : List Value} (h1 : w.ownsRow b1 e1 s1 v1 n1 xs1) (h2 : w.ownsRow b2 e2 s2 v2 n2 xs2) (hne : e1 ≠ e2) {b : Nat} (hb : v1.ownBlock = some b) : v2.ownBlock ≠ some b := by
  rcases h1.2 with ⟨rfl, _⟩ | ⟨g, cap, cur, rfl, _, hg, _⟩
  · cases hb
  · have : g = b := by simpa [Value.ownBlock] using hb
    subst this
    rcases h2.2 with ⟨rfl, _⟩ | ⟨k, cap2, cur2, rfl, _, hk, _⟩
    · intro h; cases h
    · intro he
      have : k = g := by simpa [Value.ownBlock] using he
      subst this
      rw [hg] at hk
      injection hk with hk
      injection hk with _ h2 _
      exact hne h2
/-- the i-th cell of an own row of one-cell elements is put -/
theorem own_put {w : World} {base g n c : Nat} {e : TypeId} {vs : List Value} (h : w.ownsRow base e 1 (.slice (some ⟨g, 0, none⟩) n c) n vs) {i : Nat} (hi : i < n) (u : Value) :
    (w.setCell ⟨g, i, none⟩ u).ownsRow base e 1 (.slice (some ⟨g, 0, none⟩) n c) n (vs.set i u) := by
  refine ⟨by rw [List.length_set]; exact h.1, ?_⟩
  rcases h.2 with ⟨h1, _⟩ | ⟨k, cap, cur, hv, hb, hk, hnc, hcm, hcs, ht⟩
  · cases h1
  · injection hv with h1 h2 h3
    injection h1 with h1
    injection h1 with h1
    subst h1; subst h3
    refine .inr ⟨g, c, cur.set! i u, rfl, hb, ?_, hnc, hcm, by simpa using hcs, ?_⟩
    · simp [World.setCell, Array.getElem?_modify, hk]
    · rw [Array.set!_eq_setIfInBounds, Array.toList_setIfInBounds, ← ht, List.take_set]
section
variable {T e : TypeId} {w w' : World} {base b2 : Nat} {vs : List Value} {hs : List (List OpT)}
end
end Go.Proofs.YtbeigdbljepfkaaGreat

namespace Go.Proofs.YtbeigdbljepfkaaGreat
open Go.RowKit
set_option linter.unusedVariables false

/-- lists of a call's own, each in a block of its own -/
structure OwnN {α : Type} (E : Enc α) (T : TypeId) (w : World) (base : Nat) (vs : List Value) (ls : List (List α)) : Prop where
  len : vs.length = ls.length
  row : ∀ (i : Nat) (v : Value) (l : List α), vs[i]? = some v → ls[i]? = some l → (∀ x ∈ l, E.ok x) ∧ w.ownsRow base T E.sz v l.length (E.all l)
  dis : ∀ (i j : Nat) (v u : Value) (b : Nat), vs[i]? = some v → vs[j]? = some u → v.ownBlock = some b → u.ownBlock = some b → i = j
/-- the row of them, n slices at go -/
structure SlotsM {α : Type} (E : Enc α) (tS tE : TypeId) (B go n : Nat) (w : World) (vs : List Value) (ls : List (List α)) : Prop where
  o : w.ownsRow B tS 1 (.slice (some ⟨go, 0, none⟩) n n) n vs
  s : OwnN E tE w B vs ls
/-- block k is neither the row's nor a list's -/
def Apart (go : Nat) (vs : List Value) (k : Nat) : Prop := k ≠ go ∧ ∀ v ∈ vs, v.ownBlock ≠ some k
/-- from w0 to w nothing has changed but the row and its lists -/
structure Mv (go : Nat) (w0 : World) (vs0 : List Value) (w : World) (vs : List Value) : Prop where
  os : w.os = w0.os
  tape : w.tape = w0.tape
  output : w.output = w0.output
  size : w0.heap.size ≤ w.heap.size
  block : ∀ k, k < w0.heap.size → Apart go vs0 k → w.heap[k]? = w0.heap[k]? ∧ Apart go vs k
section
variable {go : Nat} {w0 w w' : World} {vs0 vs vs' : List Value}
theorem Mv.refl (go : Nat) (w : World) (vs : List Value) : Mv go w vs w vs := ⟨rfl, rfl, rfl, Nat.le_refl _, fun k _ h => ⟨rfl, h⟩⟩
theorem Mv.trans (h : Mv go w0 vs0 w vs) (k : Mv go w vs w' vs') : Mv go w0 vs0 w' vs' :=
  ⟨k.os.trans h.os, k.tape.trans h.tape, k.output.trans h.output, Nat.le_trans h.size k.size, fun i hi ha => by
    obtain ⟨h1, h2⟩ := h.block i hi ha
    obtain ⟨h3, h4⟩ := k.block i (Nat.lt_of_lt_of_le hi h.size) h2
    exact ⟨h3.trans h1, h4⟩⟩
theorem Mv.of (go : Nat) (vs : List Value) (h : Below w.heap.size w w') : Mv go w vs w' vs := ⟨h.os, h.tape, h.output, h.size, fun k hk ha => ⟨h.block k hk, ha⟩⟩
theorem Mv.later (h : Mv go w0 vs0 w vs) (hb : Below w.heap.size w w') : Mv go w0 vs0 w' vs := h.trans (Mv.of go vs hb)
theorem Mv.blk {k : Nat} {t : TypeId} {cs : List Value} (h : Mv go w0 vs0 w vs) (hk : Blk w0 k t cs) (ha : Apart go vs0 k) : Blk w k t cs := (h.block k hk.lt ha).1.trans hk
theorem Mv.apart {k : Nat} (h : Mv go w0 vs0 w vs) (hk : k < w0.heap.size) (ha : Apart go vs0 k) : Apart go vs k := (h.block k hk ha).2
theorem Mv.lat {α : Type} {E : Enc α} {A : Option Addr} {n : Nat} {xs : List α} (h : Mv go w0 vs0 w vs) (hL : LAt E w0 A n xs) (ha : ∀ ad, A = some ad → Apart go vs0 ad.block) : LAt E w A n xs :=
  ⟨hL.1, hL.2.1, fun hn => by
    obtain ⟨b, off, e, hb, hc⟩ := hL.2.2 hn
    exact ⟨b, off, e, Nat.lt_of_lt_of_le hb h.size, fun j u hu => (World.cell?_of_block (w := w0) (h.block b hb (ha _ e)).1).trans (hc j u hu)⟩⟩
end
section
variable {α : Type} {E : Enc α} {tS tE : TypeId} {B go n : Nat} {w w' : World} {vs : List Value} {ls : List (List α)}
theorem OwnN.nils (E : Enc α) (T : TypeId) (w : World) (base n : Nat) : OwnN E T w base (List.replicate n (.slice none 0 0)) (List.replicate n []) := by
  refine ⟨by simp, fun i v l h1 h2 => ?_, fun i j v u b h1 h2 h3 h4 => ?_⟩
  · have e1 := List.eq_of_mem_replicate (List.mem_of_getElem? h1)
    have e2 := List.eq_of_mem_replicate (List.mem_of_getElem? h2)
    subst e1; subst e2
    exact ⟨fun x hx => by simp at hx, World.ownsRow_nil _ _ _ _⟩
  · rw [List.eq_of_mem_replicate (List.mem_of_getElem? h1)] at h3
    cases h3
theorem OwnN.below {base : Nat} {T : TypeId} (h : OwnN E T w base vs ls) (hb : Below w.heap.size w w') : OwnN E T w' base vs ls :=
  ⟨h.len, fun i v l h1 h2 => ⟨(h.row i v l h1 h2).1, own_below (h.row i v l h1 h2).2 hb⟩, h.dis⟩
theorem SlotsM.later (h : SlotsM E tS tE B go n w vs ls) (hb : Below w.heap.size w w') : SlotsM E tS tE B go n w' vs ls := ⟨own_below h.o hb, h.s.below hb⟩
theorem SlotsM.vlen (h : SlotsM E tS tE B go n w vs ls) : vs.length = n := by simpa using h.o.1
/-- list s and its slice -/
theorem SlotsM.get (h : SlotsM E tS tE B go n w vs ls) {s : Nat} (hs : s < n) : ∃ A m c l, vs[s]? = some (.slice A m c) ∧ ls[s]? = some l ∧ l.length = m ∧ w.cell? ⟨go, s, none⟩ = some (.slice A m c) ∧ w.frozen? ⟨go, s, none⟩ = false ∧
    w.ownsRow B tE E.sz (.slice A m c) m (E.all l) ∧ (∀ x ∈ l, E.ok x) ∧ m ≤ c ∧ c ≤ 9223372036854775807 ∧ LAt E w A m l := by
  have hvl : s < vs.length := by rw [h.vlen]; exact hs
  have hll : s < ls.length := by rw [← h.s.len]; exact hvl
  have hv := List.getElem?_eq_getElem hvl
  have hl := List.getElem?_eq_getElem hll
  obtain ⟨hok, hr⟩ := h.s.row s _ _ hv hl
  obtain ⟨A, c, e, h1, h2, h3⟩ := LAt.of_own hr hok rfl
  obtain ⟨b', off', u', e', _, hu', hc'⟩ := (Rd.of_own' h.o).at_ hs
  injection e' with e'
  injection e' with e1 e2
  rw [hv] at hu'
  injection hu' with hu'
  subst e1; subst e2
  rw [Nat.zero_add, ← hu', e] at hc'
  refine ⟨A, _, c, ls[s], by rw [hv, e], hl, rfl, hc', ?_, by rw [← e]; exact hr, hok, h1, h2, h3⟩
  rcases h.o.2 with ⟨k1, _⟩ | ⟨k, cap, cur, k1, _, k2, _⟩
  · cases k1
  · injection k1 with k1
    injection k1 with k1
    injection k1 with k1
    subst k1
    simp [World.frozen?, k2]
/-- list s has grown, and its slice is laid in place -/
theorem SlotsM.put {w4 : World} {s : Nat} {v v' : Value} {l l' : List α} (h : SlotsM E tS tE B go n w vs ls) (hne : tS ≠ tE) (hv : vs[s]? = some v) (hl : ls[s]? = some l) (hg : w.grownBy w4 v.ownBlock)
    (hr : w4.ownsRow B tE E.sz v' l'.length (E.all l')) (hok : ∀ x ∈ l', E.ok x) (hb : v'.ownBlock = v.ownBlock ∨ v'.ownBlock = some w.heap.size) :
    SlotsM E tS tE B go n (w4.setCell ⟨go, s, none⟩ v') (vs.set s v') (ls.set s l') ∧ Mv go w vs (w4.setCell ⟨go, s, none⟩ v') (vs.set s v') ∧ w4.cell? ⟨go, s, none⟩ = some v ∧ w4.frozen? ⟨go, s, none⟩ = false := by
  have hsn : s < n := by rw [← h.vlen]; exact (List.getElem?_eq_some_iff.1 hv).1
  have hsv : s < vs.length := (List.getElem?_eq_some_iff.1 hv).1
  have hsl : s < ls.length := (List.getElem?_eq_some_iff.1 hl).1
  obtain ⟨A, m, c, l0, q1, -, -, q2, q3, -⟩ := h.get hsn
  have hrow := (h.s.row s v l hv hl).2
  have hgo := (h.o.lt go rfl).2
  have hgoB : B ≤ go := (h.o.lt go rfl).1
  have hvgo : v.ownBlock ≠ some go := rows_apart h.o hrow hne rfl
  have hgo4 : w4.heap[go]? = w.heap[go]? := hg.block go hgo (fun e => hvgo e.symm)
  have ho4 : w4.ownsRow B tS 1 (.slice (some ⟨go, 0, none⟩) n n) n vs := own_grown h.o hrow hne hg
  have hv'go : v'.ownBlock ≠ some go := by
    rcases hb with e | e
    · rw [e]; exact hvgo
    · rw [e]; intro e2; injection e2 with e2; omega
  have hfresh : ∀ (k : Nat) (x : Value) (b : Nat), vs[k]? = some x → x.ownBlock = some b → b < w.heap.size ∧ b ≠ go := by
    intro k x b hk hx
    have hkl : k < ls.length := by rw [← h.s.len]; exact (List.getElem?_eq_some_iff.1 hk).1
    have h2 := (h.s.row k x ls[k] hk (List.getElem?_eq_getElem hkl)).2
    exact ⟨(h2.lt b hx).2, fun e => rows_apart h.o h2 hne rfl (by rw [hx, e])⟩
  have key : ∀ (k : Nat) (x : Value), k ≠ s → (vs.set s v')[k]? = some x → vs[k]? = some x := fun k x hk h => by rwa [List.getElem?_set_ne (fun e => hk e.symm)] at h
  have self : ∀ (x : Value), (vs.set s v')[s]? = some x → x = v' := fun x h => by rw [List.getElem?_set_self hsv] at h; injection h with h; exact h.symm
  refine ⟨⟨own_put ho4 hsn v', by simp [h.s.len], fun k x p h1 h2 => ?_, fun k j x u b h1 h2 hx hu => ?_⟩, ⟨hg.os, hg.tape, hg.output, by simpa using hg.size, fun k hk ha => ⟨?_, ha.1, fun x hx => ?_⟩⟩, ?_, by
    have q4 := q3
    unfold World.frozen? at q4 ⊢
    rw [show (⟨go, s, none⟩ : Addr).block = go from rfl, hgo4]
    exact q4⟩
  · by_cases hk : s = k
    · subst hk
      rw [List.getElem?_set_self hsv] at h1
      rw [List.getElem?_set_self hsl] at h2
      injection h1 with h1
      injection h2 with h2
      subst h1; subst h2
      exact ⟨hok, ownsRow_setCell_other (a := ⟨go, s, none⟩) hr hv'go v'⟩
    · rw [List.getElem?_set_ne hk] at h1 h2
      obtain ⟨h3, h4⟩ := h.s.row k x p h1 h2
      refine ⟨h3, ownsRow_setCell_other (a := ⟨go, s, none⟩) (h4.kept hg ?_) (rows_apart h.o h4 hne rfl) v'⟩
      cases hxb : x.ownBlock with
      | none => exact .inl rfl
      | some b => exact .inr (fun e => hk (h.s.dis s k v x b hv h1 (by rw [← e]) hxb))
  · by_cases hk : k = s
    · by_cases hj : j = s
      · rw [hk, hj]
      · subst hk
        have e1 := self x h1
        subst e1
        have h2' := key j u hj h2
        rcases hb with hb | hb
        · exact (h.s.dis k j v u b hv h2' (by rw [← hb]; exact hx) hu)
        · have := hfresh j u b h2' hu
          rw [hb] at hx; injection hx with hx
          omega
    · have h1' := key k x hk h1
      by_cases hj : j = s
      · subst hj
        have e1 := self u h2
        subst e1
        rcases hb with hb | hb
        · exact (h.s.dis k j x v b h1' hv hx (by rw [← hb]; exact hu))
        · have := hfresh k x b h1' hx
          rw [hb] at hu; injection hu with hu
          omega
      · exact h.s.dis k j x u b h1' (key j u hj h2) hx hu
  · rw [Below.heap_setCell _ _ _ _ (show k ≠ (⟨go, s, none⟩ : Addr).block from ha.1)]
    exact hg.block k hk (fun e => ha.2 v (List.mem_of_getElem? hv) e.symm)
  · rcases List.mem_or_eq_of_mem_set hx with h1 | h1
    · exact ha.2 x h1
    · subst h1
      rcases hb with e | e
      · rw [e]; exact ha.2 v (List.mem_of_getElem? hv)
      · rw [e]; intro e2; injection e2 with e2; omega
  · rw [World.cell?_of_block (w := w) (a := ⟨go, s, none⟩) hgo4, q2, ← q1, hv]
end
end Go.Proofs.YtbeigdbljepfkaaGreat

namespace Go.Proofs.YtbeigdbljepfkaaGreat
set_option linter.unusedVariables false

/-- items of a session are neighbours, and their places rise by one -/
def Nbr (is : List It) : Prop := ∀ (i : Nat) (x y : It), is[i]? = some x → is[i + 1]? = some y → (x.se = y.se ∧ y.pl = x.pl + 1) ∨ x.se < y.se
theorem nbr_hist (hs : List (List OpT)) : Nbr (hisF hs).2 := fun i x y hx hy => by
  have hi : i + 1 < (allO hs).length := by rw [← hisF_len hs]; exact (List.getElem?_eq_some_iff.1 hy).1
  obtain ⟨s, p, x', x1, x2, x3, x4, x5, x6, x7⟩ := items_at (hs := hs) (i := i) (by omega)
  obtain ⟨t, q, y', y1, y2, y3, y4, y5, y6, y7⟩ := items_at (hs := hs) (i := i + 1) hi
  rw [hx] at x2; injection x2 with x2; subst x2
  rw [hy] at y2; injection y2 with y2; subst y2
  rcases Nat.lt_trichotomy s t with h | h | h
  · exact .inr (by omega)
  · subst h; exact .inl ⟨by omega, by omega⟩
  · exfalso
    obtain ⟨os, hos⟩ : ∃ os, hs[t]? = some os := ⟨_, List.getElem?_eq_getElem y7⟩
    have hgd : hs.getD t [] = os := by rw [List.getD_eq_getElem?_getD, hos]; rfl
    rw [hgd] at y6
    have b1 := baseO_succ hos
    have := baseO_mono (hs := hs) (show t + 1 ≤ s by omega)
    omega
theorem Nbr.chain {is : List It} (h : Nbr is) : ∀ (d i : Nat) (x y : It), is[i]? = some x → is[i + d]? = some y → (x.se = y.se ∧ y.pl = x.pl + (d : Int)) ∨ x.se < y.se
  | 0, i, x, y, hx, hy => by
    rw [Nat.add_zero, hx] at hy; injection hy with hy; subst hy
    exact .inl ⟨rfl, by omega⟩
  | d + 1, i, x, y, hx, hy => by
    obtain ⟨z, hz⟩ : ∃ z, is[i + d]? = some z := ⟨_, List.getElem?_eq_getElem (by have := (List.getElem?_eq_some_iff.1 hy).1; omega)⟩
    have h1 := h.chain d i x z hx hz
    have h2 := h (i + d) z y hz (by rw [Nat.add_assoc]; exact hy)
    omega
theorem Nbr.le {is : List It} (h : Nbr is) {i j : Nat} {x y : It} (hij : i ≤ j) (hx : is[i]? = some x) (hy : is[j]? = some y) : (x.se = y.se ∧ y.pl = x.pl + ((j - i : Nat) : Int)) ∨ x.se < y.se :=
  h.chain (j - i) i x y hx (by rw [show i + (j - i) = j by omega]; exact hy)
theorem Nbr.ahead {is : List It} (h : Nbr is) {i j : Nat} {x y : It} (hx : is[i]? = some x) (hy : is[j]? = some y) : aheadF is i j = (decide (x.se = y.se) && decide (i < j)) := by
  rw [aheadF_at (by omega) (by omega) (by rw [Int.toNat_natCast]; exact hx) (by rw [Int.toNat_natCast]; exact hy), Bool.eq_iff_iff, Bool.and_eq_true, Bool.and_eq_true, decide_eq_true_eq, decide_eq_true_eq, decide_eq_true_eq]
  rcases Nat.le_total i j with hij | hij
  · have := h.le hij hx hy
    omega
  · have := h.le hij hy hx
    omega
/-- b is the first item of o's session -/
structure FirstIs (is : List It) (o b : Nat) : Prop where
  le : b ≤ o
  same : ∀ (i : Nat) (x y : It), b ≤ i → i ≤ o → is[i]? = some x → is[o]? = some y → x.se = y.se
  new : 0 < b → ∀ x y, is[b - 1]? = some x → is[o]? = some y → x.se ≠ y.se
theorem FirstIs.lower {is : List It} {o b : Nat} (hN : Nbr is) (h : FirstIs is o b) {i : Nat} {x y : It} (hi : i < b) (hx : is[i]? = some x) (hy : is[o]? = some y) : x.se ≠ y.se := by
  have hob : o < is.length := (List.getElem?_eq_some_iff.1 hy).1
  have hle := h.le
  obtain ⟨z, hz⟩ : ∃ z, is[b - 1]? = some z := ⟨_, List.getElem?_eq_getElem (by omega)⟩
  have h1 := h.new (by omega) z y hz hy
  have h2 := hN.le (show i ≤ b - 1 by omega) hx hz
  have h3 := hN.le (show b - 1 ≤ o by omega) hz hy
  omega
theorem FirstIs.ahead {is : List It} {o b : Nat} (hN : Nbr is) (h : FirstIs is o b) (ho : o < is.length) {i : Nat} (hi : i < is.length) : aheadF is i o = decide (b ≤ i ∧ i < o) := by
  obtain ⟨x, hx⟩ : ∃ z, is[i]? = some z := ⟨_, List.getElem?_eq_getElem hi⟩
  obtain ⟨y, hy⟩ : ∃ z, is[o]? = some z := ⟨_, List.getElem?_eq_getElem ho⟩
  rw [hN.ahead hx hy, Bool.eq_iff_iff, Bool.and_eq_true, decide_eq_true_eq, decide_eq_true_eq, decide_eq_true_eq]
  constructor
  · rintro ⟨h1, h2⟩
    refine ⟨?_, h2⟩
    rcases Nat.lt_or_ge i b with hb | hb
    · exact absurd h1 (h.lower hN hb hx hy)
    · exact hb
  · rintro ⟨h1, h2⟩
    exact ⟨h.same i x y h1 (by omega) hx hy, h2⟩
def spanI (b n : Nat) : List Int := (List.range' b n).map fun (i : Nat) => (i : Int)
theorem spanI_succ (b n : Nat) : spanI b (n + 1) = spanI b n ++ [((b + n : Nat) : Int)] := by
  unfold spanI; rw [List.range'_1_concat, List.map_append]; rfl
theorem spanI_len (b n : Nat) : (spanI b n).length = n := by unfold spanI; simp
theorem spanI_ok (b n : Nat) : ∀ z ∈ spanI b n, 0 ≤ z ∧ z < ((b + n : Nat) : Int) := fun z hz => by
  unfold spanI at hz
  obtain ⟨i, hi, rfl⟩ := List.mem_map.1 hz
  have := List.mem_range'_1.1 hi
  omega
theorem FirstIs.past {is : List It} {o b : Nat} (hN : Nbr is) (h : FirstIs is o b) (ho : o < is.length) : pastF is (o : Int) is.length = spanI b (o + 1 - b) := by
  unfold pastF pastN spanI
  rw [filter_span h.le ho _ (fun i hi => by
    rw [h.ahead hN ho hi, Bool.eq_iff_iff, Bool.or_eq_true, decide_eq_true_eq, decide_eq_true_eq, decide_eq_true_eq]; have := h.le; omega)]
theorem past_none {is : List It} {o : Int} (h : o < 0 ∨ (is.length : Int) ≤ o) : pastF is o is.length = [] := by
  unfold pastF pastN
  rw [List.filter_eq_nil_iff.2 (fun a ha => by
    have := List.mem_range.1 ha
    rw [aheadF_out (by omega), decide_eq_false (by omega)]; simp)]
  rfl
end Go.Proofs.YtbeigdbljepfkaaGreat

namespace Go.Proofs.YtbeigdbljepfkaaGreat
open Go.RowKit
set_option linter.unusedVariables false
theorem session_known (B : Option Addr) (m d : Nat) (i : Int) (w : World) :
    Calls Tryz.prog 97 #[.slice B m d, .int .i64 i] w fun e w' => e = .returned (.bool (decide (0 ≤ i) && decide (i < (m : Int)))) ∧ w = w' := by
  by_cases hi : 0 ≤ i
  · have d1 : decide (0 ≤ i) = true := decide_eq_true hi
    rw [d1, Bool.true_and]
    go_enter Tryz.func97, Tryz.ntmps97
    go_wp2
    go_ret
    exact ⟨rfl, rfl⟩
  · have d1 : decide (0 ≤ i) = false := decide_eq_false hi
    rw [d1, Bool.false_and]
    go_enter Tryz.func97, Tryz.ntmps97
    go_wp2
    go_ret
    exact ⟨rfl, rfl⟩
set_option maxRecDepth 100000 in
set_option maxHeartbeats 1000000 in
theorem session_first (B : Option Addr) (m d : Nat) (is : List It) (o : Nat) (w : World) (hI : LAt encT w B m is) (ho : o < m) (hm : m ≤ 1048576) :
    Calls Tryz.prog 98 #[.slice B m d, .int .i64 (o : Int)] w fun e w' => ∃ b : Nat, e = .returned (.int .i64 (b : Int)) ∧ FirstIs is o b ∧ Below w.heap.size w w' := by
  have hil := Lib.hid hI.len
  obtain ⟨jb, jo, y, rfl, hjb, hy, hyo, -⟩ := hI.item ho
  replace hI := Lib.hid hI
  replace hyo := Lib.hid hyo
  replace hy := Lib.hid hy
  obtain ⟨oz, hoz⟩ : ∃ z : Int, z = (o : Int) := ⟨_, rfl⟩
  rw [← hoz]
  have bo : 0 ≤ oz ∧ oz < (m : Int) := by omega
  go_enter Tryz.func98, Tryz.ntmps98
  go_wp2
  go_loopw [5] (fun t wr => ∃ k : Nat, k ≤ o ∧ t = .int .i64 k ∧ Hid (∀ (i : Nat) (x : It), k ≤ i → i ≤ o → is[i]? = some x → x.se = y.se) ∧ Hid (Below w.heap.size w wr)) (fun t _ => (intOf t).toNat)
  case atStart =>
    refine ⟨o, Nat.le_refl _, by rw [hoz], Lib.hid (fun i x h1 h2 hx => ?_), Lib.hid (Below.refl _ _)⟩
    have e : i = o := by omega
    rw [e, hy.out] at hx
    injection hx with hx
    rw [hx]
  case round =>
    obtain ⟨k, hk, ht, hall, hb⟩ := hrel
    have hIr := Lib.hid (hI.out.below hb.out)
    obtain ⟨jb', jo', y', hjB, hjb', hy', -, j0, -⟩ := hIr.out.item ho
    injection hjB with hjB
    injection hjB with e1 e2
    subst e1; subst e2
    rw [hy.out] at hy'; injection hy' with hy'; subst hy'
    rw [show o = oz.toNat by omega] at j0
    obtain ⟨kz, hkz⟩ : ∃ z : Int, z = (k : Int) := ⟨_, rfl⟩
    rw [← hkz] at ht
    subst ht
    by_cases hk0 : k = 0
    · have d1 : decide (0 < kz) = false := decide_eq_false (by omega)
      have hF : Hid (FirstIs is o k) := Lib.hid ⟨hk, fun i x z h1 h2 hx hz => by
        rw [hy.out] at hz; injection hz with hz; subst hz; exact hall.out i x h1 h2 hx, fun h => absurd h (by omega)⟩
      replace hkz := Lib.hid hkz
      replace hoz := Lib.hid hoz
      clear hall hIr hI
      go_wp2_with fail
      go_quiet (fail)
      go_wp2_with fail
      go_ret
      exact ⟨k, by rw [hkz.out]; rfl, hF.out, below_drewN hb.out _⟩
    · have d1 : decide (0 < kz) = true := decide_eq_true (by omega)
      obtain ⟨pz, hpz⟩ : ∃ z : Int, z = ((k - 1 : Nat) : Int) := ⟨_, rfl⟩
      have hw1 : IntKind.i64.wrap (kz - 1) = pz := by rw [IntKind.wrap_i64]; omega
      have hw2 : wrap64 (kz - 1) = pz := by unfold wrap64; omega
      obtain ⟨ib, io, x, hiB, hib, hx, -, i0, -⟩ := hIr.out.item (show k - 1 < m by omega)
      injection hiB with hiB
      injection hiB with e1 e2
      subst e1; subst e2
      rw [show k - 1 = pz.toNat by omega] at i0
      have bp : 0 ≤ pz ∧ pz < (m : Int) := by omega
      by_cases hse : x.se = y.se
      · have e1 : (x.se == y.se) = true := by simp [hse]
        have hall' : Hid (∀ (i : Nat) (x : It), k - 1 ≤ i → i ≤ o → is[i]? = some x → x.se = y.se) := Lib.hid (fun i z h1 h2 hz => by
          rcases Nat.lt_or_ge i k with h | h
          · rw [show i = k - 1 by omega, hx] at hz; injection hz with hz; subst hz; exact hse
          · exact hall.out i z h h2 hz)
        replace hkz := Lib.hid hkz
        replace hoz := Lib.hid hoz
        replace hpz := Lib.hid hpz
        replace hse := Lib.hid hse
        clear hall hIr hI hx
        go_wp2_with fail
        go_quiet (fail)
        go_wp2_with fail
        exact ⟨⟨k - 1, by omega, by rw [← hpz.out], hall', Lib.hid (below_drewN hb.out _)⟩, by have := hkz.out; have := hpz.out; simp [intOf]; omega⟩
      · have e1 : (x.se == y.se) = false := by simpa using hse
        have hF : Hid (FirstIs is o k) := Lib.hid ⟨hk, fun i x z h1 h2 hx hz => by
          rw [hy.out] at hz; injection hz with hz; subst hz; exact hall.out i x h1 h2 hx, fun _ u z hu hz => by
          rw [hy.out] at hz; injection hz with hz; subst hz
          rw [hx] at hu; injection hu with hu; subst hu; exact hse⟩
        replace hkz := Lib.hid hkz
        replace hoz := Lib.hid hoz
        replace hpz := Lib.hid hpz
        replace hse := Lib.hid hse
        clear hall hIr hI hx
        go_wp2_with fail
        go_quiet (fail)
        go_wp2_with fail
        go_ret
        exact ⟨k, by rw [hkz.out]; rfl, hF.out, below_drewN hb.out _⟩
theorem both_no {i : Int} {m : Nat} (h : ¬ (0 ≤ i ∧ i < (m : Int))) : (decide (0 ≤ i) && decide (i < (m : Int))) = false := by
  rw [Bool.eq_false_iff]; simpa using h
theorem info_int12 : (Tryz.prog.info? 3).map (fun i => (i.zero, i.size, i.bytes)) = some (some (.int .i64 0), 1, 8) := by kernel_rfl
set_option maxRecDepth 100000 in
set_option maxHeartbeats 1000000 in
theorem session_Past (v : FV) (f : Fac) (o : Int) (w : World) (hF : FactsAt w v f) (hm : v.m ≤ 1048576) (hN : Nbr f.items) :
    Calls Tryz.prog 87 #[.agg #[.slice v.A v.n v.c, .slice v.B v.m v.d, .slice v.C v.k v.e], .int .i64 o] w (RetIL (pastF f.items o f.items.length) w) := by
  have hil := hF.is.len
  have ck := Lib.hid (fun W => session_known v.B v.m v.d o W)
  obtain ⟨i0, hi, hz0, hz1, hz2⟩ := info_parts info_int12
  replace hi := Lib.hid hi
  replace hz0 := Lib.hid hz0
  replace hz1 := Lib.hid hz1
  replace hz2 := Lib.hid hz2
  -- a call with facts v: they are boxed at g, the world is W0 then
  have hB0 := Lib.hid (FBox.new hF)
  obtain ⟨g, hg⟩ : ∃ g, g = w.heap.size := ⟨_, rfl⟩
  obtain ⟨W0, hW0⟩ : ∃ W, W = w.alloc (.cells #[.slice v.A v.n v.c, .slice v.B v.m v.d, .slice v.C v.k v.e] 29) := ⟨_, rfl⟩
  rw [← hW0, ← hg] at hB0
  clear hF
  have p0 := hB0.out.c0
  have p1 := hB0.out.c1
  have p2 := hB0.out.c2
  by_cases ho : 0 ≤ o ∧ o < (v.m : Int)
  · rw [decide_eq_true ho.1, decide_eq_true ho.2] at ck
    obtain ⟨oN, hoe⟩ := Int.eq_ofNat_of_zero_le ho.1
    have hoN : oN < v.m := by omega
    have cF := session_first v.B v.m v.d f.items oN W0 hB0.out.f.is hoN hm
    have hpast := Lib.hid (fun b (h : FirstIs f.items oN b) => h.past hN (by omega))
    rw [← hoe] at cF hpast
    have hom : o < 1048576 := by omega
    replace hoe := Lib.hid hoe
    replace cF := Lib.hid cF
    replace ck := Lib.hid ck
    replace hil := Lib.hid hil
    clear ho hN
    go_enter Tryz.func87, Tryz.ntmps87
    go_wp2_with (rw [← hW0, ← hg]; clear hW0 hg)
    refine (ck.out _).mono ?_; rintro e w' ⟨rfl, rfl⟩
    go_wp2_with fail
    refine cF.out.mono ?_; rintro e w2 ⟨b, rfl, hfi, b2⟩
    have hpl := Lib.hid (hpast.out b hfi)
    have hbo := hfi.le
    have hBW := Lib.hid (below_trans2 hB0.out.o b2)
    clear hB0 p0 p1 p2 hpast hfi b2 cF ck
    go_wp2_with fail
    go_loopw [5, 6] (fun u t wr => ∃ k : Nat, k ≤ oN + 1 - b ∧ t = .int .i64 ((b + k : Nat) : Int) ∧ Hid (Below w2.heap.size w2 wr) ∧ Hid (wr.ownsRow w2.heap.size 3 1 u k (encI.all (spanI b k)))) (fun _ t _ => oN + 1 - (intOf t).toNat)
    case atStart => exact ⟨0, Nat.zero_le _, rfl, Lib.hid (Below.refl _ _), Lib.hid (World.ownsRow_nil _ _ _ _)⟩
    case round =>
      obtain ⟨k, hk, ht, hb, hown⟩ := hrel
      obtain ⟨iz, hiz⟩ : ∃ z : Int, z = ((b + k : Nat) : Int) := ⟨_, rfl⟩
      rw [← hiz] at ht
      subst ht
      have hss := spanI_succ b k
      rw [← hiz] at hss
      have hoe' := hoe.out
      have i64 : -9223372036854775808 ≤ iz ∧ iz < 9223372036854775808 := by omega
      by_cases hlt : iz ≤ o
      · have d1 : decide (iz ≤ o) = true := decide_eq_true hlt
        have hw : wrap64 (iz + 1) = iz + 1 := by unfold wrap64; omega
        have hwh := Lib.hid hw
        obtain ⟨gl, hgl⟩ : ∃ g, g = wr.heap.size := ⟨_, rfl⟩
        obtain ⟨VL, hVL⟩ : ∃ W, W = World.alloc wr (.cells #[.int .i64 iz] 3) := ⟨_, rfl⟩
        have bL : Below wr.heap.size wr VL := by rw [hVL]; exact (Below.refl _ _).alloc (Nat.le_refl _) _
        have hlit := Lib.hid (show LAt encI VL (some ⟨gl, 0, none⟩) 1 [iz] from by rw [hVL, hgl]; exact LAt.lit1 (E := encI) wr 3 iz i64)
        have hownL := Lib.hid (own_below hown.out bL)
        have bWL := Lib.hid (below_trans2 hb.out bL)
        have hbase := Lib.hid bWL.out.size
        have hk1 : k + 1 ≤ oN + 1 - b := by omega
        have hmea : oN + 1 - ((iz + 1).toNat) < oN + 1 - iz.toNat := by omega
        replace hmea := Lib.hid hmea
        replace hiz := Lib.hid hiz
        replace hss := Lib.hid hss
        clear bL hoe' i64 hlt
        go_wp2_with (first
          | (rw [← hVL, ← hgl]; clear hVL hgl)
          | (at_builtin; refine wpList_append_L (E := encI) rfl (.tmp 21) (.tmp 23) _ rfl w2.heap.size 3 i0 _ 8 Tryz.underlying27 hi.out hz0.out hz1.out hz2.out rfl _ k (spanI b k) (by rfl) hownL.out _ 1 1 _ rfl hlit.out (by unfold maxLen; omega) (by omega) hbase.out ?_; intro v' w7 hown' hb7 _ _))
        refine ⟨⟨k + 1, hk1, ?_, Lib.hid (bWL.out.trans hb7), Lib.hid (by rw [hss.out]; exact hown')⟩, ?_⟩
        · have := hiz.out; congr 1; omega
        · have := hmea.out; simpa [intOf, show wrap64 (iz + 1) = iz + 1 from hwh.out] using this
      · have d1 : decide (iz ≤ o) = false := decide_eq_false hlt
        have hkk : k = oN + 1 - b := by omega
        rw [← hkk] at hpl
        obtain ⟨A, c, rfl, hnc, hcm, hLA⟩ := LAt.of_own hown.out (fun z hz => by
          have := spanI_ok b k z hz
          exact ⟨by omega, by omega⟩) (spanI_len b k)
        replace hkk := Lib.hid hkk
        replace hiz := Lib.hid hiz
        replace hss := Lib.hid hss
        replace hLA := Lib.hid hLA
        replace hoe := Lib.hid hoe'
        clear hlt hoe' i64
        go_wp2_with fail
        go_ret
        rw [hpl.out]
        exact ⟨A, k, c, rfl, hLA.out, hnc, hcm, below_trans2 hBW.out hb.out⟩
  · rw [both_no ho] at ck
    have hpl := Lib.hid (past_none (is := f.items) (o := o) (by omega))
    replace ck := Lib.hid ck
    clear ho hN
    go_enter Tryz.func87, Tryz.ntmps87
    go_wp2_with (rw [← hW0, ← hg]; clear hW0 hg)
    refine (ck.out _).mono ?_; rintro e w' ⟨rfl, rfl⟩
    go_wp2_with fail
    go_ret
    rw [hpl.out]
    exact ⟨none, 0, 0, rfl, LAt.nil _ _ _, Nat.le_refl _, by omega, hB0.out.o⟩
end Go.Proofs.YtbeigdbljepfkaaGreat
